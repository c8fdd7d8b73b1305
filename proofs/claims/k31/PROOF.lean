import PyProof.Rows.All
import Wide.All
import OpenK.AllK
import Wide.FinOn
import Lean
import PyProof.EqAt
import PyProof.EqKinds
import PyProof.TupleCall
import PySem.Challenge.RW_recut_k31_all_leans
set_option compiler.extract_closed false
local macro_rules | `(tactic| omega)=>`(tactic| lia)
local macro_rules | `(tactic| walk_at "vis")=>`(tactic| first | exact Or.inl rfl | exact Or.inr (Or.inl rfl) | exact Or.inr (Or.inr rfl) | exact Or.inr rfl)
local macro_rules | `(tactic| walk_at "loc")=>`(tactic| first | exact .inl rfl | exact .inr rfl | assumption)
set_option Elab.async false
set_option linter.all false
set_option maxRecDepth 100000
namespace L2
open PySem PySem.Spec PyProof.Rows
noncomputable abbrev Key:=Sum Int Str
noncomputable def rT:Key->Value->Bool
 | .inl k,v=>Value.isInt k v
 | .inr x,v=>Value.isStrOf x v
noncomputable def US (w:World):Key->Int
 | .inl k=>hashInt k
 | .inr x=>hashStr w x
theorem bX:∀{k:Key} {v:Value},rT k v=true->(∃i t,k=Sum.inl i/\v=Value.int i t)\/(∃x t,k=Sum.inr x/\v=Value.str x t)
 | .inl i,v,h=>by
  obtain⟨t,e⟩:=Value.isInt_shape (k:=i) (v:=v) h
  exact .inl ⟨i,t,rfl,e⟩
 | .inr x,v,h=>by
  obtain⟨t,e⟩:=Value.isStrOf_shape (x:=x) (v:=v) h
  exact .inr ⟨x,t,rfl,e⟩
theorem EY (i:Int) (t:Tok):rT (.inl i) (.int i t)=true:=by simp[rT,Value.isInt]
theorem EZ (x:Str) (t:Tok):rT (.inr x) (.str x t)=true:=by simp[rT,Value.isStrOf]
theorem PM (a b:Int):decide ((Sum.inl a:Key)=Sum.inl b)=(a == b):=by
 by_cases e:a=b
 ·subst e;simp
 ·have h:¬(Sum.inl a:Key)=Sum.inl b:=λq=>e (Sum.inl.inj q)
  rw[decide_eq_false h]
  exact (beq_eq_false_iff_ne.mpr e).symm
theorem PR (a b:Str):decide ((Sum.inr a:Key)=Sum.inr b)=decide (a=b):=by
 by_cases e:a=b
 ·subst e;simp
 ·have h:¬(Sum.inr a:Key)=Sum.inr b:=λq=>e (Sum.inr.inj q)
  rw[decide_eq_false h,decide_eq_false e]
theorem PN (a:Int) (b:Str):decide ((Sum.inl a:Key)=Sum.inr b)=false:=decide_eq_false (λq=>nomatch q)
theorem PQ (a:Str) (b:Int):decide ((Sum.inr a:Key)=Sum.inl b)=false:=decide_eq_false (λq=>nomatch q)
noncomputable def cC (prog:Program) (w:World):PySem.KeyKind prog w Key where
 is:=rT
 hash:=US w
 inj:=λv a b ha hb=>by
  rcases bX ha with ⟨i,t,rfl,rfl⟩ | ⟨x,t,rfl,rfl⟩
  ·rcases bX hb with ⟨j,u,rfl,e⟩ | ⟨y,u,rfl,e⟩
   ·injection e with e1 _;rw[e1]
   ·exact nomatch e
  ·rcases bX hb with ⟨j,u,rfl,e⟩ | ⟨y,u,rfl,e⟩
   ·exact nomatch e
   ·injection e with e1 _;rw[e1]
 byValue:=λk v h=>by
  rcases bX h with ⟨i,t,rfl,rfl⟩ | ⟨x,t,rfl,rfl⟩ <;> rfl
 pyHash:=λhv h=>by
  rcases bX hv with ⟨i,t,rfl,rfl⟩ | ⟨x,t,rfl,rfl⟩
  ·exact wpAny_pyHash_int h
  ·exact wpAny_pyHash_str h
 eqBool:=λhu hv h=>by
  rcases bX hu with ⟨i,t,rfl,rfl⟩ | ⟨x,t,rfl,rfl⟩
  ·rcases bX hv with ⟨j,u,rfl,rfl⟩ | ⟨y,u,rfl,rfl⟩
   ·rw[PM] at h;exact wpAny_eqBool_int h
   ·rw[PN] at h;exact SeqAt.EqAt.int_str i t y u _ _ _ _ h
  ·rcases bX hv with ⟨j,u,rfl,rfl⟩ | ⟨y,u,rfl,rfl⟩
   ·rw[PQ] at h;exact SeqAt.EqAt.str_int x t j u _ _ _ _ h
   ·rw[PR] at h;exact wpAny_eqBool_str h
 «strs»:=λk x t v h=>by
  rcases bX h with ⟨i,u,rfl,e⟩ | ⟨y,u,rfl,e⟩
  ·exact nomatch e
  ·injection e with e1 _
   subst e1
   cases v <;> rfl
theorem yO (prog:Program) (w:World) (i:Int) (t:Tok):(cC prog w).is (.inl i) (.int i t)=true:=EY i t
theorem yP (prog:Program) (w:World) (x:Str) (t:Tok):(cC prog w).is (.inr x) (.str x t)=true:=EZ x t
end L2
namespace L2
open PySem PySem.Spec PyProof.Rows
inductive V where
 | non | bl (b:Bool) | int (i:Int) | str (x:Str) | byt (b:Array UInt8) | flt (b:UInt64) | ref (a:Addr) | ty (n:String)
 deriving DecidableEq
noncomputable def RelV:V->Value->Prop
 | .non,u=>u=Value.none
 | .bl b,u=>u=Value.bool b
 | .int i,u=>∃t,u=Value.int i t
 | .str x,u=>∃t,u=Value.str x t
 | .byt b,u=>∃t,u=Value.bytes b t
 | .flt b,u=>∃t,u=Value.float b t
 | .ref a,u=>u=Value.ref a
 | .ty n,u=>u=Value.type n
noncomputable abbrev Vals:List V->List Value->Prop:=Paired RelV
theorem Vals.length {xs:List V} {us:List Value} (r:Vals xs us):xs.length=us.length:=Paired.length r
theorem Vals.get:∀{xs:List V} {us:List Value} {i:Nat} {x:V},Vals xs us->xs[i]? = some x->∃u,us[i]? = some u/\RelV x u
 | _,_,_,_,.nil,e=>by simp at e
 | _,_,0,_,.cons r _,e=>by simp at e;subst e;exact⟨_,rfl,r⟩
 | _,_,i+1,x,.cons _ t,e=>by
  obtain⟨u,h1,h2⟩:=Vals.get (i:=i) (x:=x) t (by simpa using e)
  exact⟨u,by simpa using h1,h2⟩
theorem Vals.set {x:V} {u:Value} (r:RelV x u):∀{xs:List V} {us:List Value} (i:Nat),Vals xs us->Vals (xs.set i x) (us.set i u)
 | _,_,_,.nil=>.nil
 | _,_,0,.cons _ t=>.cons r t
 | _,_,i+1,.cons q t=>.cons q (Vals.set r i t)
theorem Vals.append:∀{xs ys:List V} {us ws:List Value},Vals xs us->Vals ys ws->Vals (xs++ys) (us++ws)
 | _,_,_,_,.nil,s=>s
 | _,_,_,_,.cons r t,s=>.cons r (Vals.append t s)
theorem Vals.take:∀{xs:List V} {us:List Value} (n:Nat),Vals xs us->Vals (xs.take n) (us.take n)
 | _,_,0,_=>.nil
 | _,_,_+1,.nil=>.nil
 | _,_,n+1,.cons r t=>.cons r (Vals.take n t)
theorem Vals.drop:∀{xs:List V} {us:List Value} (n:Nat),Vals xs us->Vals (xs.drop n) (us.drop n)
 | _,_,0,r=>r
 | _,_,_+1,.nil=>.nil
 | _,_,n+1,.cons _ t=>Vals.drop n t
noncomputable def RelO:Option V->Option Value->Prop
 | some v,some u=>RelV v u
 | none,none=>True
 | _,_=>False
noncomputable def KV {κ:Type}:List (κ × V)->List (κ × Value)->Prop:=Paired λ(p:κ × V) (q:κ × Value)=>p.1=q.1/\RelV p.2 q.2
noncomputable def kV:Key->V
 | .inl i=>.int i
 | .inr x=>.str x
inductive HO where
  | lst (xs:List V)
  | tup (xs:List V)
  | dK (kvs:List (Key × V)) | dT (kvs:List (List Key × V))
  | set (S:Int->Bool) (n:Nat)
  | ins (C dx:Addr) (fs:List (Str × V))
  | own (x:Addr)
  | xd (fs:List (Str × V))
  | met (f x:Addr)
  | rng (lo hi:Int)
  | frz (o:Obj) (u:HO)
  | tbl (ps:Array Value)
  | ext (φ:Heap->Prop)
noncomputable abbrev Hp:=Addr->Option HO
noncomputable def upd (H:Hp) (a:Addr) (o:HO):Hp:=λb=>if b=a then some o else H b
theorem aU {H:Hp} {a:Addr} {o:HO}:upd H a o a=some o:=by unfold upd;rw[if_pos rfl]
theorem aG {H:Hp} {a b:Addr} {o:HO} (h:b≠a):upd H a o b=H b:=by unfold upd;rw[if_neg h]
theorem SQ {H:Hp} {a b:Addr} {o u:HO} (h:H a=some o) (h':H b=some u) (d:o≠u):a≠b:=by
 intro e;subst e;rw[h] at h';exact d (Option.some.inj h')
theorem aK {H:Hp} {a b:Addr} {o:HO} (h:H a=some o) (h':H b=none):a≠b:=by
 intro e;subst e;rw[h] at h';cases h'
section
variable (P:Program) (w:World)
noncomputable def ObjOk (H:Hp) (h:Heap) (a:Addr):HO->Prop
 | .lst xs=>xs.length<=sizeLine/\∃(its:List Value) (n:Nat),Vals xs its/\h.get? a=some { cls:=.type "list",data:=.seq its.toArray n }
 | .tup xs=>xs.length<=sizeLine/\∃its:List Value,Vals xs its/\IsTup h a its.toArray
 | .dK kvs=>kvs.length<=sizeLine/\(a == sysModules)=false/\∃vs,KV kvs vs/\h.DictOf (cC P w) a vs
 | .dT kvs=>kvs.length<=sizeLine/\(a == sysModules)=false/\∃xs:List (List Key × Addr × Value),
   Paired (λ(p:List Key × V) (q:List Key × Addr × Value)=>p.1=q.1/\H q.2.1=some (.tup (p.1.map kV))/\RelV p.2 q.2.2) kvs xs /\
   ∃o es ep,h.get? a=some o/\o.ExactDict/\o.data = .dict es ep/\es.toList=xs.map (entryOfKey (tupleKind (cC P w)))/\(xs.map (·.1)).Nodup
 | .set S n=>h.SetOf (intKind P w) a S n
 | .ins C dx fs=>H dx=some (.own a)/\fs.length<=1000/\dx≠a/\h.get? a=some (PySem.W.instObj C dx) /\
   ∃mA,h.Ns1 dx mA/\(∀f,RelO (fs.lookup f) (mA f))/\PySem.Within mA (fs.map (·.1))
 | .own _=>∃o,h.get? a=some o
 | .xd fs=>∃mA,h.Ns1 a mA/\∀f,RelO (fs.lookup f) (mA f)
 | .rng lo hi=>∃t u v,h.get? a=some { cls:=.type "range",data:=.fields #[.int lo t,.int hi u,.int 1 v] }
 | .frz o u=>h.get? a=some o/\ObjOk H h a u
 | .tbl ps=>h.get? a=some { cls:=.none,data:=.fields ps }
 | .met f x=>h.get? a=some (PySem.W.methodObj (.ref f) (.ref x))
 | .ext φ=>φ h/\(∃o,h.get? a=some o)/\∀h1 h2:Heap,φ h1->(∀o,h1.get? a=some o->h2.get? a=some o)->φ h2
noncomputable def HOk (H:Hp) (h:Heap):Prop:=∀a o,H a=some o->ObjOk P w H h a o
end
section
variable {P:Program} {w:World} {H H':Hp} {h h':Heap} {a:Addr} {o:HO}
theorem ObjOk.lt (x:ObjOk P w H h a o):a<h.objs.size:=by
 cases o with
 | lst xs=>obtain⟨_,_,_,_,e⟩:=x;exact Heap.lt_size e
 | tup xs=>obtain⟨_,_,_,p⟩:=x;exact p.lt
 | dK kvs=>obtain⟨_,_,_,_,o,_,_,e,_⟩:=x;exact Heap.lt_size e
 | dT kvs=>obtain⟨_,_,_,_,o,_,_,e,_⟩:=x;exact Heap.lt_size e
 | set S n=>obtain⟨o,_,_,_,e,_⟩:=x;exact Heap.lt_size e
 | ins C dx fs=>obtain⟨_,_,_,e,_⟩:=x;exact Heap.lt_size e
 | own y=>obtain⟨_,e⟩:=x;exact Heap.lt_size e
 | xd fs=>obtain⟨_,⟨_,_,_,e,_⟩,_⟩:=x;exact Heap.lt_size e
 | rng lo hi=>obtain⟨_,_,_,e⟩:=x;exact Heap.lt_size e
 | frz ob u=>obtain⟨e,_⟩:=x;exact Heap.lt_size e
 | tbl ps=>exact Heap.lt_size (show h.get? a=some _ from x)
 | met f y=>exact Heap.lt_size (show h.get? a=some _ from x)
 | ext φ=>obtain⟨_,⟨_,e⟩,_⟩:=x;exact Heap.lt_size e
theorem Paired.mapP {α β:Type} {F G:α->β->Prop}:∀{l₁:List α} {l₂:List β},Paired F l₁ l₂->(∀a b,F a b->G a b)->Paired G l₁ l₂
 | _,_,.nil,_=>.nil
 | _,_,.cons r t,f=>.cons (f _ _ r) (Paired.mapP t f)
theorem ObjOk.stay (x:ObjOk P w H h a o) (k:∀b u,(b=a\/H b=some (.own a))->h.get? b=some u->h'.get? b=some u)
  (ho:∀b,H b=some (.own a)->H' b=some (.own a)) (ht:∀b xs,H b=some (.tup xs)->H' b=some (.tup xs)):ObjOk P w H' h' a o:=by
 induction o with
 | lst xs=>obtain⟨z,its,n,r,e⟩:=x;exact⟨z,its,n,r,k _ _ (.inl rfl) e⟩
 | tup xs=>obtain⟨z,its,r,ob,e,c⟩:=x;exact⟨z,its,r,ob,k _ _ (.inl rfl) e,c⟩
 | dK kvs=>obtain⟨z,y,vs,r,ob,es,ep,e,c⟩:=x;exact⟨z,y,vs,r,ob,es,ep,k _ _ (.inl rfl) e,c⟩
 | dT kvs =>
  obtain⟨z,y,xs,r,ob,es,ep,e,c⟩:=x
  exact⟨z,y,xs,Paired.mapP r λp q z=>⟨z.1,ht _ _ z.2.1,z.2.2⟩,ob,es,ep,k _ _ (.inl rfl) e,c⟩
 | set S n=>obtain⟨ob,es,ep,t,e,c⟩:=x;exact⟨ob,es,ep,t,k _ _ (.inl rfl) e,c⟩
 | ins C dx fs =>
  obtain⟨d,z,ne,e,mA,⟨od,es,ep,e2,c⟩,r⟩:=x
  exact⟨ho _ d,z,ne,k _ _ (.inl rfl) e,mA,⟨od,es,ep,k _ _ (.inr d) e2,c⟩,r⟩
 | own y=>obtain⟨ob,e⟩:=x;exact⟨ob,k _ _ (.inl rfl) e⟩
 | xd fs=>obtain⟨mA,⟨od,es,ep,e,c⟩,r⟩:=x;exact⟨mA,⟨od,es,ep,k _ _ (.inl rfl) e,c⟩,r⟩
 | rng lo hi=>obtain⟨t,u,v,e⟩:=x;exact⟨t,u,v,k _ _ (.inl rfl) e⟩
 | frz ob u ih=>obtain⟨e,q⟩:=x;exact⟨k _ _ (.inl rfl) e,ih q⟩
 | tbl ps =>
  have e:h.get? a=some { cls:=.none,data:=.fields ps }:=x
  show h'.get? a=some { cls:=.none,data:=.fields ps }
  exact k a _ (.inl rfl) e
 | met f y =>
  have e:h.get? a=some (PySem.W.methodObj (.ref f) (.ref y)):=x
  show h'.get? a=some (PySem.W.methodObj (.ref f) (.ref y))
  exact k a _ (.inl rfl) e
 | ext φ=>obtain⟨p,⟨o,e⟩,st⟩:=x;exact⟨st _ _ p λo q=>k _ _ (.inl rfl) q,⟨o,k _ _ (.inl rfl) e⟩,st⟩
theorem HOk.lt (x:HOk P w H h) (e:H a=some o):a<h.objs.size:=(x a o e).lt
theorem HOk.fresh (x:HOk P w H h) (e:h.objs.size<=a):H a=none:=by
 cases q:H a with
 | none=>rfl
 | some u=>exact absurd (Nat.lt_of_lt_of_le (x.lt q) e) (Nat.lt_irrefl _)
theorem HOk.kept (x:HOk P w H h) (k:∀b u,h.get? b=some u->h'.get? b=some u):HOk P w H h':=λa o e =>
 (x a o e).stay (λb u _ q=>k b u q) (λ_ q=>q) λ_ _ q=>q
theorem HOk.laid (x:HOk P w H h) (k:∀b u,h.get? b=some u->h'.get? b=some u) (hp:h.objs.size<=a) (new:ObjOk P w (upd H a o) h' a o):HOk P w (upd H a o) h':=λb u e=>by
 have hn:=x.fresh hp
 by_cases hb:b=a
 ·subst hb;rw[aU] at e;cases e;exact new
 ·rw[aG hb] at e
  exact (x b u e).stay (λc v _ q=>k c v q) (λc q=>by rw[aG (aK q hn)];exact q) λc xs q=>by rw[aG (aK q hn)];exact q
end
noncomputable def Rd (H:Hp) (a:Addr) (u:HO):Prop:=H a=some u\/∃o,H a=some (.frz o u)
theorem Rd.ok {P:Program} {w:World} {H:Hp} {h:Heap} {a:Addr} {u:HO} (r:Rd H a u) (x:HOk P w H h):ObjOk P w H h a u:=by
 rcases r with r | ⟨o,r⟩
 ·exact x a u r
 ·obtain⟨_,q⟩:=x a _ r
  exact q
noncomputable def Mut:Option HO->Prop
 | some (.lst _)=>True
 | some (.dK _)=>True
 | some (.dT _)=>True
 | some (.set _ _)=>True
 | some (.ins _ _ _)=>True
 | some (.ext _)=>True
 | _=>False
section
variable {P:Program} {w:World} {H:Hp} {h h':Heap} {x e:Addr} {o':HO}
theorem HOk.write (ok:HOk P w H h) (mu:Mut (H x)) (he:e=x\/H e=some (.own x)) (k:∀b u,b≠e->h.get? b=some u->h'.get? b=some u) (heo:∃u,h'.get? e=some u)
  (new:ObjOk P w (upd H x o') h' x o'):HOk P w (upd H x o') h':=λb u q=>by
 have nown:∀c y,H c=some (.own y)->c≠x:=λc y r z=>by subst z;rw[r] at mu;exact mu
 have ntup:∀c xs,H c=some (.tup xs)->c≠x:=λc xs r z=>by subst z;rw[r] at mu;exact mu
 by_cases hb:b=x
 ·subst hb;rw[aU] at q;cases q;exact new
 ·rw[aG hb] at q
  by_cases hbe:b=e
  ·have q':H b=some (.own x):=by
    rcases he with z | z
    ·exact absurd (hbe.trans z) hb
    ·rw[hbe];exact z
   rw[q] at q';cases q'
   obtain⟨v,hv⟩:=heo
   exact⟨v,by rw[hbe];exact hv⟩
  ·refine (ok b u q).stay (λc v hc r=>k c v ?_ r) (λc r=>by rw[aG (nown c b r)];exact r) λc xs r=>by rw[aG (ntup c xs r)];exact r
   rcases hc with rfl | hc
   ·exact hbe
   ·rintro rfl
    rcases he with z | z
    ·exact nown c b hc z
    ·rw[hc] at z;cases z;exact hb rfl
end
structure Un (fs ex:List Addr) (H H':Hp) (h h':Heap):Prop where
 keep:∀b o,h.get? b=some o->H b=none->b ∉ fs->b ∉ ex->h'.get? b=some o
 slot:∀b o,h.get? b=some o->H b=none->b∈fs->b ∉ ex->∃sl,h'.get? b=some { o with slots:=sl }
 free:∀b o,h.get? b=some o->H b=none->b ∉ ex->H' b=none
 there:∀b o,h.get? b=some o->b ∉ ex->∃o',h'.get? b=some o'
 tups:∀b xs,H b=some (.tup xs)->H' b=some (.tup xs)
 frzs:∀b o u,H b=some (.frz o u)->H' b=some (.frz o u)
 tbls:∀b ps,H b=some (.tbl ps)->∃more,H' b=some (.tbl (ps++more))
section
variable {fs fs' ex ex':List Addr} {H H1 H2:Hp} {h h1 h2 h':Heap} {a x e:Addr} {o:HO}
theorem Un.any (u:Un fs ex H H1 h h1) {b:Addr} {ob:Obj} (q:h.get? b=some ob) (n:H b=none) (hx:b ∉ ex):∃sl,h1.get? b=some { ob with slots:=sl }:=by
 by_cases hb:b∈fs
 ·exact u.slot b ob q n hb hx
 ·exact⟨ob.slots,u.keep b ob q n hb hx⟩
theorem Un.kept (k:∀b u,h.get? b=some u->h'.get? b=some u):Un fs ex H H h h' :=
 ⟨λb ob q _ _ _=>k b ob q,λb ob q _ _ _=>⟨ob.slots,k b ob q⟩,λ_ _ _ n _=>n,λb ob q _=>⟨ob,k b ob q⟩,λ_ _ q=>q,λ_ _ _ q=>q,λ_ ps q=>⟨#[],by rw[q];simp⟩⟩
theorem Un.refl:Un fs ex H H h h:=Un.kept λ_ _ q=>q
theorem Un.laid (k:∀b u,h.get? b=some u->h'.get? b=some u) (hp:h.objs.size<=a) (hn:H a=none):Un fs ex H (upd H a o) h h' where
 keep:=λb u q _ _ _=>k b u q
 slot:=λb u q _ _ _=>⟨u.slots,k b u q⟩
 free:=λb u q n _=>by rw[aG (Nat.ne_of_lt (Nat.lt_of_lt_of_le (Heap.lt_size q) hp))];exact n
 there:=λb u q _=>⟨u,k b u q⟩
 tups:=λb xs q=>by rw[aG (aK q hn)];exact q
 frzs:=λb u xs q=>by rw[aG (aK q hn)];exact q
 tbls:=λb ps q=>⟨#[],by rw[aG (aK q hn),q];simp⟩
theorem Un.write (mu:Mut (H x)) (he:e=x\/H e=some (.own x)) (k:∀b u,b≠e->h.get? b=some u->h'.get? b=some u) (heo:∃u,h'.get? e=some u):Un fs ex H (upd H x o) h h':=by
 have hx:∀b,H b=none->b≠x:=λb n z=>by subst z;rw[n] at mu;exact mu
 have hb:∀b,H b=none->b≠e:=λb n z=>by
  subst z
  rcases he with r | r
  ·exact hx b n r
  ·rw[n] at r;cases r
 have hm:∀b u,H b=some u->¬Mut (some u)->b≠x:=λb u q nm z=>by subst z;rw[q] at mu;exact nm mu
 refine⟨λb u q n _ _=>k b u (hb b n) q,λb u q n _ _=>⟨u.slots,k b u (hb b n) q⟩,λb u q n _=>by rw[aG (hx b n)];exact n,λb u q _=>?_,
  λb xs q=>by rw[aG (hm b _ q λz=>z)];exact q,λb u xs q=>by rw[aG (hm b _ q λz=>z)];exact q,λb ps q=>⟨#[],by rw[aG (hm b _ q λz=>z),q];simp⟩⟩
 by_cases hbe:b=e
 ·subst hbe;exact heo
 ·exact⟨u,k b u hbe q⟩
theorem Un.mono (u:Un fs ex H H1 h h1) (hs:∀b∈fs,b∈fs') (hx:∀b∈ex,b∈ex'):Un fs' ex' H H1 h h1 :=
 ⟨λb ob q n hb he=>u.keep b ob q n (λz=>hb (hs b z)) λz=>he (hx b z),λ_ _ q n _ he=>u.any q n λz=>he (hx _ z),λb ob q n he=>u.free b ob q n λz=>he (hx b z),λb ob q he=>u.there b ob q λz=>he (hx b z),u.tups,u.frzs,u.tbls⟩
end
noncomputable def trk (h:Heap) (H:Hp):List Addr:=(List.range h.objs.size).filter λa=>(H a).isSome
noncomputable def tK (h:Heap) (H:Hp):Heap:=PySem.W.hideAll h (trk h H)
theorem EU (h:Heap) (H:Hp):(tK h H).objs.size=h.objs.size:=PySem.W.hideAll_size _ _
theorem IJ {h:Heap} {H:Hp} {b:Addr} {o:Obj} (e:h.get? b=some o) (n:H b=none):(tK h H).get? b=some o :=
 PySem.W.hideAll_get _ e λhm=>by
  have q:(H b).isSome=true:=(List.mem_filter.mp hm).2
  rw[n] at q;simp at q
theorem MN {h:Heap} {H:Hp} {b:Addr} {o:Obj} (e:(tK h H).get? b=some o):h.get? b=some o/\H b=none:=by
 have e':h.get? b=some o:=PySem.W.of_hideAll (trk h H) e
 refine⟨e',?_⟩
 cases q:H b with
 | none=>rfl
 | some x =>
  have hm:b∈trk h H:=List.mem_filter.mpr ⟨List.mem_range.mpr (Heap.lt_size e'),by simp[q]⟩
  have z:(tK h H).get? b=none:=PySem.W.hideAll_none (trk h H) hm
  rw[z] at e;cases e
noncomputable def mV (g h:Heap) (L:Addr):List (Addr × Obj):=(List.range h.objs.size).filterMap λa=>if a=L\/(g.get? a).isSome=true then none else (h.get? a).map λo=>(a,o)
theorem kA {g h:Heap} {L a:Addr} {o:Obj} (h1:a≠L) (h2:g.get? a=none) (h3:h.get? a=some o):(a,o)∈mV g h L :=
 List.mem_filterMap.mpr ⟨a,List.mem_range.mpr (Heap.lt_size h3),by simp[h1,h2,h3]⟩
theorem sE {g h:Heap} {L:Addr} {p:Addr × Obj} (hp:p∈mV g h L):p.1≠L/\g.get? p.1=none/\h.get? p.1=some p.2:=by
 obtain⟨b,_,e⟩:=List.mem_filterMap.mp hp
 split at e
 ·cases e
 ·rename_i hn
  cases q:h.get? b with
  | none=>rw[q] at e;simp at e
  | some u =>
   rw[q] at e
   simp only[Option.map_some,Option.some.injEq] at e
   subst e
   refine⟨λz=>hn (.inl z),?_,q⟩
   show g.get? b=none
   cases r:g.get? b with
   | none=>rfl
   | some v=>exact (hn (.inr (by simp[r]))).elim
noncomputable def rest (g h:Heap) (L d:Addr):List (Addr × Obj):=(mV g h L).filter λp=>decide (p.1≠d)
theorem JB {g h:Heap} {L:Addr}:News g L h (mV g h L):=λp hp=>let ⟨a,b,c⟩:=sE hp;⟨c,a,b⟩
end L2
namespace L2
open PySem PySem.Spec PyProof.Rows
structure Mod (K:PySem.W.Frag) (mg:Str->Option Value) (base:Heap):Prop where
 kin:K.In base
 glob:base.Ns mainGlobals mg
 blt:∃mb,base.Ns builtinsNs mb/\∀x:Str,x≠"__name__"->mb x=bootBuiltins x
 nolimit:base.NoLimit
structure Cx where
 prog:Program
 w:World
 K:PySem.W.Frag
 mg:Str->Option Value
 base:Heap
 A:Around
 N:List Str
 s₀:Shared
 H₀:Hp
 env:Env
 outer:List Env
 stack:List Env
 ex:List Addr
 fn:Str->Bool
 calm:Bool
 pn:List (Addr × Obj)
 xe:Value->Shared->Prop
noncomputable def frs (l:List Env):List Addr:=l.filterMap (·.frame)
noncomputable abbrev Cx.fs (X:Cx):List Addr:=frs X.outer
noncomputable def Vis (sc:Scope) (x:Str):Prop:=sc.names.lookup x=some .local\/sc.names.lookup x=some .cell\/sc.names.lookup x=some .free
noncomputable def Loc (sc:Scope) (x:Str):Prop:=sc.names.lookup x=some .local\/sc.names.lookup x=some .cell
noncomputable def UI (env:Env) (h:Heap) (m:Str->Option Value) (x:Str) (u:Value):Prop :=
 (env.kindOf x=some .local/\m x=some u)\/((env.kindOf x=some .cell\/env.kindOf x=some .free)/\∃c,env.cells.lookup x=some c/\h.IsCell c (some u))
structure Cx.Ok (X:Cx):Prop where
 mod:Mod X.K X.mg X.base
 kind:X.env.scope.kind = .function
 glob:X.env.globals=mainGlobals
 blt:X.env.builtins=builtinsNs
 above:X.s₀.heap.objs.size<=X.env.locals
 inj:∀x y c,X.env.cells.lookup x=some c->X.env.cells.lookup y=some c->x=y
 has:∀x,(X.env.kindOf x=some .cell\/X.env.kindOf x=some .free)->∃c,X.env.cells.lookup x=some c
 cab:∀x c,X.fn x=true->X.env.cells.lookup x=some c->X.s₀.heap.objs.size<=c
 hd:X.calm=true->X.A.handled=none
 frames:X.A.frames=some X.stack
 stk:X.stack=X.outer\/(X.stack=X.env::X.outer/\X.env.frame=some X.env.locals)
 exf:∀b∈X.ex,b≠X.env.locals/\∀x c,X.env.cells.lookup x=some c->c≠b
 bs:∀b o,X.base.get? b=some o->X.s₀.heap.get? b=some o/\X.H₀ b=none
 bsz:X.base.objs.size<=X.s₀.heap.objs.size
 noex:∀b o,X.base.get? b=some o->b ∉ X.ex
 exfs:∀b∈X.ex,b ∉ X.fs
 funs:X.s₀.heap.FunFrames X.base X.outer
 frf:∀b∈X.fs,X.H₀ b=none
structure Inv (X:Cx) (pins:List (Addr × Obj)) (σ:List (Option V)) (H:Hp) (s:Shared):Prop where
 ok:X.Ok
 os:s.os=X.s₀.os
 bare:AllBare s.gens
 base:Un X.fs X.ex X.H₀ H X.s₀.heap s.heap
 loc:∃m,s.heap.Ns X.env.locals m/\∀(i:Nat) (x:Str) (v:V),X.N[i]? = some x->σ[i]? = some (some v)->Vis X.env.scope x->∃u,RelV v u/\UI X.env s.heap m x u
 cell:∀x c,X.env.cells.lookup x=some c->∃v,s.heap.IsCell c v
 free:H X.env.locals=none
 freeC:∀x c,X.env.cells.lookup x=some c->H c=none
 pin:∀p∈X.pn++pins,s.heap.get? p.1=some p.2/\H p.1=none/\p.1≠X.env.locals/\p.1 ∉ X.fs/\∀v,p.2.data≠.cell v
 hok:HOk X.prog X.w H s.heap
 len:σ.length=X.N.length
section
variable {X:Cx} {pins:List (Addr × Obj)} {σ:List (Option V)} {H H':Hp} {s:Shared} {h':Heap}
theorem Cx.Ok.nofr (ok:X.Ok) {b:Addr} {o:Obj} (e:X.base.get? b=some o):b ∉ X.fs:=λhb=>by
 have:=(ok.funs.mem hb).1
 rw[e] at this;cases this
theorem Inv.bs (I:Inv X pins σ H s):∀b o,X.base.get? b=some o->s.heap.get? b=some o/\H b=none:=λb o e =>
 ⟨I.base.keep b o (I.ok.bs b o e).1 (I.ok.bs b o e).2 (I.ok.nofr e) (I.ok.noex b o e),I.base.free b o (I.ok.bs b o e).1 (I.ok.bs b o e).2 (I.ok.noex b o e)⟩
theorem Inv.bk (I:Inv X pins σ H s):∀b o,X.base.get? b=some o->s.heap.get? b=some o:=λb o e=>(I.bs b o e).1
theorem Inv.mod (I:Inv X pins σ H s):Mod X.K X.mg X.base:=I.ok.mod
theorem Inv.kIn (I:Inv X pins σ H s):X.K.In s.heap:=I.ok.mod.kin.keeps I.bk
theorem Inv.lt (I:Inv X pins σ H s):X.env.locals<s.heap.objs.size:=let ⟨_,hn,_⟩:=I.loc;hn.lt
theorem Inv.sz (I:Inv X pins σ H s):X.s₀.heap.objs.size<=s.heap.objs.size:=Nat.le_trans I.ok.above (Nat.le_of_lt I.lt)
theorem Inv.nofs (I:Inv X pins σ H s) {a:Addr} (h:s.heap.objs.size<=a):a ∉ X.fs:=λhb=>by
 obtain⟨_,o,ho,_⟩:=I.ok.funs.mem hb
 exact absurd (Nat.lt_of_lt_of_le (Heap.lt_size ho) (Nat.le_trans I.sz h)) (Nat.lt_irrefl _)
theorem Inv.cne (I:Inv X pins σ H s):∀x c,X.env.cells.lookup x=some c->c≠X.env.locals:=λx c e z=>by
 obtain⟨v,o,ho,hd⟩:=I.cell x c e
 obtain⟨m,⟨o',es,ep,ho',hd',_⟩,_⟩:=I.loc
 rw[z,ho'] at ho;cases ho;rw[hd'] at hd;cases hd
theorem Inv.funs (I:Inv X pins σ H s):s.heap.FunFrames X.base X.outer:=by
 have all:∀(l:List Env),(∀b∈frs l,b∈X.fs)->X.s₀.heap.FunFrames X.base l->s.heap.FunFrames X.base l:=by
  intro l
  induction l with
  | nil=>intro _ _;trivial
  | cons env r ih =>
   intro hs hl
   obtain⟨hk,⟨L,o,hf,hn,ho,hd⟩,hr⟩:=hl
   have hL:L∈X.fs:=hs L (by unfold frs;rw[List.filterMap_cons,hf];exact List.mem_cons_self)
   obtain⟨sl,e⟩:=I.base.slot L o ho (I.ok.frf L hL) hL λz=>I.ok.exfs L z hL
   exact⟨hk,⟨L,_,hf,hn,e,hd⟩,ih (λb hb=>hs b (by unfold frs;rw[List.filterMap_cons,hf];exact List.mem_cons_of_mem _ hb)) hr⟩
 exact all X.outer (λ_ hb=>hb) I.ok.funs
theorem Inv.stack (I:Inv X pins σ H s):s.heap.FunFrames X.base X.stack:=by
 rcases I.ok.stk with e | ⟨e,hf⟩
 ·rw[e];exact I.funs
 ·rw[e]
  obtain⟨m,hn,_⟩:=I.loc
  refine .cons (by rw[I.ok.kind];decide) hf hn ?_ I.funs
  exact Heap.get?_none_of_le (Nat.le_trans I.ok.bsz I.ok.above)
theorem Inv.stkSub (I:Inv X pins σ H s):∀b∈frs X.stack,b∈X.env.locals::X.fs:=λb hb=>by
 rcases I.ok.stk with e | ⟨e,hf⟩
 ·rw[e] at hb;exact List.mem_cons_of_mem _ hb
 ·rw[e] at hb
  unfold frs at hb
  rw[List.filterMap_cons,hf] at hb
  exact hb
theorem Inv.stkFree (I:Inv X pins σ H s):∀b∈frs X.stack,H b=none:=λb hb=>by
 rcases List.mem_cons.mp (I.stkSub b hb) with e | hb
 ·rw[e];exact I.free
 ·obtain⟨_,o,ho,_⟩:=I.ok.funs.mem hb
  exact I.base.free b o ho (I.ok.frf b hb) λz=>I.ok.exfs b z hb
theorem Inv.step {g':Array GenState} {t':Nat} {d':Drawn} {ch:List Addr} (I:Inv X pins σ H s)
  (hch:∀b∈ch,(b∈X.ex\/X.s₀.heap.objs.size<=b)/\b≠X.env.locals/\(∀x c,X.env.cells.lookup x=some c->c≠b)/\∀p∈X.pn++pins,p.1≠b)
  (keep:∀b o,b≠X.env.locals->b ∉ X.fs->b ∉ ch->s.heap.get? b=some o->H b=none->h'.get? b=some o)
  (slot:∀b o,b≠X.env.locals->b∈X.fs->b ∉ ch->s.heap.get? b=some o->H b=none->∃sl,h'.get? b=some { o with slots:=sl }) (free:∀b o,b ∉ ch->s.heap.get? b=some o->H b=none->H' b=none)
  (there:∀b o,b ∉ ch->s.heap.get? b=some o->∃o',h'.get? b=some o')
  (tups:∀b xs,H b=some (.tup xs)->H' b=some (.tup xs)) (frzs:∀b o u,H b=some (.frz o u)->H' b=some (.frz o u)) (tbls:∀b ps,H b=some (.tbl ps)->∃more,H' b=some (.tbl (ps++more)))
  (ns:∀m,s.heap.Ns X.env.locals m->h'.Ns X.env.locals m) (hok:HOk X.prog X.w H' h') (hg:AllBare g') :
  Inv X pins σ H' { s with heap:=h',gens:=g',drawn:=d',toks:=t' }:=by
 have neL:∀b o,X.s₀.heap.get? b=some o->b≠X.env.locals:=λb o e=>Nat.ne_of_lt (Nat.lt_of_lt_of_le (Heap.lt_size e) I.ok.above)
 have neC:∀b o,X.s₀.heap.get? b=some o->b ∉ X.ex->b ∉ ch:=λb o e hx hb=>by
  rcases (hch b hb).1 with z | z
  ·exact hx z
  ·exact absurd (Nat.lt_of_lt_of_le (Heap.lt_size e) z) (Nat.lt_irrefl _)
 have cellK:∀x c,X.env.cells.lookup x=some c->∀v,s.heap.IsCell c v->h'.IsCell c v:=λx c e v ⟨o,ho,hd⟩=>by
  have nch:c ∉ ch:=λz=>(hch c z).2.2.1 x c e rfl
  by_cases hc:c∈X.fs
  ·obtain⟨sl,q⟩:=slot c o (I.cne x c e) hc nch ho (I.freeC x c e)
   exact⟨_,q,hd⟩
  ·exact⟨o,keep c o (I.cne x c e) hc nch ho (I.freeC x c e),hd⟩
 refine⟨I.ok,I.os,hg,⟨λb o e n hb hx=>?_,λb o e n hb hx=>?_,λb o e n hx=>?_,λb o e hx=>?_,λb xs e=>tups b xs (I.base.tups b xs e),λb o xs e=>frzs b o xs (I.base.frzs b o xs e),λb ps e=>?_⟩,?_,λx c e=>?_,?_,λx c e=>?_,λp hp=>?_,hok,I.len⟩
 ·exact keep b o (neL b o e) hb (neC b o e hx) (I.base.keep b o e n hb hx) (I.base.free b o e n hx)
 ·obtain⟨sl,e1⟩:=I.base.slot b o e n hb hx
  obtain⟨sl',e2⟩:=slot b _ (neL b o e) hb (neC b o e hx) e1 (I.base.free b o e n hx)
  exact⟨sl',e2⟩
 ·obtain⟨o',e1⟩:=I.base.there b o e hx
  exact free b o' (neC b o e hx) e1 (I.base.free b o e n hx)
 ·obtain⟨o',e1⟩:=I.base.there b o e hx
  exact there b o' (neC b o e hx) e1
 ·obtain⟨m1,e1⟩:=I.base.tbls b ps e
  obtain⟨m2,e2⟩:=tbls b _ e1
  exact⟨m1++m2,by rw[e2,Array.append_assoc]⟩
 ·obtain⟨m,hn,hl⟩:=I.loc
  refine⟨m,ns m hn,λi x v e1 e2 e3=>?_⟩
  obtain⟨u,r,l⟩:=hl i x v e1 e2 e3
  refine⟨u,r,?_⟩
  rcases l with l | ⟨k,c,e,z⟩
  ·exact .inl l
  ·exact .inr ⟨k,c,e,cellK x c e _ z⟩
 ·obtain⟨v,z⟩:=I.cell x c e
  exact⟨v,cellK x c e v z⟩
 ·obtain⟨m,⟨o,_,_,ho,_⟩,_⟩:=I.loc
  exact free _ o (λz=>(hch _ z).2.1 rfl) ho I.free
 ·obtain⟨v,o,ho,hd⟩:=I.cell x c e
  exact free c o (λz=>(hch c z).2.2.1 x c e rfl) ho (I.freeC x c e)
 ·obtain⟨e,n,ne,nf,d⟩:=I.pin p hp
  have nch:p.1 ∉ ch:=λz=>(hch p.1 z).2.2.2 p hp rfl
  exact⟨keep p.1 p.2 ne nf nch e n,free p.1 p.2 nch e n,ne,nf,d⟩
theorem Inv.un {t':Nat} (I:Inv X pins σ H s) (u:Un X.fs [] H H' s.heap h') (hok:HOk X.prog X.w H' h'):Inv X pins σ H' { s with heap:=h',toks:=t' }:=by
 obtain⟨m,⟨o,es,ep,ho,r⟩,_⟩:=id I.loc
 obtain⟨sl,hL⟩:=u.any ho I.free (by simp)
 exact I.step (g':=s.gens) (d':=s.drawn) (ch:=[]) (λ_ z=>nomatch z) (λb o _ hb _ e n=>u.keep b o e n hb (by simp)) (λb o _ hb _ e n=>u.slot b o e n hb (by simp)) (λb o _ e n=>u.free b o e n (by simp)) (λb o _ e=>u.there b o e (by simp)) u.tups u.frzs u.tbls (λm' hm=>by
  obtain⟨o',es',ep',ho',r'⟩:=hm
  rw[ho] at ho';cases ho'
  exact⟨_,es',ep',hL,r'⟩) hok I.bare
theorem Inv.call {g':Array GenState} {t':Nat} {d':Drawn} {ch:List Addr} (I:Inv X pins σ H s) (u:Un (frs X.stack) ch H H' s.heap h') (hok:HOk X.prog X.w H' h') (hg:AllBare g')
  (hch:∀b∈ch,(b∈X.ex\/X.s₀.heap.objs.size<=b)/\b≠X.env.locals/\(∀x c,X.env.cells.lookup x=some c->c≠b)/\∀p∈X.pn++pins,p.1≠b) :
  Inv X pins σ H' { s with heap:=h',gens:=g',drawn:=d',toks:=t' }:=by
 obtain⟨m,⟨o,es,ep,ho,r⟩,_⟩:=id I.loc
 obtain⟨sl,hL⟩:=u.any ho I.free λz=>(hch _ z).2.1 rfl
 exact I.step (ch:=ch) hch (λb o hL hb hc e n=>u.keep b o e n (λz=>(List.mem_cons.mp (I.stkSub b z)).elim hL hb) hc) (λb o _ _ hc e n=>u.any e n hc) (λb o hc e n=>u.free b o e n hc) (λb o hc e=>u.there b o e hc) u.tups u.frzs u.tbls (λm' hm=>by
  obtain⟨o',es',ep',ho',r'⟩:=hm
  rw[ho] at ho';cases ho'
  exact⟨_,es',ep',hL,r'⟩) hok hg
theorem Inv.turned {t':Nat} {it:Addr} (I:Inv X pins σ H s) (k:∀b o,b≠it->s.heap.get? b=some o->h'.get? b=some o) (hn:H it=none) (hL:it≠X.env.locals)
  (h1:it∈X.ex\/X.s₀.heap.objs.size<=it) (h2:∀x c,X.env.cells.lookup x=some c->c≠it) (h3:∀p∈X.pn++pins,p.1≠it):Inv X pins σ H { s with heap:=h',toks:=t' }:=by
 have nit:∀b u,H b=some u->b≠it:=λb u e z=>by rw[z,hn] at e;cases e
 refine I.step (g':=s.gens) (d':=s.drawn) (ch:=[it]) (λb hb=>?_) (λb o _ _ hc e _=>k b o (λz=>hc (by simp[z])) e) (λb o _ _ hc e _=>⟨o.slots,k b o (λz=>hc (by simp[z])) e⟩) (λ_ _ _ _ n=>n)
  (λb o hc e=>⟨o,k b o (λz=>hc (by simp[z])) e⟩) (λ_ _ e=>e) (λ_ _ _ e=>e) (λb ps e=>⟨#[],by rw[e];simp⟩) (λm hm=>?_) (λb u e=>?_) I.bare
 ·have e:b=it:=by simpa using hb
  subst e
  exact⟨h1,hL,h2,h3⟩
 ·obtain⟨o,es,ep,ho,r⟩:=hm
  exact⟨o,es,ep,k _ o (Ne.symm hL) ho,r⟩
 ·refine (I.hok b u e).stay (λc v hc q=>k c v ?_ q) (λ_ q=>q) λ_ _ q=>q
  rcases hc with z | z
  ·rw[z];exact nit b u e
  ·exact nit c _ z
theorem Inv.tok (I:Inv X pins σ H s) (t:Nat):Inv X pins σ H { s with toks:=t }:=I.un (h':=s.heap) (t':=t) Un.refl I.hok
theorem Inv.kept {t':Nat} (I:Inv X pins σ H s) (k:∀b u,s.heap.get? b=some u->h'.get? b=some u):Inv X pins σ H { s with heap:=h',toks:=t' }:=I.un (Un.kept k) (I.hok.kept k)
theorem Inv.laid {a:Addr} {o:HO} {t':Nat} (I:Inv X pins σ H s) (k:∀b u,s.heap.get? b=some u->h'.get? b=some u) (hp:s.heap.objs.size<=a) (new:ObjOk X.prog X.w (upd H a o) h' a o) :
  Inv X pins σ (upd H a o) { s with heap:=h',toks:=t' }:=I.un (Un.laid k hp (I.hok.fresh hp)) (I.hok.laid k hp new)
theorem Inv.write {x e:Addr} {o:HO} {t':Nat} (I:Inv X pins σ H s) (mu:Mut (H x)) (he:e=x\/H e=some (.own x)) (k:∀b u,b≠e->s.heap.get? b=some u->h'.get? b=some u) (heo:∃u,h'.get? e=some u)
  (new:ObjOk X.prog X.w (upd H x o) h' x o):Inv X pins σ (upd H x o) { s with heap:=h',toks:=t' }:=I.un (Un.write mu he k heo) (I.hok.write mu he k heo new)
theorem Inv.pins_of {pins':List (Addr × Obj)} (I:Inv X pins σ H s) (h:∀p∈pins',s.heap.get? p.1=some p.2/\H p.1=none/\p.1≠X.env.locals/\p.1 ∉ X.fs/\∀v,p.2.data≠.cell v):Inv X pins' σ H s :=
 ⟨I.ok,I.os,I.bare,I.base,I.loc,I.cell,I.free,I.freeC,λp hp=>(List.mem_append.mp hp).elim (λz=>I.pin p (List.mem_append_left _ z)) (h p),I.hok,I.len⟩
theorem yS {N:List Str} (hN:N.Nodup) {i j:Nat} {x:Str} (a:N[i]? = some x) (b:N[j]? = some x):i=j:=by
 obtain⟨h1,e1⟩:=List.getElem?_eq_some_iff.mp a
 obtain⟨h2,e2⟩:=List.getElem?_eq_some_iff.mp b
 exact (List.getElem_inj hN).mp (e1.trans e2.symm)
theorem vD {M:Model} {A:Around} {E:Value->Shared->Prop} {i:Nat} {x:Str} {v:V} {u:Value} {Q:Unit->Shared->Prop} (I:Inv X pins σ H s) (hN:X.N.Nodup) (hi:X.N[i]? = some x) (hx:Loc X.env.scope x) (r:RelV v u)
  (h:∀s',Inv X pins (σ.set i (some v)) H s'->(∃a,Heap.SameBut a s.heap s'.heap/\(a=X.env.locals\/X.env.cells.lookup x=some a))->Q () s') (hf:X.fn x=true\/X.env.scope.names.lookup x=some .local:=by walk_at "loc"):wpAny M A (storeName X.env x u) Q E s:=by
 obtain⟨m,hn,hl⟩:=id I.loc
 have hcls:(X.env.scope.kind == .class || (X.env.scope.kind == .module && X.env.locals != X.env.globals))=false:=by rw[I.ok.kind];rfl
 have hiσ:i<σ.length:=by rw[I.len];exact (List.getElem?_eq_some_iff.mp hi).1
 have cne:=I.cne
 have tracked:∀{a:Addr} {h':Heap},(∃o,s.heap.get? a=some o/\H a=none)->Heap.SameBut a s.heap h'->HOk X.prog X.w H h':=λ{a h'} ha hs b ob e=>by
  obtain⟨_,_,hfree⟩:=ha
  refine (I.hok b ob e).stay (λc w' hc q=>(hs.2 c ?_).trans q) (λ_ q=>q) λ_ _ q=>q
  rintro rfl
  rcases hc with rfl | hc
  ·rw[hfree] at e;cases e
  ·rw[hfree] at hc;cases hc
 rcases hx with hk | hk
 ·refine wpAny_storeName_local hk hn (λh' hn' hs=>?_) hcls
  obtain⟨oL,_,_,hoL,_⟩:=id hn
  refine h _ ⟨I.ok,I.os,I.bare,⟨λb o e n hb hx=>?_,λb o e n hb hx=>?_,I.base.free,λb o e hx=>?_,I.base.tups,I.base.frzs,I.base.tbls⟩,⟨_,hn',λj y v' e1 e2 e3=>?_⟩,λy c e=>?_,I.free,I.freeC,λp hp=>?_,tracked ⟨oL,hoL,I.free⟩ hs,by simpa using I.len⟩ ⟨_,hs,.inl rfl⟩
  ·exact (hs.2 b (Nat.ne_of_lt (Nat.lt_of_lt_of_le (Heap.lt_size e) I.ok.above))).trans (I.base.keep b o e n hb hx)
  ·obtain⟨sl,e1⟩:=I.base.slot b o e n hb hx
   exact⟨sl,(hs.2 b (Nat.ne_of_lt (Nat.lt_of_lt_of_le (Heap.lt_size e) I.ok.above))).trans e1⟩
  ·obtain⟨o',e1⟩:=I.base.there b o e hx
   exact⟨o',(hs.2 b (Nat.ne_of_lt (Nat.lt_of_lt_of_le (Heap.lt_size e) I.ok.above))).trans e1⟩
  ·by_cases hj:j=i
   ·subst hj
    rw[hi] at e1;cases e1
    rw[List.getElem?_set_self hiσ] at e2
    cases e2
    exact⟨u,r,.inl ⟨hk,by simp⟩⟩
   ·rw[List.getElem?_set_ne (Ne.symm hj)] at e2
    obtain⟨u',r',q⟩:=hl j y v' e1 e2 e3
    refine⟨u',r',?_⟩
    rcases q with ⟨k,e⟩ | ⟨k,c,e,z⟩
    ·refine .inl ⟨k,?_⟩
     have:y≠x:=λe=>hj (yS hN e1 (e ▸ hi))
     simp[this,e]
    ·exact .inr ⟨k,c,e,z.sameBut hs (cne y c e)⟩
  ·obtain⟨w',z⟩:=I.cell y c e
   exact⟨w',z.sameBut hs (cne y c e)⟩
  ·obtain⟨e,n,ne,nf,d⟩:=I.pin p hp
   exact⟨(hs.2 p.1 ne).trans e,n,ne,nf,d⟩
 ·have hfn:X.fn x=true:=by
   rcases hf with z | z
   ·exact z
   ·rw[z] at hk;cases hk
  obtain⟨c,hc⟩:=I.ok.has x (.inl hk)
  obtain⟨w',z⟩:=I.cell x c hc
  refine wpAny_storeName_cell I.ok.kind hk hc z (λh' hc' hs=>?_)
  obtain⟨oc,hoc,hocd⟩:=id z
  refine h { s with heap:=h' } ⟨I.ok,I.os,I.bare,⟨λb o e n hb hx=>?_,λb o e n hb hx=>?_,I.base.free,λb o e hx=>?_,I.base.tups,I.base.frzs,I.base.tbls⟩,⟨m,hn.sameBut hs (Ne.symm (cne x c hc)),λj y v' e1 e2 e3=>?_⟩,λy c' e=>?_,I.free,I.freeC,λp hp=>?_,tracked ⟨oc,hoc,I.freeC x c hc⟩ hs,by simpa using I.len⟩ ⟨c,hs,.inr hc⟩
  ·exact (hs.2 b (Nat.ne_of_lt (Nat.lt_of_lt_of_le (Heap.lt_size e) (I.ok.cab x c hfn hc)))).trans (I.base.keep b o e n hb hx)
  ·obtain⟨sl,e1⟩:=I.base.slot b o e n hb hx
   exact⟨sl,(hs.2 b (Nat.ne_of_lt (Nat.lt_of_lt_of_le (Heap.lt_size e) (I.ok.cab x c hfn hc)))).trans e1⟩
  ·obtain⟨o',e1⟩:=I.base.there b o e hx
   exact⟨o',(hs.2 b (Nat.ne_of_lt (Nat.lt_of_lt_of_le (Heap.lt_size e) (I.ok.cab x c hfn hc)))).trans e1⟩
  ·by_cases hj:j=i
   ·subst hj
    rw[hi] at e1;cases e1
    rw[List.getElem?_set_self hiσ] at e2
    cases e2
    exact⟨u,r,.inr ⟨.inl hk,c,hc,hc'⟩⟩
   ·rw[List.getElem?_set_ne (Ne.symm hj)] at e2
    obtain⟨u',r',q⟩:=hl j y v' e1 e2 e3
    refine⟨u',r',?_⟩
    rcases q with q | ⟨k,c',e,z'⟩
    ·exact .inl q
    ·refine .inr ⟨k,c',e,z'.sameBut hs ?_⟩
     rintro rfl
     exact hj (yS hN e1 (I.ok.inj _ _ _ e hc ▸ hi))
  ·by_cases hcc:c'=c
   ·subst hcc;exact⟨_,hc'⟩
   ·obtain⟨w2,z2⟩:=I.cell y c' e
    exact⟨w2,z2.sameBut hs hcc⟩
  ·obtain⟨e,n,ne,nf,d⟩:=I.pin p hp
   refine⟨(hs.2 p.1 ?_).trans e,n,ne,nf,d⟩
   intro q
   rw[q,hoc] at e
   have q':oc=p.2:=Option.some.inj e
   exact d w' (by rw[<-q'];exact hocd)
theorem nZ {M:Model} {A:Around} {E:Value->Shared->Prop} {i:Nat} {x:Str} {v:V} {u:Value} {Q:Unit->Shared->Prop} (I:Inv X pins σ H s) (hN:X.N.Nodup) (hi:X.N[i]? = some x) (hx:Loc X.env.scope x) (r:RelV v u)
  (h:∀s',Inv X pins (σ.set i (some v)) H s'->Q () s') (hf:X.fn x=true\/X.env.scope.names.lookup x=some .local:=by walk_at "loc"):wpAny M A (storeName X.env x u) Q E s :=
 vD I hN hi hx r (λs' I' _=>h s' I') hf
theorem Inv.call' {s':Shared} {ch:List Addr} (I:Inv X pins σ H s) (ho:s'.os=s.os) (u:Un (frs X.stack) ch H H' s.heap s'.heap) (hok:HOk X.prog X.w H' s'.heap) (hg:AllBare s'.gens)
  (hch:∀b∈ch,(b∈X.ex\/X.s₀.heap.objs.size<=b)/\b≠X.env.locals/\(∀x c,X.env.cells.lookup x=some c->c≠b)/\∀p∈X.pn++pins,p.1≠b):Inv X pins σ H' s':=by
 obtain⟨h',g',d',t',o'⟩:=s'
 have e:o'=s.os:=ho
 subst e
 exact I.call (g':=g') (t':=t') (d':=d') u hok hg hch
end
noncomputable abbrev XK:=Value->Option Addr->Hp->Prop
noncomputable abbrev St:=List (Option V)
noncomputable abbrev VK:=V->Hp->Prop
noncomputable abbrev TE:=St->Hp->VK->Prop
noncomputable abbrev TT:=St->Hp->(Bool->Hp->Prop)->Prop
noncomputable abbrev TA:=St->Hp->(List V->Hp->Prop)->Prop
structure Ends where
 nx:St->Hp->Prop
 rt:VK
 bk:St->Hp->Prop:=λ_ _=>False
 ct:St->Hp->Prop:=λ_ _=>False
noncomputable abbrev TS:=Ends->St->Hp->Prop
noncomputable def EP (X:Cx) (pins:List (Addr × Obj)) (σ:St) (Q:VK) (u:Value) (s':Shared):Prop:=∃v H',Inv X pins σ H' s'/\RelV v u/\Q v H'
noncomputable def TP (X:Cx) (pins:List (Addr × Obj)) (σ:St) (Q:Bool->Hp->Prop) (b:Bool) (s':Shared):Prop:=∃H',Inv X pins σ H' s'/\Q b H'
noncomputable def AP (X:Cx) (pins:List (Addr × Obj)) (σ:St) (Q:List V->Hp->Prop) (us:List Value) (s':Shared):Prop:=∃vs H',Inv X pins σ H' s'/\Vals vs us/\Q vs H'
noncomputable def SP (X:Cx) (pins:List (Addr × Obj)) (D:Ends) (f:Flow) (s':Shared):Prop :=
 match f with
 | .next=>∃σ' H',Inv X pins σ' H' s'/\D.nx σ' H'
 | .brk=>∃σ' H',Inv X pins σ' H' s'/\D.bk σ' H'
 | .cont=>∃σ' H',Inv X pins σ' H' s'/\D.ct σ' H'
 | .ret u=>∃v σ' H',Inv X pins σ' H' s'/\RelV v u/\D.rt v H'
noncomputable def PE (X:Cx) (e:Expr) (t:TE):Prop :=
 ∀(pins:List (Addr × Obj)) (s:Shared) (σ:St) (H:Hp) (Q:VK),Inv X pins σ H s->t σ H Q->wpAny (model X.prog X.w) X.A (eval e X.env) (EP X pins σ Q) X.xe s
noncomputable def PT (X:Cx) (e:Expr) (t:TT):Prop :=
 ∀(pins:List (Addr × Obj)) (s:Shared) (σ:St) (H:Hp) (Q:Bool->Hp->Prop),Inv X pins σ H s->t σ H Q->wpAny (model X.prog X.w) X.A (isTrue e X.env (eval e X.env)) (TP X pins σ Q) X.xe s
noncomputable def PW (X:Cx) (e:Expr) (t:TT):Prop :=
 ∀(whole:Sem Value) (pins:List (Addr × Obj)) (s:Shared) (σ:St) (H:Hp) (Q:Bool->Hp->Prop),Inv X pins σ H s->t σ H Q->wpAny (model X.prog X.w) X.A (isTrue e X.env whole) (TP X pins σ Q) X.xe s
theorem PW.pt {X:Cx} {e:Expr} {t:TT} (h:PW X e t):PT X e t:=h _
noncomputable def PA (X:Cx) (es:List Expr) (t:TA):Prop :=
 ∀(pos:Pos) (pins:List (Addr × Obj)) (s:Shared) (σ:St) (H:Hp) (Q:List V->Hp->Prop),Inv X pins σ H s->t σ H Q->wpAny (model X.prog X.w) X.A (spliced (backTo pos (starEach es X.env))) (AP X pins σ Q) X.xe s
noncomputable def PS (X:Cx) (st:Stmt) (t:TS):Prop :=
 ∀(pins:List (Addr × Obj)) (s:Shared) (σ:St) (H:Hp) (D:Ends),Inv X pins σ H s->t D σ H->wpAny (model X.prog X.w) X.A (exec st X.env) (SP X pins D) X.xe s
noncomputable def PSs (X:Cx) (st:List Stmt) (t:TS):Prop :=
 ∀(pins:List (Addr × Obj)) (s:Shared) (σ:St) (H:Hp) (D:Ends),Inv X pins σ H s->t D σ H->wpAny (model X.prog X.w) X.A (execs st X.env) (SP X pins D) X.xe s
theorem thn {α:Type} {t:Sem α} {Q Q':α->Shared->Prop} {M:Model} {A:Around} {E:Value->Shared->Prop} {s:Shared} (h:wpAny M A t Q E s) (hQ:∀a s,Q a s->Q' a s):wpAny M A t Q' E s:=wpAny_mono h hQ λ_ _ x=>x
end L2
namespace L2
open PySem PySem.Spec PyProof.Rows
section
variable {X:Cx}
noncomputable def UH (i:Nat):TE:=λσ H Q=>∃v,σ[i]? = some (some v)/\Q v H
noncomputable def tC (v:V):TE:=λ_ H Q=>Q v H
theorem QG {i:Nat} {x:Str} {pos:Pos} (hN:X.N[i]? = some x) (hv:Vis X.env.scope x) (hd:(x == ("__debug__":Str))=false:=by decide) (hcd:(x == ("__classdict__":Str))=false:=by decide):PE X (.Name x pos) (UH i):=by
 intro pins s σ H Q I h
 obtain⟨v,e,h⟩:=h
 obtain⟨m,hn,hl⟩:=I.loc
 obtain⟨u,r,l⟩:=hl i x v hN e hv
 have fin:EP X pins σ Q u s:=⟨v,H,I,r,h⟩
 rcases l with ⟨hk,hm⟩ | ⟨hk,c,hc,hcell⟩
 ·exact wpAny_Name (wpAny_loadName_local I.ok.kind hk hn hm fin) hd
 ·rcases hk with hk | hk
  ·exact wpAny_Name (wpAny_loadName_cell I.ok.kind hk hc hcell fin) hd
  ·exact wpAny_Name (wpAny_loadName_free I.ok.kind hk hc hcell fin hcd) hd
theorem BA {i j pos}:PE X (.Constant (.int i) j pos) (tC (.int i)):=λ_ _ _ H _ I h=>wpAny_Constant_int ⟨.int i,H,I.tok _,⟨_,rfl⟩,h⟩
theorem SZ {b j pos}:PE X (.Constant (.bool b) j pos) (tC (.bl b)):=λ_ _ _ H _ I h=>Constant_bool ⟨.bl b,H,I,rfl,h⟩
noncomputable def Gl (X:Cx) (x:Str):Prop:=X.env.kindOf x=some .globalImplicit
theorem MB {E:Value->Shared->Prop} {pins:List (Addr × Obj)} {s:Shared} {σ:St} {H:Hp} {x:Str} {u:Value} {pos:Pos} {Q:Value->Shared->Prop} (I:Inv X pins σ H s) (hg:Gl X x) (hm:X.mg x=some u) (h:Q u s)
  (hd:(x == ("__debug__":Str))=false:=by decide):wpAny (model X.prog X.w) X.A (eval (.Name x pos) X.env) Q E s :=
 Calls.Name_function_global I.ok.kind hg (Calls.loadGlobal_global (by rw[I.ok.glob];exact I.mod.glob.keeps I.bk) hm h) hd
theorem dZ {E:Value->Shared->Prop} {pins:List (Addr × Obj)} {s:Shared} {σ:St} {H:Hp} {x:Str} {u:Value} {pos:Pos} {Q:Value->Shared->Prop} (I:Inv X pins σ H s) (hg:Gl X x) (hm:X.mg x=none) (hv:bootBuiltins x=some u) (h:Q u s)
  (hn:x≠"__name__":=by decide) (hd:(x == ("__debug__":Str))=false:=by decide):wpAny (model X.prog X.w) X.A (eval (.Name x pos) X.env) Q E s:=by
 obtain⟨mb,h1,h2⟩:=I.mod.blt
 exact Calls.Name_function_global I.ok.kind hg (Calls.loadGlobal_builtin (by rw[I.ok.glob];exact I.mod.glob.keeps I.bk) hm (by rw[I.ok.blt];exact h1.keeps I.bk) ((h2 x hn).trans hv) h) hd
theorem MQ {x:Str} {v:V} {u:Value} {pos:Pos} (hg:Gl X x) (hm:X.mg x=none) (hv:bootBuiltins x=some u) (r:RelV v u) (hn:x≠"__name__":=by decide) (hd:(x == ("__debug__":Str))=false:=by decide):PE X (.Name x pos) (tC v) :=
 λ_ _ _ H _ I h=>dZ I hg hm hv ⟨v,H,I,r,h⟩ hn hd
variable {a b:Expr} {ta tb:TE} {pos:Pos}
noncomputable def tB (t:TE):TT:=λσ H Q=>t σ H λx H1=>∃c,x = .bl c/\Q c H1
theorem QP {e:Expr} {t:TE} (h:PE X e t) (he:∀whole,isTrue e X.env whole=(do let v <-whole;standAt e.pos;holding [v] (truthy v)):=by intro _;rfl):PT X e (tB t):=by
 intro pins s σ H Q I hw
 refine isTrue_plain (thn (h pins s σ H _ I hw) λv s1 ⟨x,H1,I1,r1,q1⟩=>?_) (he _)
 obtain⟨d,rfl,q⟩:=q1
 cases r1
 exact wpAny_truthy_bool ⟨H1,I1,q⟩
variable {tA tB':TT} {rest:List Expr}
noncomputable def tOr (t u:TT):TT:=λσ H Q=>t σ H λc H1=>if c=true then Q true H1 else u σ H1 Q
noncomputable def VF (t:TT):TT:=λσ H Q=>t σ H λc H1=>Q (!c) H1
theorem QR (ha:PT X a tA):PW X (.BoolOp .Or [a] pos) tA:=by
 intro wh pins s σ H Q I h
 refine isTrue_or (thn (ha pins s σ H Q I h) λc s1 e=>?_)
 cases c with
 | false=>exact isTrue_or_nil e
 | true=>exact e
theorem TH (ha:PT X a tA) (hb:PW X (.BoolOp .Or (b::rest) pos) tB'):PW X (.BoolOp .Or (a::b::rest) pos) (tOr tA tB'):=by
 intro wh pins s σ H Q I h
 refine isTrue_or (thn (ha pins s σ H _ I h) λc s1 ⟨H1,I1,q1⟩=>?_)
 cases c with
 | true=>exact⟨H1,I1,q1⟩
 | false=>exact hb wh pins s1 σ H1 Q I1 q1
theorem QO (ha:PT X a tA):PT X (.UnaryOp .Not a pos) (VF tA):=by
 intro pins s σ H Q I h
 exact isTrue_not (ha pins s σ H (λc H1=>Q (!c) H1) I h)
noncomputable def TX (ta tb:TE):TE:=λσ H Q=>ta σ H λx H1=>∃c,x = .bl c/\if c=true then tb σ H1 Q else Q (.bl false) H1
noncomputable def UE (ta:TE):TE:=λσ H Q=>ta σ H λx H1=>∃c,x = .bl c/\Q (.bl (!c)) H1
theorem QD {op} {t:TE} (h:PE X a t):PE X (.BoolOp op [a] pos) t:=λpins s σ H Q I hw=>BoolOp_one (h pins s σ H Q I hw)
theorem QB (ha:PE X a ta) (hb:PE X (.BoolOp .And (b::rest) pos) tb):PE X (.BoolOp .And (a::b::rest) pos) (TX ta tb):=by
 intro pins s σ H Q I h
 refine BoolOp_and (thn (ha pins s σ H _ I h) λv s1 ⟨x,H1,I1,r1,q1⟩=>?_)
 obtain⟨c,rfl,q1⟩:=q1
 cases r1
 refine wpAny_truthy_bool ?_
 cases c with
 | true=>exact hb pins s1 σ H1 Q I1 q1
 | false=>exact⟨.bl false,H1,I1,rfl,q1⟩
theorem QC (ha:PE X a ta):PE X (.UnaryOp .Not a pos) (UE ta):=by
 intro pins s σ H Q I h
 refine UnaryOp_ (thn (ha pins s σ H _ I h) λv s1 ⟨x,H1,I1,r1,q1⟩=>?_)
 obtain⟨c,rfl,q1⟩:=q1
 cases r1
 exact not_of (wpAny_truthy_bool ⟨.bl (!c),H1,I1,rfl,q1⟩)
end
end L2
namespace L2
open PySem PySem.Spec PyProof.Rows
noncomputable def SqL (K:PySem.W.Frag) (H:Hp) (a:Addr) (xs:List V):Prop :=
 Rd H a (.lst xs) \/
  ∃(o:Obj) (its:Array Value) (n:Nat),K.lookup a=some o/\o.cls = .type "list"/\o.dict=none/\o.data = .seq its n/\its.size<=sizeLine/\Vals xs its.toList
noncomputable def SqT (K:PySem.W.Frag) (H:Hp) (a:Addr) (xs:List V):Prop :=
 Rd H a (.tup xs) \/
  ∃(o:Obj) (its:Array Value) (n:Nat),K.lookup a=some o/\o.cls = .type "tuple"/\o.data = .seq its n/\its.size<=sizeLine/\Vals xs its.toList
noncomputable def UK:Value->Option V
 | .none=>some .non
 | .bool b=>some (.bl b)
 | .int i _=>some (.int i)
 | .str x _=>some (.str x)
 | .bytes b _=>some (.byt b)
 | .float b _=>some (.flt b)
 | .ref a=>some (.ref a)
 | .type n=>some (.ty n)
 | _=>none
theorem RelV.abs {x:V} {u:Value} (r:RelV x u):UK u=some x:=by
 cases x with
 | non=>cases r;rfl
 | bl _=>cases r;rfl
 | int _=>obtain⟨t,rfl⟩:=r;rfl
 | str _=>obtain⟨t,rfl⟩:=r;rfl
 | byt _=>obtain⟨t,rfl⟩:=r;rfl
 | flt _=>obtain⟨t,rfl⟩:=r;rfl
 | ref _=>cases r;rfl
 | ty _=>cases r;rfl
theorem RelV.inj {x y:V} {u:Value} (r:RelV x u) (q:RelV y u):x=y:=Option.some.inj (r.abs.symm.trans q.abs)
theorem Vals.inj:∀{xs ys:List V} {us:List Value},Vals xs us->Vals ys us->xs=ys
 | _,_,_,.nil,.nil=>rfl
 | _,_,_,.cons r t,.cons r' t'=>by rw[r.inj r',Vals.inj t t']
section
variable {X:Cx} {pins:List (Addr × Obj)} {σ:St} {H:Hp} {s:Shared} {a:Addr} {xs ys:List V}
theorem SqL.of {K:PySem.W.Frag} (h:H a=some (.lst xs)):SqL K H a xs:=.inl (.inl h)
theorem SqT.of {K:PySem.W.Frag} (h:H a=some (.tup xs)):SqT K H a xs:=.inl (.inl h)
theorem Inv.list (I:Inv X pins σ H s) (h:SqL X.K H a xs):∃its:List Value,Vals xs its/\PlainL s.heap a its.toArray/\xs.length<=sizeLine:=by
 rcases h with h | ⟨o,its,n,hk,hc,hd,hs,hz,r⟩
 ·obtain⟨z,its,n,r,e⟩:=h.ok I.hok
  exact⟨its,r,⟨_,n,e,rfl,rfl,rfl⟩,z⟩
 ·refine⟨its.toList,r,⟨o,n,I.kIn a o hk,hc,hd,by simpa using hs⟩,?_⟩
  have e:=r.length
  simp only[Array.length_toList] at e
  omega
theorem Inv.tuple (I:Inv X pins σ H s) (h:SqT X.K H a xs):∃its:List Value,Vals xs its/\IsTup s.heap a its.toArray/\xs.length<=sizeLine:=by
 rcases h with h | ⟨o,its,n,hk,hc,hs,hz,r⟩
 ·obtain⟨z,its,r,p⟩:=h.ok I.hok
  exact⟨its,r,p,z⟩
 ·refine⟨its.toList,r,⟨o,I.kIn a o hk,hc,n,by simpa using hs⟩,?_⟩
  have e:=r.length
  simp only[Array.length_toList] at e
  omega
theorem Inv.list_inj (I:Inv X pins σ H s) (h:SqL X.K H a xs) (h':SqL X.K H a ys):xs=ys:=by
 obtain⟨its,r,⟨o,n,e,_,_,d⟩,_⟩:=I.list h
 obtain⟨its',r',⟨o',n',e',_,_,d'⟩,_⟩:=I.list h'
 rw[e] at e';cases e'
 rw[d] at d'
 injection d' with d1 _
 have:its=its':=by simpa using congrArg Array.toList d1
 subst this
 exact r.inj r'
theorem Inv.tuple_inj (I:Inv X pins σ H s) (h:SqT X.K H a xs) (h':SqT X.K H a ys):xs=ys:=by
 obtain⟨its,r,⟨o,e,_,n,d⟩,_⟩:=I.tuple h
 obtain⟨its',r',⟨o',e',_,n',d'⟩,_⟩:=I.tuple h'
 rw[e] at e';cases e'
 rw[d] at d'
 injection d' with d1 _
 have:its=its':=by simpa using congrArg Array.toList d1
 subst this
 exact r.inj r'
end
noncomputable abbrev Cx.wish (X:Cx) (E:Value->Shared->Prop):Cx:={ X with xe:=E }
noncomputable abbrev Cx.nox (X:Cx):Cx:=X.wish λ_ _=>False
theorem Cx.Ok.wish {X:Cx} (ok:X.Ok) (E:Value->Shared->Prop):(X.wish E).Ok :=
 ⟨ok.mod,ok.kind,ok.glob,ok.blt,ok.above,ok.inj,ok.has,ok.cab,ok.hd,ok.frames,ok.stk,ok.exf,ok.bs,ok.bsz,ok.noex,ok.exfs,ok.funs,ok.frf⟩
theorem Cx.Ok.unwish {X:Cx} {E:Value->Shared->Prop} (ok:(X.wish E).Ok):X.Ok :=
 ⟨ok.mod,ok.kind,ok.glob,ok.blt,ok.above,ok.inj,ok.has,ok.cab,ok.hd,ok.frames,ok.stk,ok.exf,ok.bs,ok.bsz,ok.noex,ok.exfs,ok.funs,ok.frf⟩
section
variable {X:Cx} {pins:List (Addr × Obj)} {σ:St} {H:Hp} {s:Shared} {E:Value->Shared->Prop}
theorem Inv.wish (I:Inv X pins σ H s) (E:Value->Shared->Prop):Inv (X.wish E) pins σ H s:=⟨I.ok.wish E,I.os,I.bare,I.base,I.loc,I.cell,I.free,I.freeC,I.pin,I.hok,I.len⟩
theorem Inv.unwish (I:Inv (X.wish E) pins σ H s):Inv X pins σ H s:=⟨I.ok.unwish,I.os,I.bare,I.base,I.loc,I.cell,I.free,I.freeC,I.pin,I.hok,I.len⟩
theorem SP.unwish {D:Ends} {f:Flow} {s':Shared} (h:SP (X.wish E) pins D f s'):SP X pins D f s':=by
 cases f with
 | next=>obtain⟨σ',H',I,q⟩:=h;exact⟨σ',H',I.unwish,q⟩
 | brk=>obtain⟨σ',H',I,q⟩:=h;exact⟨σ',H',I.unwish,q⟩
 | cont=>obtain⟨σ',H',I,q⟩:=h;exact⟨σ',H',I.unwish,q⟩
 | ret u=>obtain⟨v,σ',H',I,r,q⟩:=h;exact⟨v,σ',H',I.unwish,r,q⟩
theorem PE.nox {e:Expr} {t:TE} (h:PE X.nox e t):PE X e t:=λpins s σ H Q I hw =>
 wpAny_mono (h pins s σ H Q (I.wish _) hw) (λ_ _ ⟨v,H',I',r,q⟩=>⟨v,H',I'.unwish,r,q⟩) λ_ _ z=>False.elim z
theorem PT.nox {e:Expr} {t:TT} (h:PT X.nox e t):PT X e t:=λpins s σ H Q I hw =>
 wpAny_mono (h pins s σ H Q (I.wish _) hw) (λ_ _ ⟨H',I',q⟩=>⟨H',I'.unwish,q⟩) λ_ _ z=>False.elim z
theorem PSs.nox {st:List Stmt} {t:TS} (h:PSs X.nox st t):PSs X st t:=λpins s σ H D I hw =>
 wpAny_mono (h pins s σ H D (I.wish _) hw) (λ_ _ q=>q.unwish) λ_ _ z=>False.elim z
end
section
variable {X:Cx} {st:Stmt} {rest:List Stmt} {t u:TS} {e:Expr} {te:TE} {pos:Pos}
noncomputable def UD:TS:=λD σ H=>D.nx σ H
noncomputable def VI (t u:TS):TS:=λD σ H=>t { D with nx:=u D } σ H
theorem MZ:PSs X [] UD:=λ_ _ σ H _ I h=>wpAny_execs_nil ⟨σ,H,I,h⟩
theorem JU (h1:PS X st t) (h2:PSs X rest u):PSs X (st::rest) (VI t u):=by
 intro pins s σ H D I h
 refine wpAny_execs_cons (thn (h1 pins s σ H { D with nx:=u D } I h) λf s1 q=>?_)
 cases f with
 | next =>
  obtain⟨σ',H',I',q⟩:=q
  exact h2 pins s1 σ' H' D I' q
 | ret v=>exact q
 | brk=>exact q
 | cont=>exact q
theorem NA (h1:PS X st t):PSs X [st] t:=by
 intro pins s σ H D I h
 refine wpAny_execs_cons (thn (h1 pins s σ H D I h) λf s1 q=>?_)
 cases f with
 | next=>exact wpAny_execs_nil q
 | ret v=>exact q
 | brk=>exact q
 | cont=>exact q
theorem Inv.quiet {pins:List (Addr × Obj)} {σ:St} {H:Hp} {s:Shared} (I:Inv X pins σ H s):interactive X.env=false:=by simp[interactive,I.ok.kind]
noncomputable def UC (te:TE):TS:=λD σ H=>te σ H λ_ H1=>D.nx σ H1
theorem wH (he:PE X e te) (hs:swapsWith e none pos.line X.env=pure false:=by rfl):PS X (.Expr e pos) (UC te):=by
 intro pins s σ H D I h
 exact wpAny_Expr_any (thn (he pins s σ H _ I h) λv s1 ⟨x,H1,I1,r1,q1⟩=>⟨σ,H1,I1,q1⟩) I.quiet hs
noncomputable def VH (te:TE):TS:=λD σ H=>te σ H D.rt
theorem QN (he:PE X e te):PS X (.Return (some e) pos) (VH te):=by
 intro pins s σ H D I h
 exact wpAny_Return_some (thn (he pins s σ H _ I h) λv s1 ⟨x,H1,I1,r1,q1⟩=>⟨x,σ,H1,I1,r1,q1⟩)
noncomputable def VC (c:TT) (t u:TS):TS:=λD σ H=>c σ H λb H1=>if b=true then t D σ H1 else u D σ H1
theorem TF {c:Expr} {a b:List Stmt} {tc:TT} (hc:PT X c tc) (ha:PSs X a t) (hb:PSs X b u):PS X (.If c a b pos) (VC tc t u):=by
 intro pins s σ H D I h
 refine wpAny_If (thn (hc pins s σ H _ I h) λd s1 ⟨H1,I1,q1⟩=>?_)
 cases d with
 | true=>exact ha pins s1 σ H1 D I1 q1
 | false=>exact hb pins s1 σ H1 D I1 q1
noncomputable def RI:TS:=λ_ _ _=>False
theorem JS:PS X st RI:=λ_ _ _ _ _ _ h=>h.elim
end
noncomputable abbrev TG:=V->St->Hp->(St->Hp->Prop)->Prop
noncomputable abbrev TGs:=List V->St->Hp->(St->Hp->Prop)->Prop
noncomputable def PG (X:Cx) (target:Expr) (t:TG):Prop :=
 ∀(pins:List (Addr × Obj)) (s:Shared) (σ:St) (H:Hp) (v:V) (u:Value) (Q:St->Hp->Prop),Inv X pins σ H s->RelV v u->t v σ H Q ->
  wpAny (model X.prog X.w) X.A (assign target X.env u) (λ_ s'=>∃σ' H',Inv X pins σ' H' s'/\Q σ' H') X.xe s
noncomputable def PGs (X:Cx) (ts:List Expr) (t:TGs):Prop :=
 ∀(pins:List (Addr × Obj)) (s:Shared) (σ:St) (H:Hp) (vs:List V) (us:List Value) (Q:St->Hp->Prop),Inv X pins σ H s->Vals vs us->t vs σ H Q ->
  wpAny (model X.prog X.w) X.A (assignInOrder ((assignEach ts X.env).map (·.2)) us) (λ_ s'=>∃σ' H',Inv X pins σ' H' s'/\Q σ' H') X.xe s
noncomputable abbrev ON:=V->V->V->Hp->(Hp->Prop)->Prop
noncomputable def RV (X:Cx) (t:ON):Prop :=
 ∀(pins:List (Addr × Obj)) (s:Shared) (σ:St) (H:Hp) (o i v:V) (ov iv u:Value) (Q:Hp->Prop),Inv X pins σ H s->RelV o ov->RelV i iv->RelV v u->t o i v H Q ->
  wpAny (model X.prog X.w) X.A (setItem ov iv u) (λ_ s'=>∃H',Inv X pins σ H' s'/\Q H') X.xe s
section
variable {X:Cx} {pos:Pos}
noncomputable def NZ (i:Nat):TG:=λv σ H Q=>Q (σ.set i (some v)) H
theorem MU {i:Nat} {x:Str} (hN:X.N.Nodup) (hi:X.N[i]? = some x) (hx:Loc X.env.scope x) (hf:X.fn x=true\/X.env.scope.names.lookup x=some .local:=by walk_at "loc"):PG X (.Name x pos) (NZ i):=by
 intro pins s σ H v u Q I r h
 exact wpAny_assign_Name (nZ I hN hi hx r (λs' I'=>⟨_,H,I',h⟩) hf)
noncomputable def UN:TGs:=λvs σ H Q=>vs=[]/\Q σ H
noncomputable def SF (t:TG) (u:TGs):TGs:=λvs σ H Q=>∃v r,vs=v::r/\t v σ H λσ' H'=>u r σ' H' Q
theorem MV:PGs X [] UN:=by
 intro pins s σ H vs us Q I r h
 obtain⟨e,h⟩:=h
 subst e
 cases r
 exact assignInOrder_nil ⟨σ,H,I,h⟩
theorem JO {e:Expr} {es:List Expr} {t:TG} {u:TGs} (h1:PG X e t) (h2:PGs X es u)
  (hs:(assignEach (e::es) X.env).map (·.2)=assign e X.env::(assignEach es X.env).map (·.2):=by rfl):PGs X (e::es) (SF t u):=by
 intro pins s σ H vs us Q I r h
 obtain⟨v,vr,e1,h⟩:=h
 subst e1
 cases r with
 | cons r rr =>
  rw[hs]
  refine assignInOrder_cons (thn (h1 pins s σ H _ _ _ I r h) λ_ s1 ⟨σ1,H1,I1,q1⟩=>?_)
  exact h2 pins s1 σ1 H1 _ _ Q I1 rr q1
noncomputable def UP (K:PySem.W.Frag) (n:Nat) (t:TGs):TG:=λv σ H Q=>∃a xs,v = .ref a/\SqT K H a xs/\xs.length=n/\t xs σ H Q
theorem QI {es:List Expr} {k:Nat} {t:TGs} {n:Nat} (hc:X.calm=true) (h:PGs X es t)
  (hn:(assignEach es X.env).length=n:=by rfl) (hst:(assignEach es X.env).findIdx? (·.1)=none:=by rfl):PG X (.Tuple es k pos) (UP X.K n t):=by
 intro pins s σ H v u Q I r hw
 obtain⟨a,xs,e1,hq,hl,hw⟩:=hw
 subst e1
 cases r
 obtain⟨its,rv,ht,hz⟩:=I.tuple hq
 refine assign_Tuple_tuple (I.ok.hd hc) ht (by simp[hn,<-hl,rv.length]) hst λh' hx=>?_
 have I1:Inv X pins σ H { s with heap:=h' }:=I.kept (t':=s.toks) λb o e=>hx b o (Nat.ne_of_lt (Heap.lt_size e)) e
 exact h pins _ σ H xs _ Q I1 (by simpa using rv) hw
noncomputable def UO (to ti:TE) (t:ON):TG:=λv σ H Q=>to σ H λo H1=>ti σ H1 λi H2=>t o i v H2 λH3=>Q σ H3
theorem QH {o i:Expr} {to ti:TE} {t:ON} (ho:PE X o to) (hi:PE X i ti) (hs:RV X t)
  (ha:∀v,assign (.Subscript o i pos) X.env v=(do
   let ov <-holding [v] (eval o X.env)
   let iv <-holding [v,ov] (eval i X.env)
   standAt pos
   holding [v,ov,iv] (setItem ov iv v)
   release [v,ov,iv] []):=by intro _;rfl):PG X (.Subscript o i pos) (UO to ti t):=by
 intro pins s σ H v u Q I r h
 rw[ha]
 refine wpAny_bind (wpAny_holding (thn (ho pins s σ H _ I h) λov s1 ⟨x,H1,I1,r1,q1⟩=>?_))
 refine wpAny_bind (wpAny_holding (thn (hi pins s1 σ H1 _ I1 q1) λiv s2 ⟨y,H2,I2,r2,q2⟩=>?_))
 refine wpAny_bind (wpAny_standAt (wpAny_bind (wpAny_holding (thn (hs pins s2 σ H2 x y v ov iv u _ I2 r1 r2 r q2) λ_ s3 ⟨H3,I3,q3⟩=>?_))))
 exact wpAny_release ⟨σ,H3,I3,q3⟩
noncomputable def TY (te:TE) (g:TG):TS:=λD σ H=>te σ H λx H1=>g x σ H1 D.nx
theorem QK {tg e:Expr} {te:TE} {g:TG} (he:PE X e te) (hg:PG X tg g) (hs:swapsWithSole [tg] e pos.line X.env=pure false:=by rfl) (hw:swappedStores [tg] e X.env=pure none:=by rfl)
  (h1:(assignEach [tg] X.env).map (·.2)=[assign tg X.env]:=by rfl):PS X (.Assign [tg] e pos) (TY te g):=by
 intro pins s σ H D I h
 refine wpAny_Assign_stores (thn (he pins s σ H _ I h) λv s1 ⟨x,H1,I1,r1,q1⟩=>?_) hs hw
 rw[h1]
 exact thn (hg pins s1 σ H1 x v _ I1 r1 q1) λ_ s2 q=>q
theorem wI {i:Nat} {x:Str} {e:Expr} {te:TE} {pos':Pos} (hN:X.N.Nodup) (hi:X.N[i]? = some x) (hx:Loc X.env.scope x) (he:PE X e te) (hs:swapsWith e (some (.Name x pos')) pos.line X.env=pure false:=by rfl) (hf:X.fn x=true\/X.env.scope.names.lookup x=some .local:=by walk_at "loc") :
  PS X (.Assign [.Name x pos'] e pos) (TY te (NZ i)):=by
 intro pins s σ H D I h
 refine wpAny_Assign_Name (thn (he pins s σ H _ I h) λv s1 ⟨y,H1,I1,r1,q1⟩=>?_) hs
 exact nZ I1 hN hi hx r1 (λs2 I2=>⟨_,H1,I2,q1⟩) hf
noncomputable def VG (i j:Nat) (ta:TA):TS:=λD σ H=>ta σ H λvs H1=>∃v w,vs=[v,w]/\D.nx ((σ.set i (some v)).set j (some w)) H1
theorem QM {i j:Nat} {x y:Str} {a b:Expr} {ta:TA} {px py pt:Pos} {kt k2 pt2} (hc:X.calm=true) (hN:X.N.Nodup) (hi:X.N[i]? = some x) (hj:X.N[j]? = some y) (hij:i≠j)
  (hx:X.env.scope.names.lookup x=some .local) (hy:X.env.scope.names.lookup y=some .local) (ha:PA X [a,b] ta)
  (hw:swappedStores [.Tuple [.Name x px,.Name y py] kt pt] (.Tuple [a,b] k2 pt2) X.env=pure (some [x,y]))
  (hs:swapsWithSole [.Tuple [.Name x px,.Name y py] kt pt] (.Tuple [a,b] k2 pt2) pos.line X.env=pure false:=by rfl) :
  PS X (.Assign [.Tuple [.Name x px,.Name y py] kt pt] (.Tuple [a,b] k2 pt2) pos) (VG i j ta):=by
 intro pins s σ H D I h
 rw[exec_Assign_arm]
 refine wpAny_bind (wpAny_standAt ?_)
 rw[hs]
 refine wpAny_bind (wpAny_pure ?_)
 rw[if_neg (by decide)]
 refine wpAny_bind (Tuple_ (thn (ha _ pins s σ H _ I h) λus s1 ⟨vs,H1,I1,r1,q1⟩=>?_))
 obtain⟨v,w,e1,q1⟩:=q1
 subst e1
 obtain⟨u1,u2,rfl,rv,rw'⟩:∃u1 u2,us=[u1,u2]/\RelV v u1/\RelV w u2:=by
  cases r1 with
  | cons p q =>
   cases q with
   | cons p' q' =>
    cases q'
    exact⟨_,_,rfl,p,p'⟩
 refine wpAny_newObj_type ?_ (by show 2<=sizeLine;decide)
 have I2:Inv X pins σ H1 { s1 with heap:=s1.heap.push { cls:=.type "tuple",data:=.seq [u1,u2].toArray } }:=I1.kept (t':=s1.toks) λb o e=>Heap.get?_push_of_some _ e
 rw[hw]
 refine wpAny_bind (wpAny_pure ?_)
 show wpAny (model X.prog X.w) X.A (do rule "assign.swapped-stores";let items <-unpackItems (.ref s1.heap.objs.size) 2 none;assignInOrder [λv=>bindName X.env y v,λv=>bindName X.env x v] items.reverse;pure Flow.next) _ _ _
 refine wpAny_bind (wpAny_rule (wpAny_bind (unpackItems_tuple (items:=#[u1,u2]) (I.ok.hd hc) (IsTup.new s1.heap _) λh' hx'=>?_)))
 have I3:=I2.kept (h':=h') (t':=s1.toks) λb o e=>hx' b o (Nat.ne_of_lt (Heap.lt_size e)) e
 show wpAny _ _ (assignInOrder [λv=>bindName X.env y v,λv=>bindName X.env x v] [u2,u1] >>= λ_=>pure Flow.next) _ _ _
 refine wpAny_bind (assignInOrder_cons (wpAny_bindName (nZ I3 hN hj (.inl hy) rw' (λs2 I4=>?_) (.inr hy))))
 refine assignInOrder_cons (wpAny_bindName (nZ I4 hN hi (.inl hx) rv (λs3 I5=>assignInOrder_nil (wpAny_pure ?_)) (.inr hx)))
 rw[List.set_comm _ _ (Ne.symm hij)] at I5
 exact⟨_,H1,I5,q1⟩
end
section
variable {X:Cx} {pos:Pos}
noncomputable def RJ (c:TT) (tb:TS):TS:=λD σ H=>∃W:Nat->St->Hp->Prop,(∃m,W m σ H)/\∀m σ H,W m σ H ->
 c σ H λb H1=>if b=true then ∃N:St->Hp->Prop,(∀σ' H',N σ' H'->∃m',m'<m/\W m' σ' H')/\tb { D with nx:=N,ct:=N,bk:=D.nx } σ H1 else D.nx σ H1
theorem JT {c:Expr} {body:List Stmt} {tc:TT} {tb:TS} (hp:PassesOwn (model X.prog X.w) X.A X.env X.xe) (hc:PT X c tc) (hb:PSs X body tb):PS X (.While c body [] pos) (RJ tc tb):=by
 intro pins s σ H D I h
 obtain⟨W,⟨m0,w0⟩,turn⟩:=h
 refine wpAny_While (codeAny_whileLoop (λn s'=>∃σ' H',Inv X pins σ' H' s'/\W n σ' H') ?_ m0 ⟨σ,H,I,w0⟩)
 rintro n s1 ⟨σ1,H1,I1,w1⟩
 refine wpAny_passesOwn hp (thn (hc pins s1 σ1 H1 _ I1 (turn n σ1 H1 w1)) λb s2 ⟨H2,I2,q2⟩=>?_)
 cases b with
 | true =>
  obtain⟨N,hN,q2⟩:=q2
  rw[if_pos rfl]
  refine wpAny_passesOwn hp (thn (hb pins s2 σ1 H2 _ I2 q2) λf s3 q3=>?_)
  cases f with
  | next =>
   obtain⟨σ3,H3,I3,n3⟩:=q3
   obtain⟨m',hm,w3⟩:=hN σ3 H3 n3
   exact⟨m',hm,σ3,H3,I3,w3⟩
  | cont =>
   obtain⟨σ3,H3,I3,n3⟩:=q3
   obtain⟨m',hm,w3⟩:=hN σ3 H3 n3
   exact⟨m',hm,σ3,H3,I3,w3⟩
  | brk=>exact q3
  | ret v=>exact q3
 | false =>
  rw[if_neg Bool.false_ne_true]
  exact wpAny_execs_nil ⟨σ1,H2,I2,q2⟩
end
structure It where
 go:Nat->Hp->Prop
 yld:Nat->Hp->V->Hp->Prop
 stop:Nat->Hp->Prop
noncomputable def oB (X:Cx) (pins:List (Addr × Obj)) (H:Hp) (b:Addr):Prop :=
 H b=none/\b≠X.env.locals/\b ∉ X.fs/\(b∈X.ex\/X.s₀.heap.objs.size<=b)/\(∀x c,X.env.cells.lookup x=some c->c≠b)/\∀p∈X.pn++pins,p.1≠b
theorem Inv.fpOk {X:Cx} {pins:List (Addr × Obj)} {σ:St} {H H':Hp} {s:Shared} {b:Addr} (I:Inv X pins σ H s) (hb:s.heap.objs.size<=b) (hn:H' b=none):oB X pins H' b:=by
 refine⟨hn,Nat.ne_of_gt (Nat.lt_of_lt_of_le I.lt hb),I.nofs hb,.inr (Nat.le_trans I.sz hb),λx c e z=>?_,λp hp z=>?_⟩
 ·obtain⟨v,q⟩:=I.cell x c e
  exact absurd (Nat.lt_of_lt_of_le q.lt (by rw[z];exact hb)) (Nat.lt_irrefl _)
 ·exact absurd (Nat.lt_of_lt_of_le (Heap.lt_size (I.pin p hp).1) (by rw[z];exact hb)) (Nat.lt_irrefl _)
structure Turn (P:Program) (w:World) (K:PySem.W.Frag) (tg:Expr) (J:It) (fp:List Addr) (it:Addr) (tn:Nat->Heap->Prop):Prop where
 mem:it∈fp
 obj:∀i h,tn i h->∀b∈fp,∃o,h.get? b=some o/\∀v,o.data≠.cell v
 keep:∀i h h',tn i h->(∀b∈fp,∀o,h.get? b=some o->h'.get? b=some o)->tn i h'
 item:∀(X:Cx),X.prog=P->X.w=w->X.K=K->X.calm=true->∀(i:Nat) (pins:List (Addr × Obj)) (s:Shared) (σ:St) (H:Hp) (E:Value->Shared->Prop),Inv X pins σ H s->(∀b∈fp,oB X pins H b)->tn i s.heap->J.go i H ->
  wpAny (model P w) X.A (pyNext (.ref it)) (λr s1=>∃u,r=some u /\
   wpAny (model P w) X.A (letOwnedTupleGo tg (.ref it) u) (λ_ s2=>∃x H',Inv X pins σ H' s2/\RelV x u/\J.yld i H x H'/\tn (i+1) s2.heap/\∀b∈fp,H' b=none) E s1) E s
 done:∀(X:Cx),X.prog=P->X.w=w->X.K=K->X.calm=true->∀(i:Nat) (pins:List (Addr × Obj)) (s:Shared) (σ:St) (H:Hp) (E:Value->Shared->Prop),Inv X pins σ H s->(∀b∈fp,oB X pins H b)->tn i s.heap->J.stop i H ->
  wpAny (model P w) X.A (pyNext (.ref it)) (λr s1=>r=none/\Inv X pins σ H s1) E s
 self:∀(A:Around) (i:Nat) (s:Shared) (Q:Value->Shared->Prop) (E:Value->Shared->Prop),tn i s.heap->Q (.ref it) s->wpAny (model P w) A (pyIter (.ref it)) Q E s
noncomputable abbrev TI:=St->Hp->(It->Hp->Prop)->Prop
noncomputable def PIE (X:Cx) (pins:List (Addr × Obj)) (σ:St) (tg:Expr) (R:It->Hp->Prop) (itv:Value) (s2:Shared):Prop :=
 ∃(it:Addr) (fp:List Addr) (tn:Nat->Heap->Prop) (J:It) (H':Hp),itv = .ref it/\Inv X pins σ H' s2/\Turn X.prog X.w X.K tg J fp it tn/\tn 0 s2.heap/\(∀b∈fp,oB X pins H' b)/\R J H'
noncomputable def PI (X:Cx) (tg iter:Expr) (wi:TI):Prop :=
 ∀(pins:List (Addr × Obj)) (s:Shared) (σ:St) (H:Hp) (R:It->Hp->Prop),Inv X pins σ H s->wi σ H R ->
  wpAny (model X.prog X.w) X.A (eval iter X.env) (λv s1=>wpAny (model X.prog X.w) X.A (pyIter v) (PIE X pins σ tg R) X.xe s1) X.xe s
theorem yA {M:Model} {A:Around} {E:Value->Shared->Prop} {s:Shared} {tg:Expr} {it:Addr} {u:Value} {o:Obj} {n:String} {vs:Array Value} {Q:Unit->Shared->Prop} (ho:s.heap.get? it=some o) (hc:o.cls = .type n) (hd:o.data = .fields vs)
  (hn:["enumerate","zip","dict_itemiterator","dict_reverseitemiterator","odict_iterator","itertools.zip_longest","itertools.pairwise"].contains n=false) (hQ:Q () s):wpAny M A (letOwnedTupleGo tg (.ref it) u) Q E s:=by
 unfold letOwnedTupleGo
 cases tg <;> first
  | exact wpAny_pure hQ
  | (cases u <;> first
    | exact wpAny_pure hQ
    | (refine wpAny_bind (wpAny_load ho ?_);rw[hc,hd];show wpAny M A (if (["enumerate","zip","dict_itemiterator","dict_reverseitemiterator","odict_iterator","itertools.zip_longest","itertools.pairwise"].contains n && vs[0]? == some (rawInt _))=true then _ else _) Q E s;rw[if_neg (by intro h;rw[hn,Bool.false_and] at h;cases h)];exact wpAny_pure hQ))
noncomputable def Itl (K:PySem.W.Frag) (a:Addr):It :=
 ⟨λi H=>∃xs x,SqL K H a xs/\xs[i]? = some x,λi H x H'=>H'=H/\∀xs,SqL K H a xs->xs[i]? = some x,λi H=>∃xs,SqL K H a xs/\xs.length<=i⟩
noncomputable def Itt (K:PySem.W.Frag) (a:Addr):It :=
 ⟨λi H=>∃xs x,SqT K H a xs/\xs[i]? = some x,λi H x H'=>H'=H/\∀xs,SqT K H a xs->xs[i]? = some x,λi H=>∃xs,SqT K H a xs/\xs.length<=i⟩
noncomputable def Itr (lo:Int) (n:Nat):It:=⟨λi _=>i<n,λi H x H'=>H'=H/\x = .int (lo+i),λi _=>n<=i⟩
theorem GO {P:Program} {w:World} {K:PySem.W.Frag} {tg:Expr} (a it:Addr):Turn P w K tg (Itl K a) [it] it (λi h=>h.IsListIter it a i) where
 mem:=by simp
 obj:=λi h st b hb=>by
  have e:b=it:=by simpa using hb
  subst e
  obtain⟨o,e,c,d⟩:=st
  exact⟨o,e,λv z=>by rw[d] at z;cases z⟩
 keep:=λi h h' st k=>st.at λo e=>k it (by simp) o e
 item:=by
  intro X hP hw hK hc i pins s σ H E I hf st hg
  subst hP hw hK
  obtain⟨xs,x,hq,hx⟩:=hg
  obtain⟨its,rv,p,hz⟩:=I.list hq
  obtain⟨u,hu,ru⟩:=rv.get hx
  obtain⟨f0,f1,f2,f3,f4,f5⟩:=hf it (by simp)
  refine wpAny_pyNext_list_item st p.isList (x:=u) (by simpa using hu) λh' st' sb=>?_
  have I1:Inv X pins σ H { s with heap:=h' }:=I.turned (t':=s.toks) (λb o hb e=>(sb.2 b hb).trans e) f0 f1 f3 f4 f5
  obtain⟨o,e,c,d⟩:=id st'
  exact⟨u,rfl,yA (s:={ s with heap:=h' }) e c d (by decide) ⟨x,H,I1,ru,⟨rfl,λys hy=>by rw[I.list_inj hy hq];exact hx⟩,st',λb hb=>(hf b hb).1⟩⟩
 done:=by
  intro X hP hw hK hc i pins s σ H E I hf st hg
  subst hP hw hK
  obtain⟨xs,hq,hx⟩:=hg
  obtain⟨its,rv,p,hz⟩:=I.list hq
  obtain⟨f0,f1,f2,f3,f4,f5⟩:=hf it (by simp)
  have hl:=rv.length
  exact wpAny_pyNext_list_end (I.ok.hd hc) st p.isList (by simp;omega) λh' eb=>⟨rfl,I.turned (t':=s.toks) (λb o hb e=>eb b o hb e) f0 f1 f3 f4 f5⟩
 self:=λ_ _ _ _ _ st h=>wpAny_pyIter_listiter st h
theorem BT {P:Program} {w:World} {K:PySem.W.Frag} {tg:Expr} (a it:Addr):Turn P w K tg (Itt K a) [it] it (λi h=>h.IsTupleIter it a i) where
 mem:=by simp
 obj:=λi h st b hb=>by
  have e:b=it:=by simpa using hb
  subst e
  obtain⟨o,e,c,d⟩:=st
  exact⟨o,e,λv z=>by rw[d] at z;cases z⟩
 keep:=λi h h' st k=>st.at λo e=>k it (by simp) o e
 item:=by
  intro X hP hw hK hc i pins s σ H E I hf st hg
  subst hP hw hK
  obtain⟨xs,x,hq,hx⟩:=hg
  obtain⟨its,rv,p,hz⟩:=I.tuple hq
  obtain⟨u,hu,ru⟩:=rv.get hx
  obtain⟨f0,f1,f2,f3,f4,f5⟩:=hf it (by simp)
  refine wpAny_pyNext_tuple_item st (show s.heap.IsTuple a its.toArray from p) (x:=u) (by simpa using hu) λh' st' sb=>?_
  have I1:Inv X pins σ H { s with heap:=h' }:=I.turned (t':=s.toks) (λb o hb e=>(sb.2 b hb).trans e) f0 f1 f3 f4 f5
  obtain⟨o,e,c,d⟩:=id st'
  exact⟨u,rfl,yA (s:={ s with heap:=h' }) e c d (by decide) ⟨x,H,I1,ru,⟨rfl,λys hy=>by rw[I.tuple_inj hy hq];exact hx⟩,st',λb hb=>(hf b hb).1⟩⟩
 done:=by
  intro X hP hw hK hc i pins s σ H E I hf st hg
  subst hP hw hK
  obtain⟨xs,hq,hx⟩:=hg
  obtain⟨its,rv,p,hz⟩:=I.tuple hq
  obtain⟨f0,f1,f2,f3,f4,f5⟩:=hf it (by simp)
  have hl:=rv.length
  exact wpAny_pyNext_tuple_end (I.ok.hd hc) st (show s.heap.IsTuple a its.toArray from p) (by simp;omega) λh' eb=>⟨rfl,I.turned (t':=s.toks) (λb o hb e=>eb b o hb e) f0 f1 f3 f4 f5⟩
 self:=λ_ _ _ _ _ st h=>wpAny_pyIter_tupleiter st h
theorem sV {P:Program} {w:World} {K:PySem.W.Frag} {tg:Expr} (it:Addr) (lo:Int) (n:Nat):Turn P w K tg (Itr lo n) [it] it (λi h=>IsRangeIter h it (lo+(i:Nat)*1) ((n:Int)-(i:Nat)) 1) where
 mem:=by simp
 obj:=λi h st b hb=>by
  have e:b=it:=by simpa using hb
  subst e
  exact⟨_,st,λv z=>by
   have z':Data.fields _=Data.cell v:=z
   cases z'⟩
 keep:=λi h h' st k=>k it (by simp) _ st
 item:=by
  intro X hP hw hK hc i pins s σ H E I hf st hg
  subst hP hw hK
  obtain⟨f0,f1,f2,f3,f4,f5⟩:=hf it (by simp)
  have W:=Walks.range (prog:=X.prog) (w:=X.w) (I.ok.hd hc) it lo 1 n
  refine W.item i s _ _ hg st λv h' tk hv st' kk=>?_
  obtain⟨t,rfl⟩:=hv
  have I1:Inv X pins σ H { s with heap:=h',toks:=tk }:=I.turned (λb o hb e=>kk b o (by simpa using hb) e) f0 f1 f3 f4 f5
  refine⟨_,rfl,yA (s:={ s with heap:=h',toks:=tk }) (n:="range_iterator") st' rfl rfl (by decide) ⟨.int (lo+i),H,I1,⟨t,?_⟩,⟨rfl,rfl⟩,st',λb hb=>(hf b hb).1⟩⟩
  rw[Int.mul_one]
 done:=by
  intro X hP hw hK hc i pins s σ H E I hf st hg
  subst hP hw hK
  obtain⟨f0,f1,f2,f3,f4,f5⟩:=hf it (by simp)
  exact wpAny_pyNext_range_end (I.ok.hd hc) st (by have:n<=i:=hg;omega) λh' eb=>⟨rfl,I.turned (t':=s.toks) (λb o hb e=>eb b o hb e) f0 f1 f3 f4 f5⟩
 self:=λ_ _ _ _ _ st h=>wpAny_pyIter_rangeiter st h
end L2
namespace L2
open PySem PySem.Spec PyProof.Rows
section
variable {X:Cx} {tg:Expr}
noncomputable def SG (K:PySem.W.Frag) (tl:TE):TI:=λσ H R=>tl σ H λx H1=>∃a,x = .ref a/\(∃xs,SqL K H1 a xs)/\R (Itl K a) H1
noncomputable def UQ (K:PySem.W.Frag) (tl:TE):TI:=λσ H R=>tl σ H λx H1=>∃a,x = .ref a/\(∃xs,SqT K H1 a xs)/\R (Itt K a) H1
theorem MW {l:Expr} {tl:TE} (hl:PE X l tl):PI X tg l (SG X.K tl):=by
 intro pins s σ H R I h
 refine thn (hl pins s σ H _ I h) λv s1 ⟨x,H1,I1,r1,q1⟩=>?_
 obtain⟨a,e,⟨xs,hq⟩,q⟩:=q1
 subst e
 cases r1
 obtain⟨its,rv,p,hz⟩:=I1.list hq
 refine wpAny_pyIter_list p.isList ?_
 refine⟨s1.heap.objs.size,[s1.heap.objs.size],_,_,H1,rfl,I1.kept (t':=s1.toks) λb o e=>Heap.get?_push_of_some _ e,GO a _,⟨_,Heap.get?_push_size _ rfl,rfl,rfl⟩,λb hb=>?_,q⟩
 have e:b=s1.heap.objs.size:=by simpa using hb
 subst e
 exact I1.fpOk (Nat.le_refl _) (I1.hok.fresh (Nat.le_refl _))
theorem QJ {l:Expr} {tl:TE} (hl:PE X l tl):PI X tg l (UQ X.K tl):=by
 intro pins s σ H R I h
 refine thn (hl pins s σ H _ I h) λv s1 ⟨x,H1,I1,r1,q1⟩=>?_
 obtain⟨a,e,⟨xs,hq⟩,q⟩:=q1
 subst e
 cases r1
 obtain⟨its,rv,p,hz⟩:=I1.tuple hq
 refine wpAny_pyIter_tuple (show s1.heap.IsTuple a its.toArray from p) ?_
 refine⟨s1.heap.objs.size,[s1.heap.objs.size],_,_,H1,rfl,I1.kept (t':=s1.toks) λb o e=>Heap.get?_push_of_some _ e,BT a _,⟨_,Heap.get?_push_size _ rfl,rfl,rfl⟩,λb hb=>?_,q⟩
 have e:b=s1.heap.objs.size:=by simpa using hb
 subst e
 exact I1.fpOk (Nat.le_refl _) (I1.hok.fresh (Nat.le_refl _))
theorem KC {pins:List (Addr × Obj)} {σ:St} {H:Hp} {s:Shared} {R:It->Hp->Prop} {E:Value->Shared->Prop} {lo hi:Int} {t u v:Tok} {tk:Nat} (I:Inv X pins σ H s) (h1:-(2 ^ 62)<=lo) (h2:lo<2 ^ 62) (h3:-(2 ^ 62)<=hi) (h4:hi<2 ^ 62)
  (q:R (Itr lo (hi-lo).toNat) H):wpAny (model X.prog X.w) X.A (pyIter (.ref s.heap.objs.size)) (PIE X pins σ tg R) E { s with heap:=s.heap.push { cls:=.type "range",data:=.fields #[.int lo t,.int hi u,.int 1 v] },toks:=tk }:=by
 refine wpAny_pyIter_range (IsRange.new ..) (small_one h1 h2 h3 h4) ?_
 have I1:Inv X pins σ H { s with heap:=s.heap.push { cls:=.type "range",data:=.fields #[.int lo t,.int hi u,.int 1 v] },toks:=tk }:=I.kept λb o e=>Heap.get?_push_of_some _ e
 refine⟨(s.heap.push { cls:=.type "range",data:=.fields #[.int lo t,.int hi u,.int 1 v] }).objs.size,[(s.heap.push { cls:=.type "range",data:=.fields #[.int lo t,.int hi u,.int 1 v] }).objs.size],_,_,H,rfl,
  I1.kept (t':=tk) λb o e=>Heap.get?_push_of_some _ e,sV _ lo (hi-lo).toNat,?_,λb hb=>?_,q⟩
 ·have e1:lo+((0:Nat):Int)*1=lo:=by simp
  have e2:(((hi-lo).toNat:Nat):Int)-((0:Nat):Int)=Builtin.Range.rangeSize lo hi 1:=by rw[rangeSize_one];split <;> omega
  show IsRangeIter _ _ (lo+((0:Nat):Int)*1) ((((hi-lo).toNat:Nat):Int)-((0:Nat):Int)) 1
  rw[e1,e2]
  exact Heap.get?_push_size _ rfl
 ·have e:b=(s.heap.push { cls:=.type "range",data:=.fields #[.int lo t,.int hi u,.int 1 v] }).objs.size:=by simpa using hb
  subst e
  exact I1.fpOk (Nat.le_refl _) (I1.hok.fresh (Nat.le_refl _))
noncomputable def SH (ta:TA):TI:=λσ H R=>ta σ H λvs H1=>∃j:Int,vs=[.int j]/\-(2 ^ 62)<=j/\j<2 ^ 62/\R (Itr 0 j.toNat) H1
theorem FS {a:Expr} {ta:TA} {p pos:Pos} (hg:Gl X "range") (hm:X.mg "range" = none) (ha:PA X [a] ta) (hs:starEach [a] X.env=[(false,eval a X.env)]:=by rfl):PI X tg (.Call (.Name "range" p) [a] [] pos) (SH ta):=by
 intro pins s σ H R I h
 refine Call_ (dZ I hg hm boot_range (PyProof.Rows.callWith_type1 (thn (ha pos pins s σ H _ I h) λus s1 ⟨vs,H1,I1,r1,q1⟩=>?_) hs rfl))
 obtain⟨j,e,q1,q2,q⟩:=q1
 subst e
 cases r1 with
 | cons r rr =>
  cases rr
  obtain⟨t,rfl⟩:=r
  exact call_range_1 (KC I1 (by omega) (by omega) q1 q2 (by simpa using q))
noncomputable def VB (wi:TI) (g:TG) (tb:TS):TS:=λD σ H=>wi σ H λJ H1=>∃W:Nat->Nat->St->Hp->Prop,(∃m,W 0 m σ H1)/\∀i m σ H,W i m σ H ->
 (J.stop i H/\D.nx σ H)\/(J.go i H/\∃N:St->Hp->Prop,(∀σ' H',N σ' H'->∃m',m'<m/\W (i+1) m' σ' H')/\∀x H',J.yld i H x H'->g x σ H' λσ2 H2=>tb { D with nx:=N,ct:=N,bk:=D.nx } σ2 H2)
noncomputable def wF (fp:List Addr) (h:Heap):List (Addr × Obj):=fp.filterMap λb=>(h.get? b).map λo=>(b,o)
theorem fC {fp:List Addr} {h:Heap} {b:Addr} {o:Obj} (hb:b∈fp) (e:h.get? b=some o):(b,o)∈wF fp h:=List.mem_filterMap.mpr ⟨b,hb,by rw[e];rfl⟩
theorem FN {fp:List Addr} {h:Heap} {p:Addr × Obj} (hp:p∈wF fp h):p.1∈fp/\h.get? p.1=some p.2:=by
 obtain⟨b,hb,e⟩:=List.mem_filterMap.mp hp
 cases q:h.get? b with
 | none=>rw[q] at e;cases e
 | some o =>
  rw[q] at e
  have e':(b,o)=p:=Option.some.inj e
  subst e'
  exact⟨hb,q⟩
theorem Inv.pinned {pins:List (Addr × Obj)} {σ:St} {H:Hp} {s:Shared} {fp:List Addr} (I:Inv X pins σ H s) (hf:∀b∈fp,oB X pins H b) (ho:∀b∈fp,∃o,s.heap.get? b=some o/\∀v,o.data≠.cell v):Inv X (pins++wF fp s.heap) σ H s :=
 I.pins_of λp hp=>(List.mem_append.mp hp).elim (λz=>I.pin p (List.mem_append_right _ z)) λz=>by
  obtain⟨hb,e⟩:=FN z
  obtain⟨f0,f1,f2,_⟩:=hf p.1 hb
  obtain⟨o,e',d⟩:=ho p.1 hb
  rw[e] at e';cases e'
  exact⟨e,f0,f1,f2,d⟩
theorem Inv.unpinned {pins pl:List (Addr × Obj)} {σ:St} {H:Hp} {s:Shared} (I:Inv X (pins++pl) σ H s):Inv X pins σ H s:=I.pins_of λp hp=>I.pin p (List.mem_append_right _ (List.mem_append_left _ hp))
theorem QL {iter:Expr} {body:List Stmt} {wi:TI} {g:TG} {tb:TS} {pos:Pos} (hp:PassesOwn (model X.prog X.w) X.A X.env X.xe) (hc:X.calm=true) (hi:PI X tg iter wi) (hg:PG X tg g) (hb:PSs X body tb)
  (hs:∀x,foldedSetIterable iter X.env x=pure x:=by intro _;rfl):PS X (.For tg iter body [] pos) (VB wi g tb):=by
 intro pins s σ H D I h
 refine wpAny_For (thn (hi pins s σ H _ I h) λv s1 h1=>thn h1 λitv s2 h2=>?_) hs
 obtain⟨it,fp,tn,J,H2,e,I2,T,st2,f2,W,⟨m0,w0⟩,turn⟩:=h2
 subst e
 have stat:∀{H':Hp},(∀b∈fp,H' b=none)->∀b∈fp,oB X pins H' b:=λhn b hb=>⟨hn b hb,(f2 b hb).2⟩
 refine codeAny_forLoop_any (λn s'=>∃i σ' H',Inv X pins σ' H' s'/\tn i s'.heap/\(∀b∈fp,H' b=none)/\W i n σ' H') ?_ m0 ⟨0,σ,H2,I2,st2,λb hb=>(f2 b hb).1,w0⟩
 rintro n s3 ⟨i,σ3,H3,I3,st3,fr3,w3⟩
 rcases turn i n σ3 H3 w3 with ⟨stop,qn⟩ | ⟨go,N,hN,step⟩
 ·refine wpAny_passesOwn hp (thn (T.done X rfl rfl rfl hc i pins s3 σ3 H3 X.xe I3 (stat fr3) st3 stop) λr s4 ⟨hr,I4⟩=>?_)
  subst hr
  exact wpAny_execs_nil ⟨σ3,H3,I4,qn⟩
 ·refine wpAny_passesOwn hp (thn (T.item X rfl rfl rfl hc i pins s3 σ3 H3 X.xe I3 (stat fr3) st3 go) λr s4 ⟨u,hr,h4⟩=>?_)
  subst hr
  refine wpAny_passesOwn hp (thn h4 λ_ s5 ⟨x,H5,I5,r5,y5,st5,fr5⟩=>?_)
  have I5':=I5.pinned (stat fr5) (T.obj _ _ st5)
  refine wpAny_passesOwn hp (thn (hg _ s5 σ3 H5 x u _ I5' r5 (step x H5 y5)) λ_ s6 ⟨σ6,H6,I6,q6⟩=>?_)
  refine wpAny_passesOwn hp (thn (hb _ s6 σ6 H6 _ I6 q6) λf s7 q7=>?_)
  have again:∀{σ7:St} {H7:Hp},Inv X (pins++wF fp s5.heap) σ7 H7 s7->N σ7 H7->∃m,m<n/\∃i σ' H',Inv X pins σ' H' s7/\tn i s7.heap/\(∀b∈fp,H' b=none)/\W i m σ' H':=λ{σ7 H7} I7 n7=>by
   obtain⟨m',hm,w7⟩:=hN σ7 H7 n7
   refine⟨m',hm,i+1,σ7,H7,I7.unpinned,T.keep _ _ _ st5 λb hb o e=>(I7.pin (b,o) (List.mem_append_right _ (List.mem_append_right _ (fC hb e)))).1,λb hb=>?_,w7⟩
   obtain⟨o,e,d⟩:=T.obj _ _ st5 b hb
   exact (I7.pin (b,o) (List.mem_append_right _ (List.mem_append_right _ (fC hb e)))).2.1
  cases f with
  | next=>obtain⟨σ7,H7,I7,n7⟩:=q7;exact again I7 n7
  | cont=>obtain⟨σ7,H7,I7,n7⟩:=q7;exact again I7 n7
  | brk=>obtain⟨σ7,H7,I7,q7⟩:=q7;exact⟨σ7,H7,I7.unpinned,q7⟩
  | ret v=>obtain⟨x7,σ7,H7,I7,r7,q7⟩:=q7;exact⟨x7,σ7,H7,I7.unpinned,r7,q7⟩
end
theorem jX {K:PySem.W.Frag} {a:Addr} {xs:List V} {g:TG} {tb:TS} {D:Ends} {σ:St} {H:Hp} (Pv:Nat->St->Hp->Prop) (h0:Pv 0 σ H) (hl:∀i σ H,i<=xs.length->Pv i σ H->SqL K H a xs)
  (hs:∀i x σ H,xs[i]? = some x->Pv i σ H->g x σ H λσ2 H2=>tb { D with nx:=Pv (i+1),ct:=Pv (i+1),bk:=D.nx } σ2 H2) (hd:∀σ H,Pv xs.length σ H->D.nx σ H) :
  ∃W:Nat->Nat->St->Hp->Prop,(∃m,W 0 m σ H)/\∀i m σ H,W i m σ H ->
   ((Itl K a).stop i H/\D.nx σ H)\/((Itl K a).go i H/\∃N:St->Hp->Prop,(∀σ' H',N σ' H'->∃m',m'<m/\W (i+1) m' σ' H')/\∀x H',(Itl K a).yld i H x H'->g x σ H' λσ2 H2=>tb { D with nx:=N,ct:=N,bk:=D.nx } σ2 H2):=by
 refine⟨λi m σ H=>m=xs.length-i/\i<=xs.length/\Pv i σ H,⟨xs.length,by simp,Nat.zero_le _,h0⟩,?_⟩
 rintro i m σ H ⟨rfl,hi,p⟩
 have q:=hl i σ H hi p
 by_cases hlt:i<xs.length
 ·refine .inr ⟨⟨xs,xs[i],q,by simp[hlt]⟩,Pv (i+1),λσ' H' p'=>⟨xs.length-(i+1),by omega,rfl,hlt,p'⟩,λx H' y=>?_⟩
  obtain⟨e,y⟩:=y
  subst e
  exact hs i x σ _ (y xs q) p
 ·have e:i=xs.length:=by omega
  subst e
  exact .inl ⟨⟨xs,q,Nat.le_refl _⟩,hd σ H p⟩
end L2
namespace L2
open PySem PySem.Spec PyProof.Rows
noncomputable abbrev R2:=V->V->Hp->VK->Prop
noncomputable def OpR (X:Cx) (f:Value->Value->Sem Value) (r:R2):Prop :=
 ∀(pins:List (Addr × Obj)) (s:Shared) (σ:St) (H:Hp) (x y:V) (v u:Value) (Q:VK),Inv X pins σ H s->RelV x v->RelV y u->r x y H Q ->
  wpAny (model X.prog X.w) X.A (f v u) (EP X pins σ Q) X.xe s
noncomputable def UnR (X:Cx) (f:Value->Sem Value) (r:V->Hp->VK->Prop):Prop :=
 ∀(pins:List (Addr × Obj)) (s:Shared) (σ:St) (H:Hp) (x:V) (v:Value) (Q:VK),Inv X pins σ H s->RelV x v->r x H Q ->
  wpAny (model X.prog X.w) X.A (f v) (EP X pins σ Q) X.xe s
noncomputable def mQ (X:Cx) (f:Value) (r:List V->Hp->VK->Prop):Prop :=
 ∀(pins:List (Addr × Obj)) (s:Shared) (σ:St) (H:Hp) (xs:List V) (us:List Value) (Q:VK),Inv X pins σ H s->Vals xs us->r xs H Q ->
  wpAny (model X.prog X.w) X.A (call f us) (EP X pins σ Q) X.xe s
noncomputable def tOp (r:R2) (ta tb:TE):TE:=λσ H Q=>ta σ H λx H1=>tb σ H1 λy H2=>r x y H2 Q
noncomputable def tUn (r:V->Hp->VK->Prop) (ta:TE):TE:=λσ H Q=>ta σ H λx H1=>r x H1 Q
noncomputable def rI (C:Int->Int->Prop) (g:Int->Int->V):R2:=λx y H Q=>∃i j,x = .int i/\y = .int j/\C i j/\Q (g i j) H
noncomputable def rI0 (g:Int->Int->V):R2:=λx y H Q=>∃i j,x = .int i/\y = .int j/\Q (g i j) H
noncomputable def rU (g:Int->V):V->Hp->VK->Prop:=λx H Q=>∃i,x = .int i/\Q (g i) H
section
variable {X:Cx} {a b c:Expr} {ta tb tc:TE} {pos:Pos}
theorem OR (ha:PE X a ta) (hb:PE X b tb) {pins:List (Addr × Obj)} {s:Shared} {σ:St} {H:Hp} {R:V->V->Hp->Prop} (I:Inv X pins σ H s)
  (h:ta σ H λx H1=>tb σ H1 λy H2=>R x y H2) {Q:Value->Shared->Prop} {f:Value->Value->Sem Value}
  (hf:∀v u s2 x y H2,Inv X pins σ H2 s2->RelV x v->RelV y u->R x y H2->wpAny (model X.prog X.w) X.A (f v u) Q X.xe s2) :
  wpAny (model X.prog X.w) X.A (eval a X.env) (λv s₁=>wpAny (model X.prog X.w) X.A (eval b X.env) (λu s₂=>wpAny (model X.prog X.w) X.A (f v u) Q X.xe s₂) X.xe s₁) X.xe s:=by
 refine thn (ha pins s σ H _ I h) λv s1 ⟨x,H1,I1,r1,q1⟩=>?_
 refine thn (hb pins s1 σ H1 _ I1 q1) λu s2 ⟨y,H2,I2,r2,q2⟩=>?_
 exact hf v u s2 x y H2 I2 r1 r2 q2
theorem TC {op:Operator} {r:R2} (ho:OpR X (binaryOp op) r) (ha:PE X a ta) (hb:PE X b tb):PE X (.BinOp a op b pos) (tOp r ta tb):=by
 intro pins s σ H Q I h
 exact wpAny_BinOp (OR ha hb I h λv u s2 x y H2 I2 rx ry q=>ho pins s2 σ H2 x y v u Q I2 rx ry q)
theorem TD {op:UnaryOp} {r:V->Hp->VK->Prop} (ho:UnR X (unaryOp op) r) (ha:PE X a ta):PE X (.UnaryOp op a pos) (tUn r ta):=by
 intro pins s σ H Q I h
 exact UnaryOp_ (thn (ha pins s σ H _ I h) λv s1 ⟨x,H1,I1,r1,q1⟩=>ho pins s1 σ H1 x v Q I1 r1 q1)
theorem opI {f:Value->Value->Sem Value} {C:Int->Int->Prop} {g:Int->Int->Int}
  (rule:∀(i j:Int) (t u:Tok) (s:Shared) (Q:Value->Shared->Prop) (E:Value->Shared->Prop),C i j->Q (.int (g i j) s.toks) { s with toks:=s.toks+1 }->wpAny (model X.prog X.w) X.A (f (.int i t) (.int j u)) Q E s) :
  OpR X f (rI C λi j=>.int (g i j)):=by
 intro pins s σ H x y v u Q I rx ry h
 obtain⟨i,j,rfl,rfl,hc,q⟩:=h
 obtain⟨t,rfl⟩:=rx
 obtain⟨t',rfl⟩:=ry
 exact rule i j t t' s _ _ hc ⟨.int (g i j),H,I.tok _,⟨_,rfl⟩,q⟩
theorem PZ {f:Value->Value->Sem Value} {g:Int->Int->Bool}
  (rule:∀(i j:Int) (t u:Tok) (s:Shared) (Q:Value->Shared->Prop) (E:Value->Shared->Prop),Q (.bool (g i j)) s->wpAny (model X.prog X.w) X.A (f (.int i t) (.int j u)) Q E s) :
  OpR X f (rI0 λi j=>.bl (g i j)):=by
 intro pins s σ H x y v u Q I rx ry h
 obtain⟨i,j,rfl,rfl,q⟩:=h
 obtain⟨t,rfl⟩:=rx
 obtain⟨t',rfl⟩:=ry
 exact rule i j t t' s _ _ ⟨.bl (g i j),H,I,rfl,q⟩
noncomputable def CMul (i j:Int):Prop:=(-(2 ^ 64)<i/\i<2 ^ 64)\/(-(2 ^ 64)<j/\j<2 ^ 64)
theorem CMul.ok {i j:Int} (h:CMul i j):IntMulOk i j:=by
 rcases h with ⟨h1,h2⟩ | ⟨h1,h2⟩
 ·exact .of_left (intBits_le_64 h1 h2)
 ·exact .of_right (intBits_le_64 h1 h2)
theorem unI {f:Value->Sem Value} {g:Int->Int}
  (rule:∀(i:Int) (t:Tok) (s:Shared) (Q:Value->Shared->Prop) (E:Value->Shared->Prop),Q (.int (g i) s.toks) { s with toks:=s.toks+1 }->wpAny (model X.prog X.w) X.A (f (.int i t)) Q E s) :
  UnR X f (rU λi=>.int (g i)):=by
 intro pins s σ H x v Q I rx h
 obtain⟨i,rfl,q⟩:=h
 obtain⟨t,rfl⟩:=rx
 exact rule i t s _ _ ⟨.int (g i),H,I.tok _,⟨_,rfl⟩,q⟩
theorem RN:UnR X (unaryOp .USub) (rU λi=>.int (-i)):=unI λ_ _ _ _ _ q=>neg_int q
end
noncomputable def TU:V->V->Bool
 | .non,.non=>true | .non,.int _=>true | .int _,.non=>true | .non,.bl _=>true | .bl _,.non=>true | .non,.str _=>true | .str _,.non=>true
 | .int _,.int _=>true | .bl _,.bl _=>true | .str _,.str _=>true | .byt _,.byt _=>true
 | .int _,.str _=>true | .str _,.int _=>true | .bl _,.str _=>true | .str _,.bl _=>true
 | _,_=>false
noncomputable def rEq:R2:=λx y H Q=>TU x y=true/\Q (.bl (decide (x=y))) H
noncomputable def rNe:R2:=λx y H Q=>TU x y=true/\Q (.bl (!decide (x=y))) H
theorem CL {i j:Int}:decide (V.int i=V.int j)=(i == j):=by
 rw[Bool.eq_iff_iff]
 simp
theorem HQ {i j:Bool}:decide (V.bl i=V.bl j)=(i == j):=by
 rw[Bool.eq_iff_iff]
 simp
theorem CM {i j:Str}:decide (V.str i=V.str j)=(i == j):=by
 rw[Bool.eq_iff_iff]
 simp
theorem CK {i j:Array UInt8}:decide (V.byt i=V.byt j)=(i.toList == j.toList):=by
 rw[Bool.eq_iff_iff]
 cases i
 cases j
 simp
section
variable {X:Cx} {a b c:Expr} {ta tb tc:TE} {pos:Pos}
theorem bG {pins:List (Addr × Obj)} {σ:St} {H:Hp} {s:Shared} {Q:VK} {k k':Bool} (I:Inv X pins σ H s) (q:Q (.bl k) H) (e:k=k'):EP X pins σ Q (.bool k') s:=by
 subst e
 exact⟨.bl k,H,I,rfl,q⟩
theorem OE:OpR X (compareOp .Eq) rEq:=by
 intro pins s σ H x y v u Q I rx ry h
 obtain⟨hs,q⟩:=h
 cases x with
 | non =>
  cases rx
  cases y with
  | non=>cases ry;exact PySem.EqNone.eq_none_none (bG I q (by simp))
  | bl j=>cases ry;exact PySem.EqNone.eq_none_bool (bG I q (by simp))
  | int j=>obtain⟨t',rfl⟩:=ry;exact PySem.EqNone.eq_none_int (bG I q (by simp))
  | str j=>obtain⟨t',rfl⟩:=ry;exact PySem.EqNone.eq_none_str (bG I q (by simp))
  | _=>exact absurd (show false=true from hs) Bool.false_ne_true
 | bl i =>
  cases rx
  cases y with
  | non=>cases ry;exact PySem.EqNone.eq_bool_none (bG I q (by simp))
  | bl j=>cases ry;exact eq_bool (bG I q HQ)
  | str j=>obtain⟨t',rfl⟩:=ry;exact PySem.EqMixed.eq_bool_str (bG I q (by simp))
  | _=>exact absurd (show false=true from hs) Bool.false_ne_true
 | int i =>
  obtain⟨t,rfl⟩:=rx
  cases y with
  | non=>cases ry;exact PySem.EqNone.eq_int_none (bG I q (by simp))
  | int j=>obtain⟨t',rfl⟩:=ry;exact eq_int (bG I q CL)
  | str j=>obtain⟨t',rfl⟩:=ry;exact PySem.EqMixed.eq_int_str (bG I q (by simp))
  | _=>exact absurd (show false=true from hs) Bool.false_ne_true
 | str i =>
  obtain⟨t,rfl⟩:=rx
  cases y with
  | non=>cases ry;exact PySem.EqNone.eq_str_none (bG I q (by simp))
  | bl j=>cases ry;exact PySem.EqMixed.eq_str_bool (bG I q (by simp))
  | int j=>obtain⟨t',rfl⟩:=ry;exact PySem.EqMixed.eq_str_int (bG I q (by simp))
  | str j=>obtain⟨t',rfl⟩:=ry;exact eq_str (bG I q CM)
  | _=>exact absurd (show false=true from hs) Bool.false_ne_true
 | byt i =>
  obtain⟨t,rfl⟩:=rx
  cases y with
  | byt j=>obtain⟨t',rfl⟩:=ry;exact PySem.W.eq_bytes (bG I q CK)
  | _=>exact absurd (show false=true from hs) Bool.false_ne_true
 | _=>cases y <;> exact absurd (show false=true from hs) Bool.false_ne_true
theorem OF:OpR X (compareOp .NotEq) rNe:=by
 intro pins s σ H x y v u Q I rx ry h
 obtain⟨hs,q⟩:=h
 cases x with
 | non =>
  cases rx
  cases y with
  | non=>cases ry;exact PySem.EqNone.ne_none_none (bG I q (by simp))
  | bl j=>cases ry;exact PySem.EqNone.ne_none_bool (bG I q (by simp))
  | int j=>obtain⟨t',rfl⟩:=ry;exact PySem.EqNone.ne_none_int (bG I q (by simp))
  | str j=>obtain⟨t',rfl⟩:=ry;exact PySem.EqNone.ne_none_str (bG I q (by simp))
  | _=>exact absurd (show false=true from hs) Bool.false_ne_true
 | bl i =>
  cases rx
  cases y with
  | non=>cases ry;exact PySem.EqNone.ne_bool_none (bG I q (by simp))
  | bl j=>cases ry;exact ne_bool (bG I q (congrArg not HQ))
  | str j=>obtain⟨t',rfl⟩:=ry;exact PySem.EqMixed.ne_bool_str (bG I q (by simp))
  | _=>exact absurd (show false=true from hs) Bool.false_ne_true
 | int i =>
  obtain⟨t,rfl⟩:=rx
  cases y with
  | non=>cases ry;exact PySem.EqNone.ne_int_none (bG I q (by simp))
  | int j=>obtain⟨t',rfl⟩:=ry;exact ne_int (bG I q (congrArg not CL))
  | str j=>obtain⟨t',rfl⟩:=ry;exact PySem.EqMixed.ne_int_str (bG I q (by simp))
  | _=>exact absurd (show false=true from hs) Bool.false_ne_true
 | str i =>
  obtain⟨t,rfl⟩:=rx
  cases y with
  | non=>cases ry;exact PySem.EqNone.ne_str_none (bG I q (by simp))
  | bl j=>cases ry;exact PySem.EqMixed.ne_str_bool (bG I q (by simp))
  | int j=>obtain⟨t',rfl⟩:=ry;exact PySem.EqMixed.ne_str_int (bG I q (by simp))
  | str j=>obtain⟨t',rfl⟩:=ry;exact ne_str (bG I q (congrArg not CM))
  | _=>exact absurd (show false=true from hs) Bool.false_ne_true
 | byt i =>
  obtain⟨t,rfl⟩:=rx
  cases y with
  | byt j=>obtain⟨t',rfl⟩:=ry;exact PySem.W.ne_bytes (bG I q (congrArg not CK))
  | _=>exact absurd (show false=true from hs) Bool.false_ne_true
 | _=>cases y <;> exact absurd (show false=true from hs) Bool.false_ne_true
theorem SX:OpR X (compareOp .Lt) (rI0 λi j=>.bl (decide (i<j))):=PZ λ_ _ _ _ _ _ _ q=>lt_int q
theorem SW:OpR X (compareOp .Gt) (rI0 λi j=>.bl (decide (j<i))):=PZ λ_ _ _ _ _ _ _ q=>gt_int q
theorem SV:OpR X (compareOp .GtE) (rI0 λi j=>.bl (decide (j<=i))):=PZ λ_ _ _ _ _ _ _ q=>ge_int q
theorem JD (b:Expr) {op:CmpOp} (h:op≠.In:=by decide) (h2:op≠.NotIn:=by decide):behindInMarks op b=false:=by
 have e1:(op == CmpOp.In)=false:=by cases op <;> first | rfl | exact absurd rfl h
 have e2:(op == CmpOp.NotIn)=false:=by cases op <;> first | rfl | exact absurd rfl h2
 cases b <;> simp[behindInMarks,e1,e2]
theorem MS {op:CmpOp} {r:R2} (ho:OpR X (compareOp op) r) (ha:PE X a ta) (hb:PE X b tb) (hm:behindInMarks op b=false):PE X (.Compare a [op] [b] pos) (tOp r ta tb):=by
 intro pins s σ H Q I h
 exact wpAny_Compare1 (OR ha hb I h λv u s2 x y H2 I2 rx ry q=>ho pins s2 σ H2 x y v u Q I2 rx ry q) hm
noncomputable def UG (t:TE):TT:=λσ H Q=>t σ H λx H'=>∃k,x = .bl k/\Q k H'
theorem NB {op:CmpOp} {r:R2} (ho:OpR X (compareOp op) r) (ha:PE X a ta) (hb:PE X b tb) (hm:behindInMarks op b=false):PT X (.Compare a [op] [b] pos) (UG (tOp r ta tb)):=by
 intro pins s σ H Q I h
 refine wpAny_isTrue_Compare1 (thn (ha pins s σ H _ I h) λv s1 ⟨x,H1,I1,r1,q1⟩=>thn (hb pins s1 σ H1 _ I1 q1) λu s2 ⟨y,H2,I2,r2,q2⟩ =>
  thn (ho pins s2 σ H2 x y v u _ I2 r1 r2 q2) λc s3 ⟨z,H3,I3,r3,k,e,q3⟩=>?_) hm
 subst e
 cases r3
 exact wpAny_truthy_bool ⟨H3,I3,q3⟩
theorem rZ:(sizeLine:Nat)<2 ^ 63:=by rw[sizeLine_eq];decide
theorem lU {x:V} {us:List Value} (r:Vals [x] us):∃u,us=[u]/\RelV x u:=by
 cases r with
 | cons r1 r2=>cases r2;exact⟨_,rfl,r1⟩
theorem DR {x y:V} {us:List Value} (r:Vals [x,y] us):∃u w',us=[u,w']/\RelV x u/\RelV y w':=by
 cases r with
 | cons r1 r2 =>
  cases r2 with
  | cons r3 r4=>cases r4;exact⟨_,_,rfl,r1,r3⟩
theorem HD:mQ X (.builtin "abs") (λxs H Q=>∃i,xs=[.int i]/\Q (.int (if i<0 then -i else i)) H):=by
 intro pins s σ H xs us Q I r h
 obtain⟨i,rfl,q⟩:=h
 obtain⟨u,rfl,t,rfl⟩:=lU r
 exact call_abs_int λu tk=>⟨.int (if i<0 then -i else i),H,I.tok _,⟨_,rfl⟩,q⟩
theorem EF (hc:X.calm=true):mQ X (.builtin "max") (λxs H Q=>∃i j,xs=[.int i,.int j]/\Q (.int (if j > i then j else i)) H):=by
 intro pins s σ H xs us Q I r h
 obtain⟨i,j,rfl,q⟩:=h
 obtain⟨u,w',rfl,⟨t,rfl⟩,⟨t',rfl⟩⟩:=DR r
 refine max_two_ints (I.ok.hd hc) λh' tk k=>⟨_,H,I.kept k,?_,q⟩
 by_cases hj:j > i
 ·rw[if_pos hj,if_pos hj];exact⟨_,rfl⟩
 ·rw[if_neg hj,if_neg hj];exact⟨_,rfl⟩
theorem EG (hc:X.calm=true):mQ X (.builtin "min") (λxs H Q=>∃i j,xs=[.int i,.int j]/\Q (.int (if j<i then j else i)) H):=by
 intro pins s σ H xs us Q I r h
 obtain⟨i,j,rfl,q⟩:=h
 obtain⟨u,w',rfl,⟨t,rfl⟩,⟨t',rfl⟩⟩:=DR r
 refine min_two_ints (I.ok.hd hc) λh' tk k=>⟨_,H,I.kept k,?_,q⟩
 by_cases hj:j<i
 ·rw[if_pos hj,if_pos hj];exact⟨_,rfl⟩
 ·rw[if_neg hj,if_neg hj];exact⟨_,rfl⟩
end
end L2
namespace L2
open PySem PySem.Spec PyProof.Rows
structure ObjM (h:Heap) (x dx C:Addr) (mA:Str->Option Value):Prop where
 obj:h.get? x=some (PySem.W.instObj C dx)
 ns:h.Ns1 dx mA
 ne:dx≠x
theorem FJ {h:Heap} {dx:Addr} {mA:Str->Option Value} (n:h.Ns1 dx mA):∃od,h.get? dx=some od/\∀name,PySem.W.lookIn name od=some (mA name):=by
 obtain⟨o,es,ep,ho,hd,hk,_,hm⟩:=n
 refine⟨o,ho,λname=>?_⟩
 have e:=hm name
 unfold nsFind findBy at e
 rw[<-Array.find?_toList] at e
 unfold PySem.W.lookIn
 rw[hd]
 dsimp only
 split
 ·rename_i y q
  rw[q] at e
  exact congrArg some e
 ·rename_i q
  rw[q] at e
  have a:es.toList.any (·.refKey)=false:=by
   rw[List.any_eq_false]
   intro y hy
   obtain⟨z,t,hkey⟩:=hk y (Array.mem_toList_iff.mp hy)
   simp[DictEntry.refKey,hkey]
  have a':¬es.toList.any (·.refKey)=true:=by rw[a];exact Bool.false_ne_true
  rw[if_neg a']
  exact congrArg some e
theorem ObjM.look {h:Heap} {x dx C:Addr} {mA:Str->Option Value} (I:ObjM h x dx C mA):∃od,PySem.W.InstAt h x (PySem.W.instObj C dx) C (some od)/\∀name,PySem.W.lookIn name od=some (mA name) :=
 let ⟨od,ho,hl⟩:=FJ I.ns
 ⟨od,⟨I.obj,rfl,rfl,ho⟩,hl⟩
section
variable {prog:Program} {w:World} {A:Around} {E:Value->Shared->Prop} {s:Shared} {K:PySem.W.Frag} {x dx C f:Addr} {mA:Str->Option Value} {name:Str} {v:Value}
end
theorem RelO.some_of {v:V} {o:Option Value} (r:RelO (some v) o):∃u,o=some u/\RelV v u:=by
 cases o with
 | none=>exact (show False from r).elim
 | some u=>exact⟨u,rfl,r⟩
section
variable {P:Program} {w:World} {H H':Hp} {h h':Heap} {a C dx:Addr} {fs fs':List (Str × V)}
theorem LU (hok:HOk P w H h) (e:H a=some (.ins C dx fs)):∃mA,ObjM h a dx C mA/\(∀f,RelO (fs.lookup f) (mA f))/\PySem.Within mA (fs.map (·.1))/\fs.length<=1000/\H dx=some (.own a):=by
 obtain⟨d,z,ne,ob,mA,n,r,q⟩:=(show ObjOk P w H h a (.ins C dx fs) from hok a _ e)
 exact⟨mA,⟨ob,n,ne⟩,r,q,z,d⟩
end
structure Cls (K:PySem.W.Frag) (C:Addr):Prop where
 pg:PySem.W.plainGet K C Str.empty=true
 hd:PySem.W.hasDictIn K C=true
 po:PySem.W.plainOver K C=true
 sa:PySem.W.findIn K (.ref C) "__setattr__" = some (some (.builtin "object.__setattr__"))
theorem Cls.get {K:PySem.W.Frag} {C:Addr} (c:Cls K C) (f:Str):PySem.W.plainGet K C f=true:=c.pg
section
variable {X:Cx} {pins:List (Addr × Obj)} {σ:St} {H:Hp} {s:Shared} {a C dx:Addr} {fs:List (Str × V)} {f:Str} {v:V} {A:Around} {E:Value->Shared->Prop}
end
section
variable {X:Cx} {o e value:Expr} {f:Str} {pos pos' tpos:Pos} {ta tv:TE}
end
section
variable {X:Cx} {pins:List (Addr × Obj)} {σ:St} {H:Hp} {s:Shared} {A:Around} {E:Value->Shared->Prop} {Q:Value->Shared->Prop} {c:Value} {b:Bool}
inductive TyOf (K:PySem.W.Frag) (H:Hp):V->Value->Prop where
 | non:TyOf K H .non (.type "NoneType")
 | bl (x:Bool):TyOf K H (.bl x) (.type "bool")
 | int (i:Int):TyOf K H (.int i) (.type "int")
 | str (x:Str):TyOf K H (.str x) (.type "str")
 | flt (x:UInt64):TyOf K H (.flt x) (.type "float")
 | lst {a:Addr} {xs:List V} (e:H a=some (.lst xs)):TyOf K H (.ref a) (.type "list")
 | frz {a:Addr} {o:Obj} {xs:List V} (e:H a=some (.frz o (.lst xs))):TyOf K H (.ref a) (.type "list")
 | tup {a:Addr} {xs:List V} (e:H a=some (.tup xs)):TyOf K H (.ref a) (.type "tuple")
 | dK {a:Addr} {kvs:List (Key × V)} (e:H a=some (.dK kvs)):TyOf K H (.ref a) (.type "dict")
 | dT {a:Addr} {kvs:List (List Key × V)} (e:H a=some (.dT kvs)):TyOf K H (.ref a) (.type "dict")
 | ins {a C dx:Addr} {fs:List (Str × V)} (e:H a=some (.ins C dx fs)) (cl:Cls K C) (ha:PySem.W.findIn K (.ref C) "__class__" = some (some (.builtin "object.__class__")))
   (hn:PySem.W.specialIn K (.builtin "object.__class__") "__get__" = some (some (.builtin "getset_descriptor.__get__"))) (htk:PySem.W.takesIn K (.builtin "object.__class__")=some true)
   (hm:PySem.W.mroIn K C (.type "object")=some true):TyOf K H (.ref a) (.ref C)
theorem EW {x:V} {u t:Value} (I:Inv X pins σ H s) (rx:RelV x u) (ty:TyOf X.K H x t) (e:PySem.W.kitOne X.K t c=some b) (h:∀tk,Q (.bool b) { s with toks:=tk }) :
  wpAny (model X.prog X.w) A (call (.builtin "isinstance") [u,c]) Q E s:=by
 cases ty with
 | non=>cases (show u=Value.none from rx);exact PySem.W.kia_one PySem.W.kitx_none I.kIn True.intro e (λz=>nomatch z) h
 | bl y=>cases (show u=Value.bool y from rx);exact PySem.W.kia_one PySem.W.kitx_bool I.kIn True.intro e (λz=>nomatch z) h
 | int i=>obtain⟨t,q⟩:=(show ∃t,u=Value.int i t from rx);cases q;exact PySem.W.kia_one PySem.W.kitx_int I.kIn True.intro e (λz=>nomatch z) h
 | str y=>obtain⟨t,q⟩:=(show ∃t,u=Value.str y t from rx);cases q;exact PySem.W.kia_one PySem.W.kitx_str I.kIn True.intro e (λz=>nomatch z) h
 | flt y=>obtain⟨t,q⟩:=(show ∃t,u=Value.float y t from rx);cases q;exact PySem.W.kia_one PySem.W.kitx_float I.kIn True.intro e (λz=>nomatch z) h
 | @lst a xs ea =>
  cases (show u=Value.ref a from rx)
  obtain⟨_,_,n,_,h1⟩:=(show ObjOk X.prog X.w H s.heap a (.lst xs) from I.hok a _ ea)
  exact PySem.W.kia_one PySem.W.kitx_list I.kIn ⟨_,h1,rfl⟩ e (λz=>nomatch z) h
 | @frz a ob xs ea =>
  cases (show u=Value.ref a from rx)
  obtain⟨_,_,_,n,_,h1⟩:=(show ObjOk X.prog X.w H s.heap a (.frz ob (.lst xs)) from I.hok a _ ea)
  exact PySem.W.kia_one PySem.W.kitx_list I.kIn ⟨_,h1,rfl⟩ e (λz=>nomatch z) h
 | @tup a xs ea =>
  cases (show u=Value.ref a from rx)
  obtain⟨_,_,_,p⟩:=(show ObjOk X.prog X.w H s.heap a (.tup xs) from I.hok a _ ea)
  obtain⟨o,h1,h2,_⟩:=p
  exact PySem.W.kia_one PySem.W.kitx_tuple I.kIn ⟨o,h1,h2⟩ e (λz=>nomatch z) h
 | @dK a kvs ea =>
  cases (show u=Value.ref a from rx)
  obtain⟨_,_,vs,_,p⟩:=(show ObjOk X.prog X.w H s.heap a (.dK kvs) from I.hok a _ ea)
  obtain⟨o,es,ep,h1,h2,_⟩:=p
  exact PySem.W.kia_one PySem.W.kitx_dict I.kIn ⟨o,h1,h2.1⟩ e (λz=>nomatch z) h
 | @dT a kvs ea =>
  cases (show u=Value.ref a from rx)
  obtain⟨_,_,xs,_,o,es,ep,h1,h2,_⟩:=(show ObjOk X.prog X.w H s.heap a (.dT kvs) from I.hok a _ ea)
  exact PySem.W.kia_one PySem.W.kitx_dict I.kIn ⟨o,h1,h2.1⟩ e (λz=>nomatch z) h
 | @ins a C dx fs ea cl ha hn htk hm =>
  cases (show u=Value.ref a from rx)
  obtain⟨mA,O,_⟩:=LU I.hok ea
  obtain⟨od,J,_⟩:=O.look
  exact PySem.W.kia_one (PySem.W.kitx_own (cl.get _) cl.hd ha hn htk hm) I.kIn J e (λz=>nomatch z) h
end
end L2
namespace L2
open PySem PySem.Spec PyProof.Rows
structure Room (k:Nat) (A:Around):Prop where
 hd:A.handled=none
 dp:A.depth+3*k+5<recursionLimit
 un:A.units+16*k+200<cLine
theorem Room.mono {j k:Nat} {A:Around} (r:Room k A) (h:j<=k):Room j A:=⟨r.hd,by have:=r.dp;omega,by have:=r.un;omega⟩
theorem Room.deeper {k:Nat} {A:Around} (r:Room (k+1) A) (env:Env):Room k (A.deeper env) :=
 ⟨r.hd,by have:=r.dp;show A.depth+1+3*k+5<_;omega,by have:=r.un;show A.units+3+16*k+200<_;omega⟩
theorem Room.in1 {k:Nat} {A:Around} (r:Room (k+1) A):Room k A.in1 :=
 ⟨r.hd,by have:=r.dp;show A.depth+3*k+5<_;omega,by have:=r.un;show A.units+1+16*k+200<_;omega⟩
theorem Room.depth {k:Nat} {A:Around} (r:Room k A):A.depth<recursionLimit:=by have:=r.dp;omega
noncomputable def VE:TA:=λ_ H Q=>Q [] H
noncomputable def UA (ta:TE) (tr:TA):TA:=λσ H Q=>ta σ H λx H1=>tr σ H1 λxs H2=>Q (x::xs) H2
section
variable {X:Cx} {e:Expr} {es:List Expr} {te:TE} {t:TA} {pos:Pos}
theorem oU:PA X [] VE:=λ_ _ _ _ H Q I h=>Calls.spliced_nil ⟨[],H,I,.nil,h⟩
theorem gY (ha:PE X e te) (hr:PA X es t) (hs:starEach (e::es) X.env=(false,eval e X.env)::starEach es X.env:=by rfl):PA X (e::es) (UA te t):=by
 intro pos pins s σ H Q I h
 rw[hs]
 show wpAny _ _ (spliced ((false,eval e X.env)::backTo pos (starEach es X.env))) _ _ s
 refine Calls.spliced_cons (thn (ha pins s σ H _ I h) λu s1 ⟨x,H1,I1,r1,q1⟩=>?_)
 exact thn (hr pos pins s1 σ H1 _ I1 q1) λus s2 ⟨xs,H2,I2,r2,q2⟩=>⟨x::xs,H2,I2,.cons r1 r2,q2⟩
noncomputable def VJ (t:TA):TE:=λσ H Q=>t σ H λxs H1=>xs.length<=sizeLine/\∀p,H1 p=none->Q (.ref p) (upd H1 p (.tup xs))
noncomputable def VD (t:TA):TE:=λσ H Q=>t σ H λxs H1=>xs.length<=sizeLine/\∀p,H1 p=none->Q (.ref p) (upd H1 p (.lst xs))
theorem QF {x1} (h:PA X es t):PE X (.Tuple es x1 pos) (VJ t):=by
 intro pins s σ H Q I hq
 refine wpAny_Tuple_spliced (thn (h pos pins s σ H _ I hq) λus s1 ⟨xs,H1,I1,r,z,q⟩=>⟨by rw[<-r.length];exact z,?_⟩)
 have hf:H1 s1.heap.objs.size=none:=I1.hok.fresh (Nat.le_refl _)
 refine⟨.ref s1.heap.objs.size,upd H1 s1.heap.objs.size (.tup xs),I1.laid (t':=s1.toks) (λb u e=>Heap.get?_push_of_some _ e) (Nat.le_refl _) ?_,rfl,q _ hf⟩
 exact⟨z,us,r,⟨_,Heap.get?_push_size _ rfl,rfl,_,rfl⟩⟩
theorem JM (h:PA X es t):PE X (.List es pos) (VD t):=by
 intro pins s σ H Q I hq
 refine wpAny_List_spliced (thn (h pos pins s σ H _ I hq) λus s1 ⟨xs,H1,I1,r,z,q⟩=>⟨by rw[<-r.length];exact z,?_⟩)
 have hf:H1 s1.heap.objs.size=none:=I1.hok.fresh (Nat.le_refl _)
 refine⟨.ref s1.heap.objs.size,upd H1 s1.heap.objs.size (.lst xs),I1.laid (t':=s1.toks) (λb u e=>Heap.get?_push_of_some _ e) (Nat.le_refl _) ?_,rfl,q _ hf⟩
 exact⟨z,us,0,r,Heap.get?_push_size _ rfl⟩
end
noncomputable abbrev Sp:=List V->Hp->VK->XK->Prop
noncomputable abbrev CXT:=List Env->Hp->Shared->XK->Value->Shared->Prop
structure Env0 (P:Program) (w:World) (K:PySem.W.Frag) (mg:Str->Option Value) (base:Heap) (A:Around) (outer:List Env) (s:Shared) (H:Hp):Prop where
 frames:A.frames=some outer
 mod:Mod K mg base
 bs:∀b o,base.get? b=some o->s.heap.get? b=some o/\H b=none
 bsz:base.objs.size<=s.heap.objs.size
 funs:s.heap.FunFrames base outer
 frf:∀b∈frs outer,H b=none
 hok:HOk P w H s.heap
 bare:AllBare s.gens
noncomputable def CE (outer:List Env) (P:Program) (w:World) (H:Hp) (s:Shared) (Q:VK) (u:Value) (s':Shared):Prop :=
 ∃v H',s'.os=s.os/\AllBare s'.gens/\Un (frs outer) [] H H' s.heap s'.heap/\HOk P w H' s'.heap/\RelV v u/\Q v H'
noncomputable def CR (CX:CXT) (outer:List Env) (P:Program) (w:World) (H:Hp) (s:Shared) (Q:VK) (E:XK) (r:Result) (s':Shared):Prop :=
 match r with
 | .ok (.ret u)=>CE outer P w H s Q u s'
 | .ok _=>False
 | .error e=>CX outer H s E e s'
structure FnOk (P:Program) (w:World) (K:PySem.W.Frag) (mg:Str->Option Value) (base:Heap) (CX:CXT) (k:Nat) (f:Addr) (fd:FuncData) (ps:List Str) (sp:Sp):Prop where
 len:∀vs H Q E,sp vs H Q E->vs.length=ps.length
 run:∀(A:Around) (outer:List Env) (s:Shared) (H:Hp) (args:Args) (us:List Value) (vs:List V) (Q:VK) (E:XK),Room k A->Env0 P w K mg base A outer s H->BindsTo s fd args (ps.zip us)->Vals vs us->sp vs H Q E ->
  codeAny (model P w) A (.call (.ref f) args) (CR CX outer P w H s Q E) s
theorem FnOk.mono {P:Program} {w:World} {K:PySem.W.Frag} {mg:Str->Option Value} {base:Heap} {CX:CXT} {j k:Nat} {f:Addr} {fd:FuncData} {ps:List Str} {sp:Sp} (F:FnOk P w K mg base CX j f fd ps sp) (h:j<=k) :
  FnOk P w K mg base CX k f fd ps sp:=⟨F.len,λA outer s H args us vs Q E hr=>F.run A outer s H args us vs Q E (hr.mono h)⟩
section
variable {X:Cx} {pins:List (Addr × Obj)} {σ:St} {H:Hp} {s s':Shared}
theorem Inv.env0 (I:Inv X pins σ H s):Env0 X.prog X.w X.K X.mg X.base X.A X.stack s H :=
 ⟨I.ok.frames,I.ok.mod,I.bs,Nat.le_trans I.ok.bsz I.sz,I.stack,I.stkFree,I.hok,I.bare⟩
theorem Inv.after {Q:VK} {u:Value} (I:Inv X pins σ H s) (h:CE X.stack X.prog X.w H s Q u s'):EP X pins σ Q u s':=by
 obtain⟨v,H',os,bare,un,hok,r,q⟩:=h
 obtain⟨hh,g,d,t,os'⟩:=s'
 obtain rfl:os'=s.os:=os
 exact⟨v,H',I.call (h':=hh) (g':=g) (d':=d) (t':=t) (ch:=[]) un hok bare (λb z=>absurd z (by simp)),r,q⟩
end
noncomputable def TZ (sp:Sp) (dvs:List V) (E:XK) (t:TA):TE:=λσ H Q=>t σ H λvs H1=>sp (vs++dvs) H1 Q E
noncomputable def Binds (K:PySem.W.Frag) (fd:FuncData) (ps:List Str) (ds:List Value):Prop :=
 ∀(s:Shared) (us:List Value),K.In s.heap->(us++ds).length=ps.length->BindsTo s fd ⟨us,[]⟩ (ps.zip (us++ds))
theorem Binds.all {K:PySem.W.Frag} {fd:FuncData} {ps:List Str} (h:∀us:List Value,us.length=ps.length->bindArgs fd ⟨us,[]⟩=pure (ps.zip us)):Binds K fd ps []:=λs us _ hl=>by
 rw[List.append_nil] at hl ⊢
 exact .of_eq (h us hl)
noncomputable def AB (CX:CXT) (X:Cx) (E:XK):Prop:=∀(pins:List (Addr × Obj)) (σ:St) (H:Hp) (s:Shared) (e:Value) (s':Shared),Inv X pins σ H s->CX X.stack H s E e s'->X.xe e s'
section
variable {X:Cx} {CX:CXT} {k:Nat} {f C:Addr} {fd:FuncData} {ps:List Str} {sp:Sp} {dvs:List V} {ds:List Value} {E:XK} {x m:Str} {p pos apos:Pos} {e o:Expr} {es:List Expr} {ta:TE} {t:TA}
theorem QW {pins:List (Addr × Obj)} {σ:St} {H:Hp} {s:Shared} {Q:VK} {us:List Value} {vs:List V} (F:FnOk X.prog X.w X.K X.mg X.base CX k f fd ps sp) (hr:Room k X.A) (hb:Binds X.K fd ps ds) (hd:Vals dvs ds) (hx:AB CX X E)
  (I:Inv X pins σ H s) (r:Vals vs us) (h:sp (vs++dvs) H Q E):wpAny (model X.prog X.w) X.A (call (.ref f) us) (EP X pins σ Q) X.xe s:=by
 have r2:Vals (vs++dvs) (us++ds):=r.append hd
 have hl:(us++ds).length=ps.length:=by rw[<-r2.length];exact F.len _ _ _ _ h
 refine wpAny_call (codeAny_mono (F.run X.A X.stack s H ⟨us,[]⟩ (us++ds) (vs++dvs) Q E hr I.env0 (hb s us I.kIn hl) r2 h) λr s' hq=>?_)
 cases r with
 | error e=>exact hx pins σ H s e s' I hq
 | ok fl =>
  cases fl with
  | ret u=>exact I.after hq
  | next=>exact False.elim hq
  | brk=>exact False.elim hq
  | cont=>exact False.elim hq
theorem MR (F:FnOk X.prog X.w X.K X.mg X.base CX k f fd ps sp) (hr:Room k X.A) (hg:Gl X x) (hm:X.mg x=some (.ref f)) (hk:PySem.W.keepIn X.K (.ref f)=true) (hb:Binds X.K fd ps ds) (hd:Vals dvs ds) (hx:AB CX X E)
  (ha:PA X (e::es) t) (hdb:(x == ("__debug__":Str))=false:=by decide) (he:starEach (e::es) X.env=(false,eval e X.env)::starEach es X.env:=by rfl) (hpl:(backTo pos (starEach es X.env)).any (·.1)=false:=by rfl) :
  PE X (.Call (.Name x p) (e::es) [] pos) (TZ sp dvs E t):=by
 intro pins s σ H Q I h
 refine wpAny_Call_Name_kw (MB I hg hm ?_ hdb)
 refine PySem.W.callWith_K (h₀:=X.base) I.ok.mod.kin hk (thn (ha pos pins s σ H _ I h) λus s1 ⟨vs,H1,I1,r,q⟩=>⟨I1.kIn,?_⟩) he hpl
 exact QW F hr hb hd hx I1 r q
end
section
variable {X:Cx} {CX:CXT} {k:Nat} {f C:Addr} {fd:FuncData} {ps ks:List Str} {sp:Sp} {E:XK} {x m:Str} {p pos apos kpos:Pos} {e o:Expr} {es:List Expr} {kws:List Keyword} {te ta:TE} {t tk:TA} {nm:Option Str}
variable {g:List Value->List Value->List Value} {gV:List V->List V->List V}
end
structure FnScope (N P:List Str) (sc:Scope):Prop where
 kind:sc.kind = .function
 co:sc.isCoroutine=false
 gen:sc.isGenerator=false
 nd:N.Nodup
 pre:N.take P.length=P
 par:∀x∈P,sc.names.lookup x=some .local\/sc.names.lookup x=some .cell
 nofree:∀y∈sc.names,y.2≠.free
theorem uD {kindOf:Str->Option NameKind} {x:Str}:∀{binds:List (Str × Value)} {m:Str->Option Value},(∀v,(x,v) ∉ binds)->bindL kindOf binds m x=m x
 | [],_,_=>rfl
 | (n,v)::r,m,h=>by
  unfold bindL
  rw[uD λw hw=>h w (List.mem_cons_of_mem _ hw)]
  split
  ·have:x≠n:=by rintro rfl;exact h v List.mem_cons_self
   simp[this]
  ·rfl
theorem uA {kindOf:Str->Option NameKind} {x:Str}:∀{binds:List (Str × Value)} {m:Str->Option Value},(∀v,(x,v) ∉ binds)->bindC kindOf binds m x=m x
 | [],_,_=>rfl
 | (n,v)::r,m,h=>by
  unfold bindC
  rw[uA λw hw=>h w (List.mem_cons_of_mem _ hw)]
  split
  ·rfl
  ·have:x≠n:=by rintro rfl;exact h v List.mem_cons_self
   simp[this]
theorem uC {kindOf:Str->Option NameKind} {x:Str} {v:Value}:∀{P:List Str} {vs:List Value} {i:Nat} {m:Str->Option Value},P.Nodup->P[i]? = some x->vs[i]? = some v->kindOf x=some .local ->
  bindL kindOf (P.zip vs) m x=some v
 | [],_,_,_,_,h,_,_=>by simp at h
 | _::_,[],_,_,_,_,h,_=>by simp at h
 | p::P,w::vs,0,m,nd,h1,h2,hk=>by
  simp at h1 h2;subst h1;subst h2
  show bindL kindOf ((p,w)::P.zip vs) m p=_
  unfold bindL
  rw[uD λv hv=>(List.nodup_cons.mp nd).1 (List.of_mem_zip hv).1,if_pos hk]
  simp
 | p::P,w::vs,i+1,m,nd,h1,h2,hk=>by
  show bindL kindOf ((p,w)::P.zip vs) m x=_
  unfold bindL
  exact uC (i:=i) (List.nodup_cons.mp nd).2 (by simpa using h1) (by simpa using h2) hk
theorem tZ {kindOf:Str->Option NameKind} {x:Str} {v:Value}:∀{P:List Str} {vs:List Value} {i:Nat} {m:Str->Option Value},P.Nodup->P[i]? = some x->vs[i]? = some v->kindOf x≠some .local ->
  bindC kindOf (P.zip vs) m x=some v
 | [],_,_,_,_,h,_,_=>by simp at h
 | _::_,[],_,_,_,_,h,_=>by simp at h
 | p::P,w::vs,0,m,nd,h1,h2,hk=>by
  simp at h1 h2;subst h1;subst h2
  show bindC kindOf ((p,w)::P.zip vs) m p=_
  unfold bindC
  rw[uA λv hv=>(List.nodup_cons.mp nd).1 (List.of_mem_zip hv).1,if_neg hk]
  simp
 | p::P,w::vs,i+1,m,nd,h1,h2,hk=>by
  show bindC kindOf ((p,w)::P.zip vs) m x=_
  unfold bindC
  exact tZ (i:=i) (List.nodup_cons.mp nd).2 (by simpa using h1) (by simpa using h2) hk
noncomputable def kO (N:List Str) (vs:List V):St:=vs.map some++List.replicate (N.length-vs.length) none
noncomputable def cN (CX:CXT) (P:Program) (w:World) (K:PySem.W.Frag) (mg:Str->Option Value) (base:Heap) (N:List Str) (qual:Str) (scope:Scope) (f:Addr) (cd:Value) (A:Around) (outer:List Env) (s:Shared) (H:Hp) (E:XK):Cx where
 prog:=P
 w:=w
 K:=K
 mg:=mg
 base:=base
 A:=A.deeper (envOfC qual scope s.heap.objs.size f cd)
 N:=N
 s₀:=s
 H₀:=H
 env:=envOfC qual scope s.heap.objs.size f cd
 outer:=outer
 stack:=envOfC qual scope s.heap.objs.size f cd::outer
 ex:=[]
 calm:=true
 fn:=λ_=>true
 pn:=[]
 xe:=λe s'=>wpAny (model P w) (A.deeper (envOfC qual scope s.heap.objs.size f cd)) (leaving (envOfC qual scope s.heap.objs.size f cd) e) (λ_ s''=>CX outer H s E e s'') (λe' s''=>CX outer H s E e' s'') s'
theorem xG {sc:Scope} {n:Nat} {x:Str} (h:sc.names.lookup x=some .cell):∃c,(cellsFrom n sc.names []).lookup x=some c:=by
 have q:=PySem.W.cellsFrom_some sc.names n [] (.inl h)
 exact Option.isSome_iff_exists.mp q
theorem EV {CX:CXT} {P:Program} {w:World} {K:PySem.W.Frag} {mg:Str->Option Value} {base:Heap} {N ps:List Str} {qual:Str} {scope:Scope} {f:Addr} {cd:Value} {A:Around} {outer:List Env} {s s1:Shared} {H:Hp} {E:XK} {us:List Value} {vs:List V}
  (S:FnScope N ps scope) (hd:A.handled=none) (e0:Env0 P w K mg base A outer s H) (hl:vs.length=ps.length) (r:Vals vs us)
  (x:InCallC s s.heap.objs.size (bindL (envOfC qual scope s.heap.objs.size f cd).kindOf (ps.zip us) λ_=>none) (cellsFrom (s.heap.objs.size+1) scope.names []) (bindC (envOfC qual scope s.heap.objs.size f cd).kindOf (ps.zip us) λ_=>none) s1) :
  Inv (cN CX P w K mg base N qual scope f cd A outer s H E) [] (kO N vs) H s1:=by
 have hpl:ps.length<=N.length:=by have:=congrArg List.length S.pre;rw[List.length_take] at this;omega
 obtain⟨h1,tk,rfl,hk⟩:=x.done
 have noA:∀b:Addr,b ∉ (cN CX P w K mg base N qual scope f cd A outer s H E).ex:=λb z=>absurd (show b∈([]:List Addr) from z) (by simp)
 refine⟨⟨e0.mod,S.kind,rfl,rfl,Nat.le_refl _,λy z c h1 h2=>?_,λy hy=>?_,λy c _ h=>?_,λ_=>hd,Around.frames_deeper e0.frames,.inr ⟨rfl,rfl⟩,λb z=>absurd z (noA b),e0.bs,e0.bsz,λb _ _=>noA b,λb z=>absurd z (noA b),e0.funs,e0.frf⟩,
  rfl,e0.bare,Un.kept hk,⟨_,x.toInCall.ns,λi y v h1 h2 h3=>?_⟩,λy c h=>⟨_,x.cell y c h⟩,e0.hok.fresh (Nat.le_refl _),λy c h=>?_,λp hp=>absurd (show p∈([]:List (Addr × Obj)) from hp) (by simp),e0.hok.kept hk,?_⟩
 ·exact name_of_addr x.apart (PySem.mem_of_lookup h1) (PySem.mem_of_lookup h2)
 ·have hy:scope.names.lookup y=some .cell\/scope.names.lookup y=some .free:=hy
  rcases hy with hy | hy
  ·exact xG hy
  ·exact absurd rfl (S.nofree _ (PySem.mem_of_lookup hy))
 ·exact Nat.le_of_lt (x.above y c (PySem.mem_of_lookup h))
 ·have hi:i<vs.length:=by
   unfold kO at h2
   by_cases hi:i<vs.length
   ·exact hi
   ·rw[List.getElem?_append_right (by simpa using hi)] at h2
    rw[List.getElem?_replicate] at h2
    split at h2 <;> cases h2
  have ha:vs[i]? = some v:=by
   unfold kO at h2
   rw[List.getElem?_append_left (by simpa using hi),List.getElem?_map] at h2
   cases e:vs[i]? with
   | none=>rw[e] at h2;cases h2
   | some a=>rw[e] at h2;cases h2;rfl
  obtain⟨u,hu,rv⟩:=r.get ha
  have hp:ps[i]? = some y:=by
   rw[<-S.pre,List.getElem?_take_of_lt (by omega)];exact h1
  have ndP:ps.Nodup:=by rw[<-S.pre];exact S.nd.sublist (List.take_sublist _ _)
  refine⟨u,rv,?_⟩
  rcases S.par y (List.mem_of_getElem? hp) with k | k
  ·exact .inl ⟨k,uC ndP hp hu k⟩
  ·obtain⟨c,e⟩:=xG (n:=s.heap.objs.size+1) k
   refine .inr ⟨.inl k,c,e,?_⟩
   have q:=x.cell y c e
   rw[tZ ndP hp hu (by show scope.names.lookup y≠_;rw[k];decide)] at q
   exact q
 ·exact e0.hok.fresh (Nat.le_of_lt (x.above y c (PySem.mem_of_lookup h)))
 ·unfold kO
  show _=N.length
  rw[List.length_append,List.length_map,List.length_replicate]
  omega
theorem NX {CX:CXT} {P:Program} {w:World} {K:PySem.W.Frag} {mg:Str->Option Value} {base:Heap} {k:Nat} {f:Addr} {name qual:Str} {params:Arguments} {body:List Stmt} {scope:Scope} {dV kV doc pm cdv ct oc:Value} {an od:Option Addr}
  {osl:Array (Option Value)} {N ps:List Str} {sp:Sp} (lk:K.lookup f=some ⟨oc,od,.func (PySem.W.fnOf name qual params body scope dV kV doc pm an cdv ct),osl⟩) (hcd:PySem.W.codeIn K cdv qual=true) (S:FnScope N ps scope)
  (len:∀vs H Q E,sp vs H Q E->vs.length=ps.length)
  (hbody:∀(A:Around) (outer:List Env) (s:Shared) (H:Hp) (vs:List V) (Q:VK) (E:XK),Room k (A.deeper (envOfC qual scope s.heap.objs.size f cdv))->sp vs H Q E ->
   ∃t,PSs (cN CX P w K mg base N qual scope f cdv A outer s H E) body t/\t { nx:=λ_ H'=>Q .non H',rt:=Q } (kO N vs) H) :
  FnOk P w K mg base CX (k+1) f (PySem.W.fnOf name qual params body scope dV kV doc pm an cdv ct) ps sp:=by
 refine⟨len,λA outer s H args us vs Q E hr e0 hb r hsp=>?_⟩
 have hl:=len _ _ _ _ hsp
 have KX:K.In s.heap:=e0.mod.kin.keeps λb o e=>(e0.bs b o e).1
 have lim:s.heap.NoLimit:=e0.mod.nolimit.keeps λb o e=>(e0.bs b o e).1
 have hkind:∀y∈ps.zip us,scope.names.lookup y.1=some .local\/(scope.names.lookup y.1=some .cell/\((cellsFrom (s.heap.objs.size+1) scope.names []).lookup y.1).isSome=true):=λ⟨n,v⟩ hy=>by
  rcases S.par n (List.of_mem_zip hy).1 with q | q
  ·exact .inl q
  ·exact .inr ⟨q,PySem.W.cellsFrom_some _ _ _ (.inl q)⟩
 refine codeAny_call_function hr.depth (KX _ _ lk) rfl S.co S.gen rfl (PySem.W.codeRec_of KX hcd) (hb _ _ _ _ ?_)
 refine wpAny_newFunctionEnv_cells S.kind hkind λenv he s1 x=>?_
 subst he
 refine⟨lim.keeps x.toInCall.keep,codeAny_func ?_⟩
 obtain⟨t,ht,hq⟩:=hbody A outer s H vs Q E (hr.deeper _) hsp
 have I:Inv (cN CX P w K mg base N qual scope f cdv A outer s H E) [] (kO N vs) H s1:=EV S hr.hd e0 hl r x
 refine wpAny_mono (ht [] s1 (kO N vs) H _ I hq) (λfl s' hs=>?_) λe s' hs=>hs
 have fin:∀{σ':St} {H':Hp} {v:V} {u:Value},Inv (cN CX P w K mg base N qual scope f cdv A outer s H E) [] σ' H' s'->RelV v u->Q v H'->CE outer P w H s Q u s' :=
  λ{σ' H' v u} J rv q=>⟨v,H',J.os,J.bare,J.base,J.hok,rv,q⟩
 cases fl with
 | ret u =>
  obtain⟨v,σ',H',J,rv,q⟩:=hs
  exact fin J rv q
 | next =>
  obtain⟨σ',H',J,q⟩:=hs
  exact fin (v:=V.non) (u:=Value.none) J rfl q
 | brk =>
  obtain⟨_,_,_,q⟩:=hs
  exact False.elim q
 | cont =>
  obtain⟨_,_,_,q⟩:=hs
  exact False.elim q
end L2
namespace L2
open PySem PySem.Spec PyProof.Rows
section
variable {X:Cx} {x:Str} {p pos:Pos} {e:Expr} {es:List Expr} {t:TA} {id T:String} {r:List V->Hp->VK->Prop}
noncomputable def tCB (r:List V->Hp->VK->Prop) (t:TA):TE:=λσ H Q=>t σ H λvs H1=>r vs H1 Q
theorem sI (hc:mQ X (.builtin id) r) (hg:Gl X x) (hm:X.mg x=none) (hv:bootBuiltins x=some (.builtin id)) (ha:PA X (e::es) t) (hn:x≠"__name__":=by decide) (hdb:(x == ("__debug__":Str))=false:=by decide)
  (he:starEach (e::es) X.env=(false,eval e X.env)::starEach es X.env:=by rfl) (hpl:(backTo pos (starEach es X.env)).any (·.1)=false:=by rfl):PE X (.Call (.Name x p) (e::es) [] pos) (tCB r t):=by
 intro pins s σ H Q I h
 refine wpAny_Call_Name_kw (dZ I hg hm hv ?_ hn hdb)
 exact PyProof.Rows.callWith_builtin1 (thn (ha pos pins s σ H _ I h) λus s1 ⟨vs,H1,I1,r1,q1⟩=>hc pins s1 σ H1 vs us Q I1 r1 q1) he hpl
theorem FR (hc:mQ X (.type T) r) (hg:Gl X x) (hm:X.mg x=none) (hv:bootBuiltins x=some (.type T)) (ha:PA X (e::es) t) (hn:x≠"__name__":=by decide) (hdb:(x == ("__debug__":Str))=false:=by decide)
  (he:starEach (e::es) X.env=(false,eval e X.env)::starEach es X.env:=by rfl) (hpl:(backTo pos (starEach es X.env)).any (·.1)=false:=by rfl):PE X (.Call (.Name x p) (e::es) [] pos) (tCB r t):=by
 intro pins s σ H Q I h
 refine wpAny_Call_Name_kw (dZ I hg hm hv ?_ hn hdb)
 exact PyProof.Rows.callWith_type1 (thn (ha pos pins s σ H _ I h) λus s1 ⟨vs,H1,I1,r1,q1⟩=>hc pins s1 σ H1 vs us Q I1 r1 q1) he hpl
end
end L2
namespace HT
open PySem PyProof.Rows
noncomputable def lexLt:List Int->List Int->Bool
 | [],[]=>false
 | [],_::_=>true
 | _::_,[]=>false
 | x::xs,y::ys=>if x=y then lexLt xs ys else decide (x<y)
section
open PySem.SeqAt
open PySem.AutoSeq1 (wpAny_loadPart')
open PySem.MeetsSeq PySem.MeetsSeq2 PySem.MeetsSeq3
end
section
variable {prog:Program} {w:World} {A:Around} {E:Value->Shared->Prop} {s:Shared}
theorem cat_tup {t b:Addr} {vs ws:List Value} {Q:Value->Shared->Prop} (ht:IsTup s.heap t vs.toArray) (hb:IsTup s.heap b ws.toArray) (hv:vs≠[])
  (h1:ws=[]->Q (.ref t) s) (h2:ws≠[]->Q (.ref s.heap.objs.size) { s with heap:=s.heap.push { cls:=.type "tuple",data:=.seq (vs++ws).toArray } })
  (hsz:vs.length+ws.length<=sizeLine):wpAny (model prog w) A (binaryOp .Add (.ref t) (.ref b)) Q E s:=by
 obtain⟨⟨cls,dd,data,sl⟩,ho,hc,n,hd⟩:=id ht
 obtain⟨⟨cls2,dd2,data2,sl2⟩,ho2,hc2,n2,hd2⟩:=id hb
 simp only at hc hd hc2 hd2
 subst hc hd hc2 hd2
 have e:vs.toArray++ws.toArray=(vs++ws).toArray:=by simp
 by_cases hw:ws=[]
 ·exact concat_meets ⟨_,ho,rfl⟩ ⟨_,ho2,rfl⟩ noFill_tuple_add seq_tuple_add PySem.F.slot_tuple_add PySem.F.entry_tuple_add (PySem.F.args_tuple_add_2 _ _)
   (tuple_addW1 t b vs.toArray ws.toArray n n2 dd dd2 sl sl2 (by simpa using hv) (by simp[hw])) ⟨ho,ho2,h1 hw⟩
 ·refine concat_meets ⟨_,ho,rfl⟩ ⟨_,ho2,rfl⟩ noFill_tuple_add seq_tuple_add PySem.F.slot_tuple_add PySem.F.entry_tuple_add (PySem.F.args_tuple_add_2 _ _)
   (tuple_addW2 t b vs.toArray ws.toArray n n2 dd dd2 sl sl2 (by simpa using hv) (by simpa using hw) (by rw[List.size_toArray,List.size_toArray];exact hsz)) ⟨ho,ho2,?_⟩
  rw[e]
  exact h2 hw
noncomputable def sIx (n d:Nat):Option Int->Nat
 | none=>d
 | some v=>if v<0 then (v+(n:Int)).toNat else min v.toNat n
theorem sIx_none (n d:Nat):sIx n d none=d:=rfl
theorem sIx_nat (n d k:Nat):sIx n d (some (k:Int))=min k n:=by
 show (if (k:Int)<0 then ((k:Int)+(n:Int)).toNat else min (k:Int).toNat n)=min k n
 rw[if_neg (by omega),Int.toNat_natCast]
theorem QX (n d:Nat) (hd:d<=n) (o:Option Int):sIx n d o<=n:=by
 cases o with
 | none=>exact hd
 | some v =>
  show (if v<0 then (v+(n:Int)).toNat else min v.toNat n)<=n
  by_cases hv:v<0
  ·rw[if_pos hv];omega
  ·rw[if_neg hv];exact Nat.min_le_right _ _
theorem CH (v:Int) (n d:Nat):(if v<0 then max (v+(n:Int)) 0 else min v (n:Int))=((sIx n d (some v):Nat):Int):=by
 show (if v<0 then max (v+(n:Int)) 0 else min v (n:Int))=(((if v<0 then (v+(n:Int)).toNat else min v.toNat n):Nat):Int)
 by_cases hv:v<0
 ·simp only[if_pos hv];omega
 ·simp only[if_neg hv];omega
theorem AC (lo hi:Option Int) (n:Nat):Builtin.Slice.sliceAdjust lo hi 1 (n:Int)=(((sIx n 0 lo:Nat):Int),((sIx n n hi:Nat):Int)):=by
 have h1:¬((1:Int)<0):=by omega
 unfold Builtin.Slice.sliceAdjust
 simp only[h1,if_false]
 refine Prod.ext ?_ ?_
 ·cases lo with
  | none=>rfl
  | some v=>exact CH v n 0
 ·cases hi with
  | none=>rfl
  | some v=>exact CH v n n
theorem BB (i j:Nat):Builtin.Slice.slicePlaces (i:Int) (j:Int) 1=j-i:=by
 unfold Builtin.Slice.slicePlaces
 have h1:(1:Int) > 0:=by omega
 simp only[h1,if_true,Int.ediv_one]
 split <;> omega
theorem sT {v:Value} {o:Option Int} {Q:Option Int->Shared->Prop} (p:IsPart v o) (h:Q o s):wpAny (model prog w) A (Builtin.Slice.slicePartIndex v) Q E s:=by
 cases p with
 | none=>exact slicePart_none h
 | int i t=>exact slicePart_int h
theorem pB {sl:Addr} {vl vu:Value} {lo hi:Option Int} {n:Nat} {Q:Int × Int × Nat->Shared->Prop} (hs:s.heap.IsSliceOf sl vl vu .none) (pl:IsPart vl lo) (pu:IsPart vu hi)
  (h:Q (((sIx n 0 lo:Nat):Int),1,sIx n n hi-sIx n 0 lo) s):wpAny (model prog w) A (Builtin.Slice.sliceApplied (.ref sl) (pure (n:Int))) Q E s:=by
 obtain⟨os,hos,hcs,hds⟩:=id hs
 unfold Builtin.Slice.sliceApplied Builtin.Slice.sliceFields
 refine wpAny_bind (wpAny_bind (wpAny_field hos hds (x:=vl) rfl (wpAny_bind (wpAny_field hos hds (x:=vu) rfl (wpAny_bind (wpAny_field hos hds (x:=.none) rfl (wpAny_pure ?_)))))))
 refine wpAny_bind (slicePart_none ?_)
 show wpAny _ _ (if ((1:Int) == 0)=true then _ else _) _ _ s
 rw[if_neg (by decide)]
 refine wpAny_bind (sT pl (wpAny_bind (sT pu (wpAny_bind (wpAny_pure ?_)))))
 show wpAny _ _ (match Builtin.Slice.sliceAdjust lo hi 1 (n:Int) with | (lo,hi)=>pure (lo,(1:Int),Builtin.Slice.slicePlaces lo hi 1)) _ _ s
 rw[AC lo hi n]
 show wpAny _ _ (pure (((sIx n 0 lo:Nat):Int),(1:Int),Builtin.Slice.slicePlaces ((sIx n 0 lo:Nat):Int) ((sIx n n hi:Nat):Int) 1)) _ _ s
 rw[BB]
 exact wpAny_pure h
theorem JQ (xs:Array Value) (i k:Nat):((List.range k).filterMap λ(m:Nat)=>xs[((i:Int)+(m:Int)*1).toNat]?).toArray=((xs.toList.drop i).take k).toArray:=by
 have e:(λ(m:Nat)=>xs[((i:Int)+(m:Int)*1).toNat]?)=λm=>xs[i+m]?:=by
  funext m
  have:((i:Int)+(m:Int)*1).toNat=i+m:=by omega
  rw[this]
 rw[e]
 have:=pick_run xs i k
 rw[List.filterMap_map] at this
 have e2:((λx=>xs[x]?) ∘ λx=>i+x)=λm=>xs[i+m]?:=rfl
 rw[e2] at this
 rw[this]
theorem getItem_tuple_cut {t sl:Addr} {items:Array Value} {vl vu:Value} {lo hi:Option Int} {Q:Value->Shared->Prop} (ht:IsTup s.heap t items) (hs:s.heap.IsSliceOf sl vl vu .none) (pl:IsPart vl lo) (pu:IsPart vu hi)
  (hw:¬(sIx items.size 0 lo=0/\sIx items.size items.size hi=items.size))
  (h:Q (.ref s.heap.objs.size) { s with heap:=s.heap.push { cls:=.type "tuple",data:=.seq ((items.toList.drop (sIx items.size 0 lo)).take (sIx items.size items.size hi-sIx items.size 0 lo)).toArray } })
  (hsz:items.size<=sizeLine):wpAny (model prog w) A (getItem (.ref t) (.ref sl)) Q E s:=by
 have htake:sizeOk (.seq ((items.toList.drop (sIx items.size 0 lo)).take (sIx items.size items.size hi-sIx items.size 0 lo)).toArray):=by
  show ((items.toList.drop (sIx items.size 0 lo)).take (sIx items.size items.size hi-sIx items.size 0 lo)).toArray.size<=sizeLine
  rw[List.size_toArray,List.length_take,List.length_drop,Array.length_toList]
  omega
 have hj:sIx items.size items.size hi<=items.size:=QX _ _ (Nat.le_refl _) hi
 obtain⟨os,hos,hcs,hds⟩:=id hs
 have hTs:s.TypeIs (.ref sl) "slice":=⟨os,hos,hcs⟩
 unfold getItem
 try with_reducible refine wpAny_holding ?_
 first | refine wpAny_bind (wpAny_pure ?_) | skip
 refine wpAny_bind (wpAny_sequenceKey ht.typeIs (by decide) ?_)
 refine wpAny_bind (wpAny_callSpecial?_slot (name:=Str.ofString "__getitem__") ht.typeIs PyProof.Rows.slot_tuple_getitem
  (wpAny_call_entry PyProof.Rows.slot_tuple_getitem ht.typeIs entry_tuple_getitem ?_ (args_tuple_getitem _ _)))
 show wpAny _ _ (Builtin.Tuple.tupleItemsOf (.ref t) >>= _) _ _ s
 refine wpAny_bind (tupleItemsOf_ ht ?_)
 refine wpAny_bind (wpAny_typeOf hTs ?_)
 rw[if_pos (by decide)]
 refine wpAny_bind (pB hs pl pu ?_)
 have hno:¬((((sIx items.size 0 lo:Nat):Int) == 0 && (1:Int) == 1 && (sIx items.size items.size hi-sIx items.size 0 lo) == items.size)=true):=by
  intro q
  rw[Bool.and_eq_true,Bool.and_eq_true] at q
  have q1:((sIx items.size 0 lo:Nat):Int)=0:=eq_of_beq q.1.1
  have q2:sIx items.size items.size hi-sIx items.size 0 lo=items.size:=eq_of_beq q.2
  exact hw ⟨by omega,by omega⟩
 show wpAny _ _ (if (((sIx items.size 0 lo:Nat):Int) == 0 && (1:Int) == 1 && (sIx items.size items.size hi-sIx items.size 0 lo) == items.size)=true then _ else _) _ _ s
 rw[if_neg hno,JQ]
 first
  | exact wpAny_bind (m:=Builtin.Tuple.tupleExact _) (wpAny_newObj_type (wpAny_pure ⟨_,rfl,wpAny_pure h⟩) htake)
  | exact wpAny_bind (m:=Builtin.Tuple.tupleExact _) (wpAny_newObj_type (wpAny_bind (wpAny_pure (wpAny_pure ⟨_,rfl,wpAny_pure h⟩))) htake)
  | exact wpAny_bind (wpAny_bind (m:=Builtin.Tuple.tupleExact _) (wpAny_newObj_type (wpAny_pure (wpAny_pure ⟨_,rfl,wpAny_pure h⟩)) htake))
  | exact wpAny_bind (wpAny_bind (m:=Builtin.Tuple.tupleExact _) (wpAny_newObj_type (wpAny_pure ⟨_,rfl,wpAny_pure h⟩) htake))
end
end HT
namespace L2
open PySem PySem.Spec PyProof.Rows
noncomputable abbrev TO:=St->Hp->(Option Int->Hp->Prop)->Prop
noncomputable def PO (X:Cx) (e:Option Expr) (t:TO):Prop :=
 ∀(pins:List (Addr × Obj)) (s:Shared) (σ:St) (H:Hp) (Q:Option Int->Hp->Prop),Inv X pins σ H s->t σ H Q ->
  wpAny (model X.prog X.w) X.A (evalPart e X.env) (λu s'=>∃o H',Inv X pins σ H' s'/\IsPart u o/\Q o H') X.xe s
noncomputable def NJ:TO:=λ_ H Q=>Q none H
noncomputable def UF (t:TE):TO:=λσ H Q=>t σ H λx H1=>∃i,x = .int i/\Q (some i) H1
theorem AO {ns:List Int}:∀{us:List Value},Vals (ns.map V.int) us->IntsAre us ns:=by
 induction ns with
 | nil=>intro us r;rw[List.map_nil] at r;cases r;exact .nil
 | cons n ns ih =>
  intro us r
  rw[List.map_cons] at r
  cases r with
  | cons r1 r2 =>
   obtain⟨t,e⟩:=r1
   subst e
   exact .cons n t (ih r2)
section
variable {X:Cx} {e:Expr} {te:TE} {lo hi:Option Expr} {tl th:TO} {pos p2:Pos}
theorem DC:PO X none NJ:=by
 intro pins s σ H Q I h
 rw[evalPart_none]
 exact wpAny_pure ⟨none,H,I,.none,h⟩
theorem wG (h:PE X e te):PO X (some e) (UF te):=by
 intro pins s σ H Q I hw
 rw[evalPart_some]
 refine thn (h pins s σ H _ I hw) λu s1 ⟨x,H1,I1,r1,q1⟩=>?_
 obtain⟨i,rfl,q⟩:=q1
 obtain⟨t,rfl⟩:=r1
 exact⟨some i,H1,I1,.int i t,q⟩
noncomputable def SlR (X:Cx) (r:V->Option Int->Option Int->Hp->VK->Prop):Prop :=
 ∀(pins:List (Addr × Obj)) (s:Shared) (σ:St) (H:Hp) (x:V) (v vl vu:Value) (lo hi:Option Int) (sl:Addr) (Q:VK),Inv X pins σ H s->RelV x v->s.heap.IsSliceOf sl vl vu .none->IsPart vl lo->IsPart vu hi->r x lo hi H Q ->
  ∃T id,typeLookup (.type T) "__getitem__" = pure (some (.builtin id))/\s.TypeIs v T/\wpAny (model X.prog X.w) X.A (getItem v (.ref sl)) (EP X pins σ Q) X.xe s
theorem SlR.or {r r':V->Option Int->Option Int->Hp->VK->Prop} (h:SlR X r) (h':SlR X r'):SlR X (λx lo hi H Q=>r x lo hi H Q\/r' x lo hi H Q):=by
 intro pins s σ H x v vl vu lo hi sl Q I rx hs pl pu q
 rcases q with q | q
 ·exact h pins s σ H x v vl vu lo hi sl Q I rx hs pl pu q
 ·exact h' pins s σ H x v vl vu lo hi sl Q I rx hs pl pu q
noncomputable def tSl (r:V->Option Int->Option Int->Hp->VK->Prop) (te:TE) (tl th:TO):TE:=λσ H Q=>te σ H λx H1=>tl σ H1 λl H2=>th σ H2 λu H3=>r x l u H3 Q
theorem JN {r:V->Option Int->Option Int->Hp->VK->Prop} (hr:SlR X r) (he:PE X e te) (hl:PO X lo tl) (hu:PO X hi th):PE X (.Subscript e (.Slice lo hi none p2) pos) (tSl r te tl th):=by
 intro pins s σ H Q I h
 refine Subscript_ (thn (he pins s σ H _ I h) λv s1 ⟨x,H1,I1,r1,q1⟩=>?_)
 refine wpAny_Slice (thn (hl pins s1 σ H1 _ I1 q1) λvl s2 ⟨l,H2,I2,pl,q2⟩=>thn (hu pins s2 σ H2 _ I2 q2) λvu s3 ⟨u,H3,I3,pu,q3⟩=>?_)
 rw[evalPart_none]
 refine wpAny_pure ?_
 have I4:Inv X pins σ H3 { s3 with heap:=s3.heap.push { cls:=.type "slice",data:=.fields #[vl,vu,.none] } }:=I3.kept (t':=s3.toks) λb ob q=>Heap.get?_push_of_some _ q
 obtain⟨T,id,hT,ht,hg⟩:=hr pins { s3 with heap:=s3.heap.push { cls:=.type "slice",data:=.fields #[vl,vu,.none] } } σ H3 x v vl vu l u s3.heap.objs.size Q I4 r1 (Heap.IsSliceOf.new ..) pl pu q3
 show wpAny (model X.prog X.w) X.A (subscriptTail e (.Slice lo hi none p2) v (.ref s3.heap.objs.size)) (EP X pins σ Q) X.xe { s3 with heap:=s3.heap.push { cls:=.type "slice",data:=.fields #[vl,vu,.none] } }
 exact tail_any (ops:=[.ref s3.heap.objs.size,v]) ht hT hg (by with_unfolding_all rfl)
noncomputable def xN (xs:List V) (lo hi:Option Int):List V:=(xs.drop (HT.sIx xs.length 0 lo)).take (HT.sIx xs.length xs.length hi-HT.sIx xs.length 0 lo)
theorem pF (xs:List V) (lo hi:Option Int):(xN xs lo hi).length<=xs.length:=by
 unfold xN
 rw[List.length_take,List.length_drop]
 omega
noncomputable def VA (K:PySem.W.Frag):V->Option Int->Option Int->Hp->VK->Prop:=λx lo hi H Q=>∃a xs,x = .ref a/\SqT K H a xs /\
 ¬(HT.sIx xs.length 0 lo=0/\HT.sIx xs.length xs.length hi=xs.length)/\∀p,H p=none->Q (.ref p) (upd H p (.tup (xN xs lo hi)))
theorem RD:SlR X (VA X.K):=by
 intro pins s σ H x v vl vu lo hi sl Q I rx hs pl pu h
 obtain⟨a,xs,rfl,hx,hw,q⟩:=h
 cases rx
 obtain⟨its,r,ht,hz⟩:=I.tuple hx
 have hlen:its.toArray.size=xs.length:=by rw[List.size_toArray];exact r.length.symm
 refine⟨"tuple",_,PyProof.Rows.slot_tuple_getitem.lookup,ht.typeIs,?_⟩
 refine HT.getItem_tuple_cut ht hs pl pu (by rw[hlen];exact hw) ?_ (by rw[hlen];exact hz)
 rw[hlen]
 refine⟨.ref s.heap.objs.size,_,I.laid (t':=s.toks) (o:=.tup (xN xs lo hi)) (λb ob q=>Heap.get?_push_of_some _ q) (Nat.le_refl _) ?_,rfl,q _ (I.hok.fresh (Nat.le_refl _))⟩
 exact⟨Nat.le_trans (pF xs lo hi) hz,_,(r.drop (HT.sIx xs.length 0 lo)).take (HT.sIx xs.length xs.length hi-HT.sIx xs.length 0 lo),IsTup.new _ _⟩
noncomputable def TM (K:PySem.W.Frag):R2:=λx y H Q=>∃a b xs ys,x = .ref a/\y = .ref b/\SqT K H a xs/\SqT K H b ys/\xs≠[]/\xs.length+ys.length<=sizeLine /\
 (ys=[]->Q (.ref a) H)/\(ys≠[]->∀p,H p=none->Q (.ref p) (upd H p (.tup (xs++ys))))
theorem Vals.nil_iff {xs:List V} {us:List Value} (r:Vals xs us):us=[]↔xs=[]:=by
 cases r with
 | nil=>simp
 | cons _ _=>simp
theorem MP:OpR X (binaryOp .Add) (TM X.K):=by
 intro pins s σ H x y v u Q I rx ry h
 obtain⟨a,b,xs,ys,rfl,rfl,ha,hb,hx,hz,q1,q2⟩:=h
 cases rx
 cases ry
 obtain⟨its,r1,p1,_⟩:=I.tuple ha
 obtain⟨its2,r2,p2,_⟩:=I.tuple hb
 refine HT.cat_tup p1 p2 (λz=>hx (r1.nil_iff.mp z)) (λz=>⟨.ref a,H,I,rfl,q1 (r2.nil_iff.mp z)⟩) (λz=>?_) (by rw[<-r1.length,<-r2.length];exact hz)
 refine⟨.ref s.heap.objs.size,_,I.laid (t':=s.toks) (o:=.tup (xs++ys)) (λb ob q=>Heap.get?_push_of_some _ q) (Nat.le_refl _) ?_,rfl,q2 (λw=>z (r2.nil_iff.mpr w)) _ (I.hok.fresh (Nat.le_refl _))⟩
 exact⟨by rw[List.length_append];exact hz,_,r1.append r2,IsTup.new _ _⟩
end
end L2
namespace L2
open PySem PySem.Spec PyProof.Rows
noncomputable def ixN (n:Nat) (i:Int):Option Nat:=if 0<=i then (if i<n then some i.toNat else none) else if -(n:Int)<=i then some (i+n).toNat else none
noncomputable def atI {α:Type} (xs:List α) (i:Int):Option α:=(ixN xs.length i).bind λj=>xs[j]?
theorem CS {n:Nat} {i:Int} {j:Nat} (h:ixN n i=some j):seqIndex? i n=some j/\j<n/\-(n:Int)<=i/\i<n:=by
 unfold ixN at h
 by_cases h0:0<=i
 ·rw[if_pos h0] at h
  by_cases h1:i<n
  ·rw[if_pos h1] at h
   have e:i.toNat=j:=Option.some.inj h
   exact⟨by rw[seqIndex_of h0 h1,e],by omega,by omega,h1⟩
  ·rw[if_neg h1] at h;cases h
 ·rw[if_neg h0] at h
  by_cases h1:-(n:Int)<=i
  ·rw[if_pos h1] at h
   have e:(i+n).toNat=j:=Option.some.inj h
   exact⟨by rw[seqIndex_neg (by omega) h1,e],by omega,h1,by omega⟩
  ·rw[if_neg h1] at h;cases h
theorem vJ {α:Type} {xs:List α} {i:Int} {v:α} (h:atI xs i=some v):∃j,seqIndex? i xs.length=some j/\xs[j]? = some v/\j<xs.length/\-(xs.length:Int)<=i/\i<xs.length:=by
 unfold atI at h
 cases e:ixN xs.length i with
 | none=>rw[e] at h;cases h
 | some j =>
  rw[e] at h
  obtain⟨h1,h2,h3,h4⟩:=CS e
  exact⟨j,h1,h,h2,h3,h4⟩
theorem gC {α:Type} {xs:List α} {j:Nat} {v:α} (h:xs[j]? = some v):atI xs (j:Int)=some v:=by
 have hj:j<xs.length:=(List.getElem?_eq_some_iff.mp h).1
 have e:ixN xs.length (j:Int)=some j:=by
  unfold ixN
  rw[if_pos (by omega),if_pos (by omega)];simp
 unfold atI;rw[e];exact h
noncomputable def vI (b:Expr):Prop:=∀o i,subscripted b false o i=operate [o,i] (getItem o i)
noncomputable def IxR (X:Cx) (r:R2):Prop :=
 ∀(value slice:Expr) (pins:List (Addr × Obj)) (s:Shared) (σ:St) (H:Hp) (x y:V) (v u:Value) (Q:VK),Inv X pins σ H s->RelV x v->RelV y u->r x y H Q ->
  subscripted slice false v u=operate [v,u] (getItem v u)->wpAny (model X.prog X.w) X.A (subscriptTail value slice v u) (EP X pins σ Q) X.xe s
noncomputable def MtR (X:Cx) (id:String) (r:V->List V->Hp->VK->Prop):Prop :=
 ∀(pins:List (Addr × Obj)) (s:Shared) (σ:St) (H:Hp) (x:V) (xs:List V) (v:Value) (us:List Value) (Q:VK),Inv X pins σ H s->RelV x v->Vals xs us->r x xs H Q ->
  wpAny (model X.prog X.w) X.A (call (.builtin id) (v::us)) (EP X pins σ Q) X.xe s
section
variable {X:Cx} {a b:Expr} {ta tb:TE} {pos:Pos}
theorem IxR.or {r r':R2} (h:IxR X r) (h':IxR X r'):IxR X (λx y H Q=>r x y H Q\/r' x y H Q):=by
 intro value slice pins s σ H x y v u Q I rx ry q hs
 rcases q with q | q
 ·exact h value slice pins s σ H x y v u Q I rx ry q hs
 ·exact h' value slice pins s σ H x y v u Q I rx ry q hs
theorem TB {r:R2} (hr:IxR X r) (ha:PE X a ta) (hb:PE X b tb) (hs:vI b):PE X (.Subscript a b pos) (tOp r ta tb):=by
 intro pins s σ H Q I h
 exact Subscript_ (OR ha hb I h λv u s2 x y H2 I2 rx ry q=>hr a b pins s2 σ H2 x y v u Q I2 rx ry q (hs _ _))
noncomputable def UV (K:PySem.W.Frag):R2:=λx y H Q=>∃p xs i v,x = .ref p/\y = .int i/\SqL K H p xs/\atI xs i=some v/\Q v H
noncomputable def UW (K:PySem.W.Frag):R2:=λx y H Q=>∃p xs i v,x = .ref p/\y = .int i/\SqT K H p xs/\atI xs i=some v/\Q v H
theorem LW:IxR X (UV X.K):=by
 intro value slice pins s σ H x y v u Q I rx ry h hs
 obtain⟨p,xs,i,z,rfl,rfl,hq,he,q⟩:=h
 cases rx
 obtain⟨t,rfl⟩:=ry
 obtain⟨its,r,pl,hz⟩:=I.list hq
 obtain⟨j,h1,h2,h3,h4,h5⟩:=vJ he
 obtain⟨w,ew,rw'⟩:=r.get h2
 have hl:=r.length
 have hn:=rZ
 have fin:EP X pins σ Q w s:=⟨z,H,I,rw',q⟩
 by_cases h0:0<=i
 ·have hj:i.toNat=j:=by
   rw[seqIndex_of h0 h5] at h1
   exact Option.some.inj h1
  exact item_listR pl.isList h0 (by omega) (by rw[hj];simpa using ew) fin hs
 ·have hj:(i+(its.toArray.size:Int)).toNat=j:=by
   rw[seqIndex_neg (by omega) h4] at h1
   rw[List.size_toArray,<-hl]
   exact Option.some.inj h1
  exact subscriptTail_builtinR (x:=w) pl.isList.typeIs slot_list_getitem.lookup
   (wpAny_getItem_list_neg (Q:=λr s'=>r=w/\EP X pins σ Q r s') pl.isList (by omega) (by rw[List.size_toArray] <;> omega) (by omega) (by rw[hj];simpa using ew) ⟨rfl,fin⟩) hs
theorem PK:IxR X (UW X.K):=by
 intro value slice pins s σ H x y v u Q I rx ry h hs
 obtain⟨p,xs,i,z,rfl,rfl,hq,he,q⟩:=h
 cases rx
 obtain⟨t,rfl⟩:=ry
 obtain⟨its,r,pl,hz⟩:=I.tuple hq
 obtain⟨j,h1,h2,h3,h4,h5⟩:=vJ he
 obtain⟨w,ew,rw'⟩:=r.get h2
 have hl:=r.length
 have hn:=rZ
 have fin:EP X pins σ Q w s:=⟨z,H,I,rw',q⟩
 exact subscriptTail_builtinR (x:=w) pl.typeIs slot_tuple_getitem.lookup
  (getItem_tuple (j:=j) (Q:=λr s'=>r=w/\EP X pins σ Q r s') pl (by omega) (by omega) (by rw[List.size_toArray,<-hl];exact h1) (by simpa using ew) ⟨rfl,fin⟩) hs
theorem AX (its:List Value) (n j:Nat) (u:Value):Obj.mapSeq (·.setIfInBounds j u) { cls:=.type "list",data:=.seq its.toArray n } = { cls:=.type "list",data:=.seq (its.set j u).toArray n }:=by
 simp[Obj.mapSeq]
theorem Inv.lst {pins:List (Addr × Obj)} {σ:St} {H:Hp} {s:Shared} {p:Addr} {xs:List V} (I:Inv X pins σ H s) (h:H p=some (.lst xs)) :
  ∃(its:List Value) (n:Nat),Vals xs its/\s.heap.get? p=some { cls:=.type "list",data:=.seq its.toArray n }/\xs.length<=sizeLine:=by
 obtain⟨z,its,n,r,e⟩:=I.hok p _ h
 exact⟨its,n,r,e,z⟩
theorem Inv.lstUpd {pins:List (Addr × Obj)} {σ:St} {H:Hp} {s:Shared} {p:Addr} {xs ys:List V} {its its':List Value} {n n':Nat} {f:Obj->Obj} (I:Inv X pins σ H s) (h:H p=some (.lst xs))
  (ho:s.heap.get? p=some { cls:=.type "list",data:=.seq its.toArray n }) (hf:f { cls:=.type "list",data:=.seq its.toArray n } = { cls:=.type "list",data:=.seq its'.toArray n' }) (r:Vals ys its') (hz:ys.length<=sizeLine) (t:Nat) :
  Inv X pins σ (upd H p (.lst ys)) { s with heap:=s.heap.update p f,toks:=t }:=by
 have e:(s.heap.update p f).get? p=some { cls:=.type "list",data:=.seq its'.toArray n' }:=by
  rw[Heap.get?_update_self f ho (by rw[hf] <;> rfl),hf]
 refine I.write (x:=p) (e:=p) (by rw[h];trivial) (.inl rfl) (λb u hb q=>(Heap.get?_update_other _ _ (Ne.symm hb)).trans q) ⟨_,e⟩ ?_
 exact⟨hz,its',n',r,e⟩
noncomputable def TQ:V->V->V->Hp->(Hp->Prop)->Prop:=λo i v H Q=>∃p xs k j,o = .ref p/\i = .int k/\H p=some (.lst xs)/\ixN xs.length k=some j/\Q (upd H p (.lst (xs.set j v)))
theorem KK:RV X TQ:=by
 intro pins s σ H o i v ov iv u Q I ro ri rv h
 obtain⟨p,xs,k,j,rfl,rfl,hp,hj,q⟩:=h
 cases ro
 obtain⟨t,rfl⟩:=ri
 obtain⟨its,n,r,ho,hz⟩:=I.lst hp
 obtain⟨h1,h2,h3,h4⟩:=CS hj
 have hl:=r.length
 have hn:=rZ
 have I':Inv X pins σ (upd H p (.lst (xs.set j v))) { s with heap:=s.heap.update p (Obj.mapSeq (·.setIfInBounds j u)) } :=
  I.lstUpd hp ho (AX its n j u) (r.set rv j) (by rw[List.length_set];exact hz) s.toks
 by_cases h0:0<=k
 ·have hk:k.toNat=j:=by
   rw[seqIndex_of h0 h4] at h1
   exact Option.some.inj h1
  exact PySem.W.ki_setAt ho h0 (by omega) (by rw[List.size_toArray,<-hl];exact h4) (by rw[hk];exact⟨_,I',q⟩)
 ·have hk:(k+(its.toArray.size:Int)).toNat=j:=by
   rw[seqIndex_neg (by omega) h3] at h1
   rw[List.size_toArray,<-hl]
   exact Option.some.inj h1
  exact PySem.W.ki_setBack ho (by omega) (by rw[List.size_toArray,<-hl];exact h3) (by omega) (by rw[hk];exact⟨_,I',q⟩)
theorem wQ (lo hi:Option Int) (n:Nat):(sliceBounds lo hi none n).1=((HT.sIx n 0 lo:Nat):Int)/\(sliceBounds lo hi none n).2.1=((HT.sIx n n hi:Nat):Int)/\(sliceBounds lo hi none n).2.2=1:=by
 refine⟨?_,?_,rfl⟩
 ·cases lo with
  | none=>simp[sliceBounds,HT.sIx]
  | some i =>
   simp only[sliceBounds,HT.sIx,Option.getD_none,show (1:Int) > 0 by decide,if_true]
   by_cases h:i<0
   ·simp only[h,if_true] <;> omega
   ·simp only[h,if_false] <;> omega
 ·cases hi with
  | none=>simp[sliceBounds,HT.sIx]
  | some i =>
   simp only[sliceBounds,HT.sIx,Option.getD_none,show (1:Int) > 0 by decide,if_true]
   by_cases h:i<0
   ·simp only[h,if_true] <;> omega
   ·simp only[h,if_false] <;> omega
theorem tV (its:List Value) (lo hi:Option Int):slicePick its.toArray lo hi none=((its.drop (HT.sIx its.length 0 lo)).take (HT.sIx its.length its.length hi-HT.sIx its.length 0 lo)).toArray:=by
 obtain⟨h1,h2,h3⟩:=wQ lo hi its.toArray.size
 unfold slicePick
 rw[h1,h2,h3]
 simp only[sliceRange_one,pick_run,List.size_toArray] <;> rfl
noncomputable def UZ (K:PySem.W.Frag):V->Option Int->Option Int->Hp->VK->Prop:=λx lo hi H Q=>∃a xs,x = .ref a/\SqL K H a xs/\∀p,H p=none->Q (.ref p) (upd H p (.lst (xN xs lo hi)))
theorem NE:SlR X (UZ X.K):=by
 intro pins s σ H x v vl vu lo hi sl Q I rx hs pl pu h
 obtain⟨a,xs,rfl,hx,q⟩:=h
 cases rx
 obtain⟨its,r,ht,hz⟩:=I.list hx
 have hlen:=r.length
 refine⟨"list",_,slot_list_getitem.lookup,ht.isList.typeIs,?_⟩
 refine wpAny_getItem_list_slice ht.isList hs pl pu .none (by simp) ?_ (by rw[List.size_toArray] <;> omega)
 rw[tV,<-hlen]
 refine⟨.ref s.heap.objs.size,_,I.laid (t':=s.toks) (o:=.lst (xN xs lo hi)) (λb ob q=>Heap.get?_push_of_some _ q) (Nat.le_refl _) ?_,rfl,q _ (I.hok.fresh (Nat.le_refl _))⟩
 exact⟨Nat.le_trans (pF xs lo hi) hz,_,0,(r.drop (HT.sIx xs.length 0 lo)).take (HT.sIx xs.length xs.length hi-HT.sIx xs.length 0 lo),Heap.get?_push_size _ rfl⟩
theorem vM:mQ X (.builtin "len") (λxs H Q=>∃p ys,xs=[.ref p]/\(SqL X.K H p ys\/SqT X.K H p ys)/\Q (.int ys.length) H):=by
 intro pins s σ H xs us Q I r h
 obtain⟨p,ys,rfl,hq,q⟩:=h
 obtain⟨u,rfl,rx⟩:=lU r
 cases rx
 have hn:=rZ
 rcases hq with hq | hq
 ·obtain⟨its,r',pl,hz⟩:=I.list hq
  have hlen:=r'.length
  exact Calls.call_len_list pl.isList (by simp only[List.size_toArray] <;> omega) ⟨.int ys.length,H,I.tok _,⟨s.toks+1,by rw[List.size_toArray,hlen]⟩,q⟩
 ·obtain⟨its,r',pl,hz⟩:=I.tuple hq
  have hlen:=r'.length
  exact len_tuple pl (by simp only[List.size_toArray] <;> omega) ⟨.int ys.length,H,I.tok _,⟨s.toks+1,by rw[List.size_toArray,hlen]⟩,q⟩
theorem vN:mQ X (.type "list") (λxs H Q=>∃p ys,xs=[.ref p]/\(SqL X.K H p ys\/SqT X.K H p ys)/\∀l,H l=none->Q (.ref l) (upd H l (.lst ys))):=by
 intro pins s σ H xs us Q I r h
 obtain⟨p,ys,rfl,hq,q⟩:=h
 obtain⟨u,rfl,rx⟩:=lU r
 cases rx
 have fin:∀(its:List Value),Vals ys its->ys.length<=sizeLine->∀(h':Heap) (c':Nat),(∀b o',s.heap.get? b=some o'->h'.get? b=some o') ->
   h'.get? s.heap.objs.size=some { cls:=.type "list",dict:=none,data:=.seq its.toArray c',slots:=#[] }->EP X pins σ Q (.ref s.heap.objs.size) { s with heap:=h' }:=λits r' hz h' c' kp e =>
  ⟨.ref s.heap.objs.size,_,I.laid (t':=s.toks) kp (Nat.le_refl _) (show ObjOk X.prog X.w _ h' _ (.lst ys) from ⟨hz,its,c',r',e⟩),rfl,q _ (I.hok.fresh (Nat.le_refl _))⟩
 rcases hq with hq | hq
 ·obtain⟨its,r',pl,hz⟩:=I.list hq
  have hlen:=r'.length
  obtain⟨o,ho,hc,n,hd⟩:=pl.isList
  exact call_list_seq p (.inl rfl) ho hc hd (λh' c' kp e=>fin its r' hz h' c' kp e) (by simp only[List.size_toArray] <;> omega)
 ·obtain⟨its,r',pl,hz⟩:=I.tuple hq
  have hlen:=r'.length
  obtain⟨o,ho,hc,n,hd⟩:=pl
  exact call_list_seq p (.inr rfl) ho hc hd (λh' c' kp e=>fin its r' hz h' c' kp e) (by simp only[List.size_toArray] <;> omega)
noncomputable def tyV (K:PySem.W.Frag) (T:String) (x:V) (H:Hp):Prop:=match x with
 | .str _=>T = "str"
 | .int _=>T = "int"
 | .ref p=>(T = "list"/\∃xs,SqL K H p xs)\/(T = "tuple"/\∃o,K.lookup p=some o/\o.cls = .type "tuple"/\o.dict=none) \/
   (T = "dict"/\((∃kvs,H p=some (.dK kvs))\/∃kvs,H p=some (.dT kvs)))\/(T = "set"/\∃S n,H p=some (.set S n))
 | _=>False
theorem RL {pins:List (Addr × Obj)} {σ:St} {H:Hp} {s:Shared} {T:String} {x:V} {v:Value} (I:Inv X pins σ H s) (r:RelV x v) (ty:tyV X.K T x H) :
  s.TypeIs v T/\∀a,v = .ref a->∃ob,s.heap.get? a=some ob/\ob.dict=none:=by
 cases x with
 | str z =>
  obtain⟨t,rfl⟩:=r
  cases (show T = "str" from ty)
  exact⟨typeIs_str s z t,λ_ e=>nomatch e⟩
 | int i =>
  obtain⟨t,rfl⟩:=r
  cases (show T = "int" from ty)
  exact⟨typeIs_int s i t,λ_ e=>nomatch e⟩
 | ref p =>
  cases r
  rcases ty with ⟨rfl,xs,hq⟩ | ⟨rfl,o,hk,hc,hd⟩ | ⟨rfl,hk⟩ | ⟨rfl,S,n,hk⟩
  ·obtain⟨its,_,pl,_⟩:=I.list hq
   refine⟨pl.isList.typeIs,λa e=>?_⟩
   cases e
   obtain⟨o,n,e,c,hd,_⟩:=pl
   exact⟨o,e,hd⟩
  ·refine⟨⟨o,I.kIn p o hk,hc⟩,λa e=>?_⟩
   cases e
   exact⟨o,I.kIn _ o hk,hd⟩
  ·have z:∃o,s.heap.get? p=some o/\o.ExactDict:=by
    rcases hk with ⟨kvs,hk⟩ | ⟨kvs,hk⟩
    ·obtain⟨_,_,_,_,o,_,_,e,ex,_⟩:=I.hok p _ hk
     exact⟨o,e,ex⟩
    ·obtain⟨_,_,_,_,o,_,_,e,ex,_⟩:=I.hok p _ hk
     exact⟨o,e,ex⟩
   obtain⟨o,e,ex⟩:=z
   refine⟨⟨o,e,ex.1⟩,λa e2=>?_⟩
   cases e2
   exact⟨o,e,ex.2.1⟩
  ·obtain⟨o,_,_,_,e,ex,_⟩:=I.hok p _ hk
   refine⟨⟨o,e,ex.1⟩,λa e2=>?_⟩
   cases e2
   exact⟨o,e,ex.2.1⟩
 | _=>exact False.elim ty
noncomputable def tBM (K:PySem.W.Frag) (T:String) (r:V->List V->Hp->VK->Prop) (to:TE) (t:TA):TE:=λσ H Q=>to σ H λx H1=>tyV K T x H1/\t σ H1 λxs H2=>r x xs H2 Q
variable {o e:Expr} {es:List Expr} {to:TE} {t:TA} {name:Str} {apos cpos:Pos} {T id:String} {r:V->List V->Hp->VK->Prop}
theorem CZ (pa:PlainAttrs T) (slot:Slot T name id) (hty:typeOf (.builtin id)=pure (.type "method_descriptor")) (hm:MtR X id r) (ho:PE X o to) (ha:PA X (e::es) t)
  (hbase:attributeBase o name X.env (eval o X.env)=eval o X.env:=by rfl)
  (hfew:((backTo cpos (starEach (e::es) X.env)).all (λx=>!x.1) && (backToKw cpos (keywordEach [] X.env)).all (λx=>x.1.isSome)
   && decide ((e::es).length+([]:List Keyword).length+(if ([]:List Keyword).isEmpty then 0 else 1)<30))=true:=by rfl)
  (hline:(apos.endLine == cpos.line)=true:=by rfl) (hs:starEach (e::es) X.env=(false,eval e X.env)::starEach es X.env:=by rfl) (hplain:(backTo cpos (starEach es X.env)).any (·.1)=false:=by rfl) :
  PE X (.Call (.Attribute o name apos) (e::es) [] cpos) (tBM X.K T r to t):=by
 intro pins s σ H Q I h
 refine wpAny_Call_method_late hbase hfew hline rfl (thn (ho pins s σ H _ I h) λv s1 ⟨x,H1,I1,r1,ty,q1⟩=>?_)
 obtain⟨h1,h2⟩:=RL I1 r1 ty
 refine⟨T,id,pa,slot,hty,h1,h2,?_⟩
 have hA:=ha cpos pins s1 σ H1 _ I1 q1
 rw[hs] at hA ⊢
 refine Calls.callWith_builtin (by show (false || (backTo cpos (starEach es X.env)).any (·.1))=false;rw[hplain] <;> rfl) (Calls.evalArgs_plain ?_)
 exact thn hA λus s2 ⟨vs,H2,I2,r2,q2⟩=>hm pins s2 σ H2 x vs v us Q I2 r1 r2 q2
end
end L2
namespace L2
open PySem PySem.Spec PyProof.Rows
noncomputable def MtM (X:Cx) (id:String) (r:V->List V->Hp->VK->Prop):Prop :=
 ∀(pins:List (Addr × Obj)) (s:Shared) (σ:St) (H:Hp) (x:V) (xs:List V) (v:Value) (us:List Value) (Q:VK),Inv X pins σ H s->RelV x v->Vals xs us->r x xs H Q ->
  wpAny (model X.prog X.w) X.A (call (.builtin id) (v::us)) (EP X pins σ Q) X.xe s
theorem Vals.one:∀{x:V} {us:List Value},Vals [x] us->∃u,us=[u]/\RelV x u
 | _,_,.cons r .nil=>⟨_,rfl,r⟩
theorem Vals.two:∀{x y:V} {us:List Value},Vals [x,y] us->∃u v,us=[u,v]/\RelV x u/\RelV y v
 | _,_,_,.cons r (.cons q .nil)=>⟨_,_,rfl,r,q⟩
section
variable {X:Cx} {pins:List (Addr × Obj)} {σ:St} {H:Hp} {s:Shared} {l b:Addr} {xs ys zs:List V}
theorem Inv.lset {its its':List Value} {n:Nat} {f:Array Value->Array Value} {t':Nat} (I:Inv X pins σ H s) (hH:H l=some (.lst xs))
  (e:s.heap.get? l=some { cls:=.type "list",data:=.seq its.toArray n }) (hf:f its.toArray=its'.toArray) (hv:Vals ys its') (hz:ys.length<=sizeLine) :
  Inv X pins σ (upd H l (.lst ys)) { s with heap:=s.heap.update l (Obj.mapSeq f),toks:=t' }:=by
 have q:=PySem.IsL.update e f
 rw[hf] at q
 refine I.write (x:=l) (e:=l) (by rw[hH];exact trivial) (.inl rfl) (λb' u hb hu=>(Heap.get?_update_other s.heap (Obj.mapSeq f) (Ne.symm hb)).trans hu) ⟨_,q⟩ ?_
 exact⟨hz,its',_,hv,q⟩
theorem Inv.lnew {its:List Value} {t':Nat} (I:Inv X pins σ H s) (hv:Vals ys its) (hz:ys.length<=sizeLine) :
  Inv X pins σ (upd H s.heap.objs.size (.lst ys)) { s with heap:=s.heap.push { cls:=.type "list",data:=.seq its.toArray },toks:=t' } :=
 I.laid (λ_ _ q=>Heap.get?_push_of_some _ q) (Nat.le_refl _) ⟨hz,its,0,hv,Heap.get?_push_size _ rfl⟩
theorem Inv.fresh (I:Inv X pins σ H s):H s.heap.objs.size=none:=I.hok.fresh (Nat.le_refl _)
theorem Inv.lstM (I:Inv X pins σ H s) (hH:H l=some (.lst xs)):xs.length<=sizeLine/\∃(its:List Value) (n:Nat),Vals xs its/\xs.length=its.length/\s.heap.get? l=some { cls:=.type "list",data:=.seq its.toArray n }:=by
 obtain⟨z,its,n,r,e⟩:=I.hok l _ hH
 exact⟨z,its,n,r,r.length,e⟩
theorem JE {n:Nat} (h:n<=sizeLine):Builtin.List.listTooLong n=false:=by
 unfold Builtin.List.listTooLong
 exact decide_eq_false (by omega)
end
section
variable {X:Cx}
noncomputable def DF:V->List V->Hp->VK->Prop:=λx vs H Q=>∃l xs y,x = .ref l/\vs=[y]/\H l=some (.lst xs)/\xs.length<sizeLine/\Q .non (upd H l (.lst (xs++[y])))
theorem uO:MtM X "list.append" DF:=by
 intro pins s σ H x vs v us Q I rx rv h
 obtain⟨l,xs,y,rfl,rfl,hH,hz,q⟩:=h
 cases rx
 obtain⟨u,rfl,ru⟩:=rv.one
 obtain⟨z,its,n,r,hl,e⟩:=I.lstM hH
 refine call_meets F.slot_list_append ⟨_,e,rfl⟩ F.entry_list_append (F.args_list_append_2 _ _) (PySem.list_append l its.toArray n u (by rw[List.size_toArray];omega)) ⟨e,?_⟩
 refine⟨.non,_,I.lset (its':=its++[u]) hH e (by simp) (r.append (.cons ru .nil)) ?_,rfl,q⟩
 rw[List.length_append,List.length_singleton]
 omega
end
section
variable {prog:Program} {w:World} {A:Around} {E:Value->Shared->Prop} {s:Shared}
end
section
variable {X:Cx}
end
end L2
namespace Att
open PySem PySem.W PySem.Calls PyProof.Rows
theorem pZ {P:Params} {h:Heap}:∀(ns:List Int) (vs:List Value),WellAll P h vs (ns.map WData.int)->IntsAre vs ns:=by
 intro ns
 induction ns with
 | nil =>
  intro vs w
  rw[List.map_nil] at w
  cases w
  exact .nil
 | cons n ns ih =>
  intro vs w
  rw[List.map_cons] at w
  cases w with
  | cons a b =>
   cases a
   exact .cons _ _ (ih _ b)
theorem GI {l:OpenLaw} {n:Nat} (hn:l.most=some n) {P:Params} {h:Heap} {args:List WData} {vals:List Value}
  (hpre:l.row.toRowW.claim.pre args=true) (hwl:WellAll P h vals args) :
  ∃a vs ns,vals=[Value.ref a]/\args=[WData.list (ns.map WData.int)]/\h.get? a=some { cls:=.type "list",data:=.seq vs.toArray }/\IntsAre vs ns/\ns.length<=n:=by
 have hsh:WShape.hasAll [] args [.list .int]=true:=(pre_splitW hpre).1
 have hc:l.pre.holds [] { args:=args } = true:=(pre_splitW hpre).2
 obtain⟨d,r,rfl,h1,h2⟩:=hasAllW_cons hsh
 obtain rfl:=hasAllW_nil h2
 obtain⟨xs,rfl,h3⟩:=hasW_list h1
 obtain⟨ns,rfl⟩:=items_int h3
 have hlen:ns.length<=n:=by
  unfold OpenLaw.pre at hc
  have h4:(WTm.not (.lt (.lit (.int (n:Int))) (.len (.arg 0)))).holds [] { args:=[.list (ns.map .int)] } = true:=by
   have h4:=(holds_andW hc).1
   rw[hn] at h4
   exact h4
  have h5:=condW_of h4 (w_not (w_lt w_lit (w_len_list (w_arg rfl))))
  rw[List.length_map] at h5
  refine Nat.le_of_not_lt λq=>?_
  have q':(n:Int)<((ns.length:Nat):Int):=by omega
  first
   | (rw[decide_eq_true q'] at h5;exact absurd h5 (by decide))
   | (simp at h5;omega)
 cases hwl with
 | cons w1 w2 =>
  cases w2
  cases w1 with
  | list ho hall=>exact⟨_,_,ns,rfl,rfl,ho,pZ ns _ hall,hlen⟩
theorem FT (l:OpenLaw) (args:List WData):l.row.toRowW.claim.post args (.bool true) args=true :=
 postW_of (r:=l.row.toRowW) (X:=(true == true))
  (show WShape.has [] (.bool true) .bool=true by first | rfl | decide | simp[WShape.has,WShape.arms,WShape.armsAll])
  (show (WTm.eq .res (.lit (.bool true))).value [] { args:=args,res:=some (.bool true),after:=args } = some (.bool (true == true)) from w_eq_bool (w_res rfl) w_lit) rfl
theorem attach_call {l:OpenLaw} {n:Nat} {q:Program} {loose:List Str} {XP:(Str->Option Value)->Heap->Prop} {YP:World->Heap->Prop} {d:DefRec}
  (hn:l.most=some n) (hdf:d.params.defaults=[])
  (call:∀(w:World) (s₀ s₁:Shared) (mg mb:Str->Option Value) (fa:Addr) (o:Obj) (pm cd doc:Value) (a:Addr) (vs:List Value) (ns:List Int),
   Ground q loose [] XP w s₀ mg mb s₁.heap->YP w s₁.heap ->
   s₁.heap.get? fa=some o->o.data = .func (docDef d.name d.params d.body d.scope pm cd doc)->s₁.heap.CodeRec cd d.name->mg d.name=some (.ref fa) ->
   s₁.heap.get? a=some { cls:=.type "list",data:=.seq vs.toArray }->IntsAre vs ns->ns.length<=n->s₁.gens = #[] ->
   codeAny (model l.prog w) callerA (.call (.ref fa) ⟨[.ref a],[]⟩) (λr s'=>r = .ok (.ret (.bool true))/\OldK s₁.heap s'.heap/\s'.os=s₁.os/\AllBare s'.gens) s₁) :
  WalkO q loose XP YP l.row.toRowW d [] (λf vs=>PySem.call f vs):=by
 intro w s₀ s₁ mg mb G Y fa o pm cd doc dV kV ho hd hcd hD hmg hg args vals as hpre hlay hrd hwl hlo
 obtain rfl:dV = .none:=Dflts.none hD hdf
 obtain rfl:kV = .none:=Dflts.noKw hD
 obtain⟨a,vs,ns,rfl,rfl,hobj,hints,hlen⟩:=GI hn hpre hwl
 refine enter_call (codeAny_mono (call w s₀ s₁ mg mb fa o pm cd doc a vs ns G Y ho (fd_plain hd) hcd hmg hobj hints hlen hg) λr s' hq=>?_)
 obtain⟨rfl,h2,h3,h4⟩:=hq
 exact⟨.inl ⟨.bool true,.bool true,[],rfl,λ_=>rfl,.bool true,FT l _,λ_=>⟨List.Pairwise.nil,λ_ hm=>(nomatch hm)⟩⟩,h2,h3,h4⟩
section
variable {prog:Program} {w:World} {A:Around} {E:Value->Shared->Prop} {s:Shared} {K:Frag}
end
end Att
namespace L2
open PySem PySem.Spec PyProof.Rows
theorem iZ:∀{vs:List Value} {ns:List Int},IntsAre vs ns->Vals (ns.map V.int) vs
 | _,_,.nil=>.nil
 | _,_,.cons n t h=>.cons ⟨t,rfl⟩ (iZ h)
end L2
namespace L2
open PySem PySem.Spec PyProof.Rows
noncomputable abbrev KOf {K:PySem.W.Frag} {h:Heap} (_:K.In h):PySem.W.Frag:=K
end L2
namespace L2
open PySem PySem.Spec PyProof.Rows
noncomputable def aY (s:Stmt):Arguments:=match s with
 | .FunctionDef _ a _ _ _ _ _ _ _ _=>a
 | _=>{ posonlyargs:=[],args:=[],vararg:=none,kwonlyargs:=[],kw_defaults:=[],kwarg:=none,defaults:=[] }
noncomputable def aJ (s:Stmt):List Stmt:=match s with
 | .FunctionDef _ _ b _ _ _ _ _ _ _=>b
 | _=>[]
noncomputable def aA (s:Stmt):Scope:=match s with
 | .FunctionDef _ _ _ _ _ _ sc _ _ _=>sc
 | _=>{ kind:=.function,names:=[],isGenerator:=false,isCoroutine:=false }
noncomputable abbrev CX0:CXT:=λ_ _ _ _ _ _=>False
noncomputable abbrev E0:XK:=λ_ _ _=>False
theorem SY {X:Cx}:AB CX0 X E0:=λ_ _ _ _ _ _ _ h=>h.elim
structure Fun (K:PySem.W.Frag) (x qual:Str) (st:Stmt) (f:Addr) (fd:FuncData):Prop where
 ex:∃(oc:Value) (od:Option Addr) (kV doc pm:Value) (an:Option Addr) (cdv ct:Value) (osl:Array (Option Value)),
  fd=PySem.W.fnOf x qual (aY st) (aJ st) (aA st) .none kV doc pm an cdv ct/\K.lookup f=some ⟨oc,od,.func fd,osl⟩/\PySem.W.codeIn K cdv qual=true
 kp:PySem.W.keepIn K (.ref f)=true
section
variable {P:Program} {w:World} {K:PySem.W.Frag} {mg:Str->Option Value} {base:Heap}
theorem Fun.ok {x qual:Str} {st:Stmt} {f:Addr} {fd:FuncData} {N ps:List Str} {k:Nat} {sp:Sp} (F:Fun K x qual st f fd) (S:FnScope N ps (aA st)) (len:∀vs H Q E,sp vs H Q E->vs.length=ps.length)
  (hbody:∀(cdv:Value) (A:Around) (outer:List Env) (s:Shared) (H:Hp) (vs:List V) (Q:VK) (E:XK),Room k (A.deeper (envOfC qual (aA st) s.heap.objs.size f cdv))->sp vs H Q E ->
   ∃t,PSs (cN CX0 P w K mg base N qual (aA st) f cdv A outer s H E).nox (aJ st) t/\t { nx:=λ_ H'=>Q .non H',rt:=Q } (kO N vs) H):FnOk P w K mg base CX0 (k+1) f fd ps sp:=by
 obtain⟨oc,od,kV,doc,pm,an,cdv,ct,osl,rfl,lk,hcd⟩:=F.ex
 refine NX lk hcd S len λA outer s H vs Q E hr hsp=>?_
 obtain⟨t,h,q⟩:=hbody cdv A outer s H vs Q E hr hsp
 exact⟨t,h.nox,q⟩
theorem bI {x qual:Str} {st:Stmt} {f:Addr} {oc:Value} {od an:Option Addr} {osl:Array (Option Value)} {kV doc pm cdv ct:Value} (l:K.lookup f=some ⟨oc,od,.func (PySem.W.fnOf x qual (aY st) (aJ st) (aA st) .none kV doc pm an cdv ct),osl⟩)
  (c:PySem.W.codeIn K cdv qual=true) (k:PySem.W.keepIn K (.ref f)=true):Fun K x qual st f (PySem.W.fnOf x qual (aY st) (aJ st) (aA st) .none kV doc pm an cdv ct):=⟨⟨oc,od,kV,doc,pm,an,cdv,ct,osl,rfl,l,c⟩,k⟩
end
section
variable {X:Cx}
theorem pv (i:Nat) {x:Str} {pos:Pos} (hN:X.N[i]? = some x:=by rfl) (hv:Vis X.env.scope x:=by walk_at "vis") (hd:(x == ("__debug__":Str))=false:=by decide)
  (hcd:(x == ("__classdict__":Str))=false:=by decide):PE X (.Name x pos) (UH i):=QG hN hv hd hcd
end
noncomputable def Same (H H':Hp):Prop:=∀b o,H b=some o->H' b=some o
theorem Same.refl (H:Hp):Same H H:=λ_ _ h=>h
theorem Same.trans {H H1 H2:Hp} (a:Same H H1) (b:Same H1 H2):Same H H2:=λc o h=>b c o (a c o h)
theorem Same.free {H H':Hp} (e:Same H H') {l:Addr} (h:H' l=Option.none):H l=Option.none:=by
 cases q:H l with
 | none=>rfl
 | some o =>
  rw[e l o q] at h
  cases h
end L2
set_option linter.all false
namespace L2.R2
noncomputable abbrev Pt:=Int × Int
noncomputable def ltP (a b:Pt):Prop:=a.1<b.1\/(a.1=b.1/\a.2<b.2)
instance (a b:Pt):Decidable (ltP a b):=by unfold ltP;infer_instance
end L2.R2
set_option Elab.async false
set_option linter.all false
namespace L2.R2
noncomputable abbrev bN:=Pt × Pt
noncomputable def sd (a b:Pt):List bN:=if a.1<b.1 then [(a,b)] else if b.1<a.1 then [(b,a)] else []
noncomputable def bV:Pt->List Pt->List bN
 | _,[]=>[]
 | a,b::r=>sd a b++bV b r
noncomputable def cF:List Pt->List bN
 | []=>[]
 | a::r=>bV a (r++[a])
noncomputable def cov (c:Int) (s:bN):Bool:=decide (s.1.1<=c) && decide (c<s.2.1)
noncomputable def nE:Pt->List Pt->Pt
 | a,[]=>a
 | _,b::r=>nE b r
theorem kY:∀(a:Pt) (r:List Pt) (b:Pt),nE a (r++[b])=b
 | _,[],_=>rfl
 | _,x::r,b=>kY x r b
noncomputable def fA {α:Type}:List α->List (α × α)
 | x::y::r=>(x,y)::fA r
 | _=>[]
end L2.R2
set_option Elab.async false
set_option linter.all false
namespace L2.R2
noncomputable def wid (s:bN):Int:=s.2.1-s.1.1
noncomputable def hB (B:Int) (s:bN) (t:Int):Int:=(s.1.2*wid s+(s.2.2-s.1.2)*(t-s.1.1))*B.fdiv (wid s)
theorem vY {B w:Int} (hw:0<w) (h:w∣B):∃q,B=w*q/\B.fdiv w=q:=by
 obtain⟨q,rfl⟩:=h
 exact⟨q,rfl,by rw[Int.mul_comm];exact Int.mul_fdiv_cancel _ (Int.ne_of_gt hw)⟩
theorem yC {B:Int} {s:bN} (hw:0<wid s) (h:wid s∣60) (hb:wid s∣B) (t:Int):60*hB B s t=B*hB 60 s t:=by
 obtain⟨q,e1,e2⟩:=vY hw h
 obtain⟨r,f1,f2⟩:=vY hw hb
 unfold hB
 rw[e2,f2]
 rw[e1]
 conv=>rhs;rw[f1]
 grind
theorem OA {B:Int} (hB0:0<B) {s s':bN} (hw:0<wid s) (h:wid s∣60) (hb:wid s∣B) (hw':0<wid s') (h':wid s'∣60) (hb':wid s'∣B) (t:Int):hB B s t<hB B s' t↔hB 60 s t<hB 60 s' t:=by
 have e1:=yC hw h hb t
 have e2:=yC hw' h' hb' t
 constructor
 ·intro k
  refine Int.lt_of_mul_lt_mul_left (a:=B) ?_ (Int.le_of_lt hB0)
  rw[<-e1,<-e2];omega
 ·intro k
  have:=Int.mul_lt_mul_of_pos_left k hB0
  rw[<-e1,<-e2] at this;omega
structure SdOk (s:bN):Prop where
 pos:0<wid s
 dvd:wid s∣60
noncomputable def jT (S:List bN) (c:Int):Prop:=∀s∈S,∀s'∈S,cov c s=true->cov c s'=true->hB 60 s c<hB 60 s' c->hB 60 s (c+1)<=hB 60 s' (c+1)
theorem kR {c:Int} {s:bN}:cov c s=true↔s.1.1<=c/\c<s.2.1:=by unfold cov;simp
theorem RB {a b:Pt} {s:bN} (h:s∈sd a b):(s=(a,b)\/s=(b,a))/\0<wid s:=by
 unfold sd at h
 split at h
 ·rw[List.mem_singleton] at h;subst h;exact⟨.inl rfl,by unfold wid;dsimp only;omega⟩
 ·split at h
  ·rw[List.mem_singleton] at h;subst h;exact⟨.inr rfl,by unfold wid;dsimp only;omega⟩
  ·cases h
theorem zX:∀{r:List Pt} {a:Pt} {s:bN},s∈bV a r->∃p q,p∈a::r/\q∈a::r/\s∈sd p q
 | [],_,_,h=>by cases h
 | b::r,a,s,h=>by
  rw[bV] at h
  rcases List.mem_append.mp h with h | h
  ·exact⟨a,b,.head _,.tail _ (.head _),h⟩
  ·obtain⟨p,q,h1,h2,h3⟩:=zX h
   exact⟨p,q,.tail _ h1,.tail _ h2,h3⟩
theorem vA {g:List Pt} {s:bN} (h:s∈cF g):(s.1∈g/\s.2∈g)/\0<wid s:=by
 cases g with
 | nil=>cases h
 | cons a r =>
  obtain⟨p,q,h1,h2,h3⟩:=zX h
  have m:∀x∈a::(r++[a]),x∈a::r:=λx hx=>by
   rcases List.mem_cons.mp hx with rfl | hx
   ·exact .head _
   ·rcases List.mem_append.mp hx with hx | hx
    ·exact .tail _ hx
    ·rw[List.mem_singleton.mp hx];exact .head _
  obtain⟨e,k⟩:=RB h3
  refine⟨?_,k⟩
  rcases e with rfl | rfl
  ·exact⟨m _ h1,m _ h2⟩
  ·exact⟨m _ h2,m _ h1⟩
end L2.R2
set_option Elab.async false
set_option linter.all false
namespace L2.R2
noncomputable abbrev IP:=Int × Int
noncomputable def prB (B c:Int) (s:bN):IP:=(hB B s c,hB B s (c+1))
noncomputable def dO (M:List IP):Prop:=M.Pairwise λx y=>x.1<=y.1/\x.2<=y.2
theorem zG {M:List IP} (h:M.Pairwise λx y=>¬ltP y x) (u:∀x∈M,∀y∈M,x.1<y.1->x.2<=y.2):dO M:=by
 refine h.imp_of_mem λ{x y} hx hy n=>?_
 unfold ltP at n
 by_cases k:x.1<y.1
 ·exact⟨Int.le_of_lt k,u x hx y hy k⟩
 ·omega
theorem LD {S:List bN} {c B:Int} (hB0:0<B) (ok:∀s∈S,SdOk s) (hd:∀s∈S,wid s∣B) (hc:∀s∈S,cov c s=true) (u:jT S c):∀x∈S.map (prB B c),∀y∈S.map (prB B c),x.1<y.1->x.2<=y.2:=by
 intro x hx y hy l
 obtain⟨s,hs,rfl⟩:=List.mem_map.mp hx
 obtain⟨t,ht,rfl⟩:=List.mem_map.mp hy
 have os:=ok s hs
 have ot:=ok t ht
 have k1:=(OA hB0 os.pos os.dvd (hd s hs) ot.pos ot.dvd (hd t ht) c).mp l
 have k2:=u s hs t ht (hc s hs) (hc t ht) k1
 refine Int.not_lt.mp λk3=>?_
 have:=(OA hB0 ot.pos ot.dvd (hd t ht) os.pos os.dvd (hd s hs) (c+1)).mp k3
 omega
end L2.R2
set_option linter.all false
namespace L2.R2
end L2.R2
set_option linter.all false
namespace L2.R2
end L2.R2
set_option linter.all false
namespace L2.R2
theorem lB {α:Type} [DecidableEq α]:∀(l m:List α),l.Nodup->(∀x∈l,x∈m)->l.length<=m.length
 | [],_,_,_=>Nat.zero_le _
 | x::l,m,hn,hs=>by
  have hx:=hs x (.head _)
  have hn':=List.nodup_cons.mp hn
  have:=lB l (m.erase x) hn'.2 λy hy=>(List.mem_erase_of_ne λ(e:y=x)=>hn'.1 (e ▸ hy)).mpr (hs y (.tail _ hy))
  rw[List.length_erase_of_mem hx] at this
  exact Nat.le_trans (Nat.succ_le_succ this) (Nat.le_of_eq (Nat.succ_pred_eq_of_pos (List.length_pos_of_mem hx)))
end L2.R2
set_option Elab.async false
set_option linter.all false
set_option maxRecDepth 100000
namespace L2.R2
open PySem PySem.Spec PyProof.Rows L2
inductive D where
 | non | bl (b:Bool) | int (i:Int) | str (x:Str) | tup (xs:List D) | lst (xs:List D) | dct (ks:List Int) (xs:List D) | dtt (ks:List (List Int)) (xs:List D)
noncomputable def FzL (K:PySem.W.Frag) (H:Hp) (a:Addr) (vs:List V):Prop :=
 (∃o,H a=some (.frz o (.lst vs))) \/
  ∃(o:Obj) (its:Array Value) (n:Nat),K.lookup a=some o/\o.cls = .type "list"/\o.dict=none/\o.data = .seq its n/\its.size<=sizeLine/\Vals vs its.toList
theorem FzL.sq {K:PySem.W.Frag} {H:Hp} {a:Addr} {vs:List V}:FzL K H a vs->SqL K H a vs
 | .inl ⟨o,h⟩=>.inl (.inr ⟨o,h⟩)
 | .inr h=>.inr h
noncomputable def gK (col:Nat):Str:=if col=28 then "rising.<locals>.<lambda>" else if col=59 then "framed_rising.<locals>.<lambda>" else "laid_triangles.<locals>.<lambda>"
noncomputable abbrev mR (c:Addr) (q:Str):HO:=.ext λh=>∃oc vs t,h.get? c=some oc/\oc.data = .fields vs/\vs[1]? = some (.str q t)
structure LamOk (H:Hp) (ps:Array Value):Prop where
 ok:TriplesOk ps.toList
 code:∀pos cv,codeAmong pos ps.toList=some cv->∃c,cv = .ref c/\H c=some (mR c (gK pos.col))
noncomputable def LamK (H H':Hp):Prop:=∀b ps,H b=some (.tbl ps)->∃more,H' b=some (.tbl (ps++more))/\(LamOk H ps->LamOk H' (ps++more))
theorem LamK.trans {H H1 H2:Hp} (a:LamK H H1) (b:LamK H1 H2):LamK H H2:=λc ps h=>by
 obtain⟨m1,e1,f1⟩:=a c ps h
 obtain⟨m2,e2,f2⟩:=b c _ e1
 exact⟨m1++m2,by rw[e2,Array.append_assoc],λx=>by rw[<-Array.append_assoc];exact f2 (f1 x)⟩
theorem LamOk.mono {H H':Hp} {ps:Array Value} (x:LamOk H ps) (k:∀b φ,H b=some (.ext φ)->H' b=some (.ext φ)):LamOk H' ps:=⟨x.ok,λpos cv e=>let ⟨c,e1,e2⟩:=x.code pos cv e;⟨c,e1,k _ _ e2⟩⟩
theorem LamK.of {H H':Hp} (k:∀b φ,H b=some (.ext φ)->H' b=some (.ext φ)) (h:∀b ps,H b=some (.tbl ps)->H' b=some (.tbl ps)):LamK H H':=λb ps e=>⟨#[],by rw[Array.append_empty];exact h b ps e,λx=>by rw[Array.append_empty];exact x.mono k⟩
noncomputable def NT:HO->Prop
 | .tbl _=>False
 | _=>True
structure Keep (H H':Hp):Prop where
 tups:∀b xs,H b=some (.tup xs)->H' b=some (.tup xs)
 frzs:∀b o u,H b=some (.frz o u)->H' b=some (.frz o u)
 exts:∀b φ,H b=some (.ext φ)->H' b=some (.ext φ)
 xds:∀b fs,H b=some (.xd fs)->H' b=some (.xd fs)
 tbls:LamK H H'
theorem Keep.refl (H:Hp):Keep H H:=⟨λ_ _ h=>h,λ_ _ _ h=>h,λ_ _ h=>h,λ_ _ h=>h,.of (λ_ _ h=>h) λ_ _ h=>h⟩
theorem Keep.trans {H H1 H2:Hp} (a:Keep H H1) (b:Keep H1 H2):Keep H H2 :=
 ⟨λc xs h=>b.tups c xs (a.tups c xs h),λc o u h=>b.frzs c o u (a.frzs c o u h),λc φ h=>b.exts c φ (a.exts c φ h),λc fs h=>b.xds c fs (a.xds c fs h),a.tbls.trans b.tbls⟩
structure Same (H H':Hp):Prop where
 get:∀b o,H b=some o->NT o->H' b=some o
 tbls:LamK H H'
theorem Same.fn {H H':Hp} (f:∀b o,H b=some o->H' b=some o):Same H H':=⟨λb o h _=>f b o h,.of (λb φ h=>f b _ h) λb ps h=>f b _ h⟩
theorem Same.refl (H:Hp):Same H H:=.fn λ_ _ h=>h
theorem Same.trans {H H1 H2:Hp} (a:Same H H1) (b:Same H1 H2):Same H H2:=⟨λc o h n=>b.get c o (a.get c o h n) n,a.tbls.trans b.tbls⟩
theorem Same.free {H H':Hp} (e:Same H H') {l:Addr} (h:H' l=Option.none):H l=Option.none:=by
 cases q:H l with
 | none=>rfl
 | some o =>
  cases o with
  | tbl ps=>obtain⟨m,e1,_⟩:=e.tbls l ps q;rw[e1] at h;cases h
  | _=>rw[e.get l _ q trivial] at h;cases h
theorem Same.tbl {H H':Hp} (s:Same H H') {b:Addr} {ps:Array Value} (h:H b=some (.tbl ps)):∃more,H' b=some (.tbl (ps++more)):=let ⟨m,e,_⟩:=s.tbls b ps h;⟨m,e⟩
theorem Keep.of {H H':Hp} (s:Same H H'):Keep H H':=⟨λb xs h=>s.get b _ h trivial,λb o u h=>s.get b _ h trivial,λb φ h=>s.get b _ h trivial,λb fs h=>s.get b _ h trivial,s.tbls⟩
theorem Keep.ofF {H H':Hp} (f:∀b o,H b=some o->H' b=some o):Keep H H':=.of (.fn f)
noncomputable def gF:List Str:=["rising","framed_rising","laid_triangles"]
noncomputable def TabsIn (K:PySem.W.Frag) (H:Hp):Prop:=∀x c P,x∈gF->PySem.W.tabIn K x=some (c,P)->∃ps,H P=some (.tbl ps)/\LamOk H ps
theorem TabsIn.tabK {K:PySem.W.Frag} {H H':Hp} (t:TabsIn K H) (k:LamK H H'):TabsIn K H':=λx c P m e=>by
 obtain⟨ps,h1,h2⟩:=t x c P m e
 obtain⟨more,h3,h4⟩:=k P ps h1
 exact⟨_,h3,h4 h2⟩
theorem Keep.chg1 {H:Hp} {p:Addr} {u u':HO} (h:H p=some u) (n:(∃xs,u = .lst xs)\/(∃kvs,u = .dK kvs)\/∃kvs,u = .dT kvs):Keep H (upd H p u'):=by
 have ne:∀b o,H b=some o->(∀xs,o≠.lst xs)->(∀kvs,o≠.dK kvs)->(∀kvs,o≠.dT kvs)->upd H p u' b=some o:=λb o q n1 n2 n3=>by
  rw[aG]
  ·exact q
  ·rintro rfl
   rw[h] at q;cases q
   rcases n with ⟨xs,rfl⟩ | ⟨kvs,rfl⟩ | ⟨kvs,rfl⟩
   ·exact n1 _ rfl
   ·exact n2 _ rfl
   ·exact n3 _ rfl
 exact⟨λb _ q=>ne b _ q (λ_ z=>by cases z) (λ_ z=>by cases z) (λ_ z=>by cases z),λb _ _ q=>ne b _ q (λ_ z=>by cases z) (λ_ z=>by cases z) (λ_ z=>by cases z),λb _ q=>ne b _ q (λ_ z=>by cases z) (λ_ z=>by cases z) (λ_ z=>by cases z),λb _ q=>ne b _ q (λ_ z=>by cases z) (λ_ z=>by cases z) (λ_ z=>by cases z),
  .of (λb _ q=>ne b _ q (λ_ z=>by cases z) (λ_ z=>by cases z) (λ_ z=>by cases z)) λb _ q=>ne b _ q (λ_ z=>by cases z) (λ_ z=>by cases z) (λ_ z=>by cases z)⟩
noncomputable def pL (ks:List Int) (vs:List V):List (Key × V):=List.zipWith (λk v=>(Sum.inl k,v)) ks vs
noncomputable def cE (ks:List (List Int)) (vs:List V):List (List Key × V):=List.zipWith (λk v=>(k.map Sum.inl,v)) ks vs
mutual
inductive Rep (K:PySem.W.Frag) (H:Hp):D->V->Prop
 | non:Rep K H .non .non
 | bl (b:Bool):Rep K H (.bl b) (.bl b)
 | int (i:Int):Rep K H (.int i) (.int i)
 | str (x:Str):Rep K H (.str x) (.str x)
 | tup {a:Addr} {vs:List V} {ds:List D} (h:H a=some (.tup vs)) (r:Reps K H ds vs):Rep K H (.tup ds) (.ref a)
 | lst {a:Addr} {vs:List V} {ds:List D} (h:FzL K H a vs) (r:Reps K H ds vs):Rep K H (.lst ds) (.ref a)
 | dct {a:Addr} {vs:List V} {ds:List D} {ks:List Int} {o:Obj} (h:H a=some (.frz o (.dK (pL ks vs)))) (hl:ks.length=vs.length) (r:Reps K H ds vs):Rep K H (.dct ks ds) (.ref a)
 | dtt {a:Addr} {vs:List V} {ds:List D} {ks:List (List Int)} {o:Obj} (h:H a=some (.frz o (.dT (cE ks vs)))) (hl:ks.length=vs.length) (r:Reps K H ds vs):Rep K H (.dtt ks ds) (.ref a)
inductive Reps (K:PySem.W.Frag) (H:Hp):List D->List V->Prop
 | nil:Reps K H [] []
 | cons {d:D} {v:V} {ds:List D} {vs:List V} (h:Rep K H d v) (t:Reps K H ds vs):Reps K H (d::ds) (v::vs)
end
section
variable {K:PySem.W.Frag} {H H':Hp}
theorem FzL.keep {a:Addr} {vs:List V} (k:Keep H H') (h:FzL K H a vs):FzL K H' a vs:=by
 rcases h with ⟨o,h⟩ | h
 ·exact .inl ⟨o,k.frzs _ _ _ h⟩
 ·exact .inr h
mutual
theorem Rep.keep (k:Keep H H'):∀{d:D} {v:V},Rep K H d v->Rep K H' d v
 | _,_,.non=>.non
 | _,_,.bl b=>.bl b
 | _,_,.int i=>.int i
 | _,_,.str x=>.str x
 | _,_,.tup h r=>.tup (k.tups _ _ h) (Reps.keep k r)
 | _,_,.lst h r=>.lst (FzL.keep k h) (Reps.keep k r)
 | _,_,.dct h hl r=>.dct (k.frzs _ _ _ h) hl (Reps.keep k r)
 | _,_,.dtt h hl r=>.dtt (k.frzs _ _ _ h) hl (Reps.keep k r)
theorem Reps.keep (k:Keep H H'):∀{ds:List D} {vs:List V},Reps K H ds vs->Reps K H' ds vs
 | _,_,.nil=>.nil
 | _,_,.cons h t=>.cons (Rep.keep k h) (Reps.keep k t)
end
theorem Reps.length:∀{ds:List D} {vs:List V},Reps K H ds vs->ds.length=vs.length
 | _,_,.nil=>rfl
 | _,_,.cons _ t=>by simp[Reps.length t]
theorem Reps.get:∀{ds:List D} {vs:List V} {i:Nat} {d:D},Reps K H ds vs->ds[i]? = some d->∃v,vs[i]? = some v/\Rep K H d v
 | _,_,_,_,.nil,e=>by simp at e
 | _,_,0,_,.cons h _,e=>by simp at e;subst e;exact⟨_,rfl,h⟩
 | _,_,i+1,d,.cons _ t,e=>by
  obtain⟨v,h1,h2⟩:=Reps.get (i:=i) (d:=d) t (by simpa using e)
  exact⟨v,by simpa using h1,h2⟩
theorem Reps.append:∀{ds es:List D} {vs us:List V},Reps K H ds vs->Reps K H es us->Reps K H (ds++es) (vs++us)
 | _,_,_,_,.nil,s=>s
 | _,_,_,_,.cons h t,s=>.cons h (Reps.append t s)
theorem Reps.take:∀{ds:List D} {vs:List V} (n:Nat),Reps K H ds vs->Reps K H (ds.take n) (vs.take n)
 | _,_,0,_=>.nil
 | _,_,_+1,.nil=>.nil
 | _,_,n+1,.cons r t=>.cons r (Reps.take n t)
theorem Reps.drop:∀{ds:List D} {vs:List V} (n:Nat),Reps K H ds vs->Reps K H (ds.drop n) (vs.drop n)
 | _,_,0,r=>r
 | _,_,_+1,.nil=>.nil
 | _,_,n+1,.cons _ t=>Reps.drop n t
theorem Reps.set {d:D} {v:V} (r:Rep K H d v):∀{ds:List D} {vs:List V} (i:Nat),Reps K H ds vs->Reps K H (ds.set i d) (vs.set i v)
 | _,_,_,.nil=>.nil
 | _,_,0,.cons _ t=>.cons r t
 | _,_,i+1,.cons q t=>.cons q (Reps.set r i t)
theorem Rep.int_inv {i:Int} {v:V} (h:Rep K H (.int i) v):v = .int i:=by cases h;rfl
theorem Rep.bl_inv {b:Bool} {v:V} (h:Rep K H (.bl b) v):v = .bl b:=by cases h;rfl
theorem Reps.ints:∀{ns:List Int},Reps K H (ns.map D.int) (ns.map V.int)
 | []=>.nil
 | _::_=>.cons (.int _) Reps.ints
theorem Reps.ints_inv:∀{ns:List Int} {vs:List V},Reps K H (ns.map D.int) vs->vs=ns.map V.int
 | [],_,h=>by cases h;rfl
 | n::ns,_,h=>by
  cases h with
  | cons h t=>rw[h.int_inv,Reps.ints_inv t];rfl
end
noncomputable def RepB (K:PySem.W.Frag) (H:Hp) (d:D) (v:V):Prop :=
 Rep K H d v\/∃ds a vs,d = .lst ds/\v = .ref a/\H a=some (.lst vs)/\Reps K H ds vs
theorem RepB.same {K:PySem.W.Frag} {H H':Hp} {d:D} {v:V} (s:Same H H') (h:RepB K H d v):RepB K H' d v:=by
 rcases h with h | ⟨ds,a,vs,e1,e2,e3,r⟩
 ·exact .inl (h.keep (.of s))
 ·exact .inr ⟨ds,a,vs,e1,e2,s.get _ _ e3 trivial,r.keep (.of s)⟩
theorem RepB.lst {K:PySem.W.Frag} {H:Hp} {ds:List D} {v:V} (h:RepB K H (.lst ds) v):∃a vs,v = .ref a/\SqL K H a vs/\Reps K H ds vs:=by
 rcases h with h | ⟨ds',a,vs,e1,e2,e3,r⟩
 ·cases h with
  | lst h r=>exact⟨_,_,rfl,h.sq,r⟩
 ·cases e1;exact⟨a,vs,e2,SqL.of e3,r⟩
theorem RepB.tup {K:PySem.W.Frag} {H:Hp} {ds:List D} {v:V} (h:RepB K H (.tup ds) v):∃a vs,v = .ref a/\H a=some (.tup vs)/\Reps K H ds vs:=by
 rcases h with h | ⟨ds',a,vs,e1,e2,e3,r⟩
 ·cases h with
  | tup h r=>exact⟨_,_,rfl,h,r⟩
 ·cases e1
inductive S where
 | d (x:D) | own (xs:List D) | dcl (kvs:List (Int × List D)) | box (t:Bool) (xss:List (List D)) | exc (C:Addr) (y:Str) (c:Int) | dt (ks:List (List Int)) (xs:List D) | raw (v:V)
noncomputable def S.val:S->D
 | .d x=>x
 | .own xs=>.lst xs
 | .dcl _=>.non
 | .box _ _=>.non
 | .exc _ _ _=>.non
 | .dt _ _=>.non
 | .raw _=>.non
noncomputable abbrev En:=List (Option S)
inductive Dcl (K:PySem.W.Frag) (H₀ H:Hp):List (Int × List D)->List (Key × V)->List Addr->Prop
 | nil:Dcl K H₀ H [] [] []
 | cons {k:Int} {b:Addr} {vs:List V} {ds:List D} {kvs:List (Int × List D)} {kws:List (Key × V)} {as:List Addr} (h:H b=some (.lst vs)) (h0:H₀ b=none) (r:Reps K H ds vs) (n:b ∉ as) (t:Dcl K H₀ H kvs kws as) :
   Dcl K H₀ H ((k,ds)::kvs) ((Sum.inl k,.ref b)::kws) (b::as)
noncomputable abbrev KW (C e dx:Addr):HO:=.ext λh=>∃oe vs,h.get? e=some oe/\oe.cls = .ref C/\oe.data = .fields vs/\oe.dict=some dx
noncomputable def RelS (K:PySem.W.Frag) (H₀ H:Hp):S->V->Prop
 | .exc C y c,v=>∃e dx,v = .ref e/\H e=some (KW C e dx)/\H dx=some (.xd [(y,.int c)])
 | .d x,v=>Rep K H x v
 | .raw u,v=>v=u
 | .dt ks xs,v=>∃a vs,v = .ref a/\H a=some (.dT (cE ks vs))/\H₀ a=none/\ks.length=vs.length/\Reps K H xs vs
 | .own xs,v=>∃a vs,v = .ref a/\H a=some (.lst vs)/\H₀ a=none/\Reps K H xs vs
 | .dcl kvs,v=>∃a kws as,v = .ref a/\H a=some (.dK kws)/\H₀ a=none/\Dcl K H₀ H kvs kws as
 | .box false xss,v=>∃a kws as,v = .ref a/\H a=some (.lst (as.map V.ref))/\H₀ a=none/\a ∉ as/\Dcl K H₀ H (xss.map λx=>(0,x)) kws as
 | .box true xss,v=>∃a kws as,v = .ref a/\H a=some (.tup (as.map V.ref))/\Dcl K H₀ H (xss.map λx=>(0,x)) kws as
noncomputable def Ow (H:Hp):S->V->Addr->Prop
 | .exc _ _ _,_,_=>False
 | .raw _,_,_=>False
 | .d _,_,_=>False
 | .own _,v,a=>v = .ref a
 | .dt _ _,v,a=>v = .ref a
 | .dcl _,v,a=>∃p kws,v = .ref p/\H p=some (.dK kws)/\(a=p\/∃k,(k,V.ref a)∈kws)
 | .box false _,v,a=>∃p vs,v = .ref p/\H p=some (.lst vs)/\(a=p\/V.ref a∈vs)
 | .box true _,v,a=>∃p vs,v = .ref p/\H p=some (.tup vs)/\V.ref a∈vs
structure StOk (X:Cx) (ρ:En) (σ:St) (H:Hp):Prop where
 len:ρ.length=σ.length
 same:Same X.H₀ H
 rel:∀(i:Nat) (x:S),ρ[i]? = some (some x)->∃v,σ[i]? = some (some v)/\RelS X.K X.H₀ H x v
 sep:∀(i j:Nat) (x y:S) (v u:V) (a:Addr),ρ[i]? = some (some x)->ρ[j]? = some (some y)->σ[i]? = some (some v)->σ[j]? = some (some u)->Ow H x v a->Ow H y u a->i=j
 t0:TabsIn X.K X.H₀
section
variable {K:PySem.W.Frag} {H₀ H H':Hp}
theorem Dcl.keep {kvs:List (Int × List D)} {kws:List (Key × V)} {as:List Addr} (k:Keep H H') (t:Dcl K H₀ H kvs kws as) (w:∀a∈as,∀o,H a=some o->H' a=some o):Dcl K H₀ H' kvs kws as:=by
 induction t with
 | nil=>exact .nil
 | cons h h0 r n t ih=>exact .cons (w _ (.head _) _ h) h0 (r.keep k) n (ih λa m=>w a (.tail _ m))
theorem Dcl.mem {kvs:List (Int × List D)} {kws:List (Key × V)} {as:List Addr} {a:Addr} (t:Dcl K H₀ H kvs kws as):a∈as↔∃k,(k,V.ref a)∈kws:=by
 induction t with
 | nil=>simp
 | cons h h0 r n t ih =>
  rw[List.mem_cons,ih]
  constructor
  ·rintro (rfl | ⟨k,e⟩)
   ·exact⟨_,.head _⟩
   ·exact⟨k,.tail _ e⟩
  ·rintro⟨k,e⟩
   rcases List.mem_cons.mp e with e | e
   ·cases e;exact .inl rfl
   ·exact .inr ⟨k,e⟩
theorem Dcl.at {kvs:List (Int × List D)} {kws:List (Key × V)} {as:List Addr} {a:Addr} (t:Dcl K H₀ H kvs kws as) (m:a∈as):H₀ a=none/\∃vs,H a=some (.lst vs):=by
 induction t with
 | nil=>cases m
 | cons h h0 r n t ih =>
  rcases List.mem_cons.mp m with rfl | m
  ·exact⟨h0,_,h⟩
  ·exact ih m
theorem Dcl.same {kvs:List (Int × List D)} {kws:List (Key × V)} {as:List Addr} (t:Dcl K H₀ H kvs kws as) (s:Same H H'):Dcl K H₀ H' kvs kws as :=
 t.keep (.of s) λc m o h=>by
  obtain⟨_,vs,q⟩:=t.at m
  rw[h] at q;cases q
  exact s.get _ _ h trivial
theorem mE:∀{ks:List Int} {vs:List V},ks.length=vs.length->(pL ks vs).map (·.2)=vs
 | [],[],_=>rfl
 | [],_::_,h=>by cases h
 | _::_,[],h=>by cases h
 | k::ks,v::vs,h=>by
  show v::(pL ks vs).map (·.2)=v::vs
  rw[mE (by simpa using h)]
theorem Dcl.refs {kvs:List (Int × List D)} {kws:List (Key × V)} {as:List Addr} (t:Dcl K H₀ H kvs kws as):kws.map (·.2)=as.map V.ref:=by
 induction t with
 | nil=>rfl
 | cons h h0 r n t ih=>rw[List.map_cons,List.map_cons,ih]
theorem Ow.at {x:S} {v:V} {a:Addr} (r:RelS K H₀ H x v) (w:Ow H x v a):H₀ a=none/\((∃vs,H a=some (.lst vs))\/(∃kws,H a=some (.dK kws))\/∃kws,H a=some (.dT kws)):=by
 cases x with
 | d x=>exact w.elim
 | exc C y c=>exact w.elim
 | raw u=>exact w.elim
 | own xs =>
  obtain⟨b,vs,rfl,h,h0,_⟩:=r
  cases w;exact⟨h0,.inl ⟨vs,h⟩⟩
 | dt ks xs =>
  obtain⟨b,vs,rfl,h,h0,_⟩:=r
  cases w;exact⟨h0,.inr (.inr ⟨_,h⟩)⟩
 | dcl kvs =>
  obtain⟨b,kws,as,rfl,h,h0,t⟩:=r
  obtain⟨p,kws',e,h',m⟩:=w
  cases e
  rw[h] at h';cases h'
  rcases m with rfl | m
  ·exact⟨h0,.inr (.inl ⟨kws,h⟩)⟩
  ·obtain⟨g0,g1⟩:=t.at (t.mem.mpr m)
   exact⟨g0,.inl g1⟩
 | box t xss =>
  cases t with
  | false =>
   obtain⟨b,kws,as,rfl,h,h0,_,t⟩:=r
   obtain⟨p,vs,e,h',m⟩:=w
   cases e
   rw[h] at h';cases h'
   rcases m with rfl | m
   ·exact⟨h0,.inl ⟨_,h⟩⟩
   ·obtain⟨c,hc,e⟩:=List.mem_map.mp m
    cases e
    obtain⟨g0,g1⟩:=t.at hc
    exact⟨g0,.inl g1⟩
  | true =>
   obtain⟨b,kws,as,rfl,h,t⟩:=r
   obtain⟨p,vs,e,h',m⟩:=w
   cases e
   rw[h] at h';cases h'
   obtain⟨c,hc,e⟩:=List.mem_map.mp m
   cases e
   obtain⟨g0,g1⟩:=t.at hc
   exact⟨g0,.inl g1⟩
theorem RelS.move {x:S} {v:V} (k:Keep H H') (r:RelS K H₀ H x v) (w:∀a,Ow H x v a->∀o,H a=some o->H' a=some o):RelS K H₀ H' x v/\∀a,Ow H' x v a->Ow H x v a:=by
 cases x with
 | d x=>exact⟨Rep.keep k r,λa e=>e⟩
 | raw u=>exact⟨r,λa e=>e⟩
 | exc C y c =>
  obtain⟨e,dx,rfl,h1,h2⟩:=r
  exact⟨⟨e,dx,rfl,k.exts _ _ h1,k.xds _ _ h2⟩,λa e=>e⟩
 | own xs =>
  obtain⟨b,vs,rfl,h,h0,rr⟩:=r
  exact⟨⟨b,vs,rfl,w b rfl _ h,h0,rr.keep k⟩,λa e=>e⟩
 | dt ks xs =>
  obtain⟨b,vs,rfl,h,h0,hl,rr⟩:=r
  exact⟨⟨b,vs,rfl,w b rfl _ h,h0,hl,rr.keep k⟩,λa e=>e⟩
 | dcl kvs =>
  obtain⟨b,kws,as,rfl,h,h0,t⟩:=r
  have hb:=w b ⟨b,kws,rfl,h,.inl rfl⟩ _ h
  refine⟨⟨b,kws,as,rfl,hb,h0,t.keep k λa m=>w a ⟨b,kws,rfl,h,.inr (t.mem.mp m)⟩⟩,λa e=>?_⟩
  obtain⟨p,kws',e,h',m⟩:=e
  cases e
  rw[hb] at h';cases h'
  exact⟨b,kws,rfl,h,m⟩
 | box t xss =>
  cases t with
  | false =>
   obtain⟨b,kws,as,rfl,h,h0,nb,t⟩:=r
   have hb:=w b ⟨b,_,rfl,h,.inl rfl⟩ _ h
   refine⟨⟨b,kws,as,rfl,hb,h0,nb,t.keep k λa m=>w a ⟨b,_,rfl,h,.inr (List.mem_map_of_mem m)⟩⟩,λa e=>?_⟩
   obtain⟨p,vs,e,h',m⟩:=e
   cases e
   rw[hb] at h';cases h'
   exact⟨b,_,rfl,h,m⟩
  | true =>
   obtain⟨b,kws,as,rfl,h,t⟩:=r
   have hb:=k.tups b _ h
   refine⟨⟨b,kws,as,rfl,hb,t.keep k λa m=>w a ⟨b,_,rfl,h,List.mem_map_of_mem m⟩⟩,λa e=>?_⟩
   obtain⟨p,vs,e,h',m⟩:=e
   cases e
   rw[hb] at h';cases h'
   exact⟨b,_,rfl,h,m⟩
theorem Same.own {x:S} {v:V} {a:Addr} {o:HO} (s:Same H H') (r:RelS K H₀ H x v) (w:Ow H x v a) (h:H a=some o):H' a=some o:=by
 obtain⟨_,⟨_,q⟩ | ⟨_,q⟩ | ⟨_,q⟩⟩:=Ow.at r w <;> rw[h] at q <;> cases q <;> exact s.get _ _ h trivial
theorem RelS.same {x:S} {v:V} (s:Same H H') (h:RelS K H₀ H x v):RelS K H₀ H' x v:=(h.move (.of s) λa w o e=>s.own h w e).1
end
section
variable {X:Cx} {ρ:En} {σ:St} {H H':Hp}
theorem StOk.tabs (st:StOk X ρ σ H):TabsIn X.K H:=st.t0.tabK st.same.tbls
theorem StOk.ext (st:StOk X ρ σ H) (s:Same H H'):StOk X ρ σ H':=by
 refine⟨st.len,st.same.trans s,λi x e=>let ⟨v,h1,h2⟩:=st.rel i x e;⟨v,h1,h2.same s⟩,λi j x y v u a e1 e2 e3 e4 o1 o2=>?_,st.t0⟩
 obtain⟨v',h1,h2⟩:=st.rel i x e1
 obtain⟨u',g1,g2⟩:=st.rel j y e2
 rw[h1] at e3;cases e3
 rw[g1] at e4;cases e4
 exact st.sep i j x y _ _ a e1 e2 h1 g1 ((h2.move (.of s) λa w o e=>s.own h2 w e).2 a o1) ((g2.move (.of s) λa w o e=>s.own g2 w e).2 a o2)
theorem qU {α:Type} {xs:List (Option α)} {i j:Nat} {x y:α} (e:(xs.set i (some x))[j]? = some (some y)):(j=i/\y=x/\i<xs.length)\/(i≠j/\xs[j]? = some (some y)):=by
 by_cases hj:i=j
 ·subst hj
  by_cases h:i<xs.length
  ·rw[List.getElem?_set_self h] at e;cases e;exact .inl ⟨rfl,rfl,h⟩
  ·rw[List.set_eq_of_length_le (by omega),List.getElem?_eq_none (by omega)] at e;cases e
 ·rw[List.getElem?_set_ne hj] at e;exact .inr ⟨hj,e⟩
theorem StOk.chg (st:StOk X ρ σ H) {i:Nat} {x':S} {v':V} {W:Addr->Prop} (kp:Keep H H') (h0:Same X.H₀ H') (h1:∀b o,H b=some o->NT o->¬W b->H' b=some o) (h2:RelS X.K X.H₀ H' x' v')
  (h3:∀a,Ow H' x' v' a->W a\/H a=none) (h4:∀(j:Nat) (y:S) (u:V) (a:Addr),j≠i->ρ[j]? = some (some y)->σ[j]? = some (some u)->Ow H y u a->¬W a):StOk X (ρ.set i (some x')) (σ.set i (some v')) H':=by
 have old:∀(j:Nat) (y:S),j≠i->ρ[j]? = some (some y)->∃u,σ[j]? = some (some u)/\RelS X.K X.H₀ H y u/\RelS X.K X.H₀ H' y u/\∀a,Ow H' y u a->Ow H y u a:=λj y hj e=>by
  obtain⟨u,g1,g2⟩:=st.rel j y e
  obtain⟨g3,g4⟩:=g2.move kp λa w o e'=>by
   have nw:=h4 j y u a hj e g1 w
   obtain⟨_,⟨_,q⟩ | ⟨_,q⟩ | ⟨_,q⟩⟩:=Ow.at g2 w <;> rw[e'] at q <;> cases q <;> exact h1 a _ e' trivial nw
  exact⟨u,g1,g2,g3,g4⟩
 refine⟨by simp[st.len],h0,λj y e=>?_,λj k y z v u a e1 e2 e3 e4 o1 o2=>?_,st.t0⟩
 ·rcases qU e with ⟨rfl,rfl,hl⟩ | ⟨hj,e⟩
  ·exact⟨v',by rw[List.getElem?_set_self (by rw[<-st.len];exact hl)],h2⟩
  ·obtain⟨u,g1,_,g3,_⟩:=old j y (Ne.symm hj) e
   exact⟨u,by rw[List.getElem?_set_ne hj];exact g1,g3⟩
 ·have cross:∀(j:Nat) (y:S) (u:V),i≠j->ρ[j]? = some (some y)->σ[j]? = some (some u)->Ow H' y u a->Ow H' x' v' a->False:=λj y u hj e es o1 o2=>by
   obtain⟨u',g1,g2,g3,g4⟩:=old j y (Ne.symm hj) e
   rw[g1] at es;cases es
   rcases h3 a o2 with w | n
   ·exact h4 j y _ a (Ne.symm hj) e g1 (g4 a o1) w
   ·obtain⟨_,⟨_,q⟩ | ⟨_,q⟩ | ⟨_,q⟩⟩:=Ow.at g2 (g4 a o1) <;> rw[n] at q <;> cases q
  rcases qU e1 with ⟨rfl,rfl,hl⟩ | ⟨hj,e1'⟩
  ·rcases qU e2 with ⟨rfl,rfl,_⟩ | ⟨hk,e2'⟩
   ·rfl
   ·rw[List.getElem?_set_self (by rw[<-st.len];exact hl)] at e3;cases e3
    rw[List.getElem?_set_ne hk] at e4
    exact (cross k z u hk e2' e4 o2 o1).elim
  ·rw[List.getElem?_set_ne hj] at e3
   rcases qU e2 with ⟨rfl,rfl,hl⟩ | ⟨hk,e2'⟩
   ·rw[List.getElem?_set_self (by rw[<-st.len];exact hl)] at e4;cases e4
    exact (cross j y v hj e1' e3 o1 o2).elim
   ·rw[List.getElem?_set_ne hk] at e4
    obtain⟨v',g1,g2,g3,g4⟩:=old j y (Ne.symm hj) e1'
    obtain⟨u',f1,f2,f3,f4⟩:=old k z (Ne.symm hk) e2'
    rw[g1] at e3;cases e3
    rw[f1] at e4;cases e4
    exact st.sep j k y z _ _ a e1' e2' g1 f1 (g4 a o1) (f4 a o2)
theorem StOk.put (st:StOk X ρ σ H) {i:Nat} {x':S} {v':V} (s:Same H H') (h2:RelS X.K X.H₀ H' x' v') (h3:∀a,Ow H' x' v' a->H a=none):StOk X (ρ.set i (some x')) (σ.set i (some v')) H' :=
 st.chg (W:=λ_=>False) (.of s) (st.same.trans s) (λb o h n _=>s.get b o h n) h2 (λa o=>.inr (h3 a o)) λ_ _ _ _ _ _ _ _ z=>z
theorem StOk.updW (st:StOk X ρ σ H) {i:Nat} {x x':S} {v v':V} (e:ρ[i]? = some (some x)) (es:σ[i]? = some (some v)) (h1:∀b o,H b=some o->¬Ow H x v b->H' b=some o) (h2:RelS X.K X.H₀ H' x' v')
  (h3:∀a,Ow H' x' v' a->Ow H x v a\/H a=none):StOk X (ρ.set i (some x')) (σ.set i (some v')) H'/\Keep H H':=by
 obtain⟨v0,g1,g2⟩:=st.rel i x e
 rw[g1] at es;cases es
 have no:∀b o,H b=some o->(∀vs,o≠.lst vs)->(∀kws,o≠.dK kws)->(∀kws,o≠.dT kws)->¬Ow H x v b:=λb o h n1 n2 n3 w=>by
  obtain⟨_,⟨_,q⟩ | ⟨_,q⟩ | ⟨_,q⟩⟩:=Ow.at g2 w <;> rw[h] at q <;> cases q
  ·exact n1 _ rfl
  ·exact n2 _ rfl
  ·exact n3 _ rfl
 have ne:∀b o,H b=some o->(∀vs,o≠.lst vs)->(∀kws,o≠.dK kws)->(∀kws,o≠.dT kws)->H' b=some o:=λb o h n1 n2 n3=>h1 b o h (no b o h n1 n2 n3)
 have kp:Keep H H':=⟨λb xs h=>ne b _ h (λ_ z=>by cases z) (λ_ z=>by cases z) (λ_ z=>by cases z),λb o u h=>ne b _ h (λ_ z=>by cases z) (λ_ z=>by cases z) (λ_ z=>by cases z),λb φ h=>ne b _ h (λ_ z=>by cases z) (λ_ z=>by cases z) (λ_ z=>by cases z),λb fs h=>ne b _ h (λ_ z=>by cases z) (λ_ z=>by cases z) (λ_ z=>by cases z),
  .of (λb φ h=>ne b _ h (λ_ z=>by cases z) (λ_ z=>by cases z) (λ_ z=>by cases z)) λb φ h=>ne b _ h (λ_ z=>by cases z) (λ_ z=>by cases z) (λ_ z=>by cases z)⟩
 refine⟨st.chg (W:=Ow H x v) kp ⟨λb o h n=>h1 b o (st.same.get b o h n) λw=>?_,st.same.tbls.trans kp.tbls⟩ (λb o h _ w=>h1 b o h w) h2 h3 λj y u a hj ej eu o1 o2=>hj (st.sep j i y x u v a ej e eu g1 o1 o2),kp⟩
 rw[(Ow.at g2 w).1] at h;cases h
theorem StOk.set_d (st:StOk X ρ σ H) {i:Nat} {d:D} {v:V} (r:Rep X.K H d v):StOk X (ρ.set i (some (.d d))) (σ.set i (some v)) H:=st.put (x':=.d d) (Same.refl H) r λ_ o=>o.elim
theorem cK {α:Type} {xs:List α} {i:Nat} {x:α} (e:xs[i]? = some x):xs.set i x=xs:=by
 apply List.ext_getElem? ;intro j
 by_cases hj:i=j
 ·subst hj;rw[List.getElem?_set_self (List.getElem?_eq_some_iff.mp e).1,e]
 ·rw[List.getElem?_set_ne hj]
theorem StOk.set_own (st:StOk X ρ σ H) {i:Nat} {ds:List D} {p:Addr} {vs:List V} (hp:H p=none) (r:Reps X.K H ds vs) :
  StOk X (ρ.set i (some (.own ds))) (σ.set i (some (.ref p))) (upd H p (.lst vs)):=by
 have sm:Same H (upd H p (.lst vs)):=.fn λb o h=>by rw[aG (aK h hp)];exact h
 exact st.put sm ⟨p,vs,rfl,aU,st.same.free hp,r.keep (.of sm)⟩ λa o=>by cases o;exact hp
theorem StOk.upd_own (st:StOk X ρ σ H) {i:Nat} {xs ds:List D} {p:Addr} {us vs:List V} (e:ρ[i]? = some (some (.own xs))) (es:σ[i]? = some (some (.ref p))) (hp:H p=some (.lst us)) (h0:X.H₀ p=none)
  (r:Reps X.K H ds vs):StOk X (ρ.set i (some (.own ds))) σ (upd H p (.lst vs))/\Keep H (upd H p (.lst vs)):=by
 have kp:Keep H (upd H p (.lst vs)):=Keep.chg1 hp (.inl ⟨_,rfl⟩)
 have:=st.updW (x':=.own ds) (v':=.ref p) e es (H':=upd H p (.lst vs)) (λb o h w=>by rw[aG (by rintro rfl;exact w rfl)];exact h) ⟨p,vs,rfl,aU,h0,r.keep kp⟩ λa o=>.inl o
 rw[cK es] at this
 exact this
end
section
variable {X:Cx} {pins:List (Addr × Obj)} {σ:St} {H:Hp} {s:Shared}
theorem Inv.freezeG {a:Addr} {x:HO} {o:Obj} (I:Inv X pins σ H s) (h:H a=some x) (ho:s.heap.get? a=some o) (n1:∀ys,HO.tup ys≠x) (n2:∀o w,HO.frz o w≠x) (n3:∀ps,HO.tbl ps≠x) (n4:∀c,HO.own c≠x):Inv X pins σ (upd H a (.frz o x)) s:=by
 have ok:=I.hok a _ h
 have ntup:∀b u,H b=some u->u≠x->b≠a:=λb u q d z=>by subst z;rw[h] at q;cases q;exact d rfl
 have st:∀{b:Addr} {u:HO},ObjOk X.prog X.w H s.heap b u->ObjOk X.prog X.w (upd H a (.frz o x)) s.heap b u:=λ{b u} q =>
  q.stay (λc v _ w=>w) (λc w=>by rw[aG (ntup c _ w (n4 _))];exact w) λc ys w=>by rw[aG (ntup c _ w (n1 _))];exact w
 refine I.un (t':=s.toks) (h':=s.heap) ⟨λb o q _ _ _=>q,λb o q _ _ _=>⟨o.slots,q⟩,λb o q n _=>?_,λb o q _=>⟨o,q⟩,λb ys q=>?_,λb o u q=>?_,λb ps q=>⟨#[],?_⟩⟩ λb u q=>?_
 ·rw[aG (λz=>by subst z;rw[h] at n;cases n)];exact n
 ·rw[aG (ntup b _ q (n1 _))];exact q
 ·rw[aG (ntup b _ q (n2 _ _))];exact q
 ·rw[aG (ntup b _ q (n3 _)),q];simp
 ·by_cases hb:b=a
  ·subst hb
   rw[aU] at q;cases q
   exact⟨ho,st ok⟩
  ·rw[aG hb] at q
   exact st (I.hok b u q)
theorem Inv.freeze {a:Addr} {xs:List V} (I:Inv X pins σ H s) (h:H a=some (.lst xs)):∃o,Inv X pins σ (upd H a (.frz o (.lst xs))) s:=by
 obtain⟨z,its,n,r,e⟩:=I.hok a _ h
 exact⟨_,Inv.freezeG I h e (λ_ z=>by cases z) (λ_ _ z=>by cases z) (λ_ z=>by cases z) (λ_ z=>by cases z)⟩
theorem Inv.freezeD {a:Addr} {kvs:List (Key × V)} (I:Inv X pins σ H s) (h:H a=some (.dK kvs)):∃o,Inv X pins σ (upd H a (.frz o (.dK kvs))) s:=by
 obtain⟨_,_,vs,r,ob,es,ep,e,_⟩:=I.hok a _ h
 exact⟨ob,Inv.freezeG I h e (λ_ z=>by cases z) (λ_ _ z=>by cases z) (λ_ z=>by cases z) (λ_ z=>by cases z)⟩
theorem Inv.freezeT {a:Addr} {kvs:List (List Key × V)} (I:Inv X pins σ H s) (h:H a=some (.dT kvs)):∃o,Inv X pins σ (upd H a (.frz o (.dT kvs))) s:=by
 obtain⟨_,_,_,_,ob,_,_,e,_⟩:=I.hok a _ h
 exact⟨ob,Inv.freezeG I h e (λ_ z=>by cases z) (λ_ _ z=>by cases z) (λ_ z=>by cases z) (λ_ z=>by cases z)⟩
theorem Same.upd_new {a:Addr} {o:HO} {H H1:Hp} (s:Same H H1) (n:H a=none) (m:∀φ,H1 a≠some (.ext φ)):Same H (upd H1 a o):=by
 refine⟨λb u h nt=>by rw[aG (aK h n)];exact s.get b u h nt,λb ps h=>?_⟩
 obtain⟨more,e1,e2⟩:=s.tbls b ps h
 refine⟨more,by rw[aG (aK h n)];exact e1,λx=>(e2 x).mono λc φ q=>?_⟩
 rw[aG (by rintro rfl;exact m _ q)];exact q
theorem gE:∀(kvs:List (Int × List D)) {kws:List (Key × V)} {as:List Addr} {H:Hp},Inv X pins σ H s->Dcl X.K X.H₀ H kvs kws as ->
  ∃H' vs,Inv X pins σ H' s/\kws=pL (kvs.map (·.1)) vs/\kvs.length=vs.length/\Reps X.K H' (kvs.map λp=>.lst p.2) vs/\Keep H H'/\∀b o,H b=some o->b ∉ as->H' b=some o
 | [],_,_,H,I,t=>by cases t;exact⟨H,[],I,rfl,rfl,.nil,Keep.refl H,λb o h _=>h⟩
 | (k,ds)::kvs,_,_,H,I,t=>by
  cases t with
  | @cons _ b vs _ _ kws as h h0 r n t =>
   obtain⟨o,I1⟩:=Inv.freeze I h
   have kp:Keep H (upd H b (.frz o (.lst vs))):=Keep.chg1 h (.inl ⟨_,rfl⟩)
   obtain⟨H',us,I2,e1,e2,e3,k2,e4⟩:=gE kvs I1 (t.keep kp λa m o e=>by rw[aG (by rintro rfl;exact n m)];exact e)
   subst e1
   refine⟨H',.ref b::us,I2,rfl,by simp[e2],.cons (.lst (.inl ⟨o,k2.frzs _ _ _ aU⟩) (r.keep (kp.trans k2))) e3,kp.trans k2,λc u q m=>?_⟩
   rw[List.mem_cons,not_or] at m
   exact e4 c u (by rw[aG m.1];exact q) m.2
noncomputable def S.fz:S->S
 | .own ds=>.d (.lst ds)
 | .dcl kvs=>.d (.dct (kvs.map (·.1)) (kvs.map λp=>.lst p.2))
 | .box false xss=>.d (.lst (xss.map .lst))
 | .box true xss=>.d (.tup (xss.map .lst))
 | .d x=>.d x
 | .exc C y c=>.exc C y c
 | .raw u=>.raw u
 | .dt ks xs=>.d (.dtt ks xs)
theorem StOk.fz {ρ:En} {i:Nat} {x:S} (so:StOk X ρ σ H) (I:Inv X pins σ H s) (e:ρ[i]? = some (some x)):∃H',Inv X pins σ H' s/\StOk X (ρ.set i (some x.fz)) σ H'/\Keep H H':=by
 obtain⟨v,h1,h2⟩:=so.rel i _ e
 cases x with
 | d x=>exact⟨H,I,by rw[show S.fz (.d x) = .d x from rfl,cK e];exact so,Keep.refl H⟩
 | exc C y c=>exact⟨H,I,by rw[show S.fz (.exc C y c) = .exc C y c from rfl,cK e];exact so,Keep.refl H⟩
 | raw u=>exact⟨H,I,by rw[show S.fz (.raw u) = .raw u from rfl,cK e];exact so,Keep.refl H⟩
 | own ds =>
  obtain⟨p,vs,ev,hp,h0,rr⟩:=id h2
  subst ev
  obtain⟨o,I2⟩:=Inv.freeze I hp
  have kp:Keep H (upd H p (.frz o (.lst vs))):=Keep.chg1 hp (.inl ⟨_,rfl⟩)
  obtain⟨so2,k2⟩:=so.updW (x':=.d (.lst ds)) (v':=.ref p) e h1 (H':=upd H p (.frz o (.lst vs))) (λb o h w=>by rw[aG (by rintro rfl;exact w rfl)];exact h) (.lst (.inl ⟨o,aU⟩) (rr.keep kp)) λa o=>o.elim
  rw[cK h1] at so2
  exact⟨_,I2,so2,k2⟩
 | dt ks xs =>
  obtain⟨p,vs,ev,hp,h0,hl,rr⟩:=id h2
  subst ev
  obtain⟨o,I2⟩:=Inv.freezeT I hp
  have kp:Keep H (upd H p (.frz o (.dT (cE ks vs)))):=Keep.chg1 hp (.inr (.inr ⟨_,rfl⟩))
  obtain⟨so2,k2⟩:=so.updW (x':=.d (.dtt ks xs)) (v':=.ref p) e h1 (H':=upd H p (.frz o (.dT (cE ks vs)))) (λb o h w=>by rw[aG (by rintro rfl;exact w rfl)];exact h) (.dtt aU hl (rr.keep kp)) λa o=>o.elim
  rw[cK h1] at so2
  exact⟨_,I2,so2,k2⟩
 | dcl kvs =>
  obtain⟨p,kws,as,ev,hp,h0,t⟩:=id h2
  subst ev
  obtain⟨H1,vs,I1,e1,e2,e3,k1,e4⟩:=gE kvs I t
  have np:p ∉ as:=λm=>by obtain⟨_,us,q⟩:=t.at m;rw[hp] at q;cases q
  have hp1:=e4 p _ hp np
  obtain⟨o,I2⟩:=Inv.freezeD I1 hp1
  have kp:Keep H1 (upd H1 p (.frz o (.dK kws))):=Keep.chg1 hp1 (.inr (.inl ⟨_,rfl⟩))
  obtain⟨so2,k2⟩:=so.updW (x':=.d (.dct (kvs.map (·.1)) (kvs.map λp=>.lst p.2))) (v':=.ref p) e h1 (H':=upd H1 p (.frz o (.dK kws)))
   (λb o h w=>by
    rw[aG (by rintro rfl;exact w ⟨_,kws,rfl,hp,.inl rfl⟩)]
    exact e4 b o h λm=>w ⟨p,kws,rfl,hp,.inr (t.mem.mp m)⟩)
   (.dct (by rw[aU,e1]) (by simp[e2]) (e3.keep kp)) λa o=>o.elim
  rw[cK h1] at so2
  exact⟨_,I2,so2,k2⟩
 | box t xss =>
  have emap:(xss.map λx=>((0:Int),x)).map (λp=>D.lst p.2)=xss.map D.lst:=by rw[List.map_map];rfl
  cases t with
  | false =>
   obtain⟨p,kws,as,ev,hp,h0,np,t⟩:=id h2
   subst ev
   obtain⟨H1,vs,I1,e1,e2,e3,k1,e4⟩:=gE _ I t
   rw[emap] at e3
   have ea:as.map V.ref=vs:=by rw[<-t.refs,e1];exact mE (by rw[List.length_map];simpa using e2)
   have hp1:=e4 p _ hp np
   obtain⟨o,I2⟩:=Inv.freeze I1 hp1
   have kp:Keep H1 (upd H1 p (.frz o (.lst (as.map V.ref)))):=Keep.chg1 hp1 (.inl ⟨_,rfl⟩)
   obtain⟨so2,k2⟩:=so.updW (x':=.d (.lst (xss.map .lst))) (v':=.ref p) e h1 (H':=upd H1 p (.frz o (.lst (as.map V.ref))))
    (λb o h w=>by
     rw[aG (by rintro rfl;exact w ⟨_,_,rfl,hp,.inl rfl⟩)]
     exact e4 b o h λm=>w ⟨p,_,rfl,hp,.inr (List.mem_map_of_mem m)⟩)
    (.lst (vs:=as.map V.ref) (.inl ⟨o,aU⟩) (by have z:=e3.keep kp;rw[<-ea] at z;exact z)) λa o=>o.elim
   rw[cK h1] at so2
   exact⟨_,I2,so2,k2⟩
  | true =>
   obtain⟨p,kws,as,ev,hp,t⟩:=id h2
   subst ev
   obtain⟨H1,vs,I1,e1,e2,e3,k1,e4⟩:=gE _ I t
   rw[emap] at e3
   have ea:as.map V.ref=vs:=by rw[<-t.refs,e1];exact mE (by rw[List.length_map];simpa using e2)
   obtain⟨so2,k2⟩:=so.updW (x':=.d (.tup (xss.map .lst))) (v':=.ref p) e h1 (H':=H1)
    (λb o h w=>e4 b o h λm=>w ⟨p,_,rfl,hp,List.mem_map_of_mem m⟩)
    (.tup (vs:=as.map V.ref) (k1.tups _ _ hp) (by have z:=e3;rw[<-ea] at z;exact z)) λa o=>o.elim
   rw[cK h1] at so2
   exact⟨_,I1,so2,k2⟩
end
structure Sz (n:Nat):Prop where
 ok:n<=sizeLine
noncomputable abbrev RE:=En->(D->Prop)->Prop
noncomputable abbrev RT:=En->(Bool->Prop)->Prop
noncomputable abbrev RA:=En->(List D->Prop)->Prop
structure DEnds where
 nx:En->Prop
 rt:D->Prop
 bk:En->Prop:=λ_=>False
 ct:En->Prop:=λ_=>False
noncomputable abbrev RS:=DEnds->En->Prop
noncomputable abbrev RG:=D->En->(En->Prop)->Prop
noncomputable def IZ (X:Cx) (t:RE):TE:=λσ H Q=>∃ρ P,StOk X ρ σ H/\t ρ P/\∀d v H',P d->Same H H'->Rep X.K H' d v->Q v H'
noncomputable def IY (X:Cx) (t:RE):TE:=λσ H Q=>∃ρ P,StOk X ρ σ H/\t ρ P/\∀d v H',P d->Same H H'->RepB X.K H' d v->Q v H'
noncomputable def SM (X:Cx) (t:RA):TE:=λσ H Q=>∃ρ P,StOk X ρ σ H/\t ρ P/\∀ds p vs H1,P ds->Same H H1->H1 p=none->Reps X.K H1 ds vs->Q (.ref p) (upd H1 p (.lst vs))
noncomputable def JA (X:Cx) (t:RT):TT:=λσ H Q=>∃ρ P,StOk X ρ σ H/\t ρ P/\∀b H',P b->Same H H'->Q b H'
noncomputable def SI (X:Cx) (t:RA):TA:=λσ H Q=>∃ρ P,StOk X ρ σ H/\t ρ P/\∀ds vs H',P ds->Same H H'->Reps X.K H' ds vs->Q vs H'
noncomputable def OD (X:Cx) (t:RS):TS:=λDe σ H=>∃ρ E,StOk X ρ σ H/\t E ρ/\(∀ρ' σ' H',E.nx ρ'->Keep H H'->StOk X ρ' σ' H'->De.nx σ' H')/\(∀d v H',E.rt d->Keep H H'->Same X.H₀ H'->Rep X.K H' d v->De.rt v H') /\
 (∀ρ' σ' H',E.bk ρ'->Keep H H'->StOk X ρ' σ' H'->De.bk σ' H')/\∀ρ' σ' H',E.ct ρ'->Keep H H'->StOk X ρ' σ' H'->De.ct σ' H'
noncomputable def SJ (X:Cx) (g:RG):TG:=λv σ H Q=>∃d ρ P,Rep X.K H d v/\StOk X ρ σ H/\g d ρ P/\∀ρ' σ' H',P ρ'->Keep H H'->StOk X ρ' σ' H'->Q σ' H'
theorem cJ {α β:Type} {A B C:α->β->Prop} {R:Prop} (h:∃ρ P,A ρ P/\B ρ P/\C ρ P) (k:∀ρ P,A ρ P->B ρ P->C ρ P->R):R:=let ⟨ρ,P,a,b,c⟩:=h;k ρ P a b c
theorem vX {α β γ:Type} {A B C E:γ->α->β->Prop} {R:Prop} (h:∃d ρ P,A d ρ P/\B d ρ P/\C d ρ P/\E d ρ P) (k:∀d ρ P,A d ρ P->B d ρ P->C d ρ P->E d ρ P->R):R:=let ⟨d,ρ,P,a,b,c,e⟩:=h;k d ρ P a b c e
theorem dM {α β:Type} {A B C E F G:α->β->Prop} {R:Prop} (h:∃ρ P,A ρ P/\B ρ P/\C ρ P/\E ρ P/\F ρ P/\G ρ P) (k:∀ρ P,A ρ P->B ρ P->C ρ P->E ρ P->F ρ P->G ρ P->R):R:=let ⟨ρ,P,a,b,c,e,f,g⟩:=h;k ρ P a b c e f g
noncomputable def DE (X:Cx) (e:Expr) (t:RE):Prop:=PE X e (IZ X t)
noncomputable def DB (X:Cx) (e:Expr) (t:RE):Prop:=PE X e (IY X t)
noncomputable def DO (X:Cx) (e:Expr) (t:RA):Prop:=PE X e (SM X t)
noncomputable def DT (X:Cx) (e:Expr) (t:RT):Prop:=PT X e (JA X t)
noncomputable def DW (X:Cx) (e:Expr) (t:RT):Prop:=PW X e (JA X t)
noncomputable def DA (X:Cx) (es:List Expr) (t:RA):Prop:=PA X es (SI X t)
noncomputable def DS (X:Cx) (st:Stmt) (t:RS):Prop:=PS X st (OD X t)
noncomputable def DSs (X:Cx) (sts:List Stmt) (t:RS):Prop:=PSs X sts (OD X t)
noncomputable def DG (X:Cx) (tg:Expr) (g:RG):Prop:=PG X tg (SJ X g)
theorem PE.mono {X:Cx} {e:Expr} {t t':TE} (h:PE X e t) (m:∀σ H Q,t' σ H Q->t σ H Q):PE X e t':=λpins s σ H Q I q=>h pins s σ H Q I (m σ H Q q)
theorem PT.mono {X:Cx} {e:Expr} {t t':TT} (h:PT X e t) (m:∀σ H Q,t' σ H Q->t σ H Q):PT X e t':=λpins s σ H Q I q=>h pins s σ H Q I (m σ H Q q)
theorem PW.mono {X:Cx} {e:Expr} {t t':TT} (h:PW X e t) (m:∀σ H Q,t' σ H Q->t σ H Q):PW X e t':=λwh pins s σ H Q I q=>h wh pins s σ H Q I (m σ H Q q)
theorem PA.mono {X:Cx} {e:List Expr} {t t':TA} (h:PA X e t) (m:∀σ H Q,t' σ H Q->t σ H Q):PA X e t':=λpos pins s σ H Q I q=>h pos pins s σ H Q I (m σ H Q q)
theorem PS.mono {X:Cx} {e:Stmt} {t t':TS} (h:PS X e t) (m:∀D σ H,t' D σ H->t D σ H):PS X e t':=λpins s σ H D I q=>h pins s σ H D I (m D σ H q)
theorem PSs.mono {X:Cx} {e:List Stmt} {t t':TS} (h:PSs X e t) (m:∀D σ H,t' D σ H->t D σ H):PSs X e t':=λpins s σ H D I q=>h pins s σ H D I (m D σ H q)
theorem PG.mono {X:Cx} {e:Expr} {t t':TG} (h:PG X e t) (m:∀v σ H Q,t' v σ H Q->t v σ H Q):PG X e t':=λpins s σ H v u Q I r q=>h pins s σ H v u Q I r (m v σ H Q q)
section
variable {X:Cx} {e a b c:Expr} {pos:Pos}
theorem DE.bor {t:RE} (h:DE X e t):DB X e t:=PE.mono h λσ H Q hh=>cJ hh λρ P st q k=>⟨ρ,P,st,q,λd v H' p s r=>k d v H' p s (.inl r)⟩
theorem DO.val {t:RA} (h:DO X e t):DE X e (λρ Q=>t ρ λds=>Q (.lst ds)):=by
 intro pins s σ H Q I hh_0
 obtain⟨ρ,P,st,q,k⟩:=hh_0
 refine thn (h pins s σ H (λv H'=>∃ds p vs H1,v = .ref p/\H'=upd H1 p (.lst vs)/\P (.lst ds)/\Same H H1/\H1 p=none/\Reps X.K H1 ds vs) I ⟨ρ,_,st,q,λds p vs H1 hp s1 hn r=>⟨ds,p,vs,H1,rfl,rfl,hp,s1,hn,r⟩⟩) λu s1 ⟨v,H',I',rv,ds,p,vs,H1,ev,eH,hp,sm,hn,r⟩=>?_
 subst ev eH
 obtain⟨o,I2⟩:=Inv.freeze I' (a:=p) (xs:=vs) aU
 have sm2:Same H1 (upd (upd H1 p (.lst vs)) p (.frz o (.lst vs))):=Same.fn λb u e=>by rw[aG (aK e hn),aG (aK e hn)];exact e
 exact⟨.ref p,_,I2,rv,k (.lst ds) (.ref p) _ hp (sm.trans sm2) (.lst (.inl ⟨o,aU⟩) (r.keep (.of sm2)))⟩
theorem DO.bor {t:RA} (h:DO X e t):DB X e (λρ Q=>t ρ λds=>Q (.lst ds)):=h.val.bor
noncomputable def aN (i:Nat):RE:=λρ Q=>match ρ[i]? with
 | some (some (.d d))=>Q d
 | _=>False
noncomputable def aD (i:Nat):RE:=λρ Q=>match ρ[i]? with
 | some (some (.d d))=>Q d
 | some (some (.own xs))=>Q (.lst xs)
 | _=>False
theorem dv (i:Nat) {x:Str} (hN:X.N[i]? = some x:=by rfl) (hv:Vis X.env.scope x:=by walk_at "vis") (hd:(x == ("__debug__":Str))=false:=by decide)
  (hcd:(x == ("__classdict__":Str))=false:=by decide):DE X (.Name x pos) (aN i):=by
 refine PE.mono (pv i hN hv hd hcd) λσ H Q hh=>cJ hh λρ P st q k=>?_
 unfold aN at q
 split at q
 ·rename_i d e
  obtain⟨v,h1,h2⟩:=st.rel i _ e
  exact⟨v,h1,k d v H q (Same.refl H) h2⟩
 ·exact q.elim
theorem dvb (i:Nat) {x:Str} (hN:X.N[i]? = some x:=by rfl) (hv:Vis X.env.scope x:=by walk_at "vis") (hd:(x == ("__debug__":Str))=false:=by decide)
  (hcd:(x == ("__classdict__":Str))=false:=by decide):DB X (.Name x pos) (aD i):=by
 refine PE.mono (pv i hN hv hd hcd) λσ H Q hh=>cJ hh λρ P st q k=>?_
 unfold aD at q
 split at q
 ·rename_i d e
  obtain⟨v,h1,h2⟩:=st.rel i _ e
  exact⟨v,h1,k _ v H q (Same.refl H) (.inl h2)⟩
 ·rename_i xs e
  obtain⟨v,h1,h2⟩:=st.rel i _ e
  obtain⟨a,vs,e1,e2,_,r⟩:=h2
  exact⟨v,h1,k _ v H q (Same.refl H) (.inr ⟨xs,a,vs,rfl,e1,e2,r⟩)⟩
 ·exact q.elim
noncomputable def rC (d:D):RE:=λ_ Q=>Q d
theorem aE {i:Int} {j:Nat}:DE X (.Constant (.int i) j pos) (rC (.int i)):=PE.mono BA λσ H Q hh=>cJ hh λρ P st q k=>k _ _ H q (Same.refl H) (.int i)
theorem uI {i:Bool} {j:Nat}:DE X (.Constant (.bool i) j pos) (rC (.bl i)):=PE.mono SZ λσ H Q hh=>cJ hh λρ P st q k=>k _ _ H q (Same.refl H) (.bl i)
noncomputable abbrev R22:=D->D->(D->Prop)->Prop
noncomputable def OC (X:Cx) (r:R22):R2:=λx y H Q=>∃d e P,RepB X.K H d x/\RepB X.K H e y/\r d e P/\∀z v H',P z->Same H H'->Rep X.K H' z v->Q v H'
noncomputable def OpD (X:Cx) (f:Value->Value->Sem Value) (r:R22):Prop:=OpR X f (OC X r)
noncomputable def r2 (r:R22) (ta tb:RE):RE:=λρ Q=>ta ρ λx=>tb ρ λy=>r x y Q
variable {ta tb tc:RE}
theorem IX {r:R22} {σ:St} {H:Hp} {Q:VK} (h:IZ X (r2 r ta tb) σ H Q):tOp (OC X r) (IY X ta) (IY X tb) σ H Q:=by
 obtain⟨ρ,P,st,ht,hP⟩:=h
 exact⟨ρ,_,st,ht,λx v H1 h1 s1 r1=>⟨ρ,_,st.ext s1,h1,λy u H2 h2 s2 r2=>⟨x,y,P,r1.same s2,r2,h2,λz w H' hz s3 r3=>hP z w H' hz ((s1.trans s2).trans s3) r3⟩⟩⟩
theorem aQ {op:Operator} {r:R22} (ho:OpD X (binaryOp op) r) (ha:DB X a ta) (hb:DB X b tb):DE X (.BinOp a op b pos) (r2 r ta tb):=PE.mono (TC ho ha hb) λσ H Q h=>IX h
theorem AJ {op:CmpOp} {r:R22} (ho:OpD X (compareOp op) r) (ha:DB X a ta) (hb:DB X b tb) (hm:behindInMarks op b=false:=by exact JD _):DE X (.Compare a [op] [b] pos) (r2 r ta tb):=PE.mono (MS ho ha hb hm) λσ H Q h=>IX h
noncomputable def bL (t:RE):RT:=λρ Q=>t ρ λd=>match d with
 | .bl k=>Q k
 | _=>False
theorem dE {op:CmpOp} {r:R22} (ho:OpD X (compareOp op) r) (ha:DB X a ta) (hb:DB X b tb) (hm:behindInMarks op b=false:=by exact JD _):DT X (.Compare a [op] [b] pos) (bL (r2 r ta tb)):=by
 refine PT.mono (NB ho ha hb hm) λσ H Q hh=>cJ hh λρ P st q k=>?_
 refine IX (Q:=λx H'=>∃k,x = .bl k/\Q k H') ⟨ρ,_,st,q,λd v H' hd s r=>?_⟩
 cases d with
 | bl b=>exact⟨b,r.bl_inv,k b H' hd s⟩
 | _=>exact hd.elim
theorem rL (h:DE X e ta) (he:∀whole,isTrue e X.env whole=(do let v <-whole;standAt e.pos;holding [v] (truthy v)):=by intro _;rfl):DT X e (bL ta):=by
 refine PT.mono (QP h he) λσ H Q hh=>cJ hh λρ P st q k=>?_
 refine⟨ρ,_,st,q,λd v H' hd s r=>?_⟩
 cases d with
 | bl b=>exact⟨b,r.bl_inv,k b H' hd s⟩
 | _=>exact hd.elim
noncomputable def FU (t u:RT):RT:=λρ Q=>t ρ λc=>if c=true then u ρ Q else Q false
noncomputable def rOr (t u:RT):RT:=λρ Q=>t ρ λc=>if c=true then Q true else u ρ Q
noncomputable def oZ (t:RT):RT:=λρ Q=>t ρ λc=>Q (!c)
variable {tA tB:RT} {rest:List Expr}
theorem AM (ha:DT X a tA):DW X (.BoolOp .Or [a] pos) tA:=QR ha
theorem uK (ha:DT X a tA) (hb:DW X (.BoolOp .Or (b::rest) pos) tB):DW X (.BoolOp .Or (a::b::rest) pos) (rOr tA tB) :=
 PW.mono (TH ha hb) λσ H Q hh=>cJ hh λρ P st q k=>⟨ρ,_,st,q,λc H1 hc s1=>by
  cases c with
  | false=>rw[if_neg Bool.false_ne_true] at hc ⊢;exact⟨ρ,P,st.ext s1,hc,λd H2 hd s2=>k d H2 hd (s1.trans s2)⟩
  | true=>rw[if_pos rfl] at hc ⊢;exact k true H1 hc s1⟩
theorem DW.tst (h:DW X e tA):DT X e tA:=PW.pt h
theorem rK (ha:DT X a tA):DT X (.UnaryOp .Not a pos) (oZ tA):=PT.mono (QO ha) λσ H Q hh=>cJ hh λρ P st q k=>⟨ρ,_,st,q,λc H1 hc s1=>k _ H1 hc s1⟩
noncomputable def nS (ta tb:RE):RE:=λρ Q=>ta ρ λd=>match d with
 | .bl k=>if k=true then tb ρ Q else Q (.bl false)
 | _=>False
noncomputable def FW (ta tb:RE):RE:=λρ Q=>ta ρ λd=>match d with
 | .bl k=>if k=true then Q (.bl true) else tb ρ Q
 | _=>False
noncomputable def pN (ta:RE):RE:=λρ Q=>ta ρ λd=>match d with
 | .bl k=>Q (.bl (!k))
 | _=>False
theorem HP {op} (h:DE X a ta):DE X (.BoolOp op [a] pos) ta:=QD h
theorem HN (ha:DE X a ta) (hb:DE X (.BoolOp .And (b::rest) pos) tb):DE X (.BoolOp .And (a::b::rest) pos) (nS ta tb) :=
 PE.mono (QB ha hb) λσ H Q hh=>cJ hh λρ P st q k=>⟨ρ,_,st,q,λd v H1 hd s1 r=>by
  cases d with
  | bl c =>
   refine⟨c,r.bl_inv,?_⟩
   cases c with
   | true=>exact⟨ρ,P,st.ext s1,hd,λd v H2 hd s2=>k d v H2 hd (s1.trans s2)⟩
   | false=>exact k (.bl false) (.bl false) H1 hd s1 (.bl false)
  | _=>exact hd.elim⟩
theorem OV (ha:DE X a ta):DE X (.UnaryOp .Not a pos) (pN ta) :=
 PE.mono (QC ha) λσ H Q hh=>cJ hh λρ P st q k=>⟨ρ,_,st,q,λd v H1 hd s1 r=>by
  cases d with
  | bl c=>exact⟨c,r.bl_inv,k (.bl !c) (.bl !c) H1 hd s1 (.bl _)⟩
  | _=>exact hd.elim⟩
noncomputable def rIf (t:RT) (ta tb:RE):RE:=λρ Q=>t ρ λc=>if c=true then ta ρ Q else tb ρ Q
noncomputable def SO (X:Cx) (r:D->(D->Prop)->Prop):V->Hp->VK->Prop:=λx H Q=>∃d P,RepB X.K H d x/\r d P/\∀z v H',P z->Same H H'->Rep X.K H' z v->Q v H'
noncomputable def UnD (X:Cx) (f:Value->Sem Value) (r:D->(D->Prop)->Prop):Prop:=UnR X f (SO X r)
noncomputable def r1 (r:D->(D->Prop)->Prop) (ta:RE):RE:=λρ Q=>ta ρ λx=>r x Q
theorem NR {op:UnaryOp} {r:D->(D->Prop)->Prop} (ho:UnD X (unaryOp op) r) (ha:DB X a ta):DE X (.UnaryOp op a pos) (r1 r ta) :=
 PE.mono (TD ho ha) λσ H Q hh=>cJ hh λρ P st q k=>⟨ρ,_,st,q,λd v H1 hd s1 rr=>⟨d,P,rr,hd,λz v H2 hz s2 r2=>k z v H2 hz (s1.trans s2) r2⟩⟩
noncomputable def aH:RA:=λ_ Q=>Q []
noncomputable def aB (t:RE) (u:RA):RA:=λρ Q=>t ρ λx=>u ρ λxs=>Q (x::xs)
variable {es:List Expr} {t:RA}
theorem aI:DA X [] aH:=PA.mono oU λσ H Q hh=>cJ hh λρ P st q k=>k [] [] H q (Same.refl H) .nil
theorem aC (ha:DE X e ta) (hr:DA X es t) (hs:starEach (e::es) X.env=(false,eval e X.env)::starEach es X.env:=by rfl):DA X (e::es) (aB ta t) :=
 PA.mono (gY ha hr hs) λσ H Q hh=>cJ hh λρ P st q k=>⟨ρ,_,st,q,λd v H1 hd s1 r1=>⟨ρ,_,st.ext s1,hd,λds vs H2 hds s2 r2=>k (d::ds) (v::vs) H2 hds (s1.trans s2) (.cons (r1.keep (.of s2)) r2)⟩⟩
noncomputable def iF (t:RA):RE:=λρ Q=>t ρ λds=>Sz ds.length/\Q (.tup ds)
theorem fX {x1} (h:DA X es t):DE X (.Tuple es x1 pos) (iF t) :=
 PE.mono (QF h) λσ H Q hh=>cJ hh λρ P st q k=>⟨ρ,_,st,q,λds vs H1 hd s1 r=>⟨by rw[<-r.length];exact hd.1.ok,λp hp=>k (.tup ds) (.ref p) _ hd.2 (Same.upd_new s1 (s1.free hp) λ_ z=>by rw[hp] at z;cases z) (by
  have sm:Same H1 (upd H1 p (.tup vs)):=Same.fn λb u e=>by rw[aG (aK e hp)];exact e
  exact .tup aU (r.keep (.of sm)))⟩⟩
noncomputable def gM (t:RA):RA:=λρ Q=>t ρ λds=>Sz ds.length/\Q ds
theorem eP (h:DA X es t):DO X (.List es pos) (gM t) :=
 PE.mono (JM h) λσ H Q hh=>cJ hh λρ P st q k=>⟨ρ,_,st,q,λds vs H1 hd s1 r=>⟨by rw[<-r.length];exact hd.1.ok,λp hp=>k ds p vs H1 hd.2 s1 hp r⟩⟩
end
section
variable {X:Cx} {e a b c:Expr} {pos:Pos} {st:Stmt} {rest:List Stmt} {t u:RS} {te:RE} {tA:RT}
noncomputable def aX (t u:RS):RS:=λE ρ=>t { E with nx:=u E } ρ
noncomputable def cP:RS:=λE ρ=>E.nx ρ
theorem cY:DSs X [] cP:=PSs.mono MZ λDe σ H hh=>dM hh λρ E st q n r b c=>n ρ σ H q (Keep.refl H) st
theorem aL (h:DS X st t):DSs X [st] t:=NA h
theorem aF (h1:DS X st t) (h2:DSs X rest u):DSs X (st::rest) (aX t u) :=
 PSs.mono (JU h1 h2) λDe σ H hh=>dM hh λρ E st q n r b c=>⟨ρ,_,st,q,λρ' σ' H' h k s=>⟨ρ',E,s,h,λρ2 σ2 H2 x k2=>n ρ2 σ2 H2 x (k.trans k2),λd v H2 x k2=>r d v H2 x (k.trans k2),λρ2 σ2 H2 x k2=>b ρ2 σ2 H2 x (k.trans k2),λρ2 σ2 H2 x k2=>c ρ2 σ2 H2 x (k.trans k2)⟩,r,b,c⟩
theorem xU:DS X st (λ_ _=>False):=PS.mono JS λDe σ H ⟨ρ,E,st,q,_⟩=>q
noncomputable def bO (te:RE):RS:=λE ρ=>te ρ E.rt
theorem bD (h:DE X e te):DS X (.Return (some e) pos) (bO te) :=
 PS.mono (QN h) λDe σ H hh=>dM hh λρ E st q n r b c=>⟨ρ,_,st,q,λd v H1 hd s1 rr=>r d v H1 hd (.of s1) (st.same.trans s1) rr⟩
noncomputable def uR (te:RE):RS:=λE ρ=>te ρ λ_=>E.nx ρ
noncomputable def fY (c:RT) (t u:RS):RS:=λE ρ=>c ρ λk=>if k=true then t E ρ else u E ρ
theorem gX {sa sb:List Stmt} (hc:DT X c tA) (ha:DSs X sa t) (hb:DSs X sb u):DS X (.If c sa sb pos) (fY tA t u) :=
 PS.mono (TF hc ha hb) λDe σ H hh=>dM hh λρ E st q n r b c=>⟨ρ,_,st,q,λk H1 hk s1=>by
  cases k with
  | true=>rw[if_pos rfl] at hk ⊢;exact⟨ρ,E,st.ext s1,hk,λρ2 σ2 H2 x k2=>n ρ2 σ2 H2 x ((Keep.of s1).trans k2),λd v H2 x k2=>r d v H2 x ((Keep.of s1).trans k2),λρ2 σ2 H2 x k2=>b ρ2 σ2 H2 x ((Keep.of s1).trans k2),λρ2 σ2 H2 x k2=>c ρ2 σ2 H2 x ((Keep.of s1).trans k2)⟩
  | false=>rw[if_neg Bool.false_ne_true] at hk ⊢;exact⟨ρ,E,st.ext s1,hk,λρ2 σ2 H2 x k2=>n ρ2 σ2 H2 x ((Keep.of s1).trans k2),λd v H2 x k2=>r d v H2 x ((Keep.of s1).trans k2),λρ2 σ2 H2 x k2=>b ρ2 σ2 H2 x ((Keep.of s1).trans k2),λρ2 σ2 H2 x k2=>c ρ2 σ2 H2 x ((Keep.of s1).trans k2)⟩⟩
noncomputable def aP (i:Nat):RG:=λd ρ Q=>Q (ρ.set i (some (.d d)))
theorem aW {i:Nat} {x:Str} (hN:X.N.Nodup) (hi:X.N[i]? = some x:=by rfl) (hx:Loc X.env.scope x:=by walk_at "vis") (hf:X.fn x=true\/X.env.scope.names.lookup x=some .local:=by walk_at "loc"):DG X (.Name x pos) (aP i) :=
 PG.mono (MU hN hi hx hf) λv σ H Q hh=>vX hh λd ρ P r st q k=>k _ _ H q (Keep.refl H) (st.set_d r)
noncomputable abbrev RGs:=List D->En->(En->Prop)->Prop
noncomputable def PX (X:Cx) (g:RGs):TGs:=λvs σ H Q=>∃ds ρ P,Reps X.K H ds vs/\StOk X ρ σ H/\g ds ρ P/\∀ρ' σ' H',P ρ'->Keep H H'->StOk X ρ' σ' H'->Q σ' H'
noncomputable def DGs (X:Cx) (ts:List Expr) (g:RGs):Prop:=PGs X ts (PX X g)
theorem PGs.mono {X:Cx} {e:List Expr} {t t':TGs} (h:PGs X e t) (m:∀v σ H Q,t' v σ H Q->t v σ H Q):PGs X e t':=λpins s σ H v u Q I r q=>h pins s σ H v u Q I r (m v σ H Q q)
noncomputable def fQ:RGs:=λds ρ Q=>match ds with
 | []=>Q ρ
 | _=>False
noncomputable def bP (g:RG) (u:RGs):RGs:=λds ρ Q=>match ds with
 | []=>False
 | d::r=>g d ρ λρ'=>u r ρ' Q
theorem kX:DGs X [] fQ:=PGs.mono MV λvs σ H Q hh=>vX hh λds ρ P r st q k=>by
 cases r with
 | nil=>exact⟨rfl,k ρ σ H q (Keep.refl H) st⟩
 | cons _ _=>exact q.elim
theorem bZ {es:List Expr} {g:RG} {u:RGs} (h1:DG X e g) (h2:DGs X es u) (hs:(assignEach (e::es) X.env).map (·.2)=assign e X.env::(assignEach es X.env).map (·.2):=by rfl):DGs X (e::es) (bP g u) :=
 PGs.mono (JO h1 h2 hs) λvs σ H Q hh=>vX hh λds ρ P r st q k=>by
  cases r with
  | nil=>exact q.elim
  | cons r rs =>
   refine⟨_,_,rfl,_,ρ,_,r,st,q,λρ' σ' H' hq k1 st1=>⟨_,ρ',P,rs.keep k1,st1,hq,λρ2 σ2 H2 p k2 s2=>k ρ2 σ2 H2 p (k1.trans k2) s2⟩⟩
noncomputable def fR (n:Nat) (g:RGs):RG:=λd ρ Q=>match d with
 | .tup ds=>ds.length=n/\g ds ρ Q
 | _=>False
theorem oF {es:List Expr} {k:Nat} {g:RGs} {n:Nat} (hc:X.calm=true) (h:DGs X es g) (hn:(assignEach es X.env).length=n:=by rfl) (hst:(assignEach es X.env).findIdx? (·.1)=none:=by rfl):DG X (.Tuple es k pos) (fR n g) :=
 PG.mono (QI hc h hn hst) λv σ H Q hh=>vX hh λd ρ P r st q kk=>by
  cases d with
  | tup ds =>
   cases r with
   | tup h r=>exact⟨_,_,rfl,SqT.of h,by rw[<-r.length];exact q.1,ds,ρ,P,r,st,q.2,kk⟩
  | _=>exact q.elim
noncomputable def FV (te:RE) (g:RG):RS:=λE ρ=>te ρ λd=>g d ρ E.nx
noncomputable def bH (i:Nat) (te:RE):RS:=λE ρ=>te ρ λd=>E.nx (ρ.set i (some (.d d)))
theorem aZ {i:Nat} {x:Str} {pos':Pos} (hN:X.N.Nodup) (he:DE X e te) (hi:X.N[i]? = some x:=by rfl) (hx:Loc X.env.scope x:=by walk_at "vis") (hs:swapsWith e (some (.Name x pos')) pos.line X.env=pure false:=by rfl)
  (hf:X.fn x=true\/X.env.scope.names.lookup x=some .local:=by walk_at "loc"):DS X (.Assign [.Name x pos'] e pos) (bH i te) :=
 PS.mono (wI hN hi hx he hs hf) λDe σ H hh=>dM hh λρ E st q n r b c=>⟨ρ,_,st,q,λd v H1 hd s1 rr=>n _ _ H1 hd (.of s1) ((st.ext s1).set_d rr)⟩
noncomputable def cQ (i:Nat) (t:RA):RS:=λE ρ=>t ρ λds=>E.nx (ρ.set i (some (.own ds)))
theorem gD {i:Nat} {x:Str} {pos':Pos} {t:RA} (hN:X.N.Nodup) (he:DO X e t) (hi:X.N[i]? = some x:=by rfl) (hx:Loc X.env.scope x:=by walk_at "vis") (hs:swapsWith e (some (.Name x pos')) pos.line X.env=pure false:=by rfl)
  (hf:X.fn x=true\/X.env.scope.names.lookup x=some .local:=by walk_at "loc"):DS X (.Assign [.Name x pos'] e pos) (cQ i t) :=
 PS.mono (wI hN hi hx he hs hf) λDe σ H hh=>dM hh λρ E st q n r b c=>⟨ρ,_,st,q,λds p vs H1 hd s1 hp rr=>n _ _ _ hd ((Keep.of s1).trans (.of (.fn λb o h=>by rw[aG (aK h hp)];exact h))) ((st.ext s1).set_own hp rr)⟩
noncomputable def zC (i j:Nat) (t:RA):RS:=λE ρ=>t ρ λds=>match ds with
 | [x,y]=>E.nx ((ρ.set i (some (.d x))).set j (some (.d y)))
 | _=>False
theorem OY {i j:Nat} {x y:Str} {t:RA} {px py pt:Pos} {kt k2 pt2} (hc:X.calm=true) (hN:X.N.Nodup) (ha:DA X [a,b] t) (hi:X.N[i]? = some x:=by rfl) (hj:X.N[j]? = some y:=by rfl) (hij:i≠j:=by decide)
  (hx:X.env.scope.names.lookup x=some .local:=by rfl) (hy:X.env.scope.names.lookup y=some .local:=by rfl)
  (hw:swappedStores [.Tuple [.Name x px,.Name y py] kt pt] (.Tuple [a,b] k2 pt2) X.env=pure (some [x,y]):=by rfl)
  (hs:swapsWithSole [.Tuple [.Name x px,.Name y py] kt pt] (.Tuple [a,b] k2 pt2) pos.line X.env=pure false:=by rfl) :
  DS X (.Assign [.Tuple [.Name x px,.Name y py] kt pt] (.Tuple [a,b] k2 pt2) pos) (zC i j t) :=
 PS.mono (QM hc hN hi hj hij hx hy ha hw hs) λDe σ H hh=>dM hh λρ E st q n r b c=>⟨ρ,_,st,q,λds vs H1 hd s1 rr=>by
  cases rr with
  | nil=>exact hd.elim
  | cons r1 t1 =>
   cases t1 with
   | nil=>exact hd.elim
   | cons r2 t2 =>
    cases t2 with
    | nil=>exact⟨_,_,rfl,n _ _ H1 hd (.of s1) (((st.ext s1).set_d r1).set_d r2)⟩
    | cons _ _=>exact hd.elim⟩
noncomputable def dJ (i:Nat) (ρ:En):En:=match ρ[i]? with
 | some (some x)=>ρ.set i (some x.fz)
 | _=>ρ
theorem jJ (i:Nat) (h:DS X st t):DS X st (λE ρ=>t E (dJ i ρ)):=by
 intro pins s σ H De I ⟨ρ,E,so,q,n,r,b,c⟩
 have q:t E (dJ i ρ):=q
 unfold dJ at q
 split at q
 ·rename_i x e
  obtain⟨H2,I2,so2,kp⟩:=so.fz I e
  exact h pins s σ _ De I2 ⟨_,E,so2,q,λρ2 σ2 H2 x k2=>n ρ2 σ2 H2 x (kp.trans k2),λd v H2 x k2=>r d v H2 x (kp.trans k2),λρ2 σ2 H2 x k2=>b ρ2 σ2 H2 x (kp.trans k2),λρ2 σ2 H2 x k2=>c ρ2 σ2 H2 x (kp.trans k2)⟩
 ·exact h pins s σ H De I ⟨ρ,E,so,q,n,r,b,c⟩
noncomputable def jI (c:RT) (t:RS):Nat->RS
 | 0,_,_=>False
 | n+1,E,ρ=>c ρ λk=>if k=true then t { E with nx:=jI c t n E,ct:=jI c t n E,bk:=E.nx } ρ else E.nx ρ
noncomputable def sP (c:RT) (t:RS):RS:=λE ρ=>∃n,jI c t n E ρ
theorem xV {body:List Stmt} (hp:PassesOwn (model X.prog X.w) X.A X.env X.xe) (hc:DT X c tA) (hb:DSs X body t):DS X (.While c body [] pos) (sP tA t) :=
 PS.mono (JT hp hc hb) λDe σ H hh=>dM hh λρ E st mq n r b c=>by
  obtain⟨m,q⟩:=mq
  refine⟨λm σ' H'=>∃ρ',StOk X ρ' σ' H'/\Keep H H'/\jI tA t m E ρ',⟨m,ρ,st,Keep.refl H,q⟩,?_⟩
  rintro m σ' H' ⟨ρ',st',kp,hw⟩
  cases m with
  | zero=>exact hw.elim
  | succ m =>
   refine⟨ρ',_,st',hw,λk H1 hk s1=>?_⟩
   have kp1:=kp.trans (.of s1)
   cases k with
   | true =>
    dsimp only at hk ⊢
    rw[if_pos rfl] at hk ⊢
    refine⟨λσ2 H2=>∃ρ2,StOk X ρ2 σ2 H2/\Keep H H2/\jI tA t m E ρ2,λσ2 H2 ⟨ρ2,a1,a2,a3⟩=>⟨m,Nat.lt_succ_self m,ρ2,a1,a2,a3⟩,?_⟩
    exact⟨ρ',_,st'.ext s1,hk,λρ2 σ2 H2 x k2 s2=>⟨ρ2,s2,kp1.trans k2,x⟩,λd v H2 x k2=>r d v H2 x (kp1.trans k2),λρ2 σ2 H2 x k2=>n ρ2 σ2 H2 x (kp1.trans k2),λρ2 σ2 H2 x k2 s2=>⟨ρ2,s2,kp1.trans k2,x⟩⟩
   | false =>
    dsimp only at hk ⊢
    rw[if_neg Bool.false_ne_true] at hk ⊢
    exact n ρ' σ' H1 hk kp1 (st'.ext s1)
noncomputable def DZ (X:Cx) (J:It) (xs:List D) (H0:Hp):Prop:=∀i H,Keep H0 H ->
 (∀d,xs[i]? = some d->J.go i H/\∀x H',J.yld i H x H'->Same H H'/\Rep X.K H' d x)/\(xs.length<=i->J.stop i H)
noncomputable def SK (X:Cx) (t:RA):TI:=λσ H R=>∃ρ P,StOk X ρ σ H/\t ρ P/\∀xs J H',P xs->Same H H'->DZ X J xs H'->R J H'
noncomputable def DI (X:Cx) (tg iter:Expr) (t:RA):Prop:=PI X tg iter (SK X t)
theorem PI.mono {X:Cx} {tg e:Expr} {t t':TI} (h:PI X tg e t) (m:∀σ H Q,t' σ H Q->t σ H Q):PI X tg e t':=λpins s σ H Q I q=>h pins s σ H Q I (m σ H Q q)
noncomputable def tJ (g:RG) (t:RS):List D->RS
 | [],E,ρ=>E.nx ρ
 | x::xs,E,ρ=>g x ρ λρ1=>t { E with nx:=tJ g t xs E,ct:=tJ g t xs E,bk:=E.nx } ρ1
noncomputable def cH (ti:RA) (g:RG) (t:RS):RS:=λE ρ=>ti ρ λxs=>tJ g t xs E ρ
theorem cS {tg iter:Expr} {body:List Stmt} {ti:RA} {g:RG} (hp:PassesOwn (model X.prog X.w) X.A X.env X.xe) (hc:X.calm=true) (hi:DI X tg iter ti) (hg:DG X tg g) (hb:DSs X body t)
  (hs:∀x,foldedSetIterable iter X.env x=pure x:=by intro _;rfl):DS X (.For tg iter body [] pos) (cH ti g t) :=
 PS.mono (QL hp hc hi hg hb hs) λDe σ H hh=>dM hh λρ E st q n r b c=>by
  refine⟨ρ,_,st,q,λxs J H1 hx s1 ok=>?_⟩
  refine⟨λi m σ' H'=>m=xs.length-i/\i<=xs.length/\∃ρ',StOk X ρ' σ' H'/\Keep H1 H'/\tJ g t (xs.drop i) E ρ',⟨xs.length,by simp,Nat.zero_le _,ρ,st.ext s1,Keep.refl H1,by simpa using hx⟩,?_⟩
  rintro i m σ' H' ⟨rfl,hi,ρ',st',kp,hf⟩
  obtain⟨o1,o2⟩:=ok i H' kp
  have kp1:Keep H H':=(Keep.of s1).trans kp
  by_cases hlt:i<xs.length
  ·have e:xs.drop i=xs[i]::xs.drop (i+1):=List.drop_eq_getElem_cons hlt
   rw[e] at hf
   obtain⟨go,yl⟩:=o1 xs[i] (List.getElem?_eq_getElem hlt)
   refine .inr ⟨go,λσ2 H2=>∃ρ2,StOk X ρ2 σ2 H2/\Keep H1 H2/\tJ g t (xs.drop (i+1)) E ρ2,λσ2 H2 hh=>⟨xs.length-(i+1),by omega,rfl,hlt,hh⟩,λx H2 y=>?_⟩
   obtain⟨s2,rx⟩:=yl x H2 y
   refine⟨xs[i],ρ',_,rx,st'.ext s2,hf,λρ3 σ3 H3 h3 k3 s3=>?_⟩
   have k13:Keep H1 H3:=(kp.trans (.of s2)).trans k3
   have k03:Keep H H3:=(kp1.trans (.of s2)).trans k3
   exact⟨ρ3,_,s3,h3,λρ4 σ4 H4 x4 k4 s4=>⟨ρ4,s4,k13.trans k4,x4⟩,λd v H4 x4 k4=>r d v H4 x4 (k03.trans k4),λρ4 σ4 H4 x4 k4=>n ρ4 σ4 H4 x4 (k03.trans k4),λρ4 σ4 H4 x4 k4 s4=>⟨ρ4,s4,k13.trans k4,x4⟩⟩
  ·have e:i=xs.length:=by omega
   subst e
   rw[List.drop_length] at hf
   exact .inl ⟨o2 (Nat.le_refl _),n ρ' σ' H' hf kp1 st'⟩
end
section
variable {X:Cx} {tg e:Expr} {te:RE} {pos p:Pos}
noncomputable def riL (te:RE):RA:=λρ Q=>te ρ λd=>match d with
 | .lst ds=>Q ds
 | _=>False
theorem dQ (h:DE X e te):DI X tg e (riL te):=by
 refine PI.mono (MW h) λσ H R hh=>cJ hh λρ P st q k=>⟨ρ,_,st,q,λd v H1 hd s1 r=>?_⟩
 cases d with
 | lst ds =>
  cases r with
  | @lst a vs _ hz r =>
   refine⟨a,rfl,⟨vs,hz.sq⟩,k ds _ H1 hd s1 λi H2 kp=>⟨λd e=>?_,λhl=>⟨vs,(hz.keep kp).sq,by rw[<-r.length];exact hl⟩⟩⟩
   obtain⟨v,h1,h2⟩:=(r.keep kp).get e
   refine⟨⟨vs,v,(hz.keep kp).sq,h1⟩,λx H' y=>?_⟩
   obtain⟨e1,e2⟩:=y
   subst e1
   have e3:=e2 vs (hz.keep kp).sq
   rw[h1] at e3;cases e3
   exact⟨Same.refl _,h2⟩
 | _=>exact hd.elim
noncomputable def riT (te:RE):RA:=λρ Q=>te ρ λd=>match d with
 | .tup ds=>Q ds
 | _=>False
theorem OX (h:DE X e te):DI X tg e (riT te):=by
 refine PI.mono (QJ h) λσ H R hh=>cJ hh λρ P st q k=>⟨ρ,_,st,q,λd v H1 hd s1 r=>?_⟩
 cases d with
 | tup ds =>
  cases r with
  | @tup a vs _ hz r =>
   refine⟨a,rfl,⟨vs,SqT.of hz⟩,k ds _ H1 hd s1 λi H2 kp=>⟨λd e=>?_,λhl=>⟨vs,SqT.of (kp.tups _ _ hz),by rw[<-r.length];exact hl⟩⟩⟩
   obtain⟨v,h1,h2⟩:=(r.keep kp).get e
   refine⟨⟨vs,v,SqT.of (kp.tups _ _ hz),h1⟩,λx H' y=>?_⟩
   obtain⟨e1,e2⟩:=y
   subst e1
   have e3:=e2 vs (SqT.of (kp.tups _ _ hz))
   rw[h1] at e3;cases e3
   exact⟨Same.refl _,h2⟩
 | _=>exact hd.elim
noncomputable def cA (lo:Int) (n:Nat):List D:=(List.range n).map λk:Nat=>D.int (lo+(k:Int))
theorem IN {H0:Hp} (lo:Int) (n:Nat):DZ X (Itr lo n) (cA lo n) H0:=λi H kp=>by
 refine⟨λd e=>?_,λhl=>by show n<=i;simpa [cA] using hl⟩
 unfold cA at e
 rw[List.getElem?_map] at e
 by_cases hi:i<n
 ·rw[List.getElem?_range hi] at e
  cases e
  exact⟨hi,λx H' y=>by obtain⟨rfl,rfl⟩:=y;exact⟨Same.refl _,.int _⟩⟩
 ·rw[List.getElem?_eq_none (by simpa using hi)] at e;cases e
structure RngOk (j:Int):Prop where
 lo:-(2 ^ 62)<=j
 hi:j<2 ^ 62
noncomputable def kK (t:RA):RA:=λρ Q=>t ρ λds=>match ds with
 | [.int j]=>RngOk j/\Q (cA 0 j.toNat)
 | _=>False
noncomputable def GF (t:RA):RA:=λρ Q=>t ρ λds=>match ds with
 | [.int i,.int j]=>(RngOk i/\RngOk j)/\Q (cA i (j-i).toNat)
 | _=>False
theorem dI {a:Expr} {t:RA} (hm:X.mg "range" = none) (ha:DA X [a] t) (hg:Gl X "range":=by rfl) (hs:starEach [a] X.env=[(false,eval a X.env)]:=by rfl):DI X tg (.Call (.Name "range" p) [a] [] pos) (kK t):=by
 refine PI.mono (FS hg hm ha hs) λσ H R hh=>cJ hh λρ P st q k=>⟨ρ,_,st,q,λds vs H1 hd s1 r=>?_⟩
 split at hd
 ·rename_i j
  rw[Reps.ints_inv (ns:=[j]) r]
  exact⟨j,rfl,hd.1.lo,hd.1.hi,k _ _ H1 hd.2 s1 (IN 0 _)⟩
 ·exact hd.elim
end
noncomputable abbrev FD:=List D->(D->Prop)->Prop
noncomputable def spD (K:PySem.W.Frag) (F:FD):Sp:=λvs H Q _=>TabsIn K H/\∃ds P,Reps K H ds vs/\F ds P/\∀d v H',P d->Same H H'->Rep K H' d v->Q v H'
noncomputable def aV (F:FD) (t:RA):RE:=λρ Q=>t ρ λds=>F ds Q
section
variable {X:Cx} {k:Nat} {f:Addr} {fd:FuncData} {ps:List Str} {F:FD} {x:Str} {p pos:Pos} {e:Expr} {es:List Expr} {t:RA}
theorem LJ (G:FnOk X.prog X.w X.K X.mg X.base CX0 k f fd ps (spD X.K F)) (hr:Room k X.A) (hm:X.mg x=some (.ref f)) (hk:PySem.W.keepIn X.K (.ref f)=true) (hb:Binds X.K fd ps []) (ha:DA X (e::es) t) (hg:Gl X x:=by rfl)
  (hdb:(x == ("__debug__":Str))=false:=by decide) (he:starEach (e::es) X.env=(false,eval e X.env)::starEach es X.env:=by rfl) (hpl:(backTo pos (starEach es X.env)).any (·.1)=false:=by rfl) :
  DE X (.Call (.Name x p) (e::es) [] pos) (aV F t) :=
 PE.mono (MR (E:=E0) G hr hg hm hk hb .nil SY ha hdb he hpl) λσ H Q hh=>cJ hh λρ P st q kk=>⟨ρ,_,st,q,λds vs H1 hd s1 r=>by
  show spD X.K F (vs++[]) H1 Q E0
  rw[List.append_nil]
  exact⟨(st.ext s1).tabs,ds,P,r,hd,λd v H2 hp s2 r2=>kk d v H2 hp (s1.trans s2) r2⟩⟩
end
noncomputable def aM (N:List Str) (ds:List D):En:=ds.map (λd=>some (.d d))++List.replicate (N.length-ds.length) none
section
variable {P:Program} {w:World} {K:PySem.W.Frag} {mg:Str->Option Value} {base:Heap}
theorem zP {X:Cx} {N:List Str} {ds:List D} {vs:List V} (tb:TabsIn X.K X.H₀) (r:Reps X.K X.H₀ ds vs):StOk X (aM N ds) (kO N vs) X.H₀:=by
 have hl:=r.length
 have own:∀(i:Nat) (x:S),(aM N ds)[i]? = some (some x)->∃d,x = .d d:=λi x e=>by
  unfold aM at e
  by_cases hi:i<ds.length
  ·rw[List.getElem?_append_left (by simpa using hi),List.getElem?_map,List.getElem?_eq_getElem hi] at e
   cases e;exact⟨_,rfl⟩
  ·rw[List.getElem?_append_right (by simpa using hi),List.getElem?_replicate] at e
   split at e <;> cases e
 refine⟨by simp[aM,kO,hl],Same.refl _,λi x e=>?_,λi j x y v u a e1 _ _ _ o _=>by
  obtain⟨d,rfl⟩:=own i x e1
  exact o.elim,tb⟩
 unfold aM at e
 by_cases hi:i<ds.length
 ·rw[List.getElem?_append_left (by simpa using hi),List.getElem?_map,List.getElem?_eq_getElem hi] at e
  cases e
  obtain⟨v,h1,h2⟩:=r.get (List.getElem?_eq_getElem hi)
  refine⟨v,?_,h2⟩
  unfold kO
  rw[List.getElem?_append_left (by simpa [<-hl] using hi),List.getElem?_map,h1];rfl
 ·rw[List.getElem?_append_right (by simpa using hi),List.getElem?_replicate] at e
  split at e <;> cases e
theorem NY {x qual:Str} {st:Stmt} {f:Addr} {fd:FuncData} {N ps:List Str} {k:Nat} {F:FD} {t:RS} (Fu:Fun K x qual st f fd) (Sc:FnScope N ps (aA st))
  (hbody:∀(cdv:Value) (A:Around) (outer:List Env) (s:Shared) (H:Hp) (E:XK),Room k (A.deeper (envOfC qual (aA st) s.heap.objs.size f cdv)) ->
   DSs (cN CX0 P w K mg base N qual (aA st) f cdv A outer s H E).nox (aJ st) t)
  (len:∀ds Q,F ds Q->ds.length=ps.length) (pure:∀ds Q,F ds Q->t { nx:=λ_=>Q .non,rt:=Q } (aM N ds)):FnOk P w K mg base CX0 (k+1) f fd ps (spD K F):=by
 refine Fu.ok Sc (λvs H Q E ⟨_,ds,P,r,h,_⟩=>by rw[<-r.length];exact len ds P h) λcdv A outer s H vs Q E hr ⟨tb,ds,P',r,h,kk⟩=>⟨_,hbody cdv A outer s H E hr,?_⟩
 exact⟨aM N ds,_,zP (X:=(cN CX0 P w K mg base N qual (aA st) f cdv A outer s H E).nox) tb r,pure ds P' h,λρ' σ' H' hq k s'=>kk .non .non H' hq s'.same .non,λd v H' hq k sm rv=>kk d v H' hq sm rv,λ_ _ _ z=>z.elim,λ_ _ _ z=>z.elim⟩
end
noncomputable def BL (n:Nat) (i:Int):Prop:=i.natAbs<2 ^ n
theorem BL.bits {n:Nat} {i:Int} (h:BL n i):Builtin.Int.intBits i<=n:=intBits_le_iff.mpr h
theorem BL.of {n:Nat} {i:Int} (h:Builtin.Int.intBits i<=n):BL n i:=intBits_le_iff.mp h
theorem BL.mono {m n:Nat} {i:Int} (h:BL m i) (l:m<=n):BL n i:=BL.of (Nat.le_trans h.bits l)
theorem BL.add {m n:Nat} {i j:Int} (a:BL m i) (b:BL n j):BL (max m n+1) (i+j):=BL.of (intBits_add_le a.bits b.bits)
theorem BL.sub {m n:Nat} {i j:Int} (a:BL m i) (b:BL n j):BL (max m n+1) (i-j):=BL.of (intBits_sub_le a.bits b.bits)
theorem BL.mul {m n:Nat} {i j:Int} (a:BL m i) (b:BL n j):BL (m+n) (i*j):=BL.of (intBits_mul_le a.bits b.bits)
theorem BL.neg {m:Nat} {i:Int} (a:BL m i):BL m (-i):=BL.of (intBits_neg_le a.bits)
theorem BL.fdiv {m:Nat} {i j:Int} (a:BL m i):BL m (i.fdiv j):=BL.of (intBits_fdiv_le a.bits)
theorem BL.le {m:Nat} {i j:Int} (a:BL m j) (h:i.natAbs<=j.natAbs):BL m i:=Nat.lt_of_le_of_lt h a
theorem BL.of_lt {m:Nat} {i:Int} (h1:-(2 ^ m:Nat)<i) (h2:i<(2 ^ m:Nat)):BL m i:=by unfold BL;omega
theorem BL.intMulOk {m n:Nat} {i j:Int} (a:BL m i) (b:BL n j) (h:m+n<=134217728):IntMulOk i j:=IntMulOk.of_le a.bits b.bits h
theorem BL.noPy {i j:Int} (h:BL 9000 j):Builtin.divisionGoesByPylong i j=false:=by
 refine PyProof.noPylong_of_log2 ?_
 by_cases h0:j.natAbs=0
 ·rw[h0];decide +kernel
 ·exact (Nat.log2_lt h0).mpr h
section
variable {X:Cx} {e a b c:Expr} {pos:Pos}
theorem RepB.int_inv {K:PySem.W.Frag} {H:Hp} {i:Int} {v:V} (h:RepB K H (.int i) v):v = .int i:=by
 rcases h with h | ⟨ds,a,vs,e1,_⟩
 ·exact h.int_inv
 ·cases e1
theorem RepB.bl_inv {K:PySem.W.Frag} {H:Hp} {i:Bool} {v:V} (h:RepB K H (.bl i) v):v = .bl i:=by
 rcases h with h | ⟨ds,a,vs,e1,_⟩
 ·exact h.bl_inv
 ·cases e1
structure MulOk (i j:Int):Prop where
 ok:IntMulOk i j
structure DivOk (i j:Int):Prop where
 nz:j≠0
 np:Builtin.divisionGoesByPylong i j=false
structure ModOk (j:Int):Prop where
 nz:j≠0
structure PowOk (i j:Int):Prop where
 ok:0<=j/\j<=1000000/\i.natAbs<2 ^ 64
theorem BL.mulOk {m n:Nat} {i j:Int} (a:BL m i) (b:BL n j) (h:m+n<=134217728:=by decide):MulOk i j:=⟨a.intMulOk b h⟩
theorem BL.divOk {i j:Int} (h:BL 9000 j) (nz:j≠0):DivOk i j:=⟨nz,h.noPy⟩
noncomputable def eL:R22:=λx y Q=>match x,y with
 | .int i,.int j=>Q (.int (i+j))
 | _,_=>False
noncomputable def jQ:R22:=λx y Q=>match x,y with
 | .int i,.int j=>Q (.int (i-j))
 | _,_=>False
noncomputable def dY:R22:=λx y Q=>match x,y with
 | .int i,.int j=>MulOk i j/\Q (.int (i*j))
 | _,_=>False
noncomputable def eF:R22:=λx y Q=>match x,y with
 | .int i,.int j=>DivOk i j/\Q (.int (i.fdiv j))
 | _,_=>False
noncomputable def eO:R22:=λx y Q=>match x,y with
 | .int i,.int j=>ModOk j/\Q (.int (i.fmod j))
 | _,_=>False
noncomputable def mC:R22:=λx y Q=>match x,y with
 | .int i,.int j=>PowOk i j/\Q (.int (i ^ j.toNat))
 | _,_=>False
theorem FP {f:Value->Value->Sem Value} {C:Int->Int->Prop} {g:Int->Int->Int} {r:R22} (h:OpR X f (rI C λi j=>.int (g i j)))
  (hr:∀x y Q,r x y Q->∃i j,x = .int i/\y = .int j/\C i j/\Q (.int (g i j))):OpD X f r:=by
 intro pins s σ H x y v u Q I rx ry hh_0
 obtain⟨d,e,P,r1,r2,q,k⟩:=hh_0
 obtain⟨i,j,rfl,rfl,hc,q⟩:=hr _ _ _ q
 exact h pins s σ H x y v u Q I rx ry ⟨i,j,r1.int_inv,r2.int_inv,hc,k _ _ H q (Same.refl H) (.int _)⟩
theorem cL:OpD X (binaryOp .Add) eL:=FP (C:=λ_ _=>True) (g:=λi j=>i+j) (opI λ_ _ _ _ _ _ _ _ q=>add_int q) λx y Q q=>by
 unfold eL at q;split at q
 ·exact⟨_,_,rfl,rfl,trivial,q⟩
 ·exact q.elim
theorem iD:OpD X (binaryOp .Sub) jQ:=FP (C:=λ_ _=>True) (g:=λi j=>i-j) (opI λ_ _ _ _ _ _ _ _ q=>sub_int q) λx y Q q=>by
 unfold jQ at q;split at q
 ·exact⟨_,_,rfl,rfl,trivial,q⟩
 ·exact q.elim
theorem cG:OpD X (binaryOp .Mult) dY:=FP (C:=λi j=>IntMulOk i j) (g:=λi j=>i*j) (opI λ_ _ _ _ _ _ _ hc q=>mul_int q hc) λx y Q q=>by
 unfold dY at q;split at q
 ·exact⟨_,_,rfl,rfl,q.1.ok,q.2⟩
 ·exact q.elim
theorem dS:OpD X (binaryOp .FloorDiv) eF:=FP (C:=λi j=>j≠0/\Builtin.divisionGoesByPylong i j=false) (g:=λi j=>i.fdiv j) (opI λ_ _ _ _ _ _ _ hc q=>floordiv_int hc.1 q (.inl hc.2)) λx y Q q=>by
 unfold eF at q;split at q
 ·exact⟨_,_,rfl,rfl,⟨q.1.nz,q.1.np⟩,q.2⟩
 ·exact q.elim
theorem dG:OpD X (binaryOp .Mod) eO:=FP (C:=λ_ j=>j≠0) (g:=λi j=>i.fmod j) (opI λ_ _ _ _ _ _ _ hc q=>mod_int' hc q) λx y Q q=>by
 unfold eO at q;split at q
 ·exact⟨_,_,rfl,rfl,q.1.nz,q.2⟩
 ·exact q.elim
theorem sD:OpD X (binaryOp .Pow) mC:=FP (C:=λi j=>0<=j/\j<=1000000/\i.natAbs<2 ^ 64) (g:=λi j=>i ^ j.toNat) (opI λ_ _ _ _ _ _ _ hc q=>pow_int_small hc.1 hc.2.1 hc.2.2 q) λx y Q q=>by
 unfold mC at q;split at q
 ·exact⟨_,_,rfl,rfl,q.1.ok,q.2⟩
 ·exact q.elim
noncomputable def tI:D->(D->Prop)->Prop:=λx Q=>match x with
 | .int i=>Q (.int (-i))
 | _=>False
theorem KS:UnD X (unaryOp .USub) tI:=by
 intro pins s σ H x v Q I rx hh_0
 obtain⟨d,P,r,q,k⟩:=hh_0
 unfold tI at q;split at q
 ·rename_i i
  exact RN pins s σ H x v Q I rx ⟨i,r.int_inv,k _ _ H q (Same.refl H) (.int _)⟩
 ·exact q.elim
noncomputable def gT (p:Int->Int->Bool):R22:=λx y Q=>match x,y with
 | .int i,.int j=>Q (.bl (p i j))
 | _,_=>False
theorem QA {f:Value->Value->Sem Value} {p:Int->Int->Bool} (h:OpR X f (rI0 λi j=>.bl (p i j))):OpD X f (gT p):=by
 intro pins s σ H x y v u Q I rx ry hh_0
 obtain⟨d,e,P,r1,r2,q,k⟩:=hh_0
 unfold gT at q;split at q
 ·rename_i i j
  exact h pins s σ H x y v u Q I rx ry ⟨i,j,r1.int_inv,r2.int_inv,k _ _ H q (Same.refl H) (.bl _)⟩
 ·exact q.elim
theorem CY:OpD X (compareOp .Lt) (gT λi j=>decide (i<j)):=QA SX
theorem CW:OpD X (compareOp .Gt) (gT λi j=>decide (j<i)):=QA SW
theorem SS:OpD X (compareOp .GtE) (gT λi j=>decide (j<=i)):=QA SV
noncomputable def jP (neg:Bool):R22:=λx y Q=>match x,y with
 | .int i,.int j=>Q (.bl (if neg then !decide (i=j) else decide (i=j)))
 | .bl i,.bl j=>Q (.bl (if neg then !decide (i=j) else decide (i=j)))
 | _,_=>False
theorem sC:OpD X (compareOp .Eq) (jP false):=by
 intro pins s σ H x y v u Q I rx ry hh_0
 obtain⟨d,e,P,r1,r2,q,k⟩:=hh_0
 unfold jP at q;split at q
 ·rename_i i j
  rw[r1.int_inv] at rx;rw[r2.int_inv] at ry
  exact OE pins s σ H _ _ v u Q I rx ry ⟨rfl,by
   have e:decide (V.int i=V.int j)=decide (i=j):=by simp
   rw[e];exact k _ _ H q (Same.refl H) (.bl _)⟩
 ·rename_i i j
  rw[r1.bl_inv] at rx;rw[r2.bl_inv] at ry
  exact OE pins s σ H _ _ v u Q I rx ry ⟨rfl,by
   have e:decide (V.bl i=V.bl j)=decide (i=j):=by simp
   rw[e];exact k _ _ H q (Same.refl H) (.bl _)⟩
 ·exact q.elim
theorem JG:OpD X (compareOp .NotEq) (jP true):=by
 intro pins s σ H x y v u Q I rx ry hh_0
 obtain⟨d,e,P,r1,r2,q,k⟩:=hh_0
 unfold jP at q;split at q
 ·rename_i i j
  rw[r1.int_inv] at rx;rw[r2.int_inv] at ry
  exact OF pins s σ H _ _ v u Q I rx ry ⟨rfl,by
   have e:decide (V.int i=V.int j)=decide (i=j):=by simp
   rw[e];exact k _ _ H q (Same.refl H) (.bl _)⟩
 ·rename_i i j
  rw[r1.bl_inv] at rx;rw[r2.bl_inv] at ry
  exact OF pins s σ H _ _ v u Q I rx ry ⟨rfl,by
   have e:decide (V.bl i=V.bl j)=decide (i=j):=by simp
   rw[e];exact k _ _ H q (Same.refl H) (.bl _)⟩
 ·exact q.elim
noncomputable def pK:D->Bool
 | .non=>true
 | _=>false
noncomputable def EJ (neg:Bool):R22:=λx y Q=>match y with
 | .non=>Q (.bl (if neg then !pK x else pK x))
 | _=>False
noncomputable def dIx:R22:=λx y Q=>match x,y with
 | .lst ds,.int i=>match atI ds i with
  | some d=>Q d
  | none=>False
 | .tup ds,.int i=>match atI ds i with
  | some d=>Q d
  | none=>False
 | _,_=>False
theorem wY {K:PySem.W.Frag} {H:Hp} {ds:List D} {vs:List V} {i:Int} {d:D} (r:Reps K H ds vs) (h:atI ds i=some d):∃v,atI vs i=some v/\Rep K H d v:=by
 unfold atI at h ⊢
 rw[<-r.length]
 cases e:ixN ds.length i with
 | none=>rw[e] at h;cases h
 | some j =>
  rw[e] at h
  exact r.get h
theorem aR {ta tb:RE} (ha:DB X a ta) (hb:DB X b tb) (hs:vI b:=by intro _ _;rfl):DE X (.Subscript a b pos) (r2 dIx ta tb):=by
 refine PE.mono (TB (LW.or PK) ha hb hs) λσ H Q h=>?_
 obtain⟨ρ,P,st,ht,hP⟩:=h
 refine⟨ρ,_,st,ht,λx v H1 h1 s1 r1=>⟨ρ,_,st.ext s1,h1,λy u H2 h2 s2 r2=>?_⟩⟩
 have r1':=r1.same s2
 unfold dIx at h2;split at h2
 ·rename_i ds i
  split at h2
  ·rename_i d e
   obtain⟨p,vs,rfl,hq,rr⟩:=r1'.lst
   obtain⟨w',e',rw'⟩:=wY rr e
   exact .inl ⟨p,vs,i,w',rfl,r2.int_inv,hq,e',hP d w' H2 h2 (s1.trans s2) rw'⟩
  ·exact h2.elim
 ·rename_i ds i
  split at h2
  ·rename_i d e
   obtain⟨p,vs,rfl,hq,rr⟩:=r1'.tup
   obtain⟨w',e',rw'⟩:=wY rr e
   exact .inr ⟨p,vs,i,w',rfl,r2.int_inv,SqT.of hq,e',hP d w' H2 h2 (s1.trans s2) rw'⟩
  ·exact h2.elim
 ·exact h2.elim
noncomputable abbrev RO:=En->(Option Int->Prop)->Prop
noncomputable def SN (X:Cx) (t:RO):TO:=λσ H Q=>∃ρ P,StOk X ρ σ H/\t ρ P/\∀o H',P o->Same H H'->Q o H'
noncomputable def DP (X:Cx) (e:Option Expr) (t:RO):Prop:=PO X e (SN X t)
noncomputable def cZ:RO:=λ_ Q=>Q none
noncomputable def gZ (t:RE):RO:=λρ Q=>t ρ λd=>match d with
 | .int i=>Q (some i)
 | _=>False
theorem qP:DP X none cZ:=λpins s σ H Q I hh=>cJ hh λρ P st q k=>DC pins s σ H Q I (k none H q (Same.refl H))
theorem qQ {t:RE} (h:DE X e t):DP X (some e) (gZ t):=λpins s σ H Q I hh=>cJ hh λρ P st q k=>wG h pins s σ H Q I ⟨ρ,_,st,q,λd v H1 hd s1 r=>by
 cases d with
 | int i=>exact⟨i,r.int_inv,k (some i) H1 hd s1⟩
 | _=>exact hd.elim⟩
noncomputable def iJ (xs:List D) (lo hi:Option Int):List D:=(xs.drop (HT.sIx xs.length 0 lo)).take (HT.sIx xs.length xs.length hi-HT.sIx xs.length 0 lo)
noncomputable def uT (te:RE) (tl th:RO):RA:=λρ Q=>te ρ λx=>tl ρ λl=>th ρ λu=>match x with
 | .lst ds=>Q (iJ ds l u)
 | _=>False
noncomputable def PV (X:Cx) (r:List D->(D->Prop)->Prop):List V->Hp->VK->Prop:=λxs H Q=>∃ds P,Reps X.K H ds xs/\r ds P/\∀z v H',P z->Same H H'->Rep X.K H' z v->Q v H'
noncomputable def BV (X:Cx) (f:Value) (r:List D->(D->Prop)->Prop):Prop:=mQ X f (PV X r)
noncomputable def rCB (r:List D->(D->Prop)->Prop) (t:RA):RE:=λρ Q=>t ρ λds=>r ds Q
variable {x:Str} {p:Pos} {es:List Expr} {t:RA} {id T:String} {r:List D->(D->Prop)->Prop}
theorem gJ (hc:BV X (.builtin id) r) (hm:X.mg x=none) (hv:bootBuiltins x=some (.builtin id)) (ha:DA X (e::es) t) (hg:Gl X x:=by rfl) (hn:x≠"__name__":=by decide) (hdb:(x == ("__debug__":Str))=false:=by decide)
  (he:starEach (e::es) X.env=(false,eval e X.env)::starEach es X.env:=by rfl) (hpl:(backTo pos (starEach es X.env)).any (·.1)=false:=by rfl):DE X (.Call (.Name x p) (e::es) [] pos) (rCB r t) :=
 PE.mono (sI hc hg hm hv ha hn hdb he hpl) λσ H Q hh=>cJ hh λρ P st q k=>⟨ρ,_,st,q,λds vs H1 hd s1 rr=>⟨ds,P,rr,hd,λz v H2 hz s2 r2=>k z v H2 hz (s1.trans s2) r2⟩⟩
noncomputable def pY:List D->(D->Prop)->Prop:=λds Q=>match ds with
 | [.int i]=>Q (.int (if i<0 then -i else i))
 | _=>False
theorem vP:BV X (.builtin "abs") pY:=by
 intro pins s σ H xs us Q I rv hh_0
 obtain⟨ds,P,r,q,k⟩:=hh_0
 unfold pY at q;split at q
 ·rename_i i
  cases r with
  | cons r1 r2 =>
   cases r2
   rw[r1.int_inv] at rv
   exact HD pins s σ H _ us Q I rv ⟨i,rfl,k _ _ H q (Same.refl H) (.int _)⟩
 ·exact q.elim
noncomputable def EI:List D->(D->Prop)->Prop:=λds Q=>match ds with
 | [.bl b]=>Q (.int (if b then 1 else 0))
 | [.int i]=>Q (.int i)
 | _=>False
noncomputable def mZ:List D->(D->Prop)->Prop:=λds Q=>match ds with
 | [.int i,.int j]=>Q (.int (if j > i then j else i))
 | _=>False
noncomputable def jW:List D->(D->Prop)->Prop:=λds Q=>match ds with
 | [.int i,.int j]=>Q (.int (if j<i then j else i))
 | _=>False
theorem LA (hc:X.calm=true:=by rfl):BV X (.builtin "max") mZ:=by
 intro pins s σ H xs us Q I rv hh_0
 obtain⟨ds,P,r,q,k⟩:=hh_0
 unfold mZ at q;split at q
 ·rename_i i j
  ·rw[Reps.ints_inv (ns:=[i,j]) r] at rv
   exact EF hc pins s σ H _ us Q I rv ⟨i,j,rfl,k _ _ H q (Same.refl H) (.int _)⟩
 ·exact q.elim
theorem CG (hc:X.calm=true:=by rfl):BV X (.builtin "min") jW:=by
 intro pins s σ H xs us Q I rv hh_0
 obtain⟨ds,P,r,q,k⟩:=hh_0
 unfold jW at q;split at q
 ·rename_i i j
  ·rw[Reps.ints_inv (ns:=[i,j]) r] at rv
   exact EG hc pins s σ H _ us Q I rv ⟨i,j,rfl,k _ _ H q (Same.refl H) (.int _)⟩
 ·exact q.elim
noncomputable def iC:D->(D->Prop)->Prop:=λd Q=>match d with
 | .lst ds=>Q (.int ds.length)
 | .tup ds=>Q (.int ds.length)
 | _=>False
theorem gL {t:TE} (h:PE X e t) (hs:starEach [e] X.env=[(false,eval e X.env)]:=by rfl) (hn:starEach [] X.env=[]:=by rfl):PA X [e] (λσ H Q=>t σ H λv H'=>Q [v] H') :=
 PA.mono (gY h oU (by rw[hs,hn])) λσ H Q q=>q
theorem jE {te:RE} (hm:X.mg "len" = none) (h:DB X e te) (hg:Gl X "len":=by rfl) (hs:starEach [e] X.env=[(false,eval e X.env)]:=by rfl) (hn:starEach [] X.env=[]:=by rfl):DE X (.Call (.Name "len" p) [e] [] pos) (r1 iC te):=by
 refine PE.mono (sI vM hg hm PySem.boot_len (gL h hs hn) (by decide) (by decide) (by rw[hs,hn]) (by rw[hn];rfl)) λσ H Q hh=>cJ hh λρ P st q k=>⟨ρ,_,st,q,λd v H1 hd s1 r=>?_⟩
 unfold iC at hd;split at hd
 ·obtain⟨p,vs,rfl,hq,rr⟩:=r.lst
  exact⟨p,vs,rfl,.inl hq,by rw[<-rr.length];exact k _ _ H1 hd s1 (.int _)⟩
 ·obtain⟨p,vs,rfl,hq,rr⟩:=r.tup
  exact⟨p,vs,rfl,.inr (SqT.of hq),by rw[<-rr.length];exact k _ _ H1 hd s1 (.int _)⟩
 ·exact hd.elim
end
section
variable {X:Cx} {pins:List (Addr × Obj)} {σ:St} {H:Hp} {s:Shared} {h':Heap}
theorem _root_.L2.Inv.turnedL {t':Nat} {ch:List Addr} (I:Inv X pins σ H s) (k:∀b o,b ∉ ch->s.heap.get? b=some o->h'.get? b=some o) (f:∀b∈ch,oB X pins H b):Inv X pins σ H { s with heap:=h',toks:=t' }:=by
 have nit:∀b u,H b=some u->b ∉ ch:=λb u e z=>by rw[(f b z).1] at e;cases e
 refine I.step (g':=s.gens) (d':=s.drawn) (ch:=ch) (λb hb=>⟨(f b hb).2.2.2.1,(f b hb).2.1,(f b hb).2.2.2.2.1,(f b hb).2.2.2.2.2⟩) (λb o _ _ hc e _=>k b o hc e) (λb o _ _ hc e _=>⟨o.slots,k b o hc e⟩) (λ_ _ _ _ n=>n)
  (λb o hc e=>⟨o,k b o hc e⟩) (λ_ _ e=>e) (λ_ _ _ e=>e) (λb ps e=>⟨#[],by rw[e];simp⟩) (λm hm=>?_) (λb u e=>?_) I.bare
 ·obtain⟨o,es,ep,ho,r⟩:=hm
  exact⟨o,es,ep,k _ o (λz=>(f _ z).2.1 rfl) ho,r⟩
 ·refine (I.hok b u e).stay (λc v hc q=>k c v ?_ q) (λ_ q=>q) λ_ _ q=>q
  rcases hc with z | z
  ·rw[z];exact nit b u e
  ·exact nit c _ z
theorem _root_.L2.Inv.turnedT {t':Nat} {ch:List Addr} {T:Addr} {xs:List V} {its:List Value} (I:Inv X pins σ H s) (k:∀b o,b ∉ ch->s.heap.get? b=some o->h'.get? b=some o) (f:∀b∈ch,oB X pins H b)
  (hT:s.heap.objs.size<=T) (ht:h'.IsTuple T its.toArray) (rv:Vals xs its) (hz:xs.length<=sizeLine):Inv X pins σ (upd H T (.tup xs)) { s with heap:=h',toks:=t' }:=by
 have nit:∀b u,H b=some u->b ∉ ch:=λb u e z=>by rw[(f b z).1] at e;cases e
 have hn:H T=none:=I.hok.fresh hT
 have ne:∀{b:Addr} {o:Obj},s.heap.get? b=some o->b≠T:=λe=>Nat.ne_of_lt (Nat.lt_of_lt_of_le (Heap.lt_size e) hT)
 refine I.step (g':=s.gens) (d':=s.drawn) (ch:=ch) (λb hb=>⟨(f b hb).2.2.2.1,(f b hb).2.1,(f b hb).2.2.2.2.1,(f b hb).2.2.2.2.2⟩) (λb o _ _ hc e _=>k b o hc e) (λb o _ _ hc e _=>⟨o.slots,k b o hc e⟩) (λb o _ e n=>by rw[aG (ne e)];exact n)
  (λb o hc e=>⟨o,k b o hc e⟩) (λb ys e=>by rw[aG (aK e hn)];exact e) (λb o u e=>by rw[aG (aK e hn)];exact e) (λb ps e=>⟨#[],by rw[aG (aK e hn),e];simp⟩) (λm hm=>?_) (λb u e=>?_) I.bare
 ·obtain⟨o,es,ep,ho,r⟩:=hm
  exact⟨o,es,ep,k _ o (λz=>(f _ z).2.1 rfl) ho,r⟩
 ·by_cases hb:b=T
  ·subst hb
   rw[aU] at e;cases e
   exact⟨hz,its,rv,ht⟩
  ·rw[aG hb] at e
   refine (I.hok b u e).stay (λc v hc q=>k c v ?_ q) (λc q=>by rw[aG (aK q hn)];exact q) λc ys q=>by rw[aG (aK q hn)];exact q
   rcases hc with z | z
   ·rw[z];exact nit b u e
   ·exact nit c _ z
end
noncomputable def SE (ds:List D):List D:=ds.zipIdx.map λp=>D.tup [.int (p.2:Int),p.1]
section
variable {X:Cx} {e:Expr} {te:RE} {pos p:Pos} {elts:List Expr} {k:Nat} {tp:Pos}
noncomputable def GE (te:RE):RA:=λρ Q=>te ρ λd=>match d with
 | .lst ds=>Q (SE ds)
 | _=>False
end
noncomputable def AQ (T:String):D->Option Bool
 | .non=>some (T == "NoneType")
 | .bl _=>some (T == "bool" || T == "int")
 | .int _=>some (T == "int")
 | .str _=>some (T == "str")
 | .tup _=>some (T == "tuple")
 | .lst _=>some (T == "list")
 | .dct _ _=>none
 | .dtt _ _=>none
noncomputable def mY (T:String):D->(D->Prop)->Prop:=λd Q=>match AQ T d with
 | some b=>Q (.bl b)
 | none=>False
structure TyTab (K:PySem.W.Frag) (T:String):Prop where
 non:PySem.W.kitOne K (.type "NoneType") (.type T)=some (T == "NoneType")
 bl:PySem.W.kitOne K (.type "bool") (.type T)=some (T == "bool" || T == "int")
 int:PySem.W.kitOne K (.type "int") (.type T)=some (T == "int")
 str:PySem.W.kitOne K (.type "str") (.type T)=some (T == "str")
 tup:PySem.W.kitOne K (.type "tuple") (.type T)=some (T == "tuple")
 lst:PySem.W.kitOne K (.type "list") (.type T)=some (T == "list")
section
variable {X:Cx} {e:Expr} {te:RE} {pos p p2:Pos} {T:String} {x:Str}
theorem vT (tab:TyTab X.K T) (hm:X.mg "isinstance" = none) (hT:X.mg x=none) (hb:bootBuiltins x=some (.type T)) (h:DE X e te) (hg:Gl X "isinstance":=by rfl) (hgT:Gl X x:=by rfl) (hn:x≠"__name__":=by decide) (hd:(x == ("__debug__":Str))=false:=by decide)
  (hs:starEach [e,.Name x p2] X.env=(false,eval e X.env)::starEach [.Name x p2] X.env:=by rfl) (hs2:starEach [.Name x p2] X.env=(false,eval (.Name x p2) X.env)::starEach [] X.env:=by rfl) (hpl:(backTo pos (starEach [.Name x p2] X.env)).any (·.1)=false:=by rfl) :
  DE X (.Call (.Name "isinstance" p) [e,.Name x p2] [] pos) (r1 (mY T) te):=by
 have hc:mQ X (.builtin "isinstance") (λxs H Q=>∃d v P,xs=[v,.ty T]/\Rep X.K H d v/\mY T d P/\∀b,P (.bl b)->Q (.bl b) H):=by
  intro pins s σ H xs us Q I r hh_0
  obtain⟨d,v,P,ex,rd,q,k⟩:=hh_0
  subst ex
  obtain⟨u,w',rfl,r1,r2⟩:=DR r
  cases r2
  unfold mY at q
  split at q
  ·rename_i b eb
   have fin:∀{t:Value},TyOf X.K H v t->PySem.W.kitOne X.K t (.type T)=some b->wpAny (model X.prog X.w) X.A (call (.builtin "isinstance") [u,.type T]) (EP X pins σ Q) X.xe s:=λty e=>EW I r1 ty e λtk=>⟨.bl b,H,I.tok tk,rfl,k b q⟩
   cases rd with
   | non=>cases eb;exact fin .non tab.non
   | bl _=>cases eb;exact fin (.bl _) tab.bl
   | int _=>cases eb;exact fin (.int _) tab.int
   | str _=>cases eb;exact fin (.str _) tab.str
   | tup h _=>cases eb;exact fin (.tup h) tab.tup
   | @lst a vs _ h _ =>
    cases eb
    rcases h with ⟨o,h⟩ | ⟨o,its,n,hk,hc,_⟩
    ·exact fin (.frz h) tab.lst
    ·cases (show u=Value.ref a from r1)
     exact PySem.W.kia_one PySem.W.kitx_list I.kIn ⟨o,I.kIn a o hk,hc⟩ tab.lst (λz=>nomatch z) λtk=>⟨.bl _,H,I.tok tk,rfl,k _ q⟩
   | dct _ _ _=>cases eb
   | dtt _ _ _=>cases eb
  ·exact q.elim
 refine PE.mono (sI hc hg hm PyProof.Rows.boot_isinstance (gY h (gY (MQ (v:=.ty T) hgT hT hb rfl hn hd) oU hs2) hs) (by decide) (by decide) hs hpl) λσ H Q hh=>cJ hh λρ P st q k=>?_
 refine⟨ρ,_,st,q,λd v H1 hd s1 r=>⟨d,v,P,rfl,r,hd,λb hb=>k _ _ H1 hb s1 (.bl b)⟩⟩
end
theorem kQ:bootBuiltins "abs" = some (.builtin "abs"):=by decide +kernel
theorem ED:bootBuiltins "max" = some (.builtin "max"):=by decide +kernel
theorem uE:bootBuiltins "min" = some (.builtin "min"):=by decide +kernel
theorem EC:bootBuiltins "int" = some (.type "int"):=by decide +kernel
theorem AF:bootBuiltins "bool" = some (.type "bool"):=by decide +kernel
theorem xE:bootBuiltins "tuple" = some (.type "tuple"):=by decide +kernel
theorem AG:bootBuiltins "list" = some (.type "list"):=by decide +kernel
theorem NK (K:PySem.W.Frag):TyTab K "int":=⟨by rfl,by rfl,by rfl,by rfl,by rfl,by rfl⟩
theorem KP (K:PySem.W.Frag):TyTab K "bool":=⟨by rfl,by rfl,by rfl,by rfl,by rfl,by rfl⟩
theorem KQ (K:PySem.W.Frag):TyTab K "list":=⟨by rfl,by rfl,by rfl,by rfl,by rfl,by rfl⟩
theorem GN (K:PySem.W.Frag):TyTab K "tuple":=⟨by rfl,by rfl,by rfl,by rfl,by rfl,by rfl⟩
theorem gU {P:List Value->Prop} (h:∀a,P [a]):∀us:List Value,us.length=1->P us
 | [a],_=>h a
theorem mX {P:List Value->Prop} (h:∀a b,P [a,b]) (us:List Value) (hl:us.length=2):P us:=by
 cases us with
 | nil=>cases hl
 | cons a us=>exact gU (P:=λus=>P (a::us)) (h a) us (Nat.succ.inj hl)
theorem tY {P:List Value->Prop} (h:∀a b c,P [a,b,c]) (us:List Value) (hl:us.length=3):P us:=by
 cases us with
 | nil=>cases hl
 | cons a us=>exact mX (P:=λus=>P (a::us)) (h a) us (Nat.succ.inj hl)
structure FnAt (P:Program) (w:World) (K:PySem.W.Frag) (mg:Str->Option Value) (base:Heap) (x:Str) (ps:List Str) (k:Nat) (F:FD):Prop where
 ex:∃f fd,FnOk P w K mg base CX0 k f fd ps (spD K F)/\Binds K fd ps []/\PySem.W.keepIn K (.ref f)=true/\mg x=some (.ref f)
structure DefAt (K:PySem.W.Frag) (mg:Str->Option Value) (x:Str) (st:Stmt) (ps:List Str):Prop where
 ex:∃f fd,Fun K x x st f fd/\mg x=some (.ref f)/\∀us:List Value,us.length=ps.length->bindArgs fd ⟨us,[]⟩=pure (ps.zip us)
section
variable {P:Program} {w:World} {K:PySem.W.Frag} {mg:Str->Option Value} {base:Heap}
theorem DefAt.ok {x:Str} {st:Stmt} {N ps:List Str} {k:Nat} {F:FD} {t:RS} (Z:DefAt K mg x st ps) (Sc:FnScope N ps (aA st))
  (hbody:∀{f:Addr} (cdv:Value) (A:Around) (outer:List Env) (s:Shared) (H:Hp) (E:XK),Room k (A.deeper (envOfC x (aA st) s.heap.objs.size f cdv)) ->
   DSs (cN CX0 P w K mg base N x (aA st) f cdv A outer s H E).nox (aJ st) t)
  (len:∀ds Q,F ds Q->ds.length=ps.length) (pure:∀ds Q,F ds Q->t { nx:=λ_=>Q .non,rt:=Q } (aM N ds)):FnAt P w K mg base x ps (k+1) F:=by
 obtain⟨f,fd,a,b,c⟩:=Z.ex
 exact⟨f,fd,NY a Sc (λcdv A outer s H E hr=>hbody cdv A outer s H E hr) len pure,.all c,a.kp,b⟩
end
section
variable {X:Cx} {k:Nat} {ps:List Str} {F:FD} {x:Str} {p pos:Pos} {e:Expr} {es:List Expr} {t:RA}
theorem aT (C:FnAt X.prog X.w X.K X.mg X.base x ps k F) (hr:Room k X.A) (ha:DA X (e::es) t) (hg:Gl X x:=by rfl)
  (hdb:(x == ("__debug__":Str))=false:=by decide) (he:starEach (e::es) X.env=(false,eval e X.env)::starEach es X.env:=by rfl) (hpl:(backTo pos (starEach es X.env)).any (·.1)=false:=by rfl) :
  DE X (.Call (.Name x p) (e::es) [] pos) (aV F t):=by
 obtain⟨f,fd,G,hb,hk,hm⟩:=C.ex
 exact LJ G hr hm hk hb ha hg hdb he hpl
end
noncomputable def DX (n:Nat):FD:=λds Q=>∃ns:List Int,ds=[.lst (ns.map .int)]/\ns.length<=n/\Q (.bl true)
noncomputable def eqL (f:D->D->Option Bool):List D->List D->Option Bool
 | [],[]=>some true
 | [],_::_=>some false
 | _::_,[]=>some false
 | x::xs,y::ys=>match f x y,eqL f xs ys with
  | some a,some b=>some (a && b)
  | _,_=>none
noncomputable def eqF:Nat->D->D->Option Bool
 | 0,_,_=>none
 | n+1,d,e=>match d,e with
  | .int a,.int b=>some (decide (a=b))
  | .bl a,.bl b=>some (decide (a=b))
  | .non,.non=>some true
  | .non,.tup _=>some false
  | .tup _,.non=>some false
  | .tup xs,.tup ys=>eqL (eqF n) xs ys
  | .lst xs,.lst ys=>eqL (eqF n) xs ys
  | _,_=>none
theorem nH {f:D->D->Option Bool}:∀{xs ys:List D} {b:Bool},eqL f xs ys=some b->∀(j:Nat) (x y:D),xs[j]? = some x->ys[j]? = some y->∃c,f x y=some c
 | [],_,_,_,j,x,y,e,_=>by simp at e
 | _::_,[],_,_,j,x,y,_,e=>by simp at e
 | a::xs,c::ys,b,h,j,x,y,e1,e2=>by
  unfold eqL at h
  split at h
  ·rename_i p q hp hq
   cases j with
   | zero=>simp at e1 e2;subst e1 e2;exact⟨p,hp⟩
   | succ j=>exact nH hq j x y (by simpa using e1) (by simpa using e2)
  ·cases h
theorem kZ {f:D->D->Option Bool}:∀{xs ys:List D} {b:Bool},eqL f xs ys=some b ->
  ((List.range (min xs.length ys.length)).all (λj=>match xs[j]?,ys[j]? with | some x,some y=>(f x y).getD false | _,_=>false) && xs.length == ys.length)=b
 | [],[],b,h=>by cases h;rfl
 | [],_::_,b,h=>by cases h;rfl
 | _::_,[],b,h=>by cases h;rfl
 | x::xs,y::ys,b,h=>by
  unfold eqL at h
  split at h
  ·rename_i p q hp hq
   cases h
   have ih:=kZ hq
   rw[<-ih]
   simp only[List.length_cons,Nat.succ_min_succ,List.range_succ_eq_map,List.all_cons,List.getElem?_cons_zero,hp,Option.getD_some,List.all_map]
   rw[Bool.and_assoc]
   congr 1
   congr 1
   rw[Bool.eq_iff_iff];simp
  ·cases h
section
variable {X:Cx} {pins:List (Addr × Obj)} {σ:St} {H:Hp} {s:Shared}
theorem rO {f:D->D->Option Bool} (hf:∀{d e:D} {v:V} {b:Bool},f d e=some b->Rep X.K H d v->Rep X.K H e v->b=true):∀{xs ys:List D} {vs:List V} {b:Bool},eqL f xs ys=some b->Reps X.K H xs vs->Reps X.K H ys vs->b=true:=by
 intro xs
 induction xs with
 | nil=>intro ys vs b h q1 q2;cases q1;cases q2;cases h;rfl
 | cons x xs ih =>
  intro ys vs b h q1 q2
  cases q1 with
  | cons r t =>
   cases q2 with
   | cons r' t' =>
    unfold eqL at h
    split at h
    ·rename_i p q hp hq
     cases h
     rw[hf hp r r',ih hq t t'];rfl
    ·cases h
theorem nG (I:Inv X pins σ H s):∀(n:Nat) {d e:D} {v:V} {b:Bool},eqF n d e=some b->Rep X.K H d v->Rep X.K H e v->b=true
 | 0,_,_,_,_,h,_,_=>by cases h
 | n+1,d,e,v,b,h,r1,r2=>by
  unfold eqF at h
  split at h
  ·rw[r1.int_inv] at r2;cases r2;cases h;simp
  ·rw[r1.bl_inv] at r2;cases r2;cases h;simp
  ·cases h;rfl
  ·cases r1;cases r2
  ·cases r2;cases r1
  ·rename_i xs ys
   cases r1 with
   | @tup a vs _ h1 q1 =>
    cases r2 with
    | @tup _ ws _ h2 q2 =>
     rw[h1] at h2;cases h2
     exact rO (λ{d e v b}=>nG I n) h q1 q2
  ·rename_i xs ys
   cases r1 with
   | @lst a vs _ h1 q1 =>
    cases r2 with
    | @lst _ ws _ h2 q2 =>
     rw[I.list_inj h2.sq h1.sq] at q2
     exact rO (λ{d e v b}=>nG I n) h q1 q2
  ·cases h
theorem IH (I:Inv X pins σ H s) {n:Nat} {xs ys:List D} {a c:Addr} {vs ws:List V} {b:Bool} {A:Around} (h:eqL (eqF n) xs ys=some b) (h1:SqL X.K H a vs) (q1:Reps X.K H xs vs) (h2:SqL X.K H c ws) (q2:Reps X.K H ys ws) (hu:A.units<cLine)
  (at':∀{d e:D} {v u:V} {x y:Value} {b:Bool},eqF n d e=some b->Rep X.K H d v->Rep X.K H e u->RelV v x->RelV u y->SeqAt.EqAt A.in1 s x y b):SeqAt.RcAt A s (.ref a) (.ref c) b/\SeqAt.EqAt A s (.ref a) (.ref c) b:=by
 obtain⟨its,rv,ht,_⟩:=I.list h1
 obtain⟨its2,rv2,ht2,_⟩:=I.list h2
 have l1:xs.length=its.length:=q1.length.trans rv.length
 have l2:ys.length=its2.length:=q2.length.trans rv2.length
 have rc:SeqAt.RcAt A s (.ref a) (.ref c) b:=by
  by_cases hl:xs.length=ys.length
  ·have:=SeqAt.RcAt.lists (A:=A) (s:=s) (e:=λj=>match xs[j]?,ys[j]? with | some x,some y=>(eqF n x y).getD false | _,_=>false) ht.isList ht2.isList (by simp;omega) hu (λj g1 g2=>?_)
   ·have al:=kZ h
    simp only[List.size_toArray,<-l1] at this
    rw[<-hl,Nat.min_self,beq_self_eq_true,Bool.and_true] at al
    rw[al] at this
    exact this
   ·simp only[List.size_toArray] at g1 g2
    have e1:xs[j]? = some (xs[j]'(by omega)):=List.getElem?_eq_getElem _
    have e2:ys[j]? = some (ys[j]'(by omega)):=List.getElem?_eq_getElem _
    obtain⟨k,hk⟩:=nH h j _ _ e1 e2
    rw[e1,e2]
    simp only[hk,Option.getD_some]
    obtain⟨v1,f1,f2⟩:=q1.get e1
    obtain⟨v2,f3,f4⟩:=q2.get e2
    obtain⟨u1,g3,g4⟩:=rv.get f1
    obtain⟨u2,g5,g6⟩:=rv2.get f3
    have a1:its.toArray[j]=u1:=by
     have:=List.getElem?_eq_getElem g1
     rw[this] at g3
     simpa using Option.some.inj g3
    have a2:its2.toArray[j]=u2:=by
     have:=List.getElem?_eq_getElem g2
     rw[this] at g5
     simpa using Option.some.inj g5
    rw[a1,a2]
    exact at' hk f2 f4 g4 g6
  ·have al:=kZ h
   have:(xs.length == ys.length)=false:=by simpa using hl
   rw[this,Bool.and_false] at al
   rw[<-al]
   exact SeqAt.RcAt.lists_lengths ht.isList ht2.isList (by simp;omega) hu
 refine⟨rc,?_⟩
 by_cases hac:a=c
 ·subst hac
  rw[I.list_inj h2 h1] at q2
  rw[rO (λ{d e v b}=>nG I n) h q1 q2]
  exact SeqAt.EqAt.same _
 ·exact SeqAt.EqAt.of_refs hac rc
theorem rN (I:Inv X pins σ H s):∀(n:Nat) {d e:D} {v u:V} {x y:Value} {b:Bool} {A:Around},eqF n d e=some b->Rep X.K H d v->Rep X.K H e u->RelV v x->RelV u y->A.units+n<cLine ->
  SeqAt.RcAt A s x y b/\SeqAt.EqAt A s x y b
 | 0,_,_,_,_,_,_,_,_,h,_,_,_,_,_=>by cases h
 | n+1,d,e,v,u,x,y,b,A,h,r1,r2,rx,ry,hu=>by
  have same:=λ(hvu:v=u)=>nG I (n+1) h r1 (hvu ▸ r2)
  unfold eqF at h
  split at h
  ·rename_i i j
   rw[r1.int_inv] at rx;rw[r2.int_inv] at ry
   obtain⟨t,rfl⟩:=rx
   obtain⟨t',rfl⟩:=ry
   cases h
   have e:decide (i=j)=(i == j):=by rw[Bool.beq_eq_decide_eq]
   rw[e]
   exact⟨SeqAt.RcAt.int_int _ _ _ _,SeqAt.EqAt.int_int _ _ _ _⟩
  ·rename_i i j
   rw[r1.bl_inv] at rx;rw[r2.bl_inv] at ry
   cases rx;cases ry
   cases h
   have e:decide (i=j)=(i == j):=by rw[Bool.beq_eq_decide_eq]
   rw[e]
   exact⟨SeqAt.RcAt.bool_bool _ _,SeqAt.EqAt.bool_bool _ _⟩
  ·cases r1;cases r2;cases rx;cases ry;cases h
   exact⟨SeqAt.RcAt.none_none,SeqAt.EqAt.same _⟩
  ·cases r1
   cases r2 with
   | tup h2 q2 =>
    cases rx;cases ry;cases h
    obtain⟨its,rv,ht,_⟩:=I.tuple (SqT.of h2)
    exact⟨SeqAt.RcAt.none_tuple ht (by omega),SeqAt.EqAt.none_tuple ht (by omega)⟩
  ·cases r2
   cases r1 with
   | tup h2 q2 =>
    cases rx;cases ry;cases h
    obtain⟨its,rv,ht,_⟩:=I.tuple (SqT.of h2)
    exact⟨SeqAt.RcAt.tuple_none ht (by omega),SeqAt.EqAt.tuple_none ht (by omega)⟩
  ·rename_i xs ys
   cases r1 with
   | @tup a vs _ h1 q1 =>
    cases r2 with
    | @tup c ws _ h2 q2 =>
     cases rx;cases ry
     obtain⟨its,rv,ht,_⟩:=I.tuple (SqT.of h1)
     obtain⟨its2,rv2,ht2,_⟩:=I.tuple (SqT.of h2)
     have l1:xs.length=its.length:=q1.length.trans rv.length
     have l2:ys.length=its2.length:=q2.length.trans rv2.length
     have rc:SeqAt.RcAt A s (.ref a) (.ref c) b:=by
      have:=SeqAt.RcAt.tuples (A:=A) (s:=s) (e:=λj=>match xs[j]?,ys[j]? with | some x,some y=>(eqF n x y).getD false | _,_=>false) ht ht2 (by omega) (λj g1 g2=>?_)
      ·simp only[List.size_toArray,<-l1,<-l2] at this
       rw[kZ h] at this
       exact this
      ·simp only[List.size_toArray] at g1 g2
       have e1:xs[j]? = some (xs[j]'(by omega)):=List.getElem?_eq_getElem _
       have e2:ys[j]? = some (ys[j]'(by omega)):=List.getElem?_eq_getElem _
       obtain⟨k,hk⟩:=nH h j _ _ e1 e2
       rw[e1,e2]
       simp only[hk,Option.getD_some]
       obtain⟨v1,f1,f2⟩:=q1.get e1
       obtain⟨v2,f3,f4⟩:=q2.get e2
       obtain⟨u1,g3,g4⟩:=rv.get f1
       obtain⟨u2,g5,g6⟩:=rv2.get f3
       have a1:its.toArray[j]=u1:=by
        have:=List.getElem?_eq_getElem g1
        rw[this] at g3
        simpa using Option.some.inj g3
       have a2:its2.toArray[j]=u2:=by
        have:=List.getElem?_eq_getElem g2
        rw[this] at g5
        simpa using Option.some.inj g5
       rw[a1,a2]
       exact (rN I n hk f2 f4 g4 g6 (by show A.units+1+n<cLine;omega)).2
     refine⟨rc,?_⟩
     by_cases hac:a=c
     ·subst hac
      rw[same rfl]
      exact SeqAt.EqAt.same _
     ·exact SeqAt.EqAt.of_refs hac rc
  ·rename_i xs ys
   cases r1 with
   | @lst a vs _ h1 q1 =>
    cases r2 with
    | @lst c ws _ h2 q2 =>
     cases rx;cases ry
     exact IH I h h1.sq q1 h2.sq q2 (by omega) λ{d e v u x y b} hk f2 f4 g4 g6=>(rN I n hk f2 f4 g4 g6 (by show A.units+1+n<cLine;omega)).2
  ·cases h
end
noncomputable def dEq:R22:=λx y Q=>match eqF 6 x y with
 | some b=>Q (.bl b)
 | none=>False
section
variable {X:Cx}
end
theorem jV (env:Env):∀(names:List (Str × NameKind)) (acc:List (Str × Addr)),(∀y∈names,y.2 = .free->∃c,env.cells.lookup y.1=some c) ->
  ∃cl:List (Str × Addr),(do
   let mut cs:=acc
   for (name,kind) in names do
    if kind == .free then cs:=(name,<-cellOf env name)::cs
   return cs:Sem (List (Str × Addr)))=pure cl/\(∀p∈cl,p∈acc\/env.cells.lookup p.1=some p.2)/\(∀p∈acc,p∈cl)/\∀y∈names,y.2 = .free->∃c,(y.1,c)∈cl
 | [],acc,_=>⟨acc,by simp,λp h=>.inl h,λp h=>h,λy h=>by simp at h⟩
 | (n,k)::r,acc,h=>by
  by_cases hk:k = .free
  ·subst hk
   obtain⟨c,hc⟩:=h _ List.mem_cons_self rfl
   obtain⟨cl,e,h1,h2,h3⟩:=jV env r ((n,c)::acc) λy hy=>h y (List.mem_cons_of_mem _ hy)
   refine⟨cl,?_,λp hp=>?_,λp hp=>h2 p (List.mem_cons_of_mem _ hp),λy hy hf=>?_⟩
   ·rw[<-e]
    have hcell:cellOf env n=pure c:=by unfold cellOf;rw[hc]
    simp only[List.forIn_cons,hcell,beq_self_eq_true,if_true,pure_bind]
   ·rcases h1 p hp with q | q
    ·rcases List.mem_cons.mp q with rfl | q
     ·exact .inr hc
     ·exact .inl q
    ·exact .inr q
   ·rcases List.mem_cons.mp hy with rfl | hy
    ·exact⟨c,h2 _ List.mem_cons_self⟩
    ·exact h3 y hy hf
  ·obtain⟨cl,e,h1,h2,h3⟩:=jV env r acc λy hy=>h y (List.mem_cons_of_mem _ hy)
   refine⟨cl,?_,h1,h2,λy hy hf=>?_⟩
   ·rw[<-e]
    have hb:(k == NameKind.free)=false:=by simpa using hk
    simp only[List.forIn_cons,hb,Bool.false_eq_true,if_false,pure_bind]
   ·rcases List.mem_cons.mp hy with rfl | hy
    ·exact absurd hf hk
    ·exact h3 y hy hf
theorem lO {α:Type}:∀{l:List (Str × α)} {x:Str} {c:α},(x,c)∈l->∃c',l.lookup x=some c'
 | [],_,_,h=>by simp at h
 | (y,d)::r,x,c,h=>by
  rw[List.lookup_cons]
  cases e:x == y with
  | true=>exact⟨d,rfl⟩
  | false =>
   rcases List.mem_cons.mp h with q | q
   ·cases q;rw[beq_self_eq_true] at e;cases e
   ·exact lO q
theorem lZ {scope:Scope} {env:Env} (h:∀y∈scope.names,y.2 = .free->∃c,env.cells.lookup y.1=some c) :
  ∃cl,closureFor scope env=pure cl/\(∀x c,cl.lookup x=some c->env.cells.lookup x=some c)/\∀y∈scope.names,y.2 = .free->∃c,cl.lookup y.1=some c:=by
 obtain⟨cl,e,h1,_,h3⟩:=jV env scope.names [] h
 refine⟨cl,e,λx c hx=>?_,λy hy hf=>?_⟩
 ·rcases h1 _ (PySem.mem_of_lookup hx) with q | q
  ·simp at q
  ·exact q
 ·obtain⟨c,hc⟩:=h3 y hy hf
  exact lO hc
noncomputable def dD (X:Cx) (scope:Scope) (N:List Str) (cl:List (Str × Addr)) (C:Addr) (s:Shared) (H:Hp) (fp:List Addr):Cx where
 prog:=X.prog
 w:=X.w
 K:=X.K
 mg:=X.mg
 base:=X.base
 A:=X.A
 N:=N
 s₀:=s
 H₀:=H
 env:=compEnvC scope cl C X.env
 outer:=X.stack
 stack:=X.stack
 ex:=fp
 fn:=λ_=>false
 calm:=X.calm
 pn:=[]
 xe:=λ_ _=>False
structure CScope (X:Cx) (scope:Scope):Prop where
 kind:scope.kind = .function
 nocell:∀y∈scope.names,y.2≠.cell
 locs:∀y∈scope.names,y.2 = .local->scope.names.lookup y.1=some .local
 frees:∀y∈scope.names,y.2 = .free->X.env.kindOf y.1=some .cell\/X.env.kindOf y.1=some .free
theorem eQ {env:Env}:∀{names:List (Str × NameKind)} {x:Str} {k:NameKind},(names.map λ(n,k)=>if (k == NameKind.free && env.scope.kind == .function && env.kindOf n == some .cell) then (n,NameKind.cell) else (n,k)).lookup x=some k ->
  (k = .cell\/k = .free)->(∀y∈names,y.2≠.cell)->(x,.free)∈names
 | [],_,_,h,_,_=>by simp at h
 | (n,j)::r,x,k,h,hk,hn=>by
  have h:List.lookup x ((if (j == NameKind.free && env.scope.kind == .function && env.kindOf n == some .cell)=true then (n,NameKind.cell) else (n,j))::r.map λ(n,k)=>if (k == NameKind.free && env.scope.kind == .function && env.kindOf n == some .cell) then (n,NameKind.cell) else (n,k))=some k:=h
  have hn':∀y∈r,y.2≠.cell:=λy hy=>hn y (List.mem_cons_of_mem _ hy)
  cases hx:x == n with
  | true =>
   have e:x=n:=eq_of_beq hx
   subst e
   by_cases hc:(j == NameKind.free && env.scope.kind == .function && env.kindOf x == some .cell)=true
   ·have hj:j = .free:=by
     rw[Bool.and_eq_true,Bool.and_eq_true] at hc
     exact eq_of_beq hc.1.1
    subst hj
    exact List.mem_cons_self
   ·rw[if_neg hc,List.lookup_cons,beq_self_eq_true] at h
    cases h
    rcases hk with rfl | rfl
    ·exact absurd rfl (hn _ List.mem_cons_self)
    ·exact List.mem_cons_self
  | false =>
   by_cases hc:(j == NameKind.free && env.scope.kind == .function && env.kindOf n == some .cell)=true
   ·rw[if_pos hc,List.lookup_cons,hx] at h
    exact List.mem_cons_of_mem _ (eQ h hk hn')
   ·rw[if_neg hc,List.lookup_cons,hx] at h
    exact List.mem_cons_of_mem _ (eQ h hk hn')
section
variable {X:Cx} {pins:List (Addr × Obj)} {σ:St} {H:Hp} {s:Shared} {scope:Scope} {N:List Str} {cl:List (Str × Addr)} {C:Addr} {fp:List Addr}
theorem LE (I:Inv X pins σ H s) (Sc:CScope X scope) (hcl:∀x c,cl.lookup x=some c->X.env.cells.lookup x=some c) (hall:∀y∈scope.names,y.2 = .free->∃c,cl.lookup y.1=some c)
  (hC:s.heap.objs.size<=C) (hf:∀b∈fp,oB X pins H b) (hlt:∀b∈fp,b<s.heap.objs.size):(dD X scope N cl C s H fp).Ok:=by
 refine⟨I.ok.mod,Sc.kind,I.ok.glob,I.ok.blt,hC,λx y c h1 h2=>I.ok.inj x y c (hcl x c h1) (hcl y c h2),λx hx=>?_,λx c hx=>absurd (show false=true from hx) Bool.false_ne_true,I.ok.hd,I.ok.frames,.inl rfl,λb hb=>?_,I.bs,Nat.le_trans I.ok.bsz I.sz,λb o e hb=>?_,λb hb hfs=>?_,I.stack,I.stkFree⟩
 ·have hx:(scope.names.map λ(n,k)=>if (k == NameKind.free && X.env.scope.kind == .function && X.env.kindOf n == some .cell) then (n,NameKind.cell) else (n,k)).lookup x=some .cell\/(scope.names.map λ(n,k)=>if (k == NameKind.free && X.env.scope.kind == .function && X.env.kindOf n == some .cell) then (n,NameKind.cell) else (n,k)).lookup x=some .free:=hx
  have:(x,NameKind.free)∈scope.names:=by
   rcases hx with hx | hx
   ·exact eQ hx (.inl rfl) Sc.nocell
   ·exact eQ hx (.inr rfl) Sc.nocell
  exact hall _ this rfl
 ·obtain⟨f0,f1,f2,f3,f4,f5⟩:=hf b hb
  exact⟨Nat.ne_of_lt (Nat.lt_of_lt_of_le (hlt b hb) hC),λx c e=>f4 x c (hcl x c e)⟩
 ·obtain⟨f0,f1,f2,f3,f4,f5⟩:=hf b hb
  rcases f3 with z | z
  ·exact I.ok.noex b o e z
  ·have h1:=(Heap.lt_size e)
   have h2:=I.ok.bsz
   exact absurd (Nat.lt_of_lt_of_le h1 (Nat.le_trans h2 z)) (Nat.lt_irrefl _)
 ·obtain⟨f0,f1,f2,f3,f4,f5⟩:=hf b hb
  rcases List.mem_cons.mp (I.stkSub b hfs) with e | e
  ·exact f1 e
  ·exact f2 e
noncomputable def vO (σ:St) (k:Nat) (ix:List Nat):St:=List.replicate k none++ix.map λi=>(σ[i]?).join
theorem HI (I:Inv X pins σ H s) (Sc:CScope X scope) (hcl:∀x c,cl.lookup x=some c->X.env.cells.lookup x=some c) (hall:∀y∈scope.names,y.2 = .free->∃c,cl.lookup y.1=some c)
  {s4:Shared} {m:Str->Option Value} {k:Nat} {ix:List Nat} {ys:List Str} (hC:s.heap.objs.size<=C) (hf:∀b∈fp,oB X pins H b) (hlt:∀b∈fp,b<s.heap.objs.size)
  (hk4:∀b o,s.heap.get? b=some o->s4.heap.get? b=some o) (hos:s4.os=s.os) (hb:AllBare s4.gens) (hns:s4.heap.Ns C m)
  (hN:N.length=k+ys.length) (hdrop:N.drop k=ys) (hix:ix.length=ys.length) (hiy:∀(j:Nat) (y:Str) (i:Nat),ys[j]? = some y->ix[j]? = some i->X.N[i]? = some y/\(y,NameKind.free)∈scope.names)
  (hkind:∀y∈ys,(relabel scope X.env).names.lookup y=some .cell\/(relabel scope X.env).names.lookup y=some .free) :
  Inv (dD X scope N cl C s H fp) [] (vO σ k ix) H s4:=by
 have hfr:H C=none:=I.hok.fresh hC
 refine⟨LE I Sc hcl hall hC hf hlt,hos,hb,Un.kept hk4,⟨m,hns,λi x v e1 e2 e3=>?_⟩,λx c e=>?_,hfr,λx c e=>I.freeC x c (hcl x c e),λp hp=>absurd (show p∈([]:List (Addr × Obj)) from hp) (by simp),I.hok.kept hk4,?_⟩
 ·unfold vO at e2
  by_cases hik:i<k
  ·rw[List.getElem?_append_left (by simpa using hik),List.getElem?_replicate,if_pos hik] at e2
   cases e2
  ·rw[List.getElem?_append_right (by simpa using hik),List.length_replicate,List.getElem?_map] at e2
   cases eo:ix[i-k]? with
   | none=>rw[eo] at e2;cases e2
   | some o =>
    rw[eo] at e2
    have e2:some ((σ[o]?).join)=some (some v):=e2
    have e2':σ[o]? = some (some v):=by
     cases q:σ[o]? with
     | none=>rw[q] at e2;cases e2
     | some z=>rw[q] at e2;cases e2;rfl
    have ey:ys[i-k]? = some x:=by
     rw[<-hdrop,List.getElem?_drop]
     rw[show k+(i-k)=i by omega]
     exact e1
    obtain⟨h1,h2⟩:=hiy _ _ _ ey eo
    have hv:Vis X.env.scope x:=by
     rcases Sc.frees _ h2 rfl with q | q
     ·exact .inr (.inl q)
     ·exact .inr (.inr q)
    obtain⟨m0,hn0,hl0⟩:=I.loc
    obtain⟨u,ru,lu⟩:=hl0 o x v h1 e2' hv
    refine⟨u,ru,.inr ⟨hkind x (List.mem_of_getElem? ey),?_⟩⟩
    obtain⟨c,hc⟩:=hall _ h2 rfl
    refine⟨c,hc,?_⟩
    rcases lu with ⟨q,_⟩ | ⟨_,c',hc',hcell⟩
    ·rcases Sc.frees _ h2 rfl with z | z
     ·rw[z] at q;cases q
     ·rw[z] at q;cases q
    ·have:=hcl x c hc
     rw[this] at hc';cases hc'
     obtain⟨oc,ho,hd⟩:=hcell
     exact⟨oc,hk4 _ _ ho,hd⟩
 ·obtain⟨v,oc,ho,hd⟩:=I.cell x c (hcl x c e)
  exact⟨v,oc,hk4 _ _ ho,hd⟩
 ·unfold vO
  show _=N.length
  rw[List.length_append,List.length_replicate,List.length_map,hix,hN]
end
noncomputable abbrev OB (ifs:List Expr) (env:Env):Sem Bool:=forIn ifs true λc r=>if r=true then do let ok <-isTrue c env (eval c env);pure (ForInStep.yield ok) else pure (ForInStep.yield r)
theorem EH {prog:Program} {w:World} {A:Around} {R:Result->Shared->Prop} {s:Shared} {elt target iter:Expr} {ifs:List Expr} {scope:Scope} {pos:Pos} {it acc:Value} {env:Env} (I:Nat->Shared->Prop)
  (turn:∀n s,I n s->∀E:Value->Shared->Prop,wpAny (model prog w) A (pyNext it) (λr s₁=>match r with
   | none=>R (.ok .next) s₁
   | some v=>wpAny (model prog w) A (letOwnedTupleGo target it v) (λ_ s₁=>wpAny (model prog w) A (assign target env v) (λ_ s₂=>wpAny (model prog w) A (OB ifs env) (λok s₂=>if ok=true then wpAny (model prog w) A (eval elt env) (λx s₃ =>
     wpAny (model prog w) A (call (.builtin "list.append") [acc,x]) (λ_ s₄=>∃m,m<n/\I m s₄) E s₃) E s₂ else ∃m,m<n/\I m s₂) E s₂) E s₁) E s₁) E s)
  (n:Nat) (h:I n s):codeAny (model prog w) A (.compLoop (.ListComp elt [⟨target,iter,ifs,0⟩] scope pos) 0 it acc env) R s:=by
 refine codeAny_loop rfl I (λn s hI=>?_) n h
 show wpAny _ _ ((compTurn (.ListComp elt [⟨target,iter,ifs,0⟩] scope pos) 0 it acc env).onRaise (λx=>do noteFrame x env;theTreesLotGoes x)) _ _ s
 refine wpAny_noted ?_
 rw[compTurn_list]
 refine wpAny_bind (wpAny_standAt (wpAny_bind (wpAny_mono (turn n s hI _) (λr s₁ h₁=>?_) λ_ _ h'=>h')))
 cases r with
 | none=>exact wpAny_pure h₁
 | some v =>
  refine wpAny_bind (wpAny_mono h₁ (λ_ s₁' h₁'=>wpAny_bind (wpAny_mono h₁' (λ_ s₂ h₂=>wpAny_bind (wpAny_mono h₂ (λok s₃ h₃=>?_) λ_ _ h'=>h')) λ_ _ h'=>h')) λ_ _ h'=>h')
  cases ok with
  | false=>exact wpAny_pure ⟨rfl,h₃⟩
  | true=>exact wpAny_bind (wpAny_bind (wpAny_mono h₃ (λx s₄ h₄=>wpAny_bind (wpAny_mono h₄ (λ_ s₅ h₅=>wpAny_pure (wpAny_pure ⟨rfl,h₅⟩)) λ_ _ h'=>h')) λ_ _ h'=>h'))
noncomputable def KY (X:Cx) (ifs:List Expr) (t:RT):Prop:=∀(pins:List (Addr × Obj)) (s:Shared) (σ:St) (H:Hp) (Q:Bool->Hp->Prop),Inv X pins σ H s->JA X t σ H Q->wpAny (model X.prog X.w) X.A (OB ifs X.env) (TP X pins σ Q) X.xe s
noncomputable def KB:RT:=λ_ Q=>Q true
theorem xR {X:Cx}:KY X [] KB:=λpins s σ H Q I ⟨ρ,P,st,q,k⟩=>wpAny_tests_nil ⟨H,I,k true H q (Same.refl H)⟩
noncomputable def fK (g:RG) (te:RE):List D->En->List D->(List D->Prop)->Prop
 | [],_,acc,Q=>Q acc
 | x::xs,ρ,acc,Q=>g x ρ λρ'=>te ρ' λd=>fK g te xs ρ' (acc++[d]) Q
noncomputable def dC (g:RG) (tt:RT) (te:RE):List D->En->List D->(List D->Prop)->Prop
 | [],_,acc,Q=>Q acc
 | x::xs,ρ,acc,Q=>g x ρ λρ'=>tt ρ' λb=>if b=true then te ρ' λd=>dC g tt te xs ρ' (acc++[d]) Q else dC g tt te xs ρ' acc Q
theorem uG {g:RG} {te:RE}:∀{xs:List D} {ρ:En} {acc:List D} {Q:List D->Prop},dC g KB te xs ρ acc Q=fK g te xs ρ acc Q
 | [],_,_,_=>rfl
 | x::xs,ρ,acc,Q=>by
  show (g x ρ λρ'=>if true=true then te ρ' λd=>dC g KB te xs ρ' (acc++[d]) Q else dC g KB te xs ρ' acc Q)=g x ρ λρ'=>te ρ' λd=>fK g te xs ρ' (acc++[d]) Q
  congr 1
  funext ρ'
  rw[if_pos rfl]
  congr 1
  funext d
  exact uG
noncomputable def rG (ρ:En) (i:Nat):Option S:=match ρ[i]? with
 | some (some (.d d))=>some (.d d)
 | _=>none
noncomputable def jO (ρ:En) (k:Nat) (ix:List Nat):En:=List.replicate k none++ix.map (rG ρ)
theorem OS {X X':Cx} {ρ:En} {σ:St} {H:Hp} {k:Nat} {ix:List Nat} (so:StOk X ρ σ H) (hK:X'.K=X.K) (hH:X'.H₀=H):StOk X' (jO ρ k ix) (vO σ k ix) H:=by
 have own:∀(i:Nat) (x:S),(jO ρ k ix)[i]? = some (some x)->∃d,x = .d d:=λi x e=>by
  unfold jO at e
  by_cases hik:i<k
  ·rw[List.getElem?_append_left (by simpa using hik),List.getElem?_replicate,if_pos hik] at e;cases e
  ·rw[List.getElem?_append_right (by simpa using hik),List.getElem?_map] at e
   cases eo:ix[i-(List.replicate k (none:Option S)).length]? with
   | none=>rw[eo] at e;cases e
   | some o =>
    rw[eo] at e
    have e:some (rG ρ o)=some (some x):=e
    have e:=Option.some.inj e
    unfold rG at e
    split at e <;> cases e
    exact⟨_,rfl⟩
 refine⟨by simp[jO,vO],by rw[hH];exact Same.refl H,λi x e=>?_,λi j x y v u a e1 _ _ _ o _=>by
  obtain⟨d,rfl⟩:=own i x e1
  exact o.elim,by rw[hK,hH];exact so.tabs⟩
 unfold jO at e
 by_cases hik:i<k
 ·rw[List.getElem?_append_left (by simpa using hik),List.getElem?_replicate,if_pos hik] at e;cases e
 ·rw[List.getElem?_append_right (by simpa using hik),List.getElem?_map,List.length_replicate] at e
  cases eo:ix[i-k]? with
  | none=>rw[eo] at e;cases e
  | some o =>
   rw[eo] at e
   have e:some (rG ρ o)=some (some x):=e
   have e:=Option.some.inj e
   unfold rG at e
   split at e
   ·rename_i d ed
    cases e
    obtain⟨v,h1,h2⟩:=so.rel o _ ed
    refine⟨v,?_,by rw[hK];exact h2⟩
    unfold vO
    rw[List.getElem?_append_right (by simpa using hik),List.getElem?_map,List.length_replicate,eo,Option.map_some,h1];rfl
   ·cases e
section
variable {X:Cx} {pins:List (Addr × Obj)} {σ:St} {H:Hp} {s2:Shared} {scope:Scope} {N:List Str} {cl:List (Str × Addr)} {fp:List Addr} {it:Addr} {tn:Nat->Heap->Prop} {J:It} {xs:List D} {ρ:En}
 {elt target iter:Expr} {ifs:List Expr} {pos:Pos} {g:RG} {tt:RT} {te:RE} {k:Nat} {ix:List Nat} {ys:List Str} {P:List D->Prop}
theorem _root_.L2.Inv.track {s s':Shared} {H H':Hp} {a:Addr} {vs:List V} {its:List Value} {n:Nat} (I:Inv X pins σ H s) (I':Inv X pins σ H' s') (ha:s.heap.objs.size<=a) (hn:H' a=none)
  (e:s'.heap.get? a=some { cls:=.type "list",data:=.seq its.toArray n }) (rv:Vals vs its) (hz:vs.length<=sizeLine):Inv X pins σ (upd H' a (.lst vs)) s':=by
 have hL:X.env.locals≠a:=Nat.ne_of_lt (Nat.lt_of_lt_of_le I.lt ha)
 have hcell:∀x c,X.env.cells.lookup x=some c->c≠a:=λx c q z=>by
  obtain⟨v,hv⟩:=I.cell x c q
  exact absurd (Nat.lt_of_lt_of_le hv.lt (by rw[z];exact ha)) (Nat.lt_irrefl _)
 have hs0:∀{b:Addr} {o:Obj},X.s₀.heap.get? b=some o->b≠a:=λ{b o} q=>Nat.ne_of_lt (Nat.lt_of_lt_of_le (Heap.lt_size q) (Nat.le_trans I.sz ha))
 refine⟨I'.ok,I'.os,I'.bare,⟨I'.base.keep,I'.base.slot,λb o q n hx=>?_,I'.base.there,λb ys q=>?_,λb o u q=>?_,λb ps q=>?_⟩,I'.loc,I'.cell,?_,λx c q=>?_,λp hp=>?_,λb u q=>?_,I'.len⟩
 ·rw[aG (hs0 q)];exact I'.base.free b o q n hx
 ·rw[aG (aK (I'.base.tups b ys q) hn)];exact I'.base.tups b ys q
 ·rw[aG (aK (I'.base.frzs b o u q) hn)];exact I'.base.frzs b o u q
 ·obtain⟨m,q2⟩:=I'.base.tbls b ps q
  exact⟨m,by rw[aG (aK q2 hn)];exact q2⟩
 ·rw[aG hL];exact I'.free
 ·rw[aG (hcell x c q)];exact I'.freeC x c q
 ·obtain⟨q1,q2,q3,q4,q5⟩:=I'.pin p hp
  have hp1:p.1≠a:=Nat.ne_of_lt (Nat.lt_of_lt_of_le (Heap.lt_size (I.pin p hp).1) ha)
  exact⟨q1,by rw[aG hp1];exact q2,q3,q4,q5⟩
 ·by_cases hb:b=a
  ·subst hb
   rw[aU] at q;cases q
   exact⟨hz,its,n,rv,e⟩
  ·rw[aG hb] at q
   exact (I'.hok b u q).stay (λc v _ w=>w) (λc w=>by rw[aG (aK w hn)];exact w) λc ys w=>by rw[aG (aK w hn)];exact w
theorem uH (hc:X.calm=true) (Sc:CScope X scope) (hcl:∀x c,cl.lookup x=some c->X.env.cells.lookup x=some c) (hall:∀y∈scope.names,y.2 = .free->∃c,cl.lookup y.1=some c)
  (hN:N.length=k+ys.length) (hdrop:N.drop k=ys) (hix:ix.length=ys.length) (hiy:∀(j:Nat) (y:Str) (i:Nat),ys[j]? = some y->ix[j]? = some i->X.N[i]? = some y/\(y,NameKind.free)∈scope.names)
  (hkind:∀y∈ys,(relabel scope X.env).names.lookup y=some .cell\/(relabel scope X.env).names.lookup y=some .free)
  (hg:∀C s H fp,DG (dD X scope N cl C s H fp) target g) (hif:∀C s H fp,KY (dD X scope N cl C s H fp) ifs tt) (he:∀C s H fp,DE (dD X scope N cl C s H fp) elt te)
  (I2:Inv X pins σ H s2) (so:StOk X ρ σ H) (T:Turn X.prog X.w X.K target J fp it tn) (st:tn 0 s2.heap) (hf:∀b∈fp,oB X pins H b) (ok:DZ X J xs H) (hz:xs.length<=sizeLine)
  (hP:dC g tt te xs (jO ρ k ix) [] P) {RR:Value->Addr->Result->Shared->Prop} {E:Value->Shared->Prop}
  (post:∀(ds:List D) (vs:List V) (its:List Value) (n:Nat) (C:Addr) (s':Shared) (H':Hp),P ds->Same H H'->H' s2.heap.objs.size=none->Reps X.K H' ds vs->Vals vs its->vs.length<=sizeLine ->
   s'.heap.get? s2.heap.objs.size=some { cls:=.type "list",data:=.seq its.toArray n }->Inv X pins σ H' s'->(∃m,s'.heap.Ns C m)->s2.heap.objs.size<C->H' C=none->RR (.ref s2.heap.objs.size) C (.ok .next) s') :
  wpAny (model X.prog X.w) X.A (newList []) (λacc s₃=>wpAny (model X.prog X.w) X.A (newFunctionEnv scope X.env.globals cl [] X.env.qual none .none (some X.env)) (λcenv s₄ =>
   codeAny (model X.prog X.w) X.A (.compStart (.ListComp elt [⟨target,iter,ifs,0⟩] scope pos) 0 (.ref it) acc { cenv with scope:=relabel scope X.env }) (RR acc cenv.locals) s₄) E s₃) E s2:=by
 refine wpAny_newObj_type (wpAny_newFunctionEnv Sc.nocell (by intro y hy;simp at hy) (λh₁ hns₁ hsb₁=>?_) Sc.kind)
 dsimp only at hns₁ hsb₁ ⊢
 generalize hH2:s2.heap.push { cls:=.type "list",dict:=none,data:=.seq ([]:List Value).toArray } = HP2 at hns₁ hsb₁ ⊢
 have hCs:HP2.objs.size=s2.heap.objs.size+1:=by rw[<-hH2,Heap.size_push]
 have hltC:s2.heap.objs.size<HP2.objs.size:=by rw[hCs];exact Nat.lt_succ_self _
 have hlt:∀b∈fp,b<s2.heap.objs.size:=λb hb=>by
  obtain⟨o,ho,_⟩:=T.obj 0 _ st b hb
  exact Heap.lt_size ho
 have old:∀b o,s2.heap.get? b=some o->h₁.get? b=some o:=λb o e =>
  hsb₁.extBut b o (Nat.ne_of_lt (Nat.lt_trans (Heap.lt_size e) hltC)) (Heap.get?_push_of_some _ (hH2 ▸ Heap.get?_push_of_some _ e))
 have hacc:h₁.get? s2.heap.objs.size=some { cls:=.type "list",data:=.seq ([]:List Value).toArray 0 } :=
  hsb₁.extBut _ _ (Nat.ne_of_lt hltC) (Heap.get?_push_of_some _ (hH2 ▸ Heap.get?_push_size _ rfl))
 have hfr:H s2.heap.objs.size=none:=I2.hok.fresh (Nat.le_refl _)
 let X':=dD X scope N cl HP2.objs.size s2 H fp
 have J0:Inv X' [] (vO σ k ix) H { s2 with heap:=h₁,toks:=s2.toks+([]:List (Str × Value)).length } :=
  HI I2 Sc hcl hall (Nat.le_of_lt hltC) hf hlt old rfl I2.bare hns₁ hN hdrop hix hiy hkind
 have S0:StOk X' (jO ρ k ix) (vO σ k ix) H:=OS so rfl rfl
 have hD0fs:s2.heap.objs.size ∉ X'.fs:=λhb=>by
  have hb:s2.heap.objs.size∈frs X.stack:=hb
  rcases List.mem_cons.mp (I2.stkSub _ hb) with e | e
  ·exact absurd (show X.env.locals<X.env.locals from Nat.lt_of_lt_of_eq I2.lt e) (Nat.lt_irrefl _)
  ·exact I2.nofs (Nat.le_refl _) e
 have fpok:∀{H':Hp} {o:Obj},(∀b∈fp,H' b=none)->∀b∈fp,oB X' [(s2.heap.objs.size,o)] H' b:=λ{H' o} hn b hb=>by
  obtain⟨f0,f1,f2,f3,f4,f5⟩:=hf b hb
  refine⟨hn b hb,Nat.ne_of_lt (Nat.lt_trans (hlt b hb) hltC),λhfs=>?_,.inl hb,λx c e=>f4 x c (hcl x c e),λp hp=>?_⟩
  ·rcases List.mem_cons.mp (I2.stkSub b hfs) with e | e
   ·exact f1 e
   ·exact f2 e
  ·have:p=(s2.heap.objs.size,o):=by simpa [X',dD] using hp
   subst this
   exact Nat.ne_of_gt (hlt b hb)
 have pinD:∀{σ':St} {H':Hp} {s':Shared} {its:List Value} {n:Nat},Inv X' [] σ' H' s'->H' s2.heap.objs.size=none->s'.heap.get? s2.heap.objs.size=some { cls:=.type "list",data:=.seq its.toArray n }->Inv X' [(s2.heap.objs.size,{ cls:=.type "list",data:=.seq its.toArray n })] σ' H' s':=λI' hn e =>
  I'.pins_of λp hp=>by
   have:=List.mem_singleton.mp hp
   subst this
   exact⟨e,hn,Nat.ne_of_lt hltC,hD0fs,λv z=>by cases z⟩
 have loop:∀s₃:Shared,s₃ = { s2 with heap:=h₁,toks:=s2.toks+([]:List (Str × Value)).length } ->
   codeAny (model X.prog X.w) X.A (.compLoop (.ListComp elt [⟨target,iter,ifs,0⟩] scope pos) 0 (.ref it) (.ref s2.heap.objs.size) (compEnvC scope cl HP2.objs.size X.env)) (RR (.ref s2.heap.objs.size) HP2.objs.size) s₃:=by
  rintro s₃ rfl
  refine EH (λm s'=>∃(i:Nat) (ρ':En) (σ':St) (H':Hp) (ds:List D) (vs:List V) (its:List Value) (n:Nat),m=xs.length-i/\i<=xs.length/\Inv X' [] σ' H' s'/\StOk X' ρ' σ' H'/\tn i s'.heap/\(∀b∈fp,H' b=none) /\
   H' s2.heap.objs.size=none/\s'.heap.get? s2.heap.objs.size=some { cls:=.type "list",data:=.seq its.toArray n }/\Reps X.K H' ds vs/\Vals vs its/\vs.length<=i/\dC g tt te (xs.drop i) ρ' ds P) ?_ xs.length
   ⟨0,jO ρ k ix,vO σ k ix,H,[],[],[],0,rfl,Nat.zero_le _,J0,S0,T.keep _ _ _ st (λb hb o e=>old b o e),λb hb=>(hf b hb).1,hfr,hacc,.nil,.nil,Nat.le_refl _,by simpa using hP⟩
  rintro m s' ⟨i,ρ',σ',H',ds,vs,its,n,rfl,hi,I',S',st',fr',hn',e',rr,rv,hl,hD⟩ E'
  obtain⟨o1,o2⟩:=ok i H' (.of S'.same)
  have I1:=pinD I' hn' e'
  by_cases hlt':i<xs.length
  ·have e:xs.drop i=xs[i]::xs.drop (i+1):=List.drop_eq_getElem_cons hlt'
   rw[e] at hD
   obtain⟨go,yl⟩:=o1 xs[i] (List.getElem?_eq_getElem hlt')
   refine thn (T.item X' rfl rfl rfl hc i _ s' σ' H' E' I1 (fpok fr') st' go) λr s4 ⟨u,hr,h4⟩=>?_
   subst hr
   refine thn h4 λ_ s5 ⟨x,H5,I5,r5,y5,st5,fr5⟩=>?_
   obtain⟨s45,rx5⟩:=yl x H5 y5
   have I5':=I5.pinned (fpok fr5) (T.obj _ _ st5)
   refine wpAny_mono (hg _ _ _ _ _ s5 σ' H5 x u (λσ6 H6=>∃ρ6,tt ρ6 (λb=>if b=true then te ρ6 (λd=>dC g tt te (xs.drop (i+1)) ρ6 (ds++[d]) P) else dC g tt te (xs.drop (i+1)) ρ6 ds P)/\Keep H5 H6/\StOk X' ρ6 σ6 H6) I5' r5 ⟨xs[i],ρ',_,rx5,S'.ext s45,hD,λρ6 σ6 H6 q6 k6 s6=>⟨ρ6,q6,k6,s6⟩⟩) (λ_ s6' ⟨σ6,H6',I6',ρ6,q6',k6',S6'⟩=>?_) λ_ _ z=>z.elim
   refine wpAny_mono (hif _ _ _ _ _ s6' σ6 H6' (λb H6=>(if b=true then te ρ6 (λd=>dC g tt te (xs.drop (i+1)) ρ6 (ds++[d]) P) else dC g tt te (xs.drop (i+1)) ρ6 ds P)/\Same H6' H6) I6' ⟨ρ6,_,S6',q6',λb H6 hb s6=>⟨hb,s6⟩⟩) (λokb s6 ⟨H6,I6,q6,s66⟩=>?_) λ_ _ z=>z.elim
   have k6:Keep H5 H6:=k6'.trans (.of s66)
   have S6:StOk X' ρ6 σ6 H6:=S6'.ext s66
   cases okb with
   | false =>
    have q6:dC g tt te (xs.drop (i+1)) ρ6 ds P:=q6
    show ∃m,m<xs.length-i/\_
    obtain⟨e7,n7,_,_,_⟩:=I6.pin (s2.heap.objs.size,_) (List.mem_append_right _ (List.mem_append_left _ List.mem_cons_self))
    refine⟨xs.length-(i+1),by omega,i+1,ρ6,σ6,H6,ds,vs,its,n,rfl,hlt',I6.pins_of λp hp=>absurd hp (by simp),S6,?_,λb hb=>?_,n7,e7,rr.keep ((Keep.of s45).trans k6),rv,Nat.le_succ_of_le hl,q6⟩
    ·exact T.keep _ _ _ st5 λb hb o q=>(I6.pin (b,o) (List.mem_append_right _ (List.mem_append_right _ (fC hb q)))).1
    ·obtain⟨o,q,_⟩:=T.obj _ _ st5 b hb
     exact (I6.pin (b,o) (List.mem_append_right _ (List.mem_append_right _ (fC hb q)))).2.1
   | true =>
   have q6:te ρ6 (λd=>dC g tt te (xs.drop (i+1)) ρ6 (ds++[d]) P):=q6
   show wpAny _ _ (eval elt _) _ _ s6
   refine wpAny_mono (he _ _ _ _ _ s6 σ6 H6 (λv H7=>∃d,dC g tt te (xs.drop (i+1)) ρ6 (ds++[d]) P/\Same H6 H7/\Rep X.K H7 d v) I6 ⟨ρ6,_,S6,q6,λd v H7 q7 s7 r7=>⟨d,q7,s7,r7⟩⟩) (λu7 s7 ⟨v7,H7,I7,rv7,d,q7,s67,r7⟩=>?_) λ_ _ z=>z.elim
   obtain⟨e7,n7,_,_,_⟩:=I7.pin (s2.heap.objs.size,_) (List.mem_append_right _ (List.mem_append_left _ List.mem_cons_self))
   have hsz:its.toArray.size+1<=sizeLine:=by
    rw[List.size_toArray,<-rv.length]
    omega
   refine call_meets F.slot_list_append ⟨_,e7,rfl⟩ F.entry_list_append (F.args_list_append_2 _ _) (PySem.list_append s2.heap.objs.size its.toArray n u7 (by omega)) ⟨e7,?_⟩
   have e8:=PySem.IsL.update e7 (λa=>a.push u7)
   have I8:Inv X' [] σ6 H7 s7:=I7.pins_of λp hp=>absurd hp (by simp)
   have upd8:∀b o,b≠s2.heap.objs.size->s7.heap.get? b=some o->(s7.heap.update s2.heap.objs.size (Obj.mapSeq λa=>a.push u7)).get? b=some o:=λb o hb q=>(Heap.get?_update_other s7.heap _ (Ne.symm hb)).trans q
   have I9:Inv X' [] σ6 H7 { s7 with heap:=s7.heap.update s2.heap.objs.size (Obj.mapSeq λa=>a.push u7) } :=
    I8.turned (t':=s7.toks) upd8 n7 (Nat.ne_of_lt hltC) (.inr (Nat.le_refl _)) (λx c q z=>by
     obtain⟨v,hv⟩:=I2.cell x c (hcl x c q)
     exact absurd hv.lt (by rw[z];exact Nat.lt_irrefl _)) (λp hp=>absurd (show p∈([]:List (Addr × Obj)) from hp) (by simp))
   have k57:Keep H5 H7:=k6.trans (.of s67)
   have k':Keep H' H7:=(Keep.of s45).trans k57
   refine⟨xs.length-(i+1),by omega,i+1,ρ6,σ6,H7,ds++[d],vs++[v7],its++[u7],_,rfl,hlt',I9,S6.ext s67,?_,λb hb=>?_,n7,by simpa using e8,(rr.keep k').append (.cons r7 .nil),rv.append (.cons rv7 .nil),by rw[List.length_append];exact Nat.succ_le_succ hl,q7⟩
   ·refine T.keep _ _ _ st5 λb hb o q=>?_
    have q7':=(I7.pin (b,o) (List.mem_append_right _ (List.mem_append_right _ (fC hb q)))).1
    exact upd8 b o (Nat.ne_of_lt (hlt b hb)) q7'
   ·obtain⟨o,q,_⟩:=T.obj _ _ st5 b hb
    exact (I7.pin (b,o) (List.mem_append_right _ (List.mem_append_right _ (fC hb q)))).2.1
  ·have hie:i=xs.length:=by omega
   subst hie
   rw[List.drop_length] at hD
   refine thn (T.done X' rfl rfl rfl hc _ _ s' σ' H' E' I1 (fpok fr') st' (o2 (Nat.le_refl _))) λr s4 ⟨hr,I4⟩=>?_
   subst hr
   obtain⟨e4,n4,_,_,_⟩:=I4.pin (s2.heap.objs.size,_) (List.mem_append_right _ List.mem_cons_self)
   obtain⟨m4,hn4,_⟩:=I4.loc
   have I5:Inv X pins σ H' s4:=I2.call' (ch:=fp) I4.os I4.base I4.hok I4.bare λb hb=>by
    obtain⟨f0,f1,f2,f3,f4,f5⟩:=hf b hb
    exact⟨f3,f1,f4,f5⟩
   exact post ds vs its n HP2.objs.size s4 H' hD S'.same n4 rr rv (Nat.le_trans hl hz) e4 I5 ⟨m4,hn4⟩ hltC I4.free
 exact codeAny_compStart_list (loop _ rfl) (T.self X.A 0 _ _ _ (T.keep _ _ _ st λb hb o e=>old b o e) (loop _ rfl))
end
noncomputable def uF (X:Cx) (scope:Scope) (N:List Str) (k:Nat) (ix:List Nat):Bool :=
 scope.kind == .function && scope.names.all (λy=>y.2 != .cell) && scope.names.all (λy=>y.2 != .local || scope.names.lookup y.1 == some .local) &&
 scope.names.all (λy=>y.2 != .free || X.env.kindOf y.1 == some .cell || X.env.kindOf y.1 == some .free) &&
 N.length == k+ix.length && ((N.drop k).zip ix).all (λp=>X.N[p.2]? == some p.1 && scope.names.contains (p.1,.free)) &&
 (N.drop k).all (λy=>(relabel scope X.env).names.lookup y == some .cell || (relabel scope X.env).names.lookup y == some .free)
structure CompF (X:Cx) (scope:Scope) (N:List Str) (k:Nat) (ix:List Nat):Prop where
 sc:CScope X scope
 hN:N.length=k+(N.drop k).length
 hix:ix.length=(N.drop k).length
 hiy:∀(j:Nat) (y:Str) (i:Nat),(N.drop k)[j]? = some y->ix[j]? = some i->X.N[i]? = some y/\(y,NameKind.free)∈scope.names
 hkind:∀y∈N.drop k,(relabel scope X.env).names.lookup y=some .cell\/(relabel scope X.env).names.lookup y=some .free
theorem xI {X:Cx} {scope:Scope} {N:List Str} {k:Nat} {ix:List Nat} (h:uF X scope N k ix=true):CompF X scope N k ix:=by
 unfold uF at h
 simp only[Bool.and_eq_true,List.all_eq_true,bne_iff_ne,ne_eq,Bool.or_eq_true,beq_iff_eq] at h
 obtain⟨⟨⟨⟨⟨⟨h1,h2⟩,h3⟩,h4⟩,h5⟩,h6⟩,h7⟩:=h
 have hl:(N.drop k).length=ix.length:=by rw[List.length_drop];omega
 refine⟨⟨h1,h2,λy hy e=>?_,λy hy e=>?_⟩,by omega,hl.symm,λj y i e1 e2=>?_,h7⟩
 ·rcases h3 y hy with q | q
  ·exact absurd e q
  ·exact q
 ·rcases h4 y hy with (q | q) | q
  ·exact absurd e q
  ·exact .inl q
  ·exact .inr q
 ·have hm:(y,i)∈(N.drop k).zip ix:=by
   refine List.mem_of_getElem? (i:=j) ?_
   rw[List.getElem?_zip_eq_some]
   exact⟨e1,e2⟩
  obtain⟨q1,q2⟩:=h6 _ hm
  exact⟨q1,List.contains_iff_mem.mp q2⟩
noncomputable def eJ (ti:RA) (k:Nat) (ix:List Nat) (g:RG) (te:RE):RA:=λρ Q=>ti ρ λxs=>Sz xs.length/\fK g te xs (jO ρ k ix) [] Q
noncomputable def wL (ti:RA) (k:Nat) (ix:List Nat) (g:RG) (tt:RT) (te:RE):RA:=λρ Q=>ti ρ λxs=>Sz xs.length/\dC g tt te xs (jO ρ k ix) [] Q
theorem uQ {ti:RA} {k:Nat} {ix:List Nat} {g:RG} {te:RE}:wL ti k ix g KB te=eJ ti k ix g te:=by
 funext ρ Q
 unfold wL eJ
 congr 1
 funext xs
 rw[uG]
section
variable {X:Cx} {scope:Scope} {elt target iter:Expr} {ifs:List Expr} {pos:Pos} {g:RG} {tt:RT} {te:RE} {ti:RA}
theorem pJ {pins:List (Addr × Obj)} {σ:St} {H H':Hp} {s s':Shared} {C:Addr} {h':Heap} {t':Nat} (I2:Inv X pins σ H s) {σ':St} (I':Inv X pins σ' H' s') (hC:s.heap.objs.size<=C) (hn:H' C=none) (hs:Heap.SameBut C s'.heap h') :
  Inv X pins σ' H' { s' with heap:=h',toks:=t' } :=
 I'.turned (λb o hb e=>(hs.2 b hb).trans e) hn (Nat.ne_of_gt (Nat.lt_of_lt_of_le I2.lt hC)) (.inr (Nat.le_trans I2.sz hC)) (λx c e z=>by
  obtain⟨v,hv⟩:=I2.cell x c e
  exact absurd (Nat.lt_of_lt_of_le hv.lt (by rw[z];exact hC)) (Nat.lt_irrefl _)) λp hp z=>absurd (Nat.lt_of_lt_of_le (Heap.lt_size (I2.pin p hp).1) (by rw[z];exact hC)) (Nat.lt_irrefl _)
theorem HX (N:List Str) (k:Nat) (ix:List Nat) (hi:DI X target iter ti) (hg:∀cl C s H fp,DG (dD X scope N cl C s H fp) target g) (hif:∀cl C s H fp,KY (dD X scope N cl C s H fp) ifs tt) (he:∀cl C s H fp,DE (dD X scope N cl C s H fp) elt te)
  (hc:X.calm=true:=by rfl) (hB:uF X scope N k ix=true:=by rfl) (hs:∀x,foldedSetIterable iter X.env x=pure x:=by intro _;rfl):DO X (.ListComp elt [⟨target,iter,ifs,0⟩] scope pos) (wL ti k ix g tt te):=by
 intro pins s σ H Q I hh_0
 obtain⟨ρ,P,so,q,kk⟩:=hh_0
 have F:=xI hB
 obtain⟨cl,hclos,hcl,hall⟩:=lZ (scope:=scope) (env:=X.env) λy hy hf=>I.ok.has _ (F.sc.frees y hy hf)
 rw[eval_ListComp]
 refine wpAny_comprehension_free (use:=none) rfl hs hclos F.sc.kind F.sc.locs (thn (hi pins s σ H (λJ H'=>∃xs,Same H H'/\DZ X J xs H'/\xs.length<=sizeLine/\dC g tt te xs (jO ρ k ix) [] P) I ⟨ρ,_,so,q,λxs J H' hx s1 ok=>⟨xs,s1,ok,hx.1.ok,hx.2⟩⟩) λv s1 h1=>thn h1 λitv s2 h2=>?_)
 obtain⟨it,fp,tn,J,H',rfl,I2,T,st,hf,xs,s01,ok,hz,hD⟩:=h2
 refine uH (RR:=λacc C=>compPost (model X.prog X.w) X.A X.xe none (EP X pins σ Q) acc C) hc F.sc hcl hall F.hN rfl F.hix F.hiy F.hkind (hg cl) (hif cl) (he cl) I2 (so.ext s01) T st hf ok hz hD ?_
 intro ds vs its n C s' H2 hP s12 hn rr rv hl e I' ⟨m,hns⟩ hltC hnC
 refine⟨m,hns,λh' hs'=>?_⟩
 have I3:Inv X pins σ H2 { s' with heap:=h' }:=pJ (t':=s'.toks) I2 I' (Nat.le_of_lt hltC) hnC hs'
 have e3:h'.get? s2.heap.objs.size=some { cls:=.type "list",data:=.seq its.toArray n }:=(hs'.2 _ (Nat.ne_of_lt hltC)).trans e
 exact⟨.ref s2.heap.objs.size,_,I2.track I3 (Nat.le_refl _) hn e3 rv hl,rfl,kk ds _ vs H2 hP (s01.trans s12) hn rr⟩
theorem IB {i:Nat} {y:Str} {pos' spos:Pos} (N:List Str) (k:Nat) (ix:List Nat) (hN:X.N.Nodup) (hi:DI X target iter ti) (hg:∀cl C s H fp,DG (dD X scope N cl C s H fp) target g) (hif:∀cl C s H fp,KY (dD X scope N cl C s H fp) ifs tt) (he:∀cl C s H fp,DE (dD X scope N cl C s H fp) elt te)
  (hy:X.N[i]? = some y:=by rfl) (hx:X.env.scope.names.lookup y=some .local:=by rfl) (hc:X.calm=true:=by rfl) (hB:uF X scope N k ix=true:=by rfl) (hs:∀x,foldedSetIterable iter X.env x=pure x:=by intro _;rfl)
  (hsw:swapsWith (.ListComp elt [⟨target,iter,ifs,0⟩] scope pos) (some (.Name y pos')) spos.line X.env=pure true:=by rfl) :
  DS X (.Assign [.Name y pos'] (.ListComp elt [⟨target,iter,ifs,0⟩] scope pos) spos) (cQ i (wL ti k ix g tt te)):=by
 intro pins s σ H De I hh_0
 obtain⟨ρ,E,so,q,nn,rt,bk,ct⟩:=hh_0
 have F:=xI hB
 obtain⟨cl,hclos,hcl,hall⟩:=lZ (scope:=scope) (env:=X.env) λy hy hf=>I.ok.has _ (F.sc.frees y hy hf)
 rw[exec_Assign_Name_used _ _ _ _ hsw]
 refine wpAny_bind (wpAny_standAt (wpAny_bind ?_))
 show wpAny _ X.A (do let _ <-comprehension (.ListComp elt [⟨target,iter,ifs,0⟩] scope pos) scope X.env _ (newList []) false (eval iter X.env) (some (assign (.Name y pos') X.env))) _ _ s
 refine wpAny_bind (wpAny_mono (wpAny_comprehension_free (use:=some (assign (.Name y pos') X.env)) (Q:=λ_ s'=>SP X pins De .next s') rfl hs hclos F.sc.kind F.sc.locs
  (thn (hi pins s σ H (λJ H'=>∃xs,Same H H'/\DZ X J xs H'/\xs.length<=sizeLine/\dC g tt te xs (jO ρ k ix) [] (λds=>E.nx (ρ.set i (some (.own ds))))) I ⟨ρ,_,so,q,λxs J H' hx s1 ok=>⟨xs,s1,ok,hx.1.ok,hx.2⟩⟩) λv s1 h1=>thn h1 λitv s2 h2=>?_)) (λ_ s' hq=>wpAny_pure (wpAny_pure hq)) λ_ _ e=>e)
 obtain⟨it,fp,tn,J,H',rfl,I2,T,st,hf,xs,s01,ok,hz,hD⟩:=h2
 refine uH (RR:=λacc C=>compPost (model X.prog X.w) X.A X.xe (some (assign (.Name y pos') X.env)) (λ_ s'=>SP X pins De .next s') acc C) hc F.sc hcl hall F.hN rfl F.hix F.hiy F.hkind (hg cl) (hif cl) (he cl) I2 (so.ext s01) T st hf ok hz hD ?_
 intro ds vs its n C s' H2 hP s12 hn rr rv hl e I' ⟨m,hns⟩ hltC hnC
 have I3:=I2.track I' (Nat.le_refl _) hn e rv hl
 have hneC:s2.heap.objs.size≠C:=Nat.ne_of_lt hltC
 have so3:StOk X (ρ.set i (some (.own ds))) (σ.set i (some (.ref s2.heap.objs.size))) (upd H2 s2.heap.objs.size (.lst vs)):=(so.ext (s01.trans s12)).set_own hn rr
 have k3:Keep H (upd H2 s2.heap.objs.size (.lst vs)):=(Keep.of (s01.trans s12)).trans (.ofF λb o h=>by rw[aG (aK h hn)];exact h)
 show wpAny (model X.prog X.w) X.A (assign (.Name y pos') X.env (.ref s2.heap.objs.size)) _ _ s'
 refine wpAny_assign_Name (vD I3 hN hy (.inl hx) (v:=.ref s2.heap.objs.size) rfl (λs4 I4 ⟨a,sb,ha⟩=>?_) (.inr hx))
 have hCa:C≠a:=by
  rcases ha with rfl | ha
  ·exact Nat.ne_of_gt (Nat.lt_trans I2.lt hltC)
  ·obtain⟨v,hv⟩:=I2.cell _ a ha
   exact Nat.ne_of_gt (Nat.lt_trans hv.lt hltC)
 refine⟨m,hns.sameBut sb hCa,λh' hs'=>⟨_,_,pJ (t':=s4.toks) I2 I4 (Nat.le_of_lt hltC) (by rw[aG (Ne.symm hneC)];exact hnC) hs',nn _ _ _ hP k3 so3⟩⟩
theorem nB (N:List Str) (k:Nat) (ix:List Nat) (hi:DI X target iter ti) (hg:∀cl C s H fp,DG (dD X scope N cl C s H fp) target g) (he:∀cl C s H fp,DE (dD X scope N cl C s H fp) elt te)
  (hc:X.calm=true:=by rfl) (hB:uF X scope N k ix=true:=by rfl) (hs:∀x,foldedSetIterable iter X.env x=pure x:=by intro _;rfl):DO X (.ListComp elt [⟨target,iter,[],0⟩] scope pos) (eJ ti k ix g te):=by
 rw[<-uQ];exact HX N k ix hi hg (λ_ _ _ _ _=>xR) he hc hB hs
theorem qR {i:Nat} {y:Str} {pos' spos:Pos} (N:List Str) (k:Nat) (ix:List Nat) (hN:X.N.Nodup) (hi:DI X target iter ti) (hg:∀cl C s H fp,DG (dD X scope N cl C s H fp) target g) (he:∀cl C s H fp,DE (dD X scope N cl C s H fp) elt te)
  (hy:X.N[i]? = some y:=by rfl) (hx:X.env.scope.names.lookup y=some .local:=by rfl) (hc:X.calm=true:=by rfl) (hB:uF X scope N k ix=true:=by rfl) (hs:∀x,foldedSetIterable iter X.env x=pure x:=by intro _;rfl)
  (hsw:swapsWith (.ListComp elt [⟨target,iter,[],0⟩] scope pos) (some (.Name y pos')) spos.line X.env=pure true:=by rfl) :
  DS X (.Assign [.Name y pos'] (.ListComp elt [⟨target,iter,[],0⟩] scope pos) spos) (cQ i (eJ ti k ix g te)):=by
 rw[<-uQ];exact IB N k ix hN hi hg (λ_ _ _ _ _=>xR) he hy hx hc hB hs hsw
end
section
variable {X:Cx} {e a b:Expr} {pos apos cpos npos:Pos} {te:RE} {x:Str}
noncomputable def gA (i:Nat) (te:RE):RS:=λE ρ=>match ρ[i]? with
 | some (some (.own xs))=>te ρ λd=>Sz (xs.length+1)/\E.nx (ρ.set i (some (.own (xs++[d]))))
 | _=>False
theorem eG (i:Nat) (he:DE X e te) (hN:X.N[i]? = some x:=by rfl) (hv:Vis X.env.scope x:=by walk_at "vis") (hd:(x == ("__debug__":Str))=false:=by decide) (hcd:(x == ("__classdict__":Str))=false:=by decide)
  (hbase:attributeBase (.Name x npos) "append" X.env (eval (.Name x npos) X.env)=eval (.Name x npos) X.env:=by rfl)
  (hfew:((backTo cpos (starEach [e] X.env)).all (λx=>!x.1) && (backToKw cpos (keywordEach [] X.env)).all (λx=>x.1.isSome) && decide (([e]:List Expr).length+([]:List Keyword).length+(if ([]:List Keyword).isEmpty then 0 else 1)<30))=true:=by rfl)
  (hline:(apos.endLine == cpos.line)=true:=by rfl) (hs:starEach [e] X.env=[(false,eval e X.env)]:=by rfl) (hn:starEach [] X.env=[]:=by rfl) (hsw:swapsWith (.Call (.Attribute (.Name x npos) "append" apos) [e] [] cpos) none pos.line X.env=pure false:=by rfl) :
  DS X (.Expr (.Call (.Attribute (.Name x npos) "append" apos) [e] [] cpos) pos) (gA i te):=by
 refine PS.mono (wH (CZ PySem.F.plainAttrs_list PySem.F.slot_list_append PySem.F.type_list_append uO (pv i hN hv hd hcd) (gL he hs hn) hbase hfew hline (by rw[hs,hn]) (by rw[hn];rfl)) hsw) λDe σ H hh=>dM hh λρ E so q n r bk ct=>?_
 unfold gA at q
 split at q
 ·rename_i xs ex
  obtain⟨v,h1,p,vs,ev,hp,h0,rr⟩:=so.rel i _ ex
  subst ev
  refine⟨.ref p,h1,.inl ⟨rfl,vs,SqL.of hp⟩,ρ,_,so,q,λd v H1 hd s1 rd=>?_⟩
  have hp1:=s1.get _ _ hp trivial
  obtain⟨so2,k2⟩:=(so.ext s1).upd_own ex h1 hp1 h0 ((rr.keep (.of s1)).append (.cons rd .nil))
  have hsz:xs.length+1<=sizeLine:=hd.1.ok
  exact⟨p,vs,v,rfl,rfl,hp1,by rw[<-rr.length];omega,n _ _ _ hd.2 ((Keep.of s1).trans k2) so2⟩
 ·exact q.elim
noncomputable def uS (i:Nat):RS:=λE ρ=>match ρ[i]? with
 | some (some (.own xs))=>xs≠[]/\E.nx (ρ.set i (some (.own xs.dropLast)))
 | _=>False
noncomputable def iE (i:Nat) (te tk:RE):RS:=λE ρ=>match ρ[i]? with
 | some (some (.own xs))=>te ρ λd=>tk ρ λkd=>match kd with
  | .int k=>match ixN xs.length k with
   | some j=>E.nx (ρ.set i (some (.own (xs.set j d))))
   | none=>False
  | _=>False
 | _=>False
theorem IC {k:Expr} {tk:RE} {spos:Pos} (i:Nat) (he:DE X e te) (hk:DE X k tk) (hN:X.N[i]? = some x:=by rfl) (hv:Vis X.env.scope x:=by walk_at "vis") (hd:(x == ("__debug__":Str))=false:=by decide) (hcd:(x == ("__classdict__":Str))=false:=by decide)
  (ha:∀v,assign (.Subscript (.Name x npos) k spos) X.env v=(do
   let ov <-holding [v] (eval (.Name x npos) X.env)
   let iv <-holding [v,ov] (eval k X.env)
   standAt spos
   holding [v,ov,iv] (setItem ov iv v)
   release [v,ov,iv] []):=by intro _;rfl)
  (hs:swapsWithSole [.Subscript (.Name x npos) k spos] e pos.line X.env=pure false:=by rfl) (hw:swappedStores [.Subscript (.Name x npos) k spos] e X.env=pure none:=by rfl)
  (h1:(assignEach [.Subscript (.Name x npos) k spos] X.env).map (·.2)=[assign (.Subscript (.Name x npos) k spos) X.env]:=by rfl) :
  DS X (.Assign [.Subscript (.Name x npos) k spos] e pos) (iE i te tk):=by
 refine PS.mono (QK he (QH (pv i hN hv hd hcd) hk KK ha) hs hw h1) λDe σ H hh=>dM hh λρ E so q n r bk ct=>?_
 unfold iE at q
 split at q
 ·rename_i xs ex
  obtain⟨w',h1,p,vs,ev,hp,h0,rr⟩:=so.rel i _ ex
  subst ev
  refine⟨ρ,_,so,q,λd v H1 q1 s1 rd=>⟨.ref p,h1,ρ,_,so.ext s1,q1,λkd u H2 q2 s2 rk=>?_⟩⟩
  cases kd with
  | int k =>
   dsimp only at q2
   split at q2
   ·rename_i j hj
    have hp2:=(s1.trans s2).get _ _ hp trivial
    obtain⟨so2,k2⟩:=((so.ext s1).ext s2).upd_own ex h1 hp2 h0 ((rr.keep (.of (s1.trans s2))).set (rd.keep (.of s2)) j)
    exact⟨p,vs,k,j,rfl,rk.int_inv,hp2,by rw[<-rr.length];exact hj,n _ _ _ q2 ((Keep.of (s1.trans s2)).trans k2) so2⟩
   ·exact q2.elim
  | _=>exact q2.elim
 ·exact q.elim
end
section
variable {X:Cx} {e a b:Expr} {pos p:Pos}
theorem MO:OpR X (binaryOp .Add) (λx y H Q=>∃l b xs zs,x = .ref l/\y = .ref b/\SqL X.K H l xs/\SqL X.K H b zs/\xs.length+zs.length<=sizeLine/\∀p,H p=none->Q (.ref p) (upd H p (.lst (xs++zs)))):=by
 intro pins s σ H x y v u Q I rx ry h
 obtain⟨l,b,xs,zs,rfl,rfl,hH,hB,hz,q⟩:=h
 cases rx
 cases ry
 obtain⟨its,r,⟨o,n,e,hc,hd,hs⟩,hl⟩:=I.list hH
 obtain⟨its2,r2,⟨o2,n2,e2,hc2,hd2,hs2⟩,hl2⟩:=I.list hB
 obtain⟨c,d,dt,sl⟩:=o
 obtain⟨c2,d2,dt2,sl2⟩:=o2
 dsimp only at hc hs hd hc2 hs2 hd2
 subst hc hs hd hc2 hs2 hd2
 have hl1:=r.length
 have hl2:=r2.length
 refine concat_meets (T:="list") (id:="list.__add__") ⟨_,e,rfl⟩ ⟨_,e2,rfl⟩ (by kernel_rfl) (by kernel_rfl) PySem.F.slot_list_add PySem.F.entry_list_add (PySem.F.args_list_add_2 _ _)
  (list_addW l b its.toArray its2.toArray n n2 none none sl sl2 (by rw[List.size_toArray,List.size_toArray];omega)) ⟨e,e2,?_⟩
 have ea:its.toArray++its2.toArray=(its++its2).toArray:=by simp
 rw[ea]
 exact⟨.ref _,_,I.lnew (t':=s.toks) (r.append r2) (by rw[List.length_append];omega),rfl,q _ I.fresh⟩
noncomputable def FzQ (X:Cx) (Q:VK):VK:=λv H'=>Q v H'\/∃p vs H1,v = .ref p/\H'=upd H1 p (.lst vs)/\H1 p=none/\∀H2,Same H1 H2->FzL X.K H2 p vs->Q v H2
theorem NU {pins:List (Addr × Obj)} {σ:St} {Q:VK} {u:Value} {s:Shared} (h:EP X pins σ (FzQ X Q) u s):EP X pins σ Q u s:=by
 obtain⟨v,H',I,rv,q | ⟨p,vs,H1,rfl,rfl,hn,q⟩⟩:=h
 ·exact⟨v,H',I,rv,q⟩
 ·obtain⟨o,I2⟩:=Inv.freeze I (a:=p) (xs:=vs) aU
  exact⟨.ref p,_,I2,rv,q _ (.fn λb u e=>by rw[aG (aK e hn),aG (aK e hn)];exact e) (.inl ⟨o,aU⟩)⟩
theorem PE.frz {t:TE} (h:PE X e t):PE X e (λσ H Q=>t σ H (FzQ X Q)):=λpins s σ H Q I q=>thn (h pins s σ H _ I q) λ_ _=>NU
theorem OpR.frz {f:Value->Value->Sem Value} {r:R2} (h:OpR X f r):OpR X f (λx y H Q=>r x y H (FzQ X Q)):=λpins s σ H x y v u Q I rx ry q=>thn (h pins s σ H x y v u _ I rx ry q) λ_ _=>NU
noncomputable def gW:R22:=λx y Q=>match x,y with
 | .int i,.int j=>Q (.int (i+j))
 | .lst xs,.lst ys=>Sz (xs.length+ys.length)/\Q (.lst (xs++ys))
 | .tup xs,.tup ys=>xs≠[]/\Sz (xs.length+ys.length)/\Q (.tup (xs++ys))
 | _,_=>False
theorem upd_new {H:Hp} {p:Addr} {o:HO} (hp:H p=none):Same H (upd H p o):=Same.fn λb u e=>by rw[aG (aK e hp)];exact e
theorem nP:OpD X (binaryOp .Add) gW:=by
 intro pins s σ H x y v u Q I rx ry hh_0
 obtain⟨d,e,P,r1,r2,q,k⟩:=hh_0
 unfold gW at q;split at q
 ·exact cL pins s σ H x y v u Q I rx ry ⟨_,_,P,r1,r2,q,k⟩
 ·rename_i xs ys
  obtain⟨a,vs,rfl,ha,ra⟩:=r1.lst
  obtain⟨b,ws,rfl,hb,rb⟩:=r2.lst
  have hsz:xs.length+ys.length<=sizeLine:=q.1.ok
  refine OpR.frz MO pins s σ H _ _ v u Q I rx ry ⟨a,b,vs,ws,rfl,rfl,ha,hb,by rw[<-ra.length,<-rb.length];exact hsz,λp hp=>.inr ⟨p,_,H,rfl,rfl,hp,λH2 s2 fz=>k _ _ H2 q.2 s2 (.lst fz ((ra.append rb).keep (.of s2)))⟩⟩
 ·rename_i xs ys
  obtain⟨a,vs,rfl,ha,ra⟩:=r1.tup
  obtain⟨b,ws,rfl,hb,rb⟩:=r2.tup
  have hsz:xs.length+ys.length<=sizeLine:=q.2.1.ok
  have hl:=ra.length
  refine MP pins s σ H _ _ v u Q I rx ry ⟨a,b,vs,ws,rfl,rfl,SqT.of ha,SqT.of hb,λz=>q.1 (List.length_eq_zero_iff.mp (by rw[hl,z];rfl)),by rw[<-ra.length,<-rb.length];exact hsz,λz=>?_,λz p hp=>?_⟩
  ·subst z
   cases rb
   have:=k _ (.ref a) H q.2.2 (Same.refl H)
   rw[List.append_nil] at this
   exact this (.tup ha ra)
  ·exact k _ _ _ q.2.2 (upd_new hp) (.tup aU ((ra.append rb).keep (.of (upd_new hp))))
 ·exact q.elim
noncomputable def nU (te:RE) (tl th:RO):RE:=λρ Q=>te ρ λx=>tl ρ λl=>th ρ λu=>match x with
 | .lst ds=>Q (.lst (iJ ds l u))
 | .tup ds=>¬(HT.sIx ds.length 0 l=0/\HT.sIx ds.length ds.length u=ds.length)/\Q (.tup (iJ ds l u))
 | _=>False
theorem xO {K:PySem.W.Frag} {H:Hp} {ds:List D} {vs:List V} (l u:Option Int) (rr:Reps K H ds vs):Reps K H (iJ ds l u) (xN vs l u):=by
 unfold iJ xN
 rw[<-rr.length]
 exact (rr.drop _).take _
theorem nA {lo hi:Option Expr} {te:RE} {tl th:RO} {p2:Pos} (he:DB X e te) (hl:DP X lo tl) (hu:DP X hi th):DE X (.Subscript e (.Slice lo hi none p2) pos) (nU te tl th):=by
 refine PE.mono (PE.frz (JN (NE.or RD) he hl hu)) λσ H Q hh=>cJ hh λρ P st q k=>?_
 refine⟨ρ,_,st,q,λd v H1 hd s1 r1=>⟨ρ,_,st.ext s1,hd,λl H2 h2 s2=>⟨ρ,_,(st.ext s1).ext s2,h2,λu H3 h3 s3=>?_⟩⟩⟩
 have s03:=(s1.trans s2).trans s3
 cases d with
 | lst ds =>
  obtain⟨p,vs,rfl,hq,rr⟩:=(r1.same (s2.trans s3)).lst
  exact .inl ⟨p,vs,rfl,hq,λp' hp'=>.inr ⟨p',_,H3,rfl,rfl,hp',λH4 s4 fz=>k _ _ H4 h3 (s03.trans s4) (.lst fz ((xO l u rr).keep (.of s4)))⟩⟩
 | tup ds =>
  obtain⟨p,vs,rfl,hq,rr⟩:=(r1.same (s2.trans s3)).tup
  refine .inr ⟨p,vs,rfl,SqT.of hq,by rw[<-rr.length];exact h3.1,λp' hp'=>.inl ?_⟩
  exact k _ _ _ h3.2 (s03.trans (upd_new hp')) (.tup aU ((xO l u rr).keep (.of (upd_new hp'))))
 | _=>exact h3.elim
variable {te:RE}
noncomputable def fE:D->(D->Prop)->Prop:=λd Q=>match d with
 | .lst ds=>Q (.lst ds)
 | .tup ds=>Q (.lst ds)
 | _=>False
theorem oC:bootBuiltins "list" = some (.type "list"):=by decide +kernel
theorem uJ (hm:X.mg "list" = none) (h:DB X e te) (hg:Gl X "list":=by rfl) (hs:starEach [e] X.env=[(false,eval e X.env)]:=by rfl) (hn:starEach [] X.env=[]:=by rfl):DE X (.Call (.Name "list" p) [e] [] pos) (r1 fE te):=by
 refine PE.mono (PE.frz (FR vN hg hm oC (gL h hs hn) (by decide) (by decide) (by rw[hs,hn]) (by rw[hn];rfl))) λσ H Q hh=>cJ hh λρ P st q k=>⟨ρ,_,st,q,λd v H1 hd s1 r=>?_⟩
 unfold fE at hd;split at hd
 ·obtain⟨p,vs,rfl,hq,rr⟩:=r.lst
  exact⟨p,vs,rfl,.inl hq,λp' hp'=>.inr ⟨p',_,H1,rfl,rfl,hp',λH4 s4 fz=>k _ _ H4 hd (s1.trans s4) (.lst fz (rr.keep (.of s4)))⟩⟩
 ·obtain⟨p,vs,rfl,hq,rr⟩:=r.tup
  exact⟨p,vs,rfl,.inr (SqT.of hq),λp' hp'=>.inr ⟨p',_,H1,rfl,rfl,hp',λH4 s4 fz=>k _ _ H4 hd (s1.trans s4) (.lst fz (rr.keep (.of s4)))⟩⟩
 ·exact hd.elim
noncomputable def oE:D->(D->Prop)->Prop:=λd Q=>match d with
 | .lst ds=>Q (.tup ds)
 | .tup ds=>Q (.tup ds)
 | _=>False
noncomputable def EL:D->(D->Prop)->Prop:=λd Q=>match d with
 | .lst ds=>∃ns:List Int,ds=ns.map D.int/\Q (.int ns.sum)
 | _=>False
noncomputable def dMaxL:D->(D->Prop)->Prop:=λd Q=>match d with
 | .lst ds=>∃ns:List Int,ds=ns.map D.int/\ns≠[]/\∀M,M∈ns->(∀a∈ns,a<=M)->Q (.int M)
 | _=>False
noncomputable def dMinL:D->(D->Prop)->Prop:=λd Q=>match d with
 | .lst ds=>∃ns:List Int,ds=ns.map D.int/\ns≠[]/\∀M,M∈ns->(∀a∈ns,M<=a)->Q (.int M)
 | _=>False
end
section
variable {X:Cx} {tg e:Expr} {te:RE} {pos p:Pos}
noncomputable def uX (te:RE):RA:=λρ Q=>te ρ λd=>match d with
 | .lst ds=>Q ds.reverse
 | _=>False
theorem tG:bootBuiltins "reversed" = some (.type "reversed"):=by decide +kernel
end
section
variable {prog:Program} {w:World} {A:Around} {E:Value->Shared->Prop} {s:Shared}
end
section
variable {prog:Program} {w:World} {A:Around} {E:Value->Shared->Prop} {s:Shared} {z TI TO i1 i2 a1 a2:Addr} {vs us:List Value} {T1 T2:Nat->Heap->Prop}
end
section
variable {prog:Program} {w:World} {A:Around} {E:Value->Shared->Prop} {s:Shared}
end
section
variable {prog:Program} {w:World} {A:Around} {E:Value->Shared->Prop} {s:Shared} {z TI TO i1 i2 a1 a2:Addr} {vs us:List Value} {T1 T2:Nat->Heap->Prop}
end
section
variable {X:Cx} {pins:List (Addr × Obj)} {σ:St}
theorem _root_.L2.Inv.trackO {s s':Shared} {H H':Hp} {a:Addr} {w:HO} (I:Inv X pins σ H s) (I':Inv X pins σ H' s') (ha:s.heap.objs.size<=a) (hn:H' a=none) (new:ObjOk X.prog X.w (upd H' a w) s'.heap a w):Inv X pins σ (upd H' a w) s':=by
 have nL:X.env.locals≠a:=Nat.ne_of_lt (Nat.lt_of_lt_of_le I.lt ha)
 have nC:∀x c,X.env.cells.lookup x=some c->c≠a:=λx c q z=>by
  obtain⟨v,hv⟩:=I.cell x c q
  exact absurd (Nat.lt_of_lt_of_le hv.lt (by rw[z];exact ha)) (Nat.lt_irrefl _)
 have n0:∀{b:Addr} {o:Obj},X.s₀.heap.get? b=some o->b≠a:=λ{b o} q=>Nat.ne_of_lt (Nat.lt_of_lt_of_le (Heap.lt_size q) (Nat.le_trans I.sz ha))
 refine⟨I'.ok,I'.os,I'.bare,⟨I'.base.keep,I'.base.slot,λb o q n hx=>by rw[aG (n0 q)];exact I'.base.free b o q n hx,I'.base.there,λb ys q=>by rw[aG (aK (I'.base.tups b ys q) hn)];exact I'.base.tups b ys q,λb o u q=>by rw[aG (aK (I'.base.frzs b o u q) hn)];exact I'.base.frzs b o u q,λb ps q=>?_⟩,I'.loc,I'.cell,by rw[aG nL];exact I'.free,λx c q=>by rw[aG (nC x c q)];exact I'.freeC x c q,λp hp=>?_,λb u q=>?_,I'.len⟩
 ·obtain⟨m,q2⟩:=I'.base.tbls b ps q
  exact⟨m,by rw[aG (aK q2 hn)];exact q2⟩
 ·obtain⟨q1,q2,q3,q4,q5⟩:=I'.pin p hp
  have hp1:p.1≠a:=Nat.ne_of_lt (Nat.lt_of_lt_of_le (Heap.lt_size (I.pin p hp).1) ha)
  exact⟨q1,by rw[aG hp1];exact q2,q3,q4,q5⟩
 ·by_cases hb:b=a
  ·subst hb
   rw[aU] at q;cases q
   exact new
  ·rw[aG hb] at q
   exact (I'.hok b u q).stay (λc v _ w=>w) (λc w=>by rw[aG (aK w hn)];exact w) λc ys w=>by rw[aG (aK w hn)];exact w
end
noncomputable def tU:D->Option (List D)
 | .lst xs=>some xs
 | .tup xs=>some xs
 | _=>none
noncomputable def FX (ta tb:RE):RA:=λρ Q=>ta ρ λx=>tb ρ λy=>∃xs ys,tU x=some xs/\tU y=some ys/\xs.length=ys.length/\Q (xs.zipWith (λa b=>D.tup [a,b]) ys)
theorem HC:bootBuiltins "zip" = some (.type "zip"):=by decide +kernel
section
variable {X:Cx} {a b:Expr} {ta tb:RE} {p pz pos posz:Pos}
end
noncomputable def Itz (K:PySem.W.Frag) (l m:Addr):It :=
 ⟨λi H=>∃xs ys x y,SqL K H l xs/\SqL K H m ys/\xs[i]? = some x/\ys[i]? = some y,λi H x H'=>∃p a b,H p=none/\x = .ref p/\H'=upd H p (.tup [a,b])/\(∀xs,SqL K H l xs->xs[i]? = some a)/\∀ys,SqL K H m ys->ys[i]? = some b,
  λi H=>∃xs ys,SqL K H l xs/\SqL K H m ys/\(xs.length<=i\/ys.length<=i)⟩
noncomputable def ZSt (z TI TO i1 i2 l m:Addr) (i:Nat) (h:Heap):Prop:=IsZip h z TI TO .none/\IsPair h TI (.ref i1) (.ref i2)/\(∃a b,IsPair h TO a b)/\h.IsListIter i1 l i/\h.IsListIter i2 m i
theorem KR {P:Program} {w:World} {K:PySem.W.Frag} {elts:List Expr} {k:Nat} {pos:Pos} (z TI TO i1 i2 l m:Addr) (D:ZipApart z TI TO i1 i2 l m) :
  Turn P w K (.Tuple elts k pos) (Itz K l m) [z,TI,TO,i1,i2] z (ZSt z TI TO i1 i2 l m) where
 mem:=by simp
 obj:=λi h st b hb=>by
  obtain⟨hz,hI,⟨a,c,hO⟩,⟨o1,e1,c1,d1⟩,o2,e2,c2,d2⟩:=st
  simp only[List.mem_cons,List.not_mem_nil,or_false] at hb
  rcases hb with rfl | rfl | rfl | rfl | rfl
  ·exact⟨_,hz,λv z=>by cases z⟩
  ·exact⟨_,hI,λv z=>by cases z⟩
  ·exact⟨_,hO,λv z=>by cases z⟩
  ·exact⟨o1,e1,λv z=>by rw[d1] at z;cases z⟩
  ·exact⟨o2,e2,λv z=>by rw[d2] at z;cases z⟩
 keep:=λi h h' st kk=>by
  obtain⟨hz,hI,⟨a,c,hO⟩,h1,h2⟩:=st
  exact⟨kk z (by simp) _ hz,kk TI (by simp) _ hI,⟨a,c,kk TO (by simp) _ hO⟩,h1.at λo x=>kk i1 (by simp) o x,h2.at λo x=>kk i2 (by simp) o x⟩
 item:=by
  intro X hP hw hK hc i pins s σ H E I hf st hg
  subst hP hw hK
  obtain⟨xs,ys,x,y,hq,hr,hx,hy⟩:=hg
  obtain⟨its,rv,p,hzl⟩:=I.list hq
  obtain⟨jts,rw',p',hzm⟩:=I.list hr
  obtain⟨u,hu,ru⟩:=rv.get hx
  obtain⟨u',hu',ru'⟩:=rw'.get hy
  have W:=WalksT.zip2 (prog:=X.prog) (w:=X.w) (A:=X.A) (I.ok.hd hc) z TI TO i1 i2 l m D its.toArray jts.toArray
  have hlt:i<min its.toArray.size jts.toArray.size:=by
   have a1:=(List.getElem?_eq_some_iff.mp hu).1
   have a2:=(List.getElem?_eq_some_iff.mp hu').1
   simp;omega
  obtain⟨g1,g2,g3,g4,g5⟩:=id st
  refine W.item i s _ _ hlt ⟨g1,g2,g3,g4,g5,p.isList,p'.isList⟩ λT vals h1 tk hv hT ht hm kk=>?_
  obtain⟨v1,v2,e1,e2,rfl⟩:=hv
  have q1:v1=u:=by
   have:its.toArray[i]? = some u:=by simpa using hu
   rw[e1] at this;exact Option.some.inj this
  have q2:v2=u':=by
   have:jts.toArray[i]? = some u':=by simpa using hu'
   rw[e2] at this;exact Option.some.inj this
  subst q1 q2
  refine⟨_,rfl,?_⟩
  have sub:∀{b:Addr},b ∉ [z,TI,TO,i1,i2]->b ∉ [z,TO,i1,i2]:=λh h'=>h (by simp at h' ⊢;rcases h' with a | a | a | a <;> simp[a])
  have I1:Inv X pins σ (upd H T (.tup [x,y])) { s with heap:=h1,toks:=tk } :=
   I.turnedT (its:=[v1,v2]) (ch:=[z,TI,TO,i1,i2]) (λb o hb e=>kk b o (sub hb) e) hf hT (by simpa using ht) (.cons ru (.cons ru' .nil)) (by show 2<=sizeLine;decide)
  have hn:H T=none:=I.hok.fresh hT
  refine W.go elts k pos i T _ _ _ hm λh2 st2 kk2=>?_
  have hf1:∀b∈[z,TI,TO,i1,i2],oB X pins (upd H T (.tup [x,y])) b:=λb hb=>by
   obtain⟨f0,f1⟩:=hf b hb
   have:∃o,s.heap.get? b=some o:=by
    obtain⟨hz,hI,⟨a,c,hO⟩,⟨o1,w1,c1,d1⟩,o2,w2,c2,d2⟩:=st
    simp only[List.mem_cons,List.not_mem_nil,or_false] at hb
    rcases hb with rfl | rfl | rfl | rfl | rfl
    ·exact⟨_,hz⟩
    ·exact⟨_,hI⟩
    ·exact⟨_,hO⟩
    ·exact⟨_,w1⟩
    ·exact⟨_,w2⟩
   obtain⟨o,ho⟩:=this
   exact⟨by rw[aG (Nat.ne_of_lt (Nat.lt_of_lt_of_le (Heap.lt_size ho) hT))];exact f0,f1⟩
  refine⟨.ref T,_,I1.turnedL (ch:=[z,TI,TO,i1,i2]) (t':=tk) (λb o hb e=>kk2 b o (sub hb) e) hf1,rfl,⟨T,x,y,hn,rfl,rfl,λys' h'=>by rw[I.list_inj h' hq];exact hx,λys' h'=>by rw[I.list_inj h' hr];exact hy⟩,⟨st2.1,st2.2.1,st2.2.2.1,st2.2.2.2.1,st2.2.2.2.2.1⟩,λb hb=>(hf1 b hb).1⟩
 done:=by
  intro X hP hw hK hc i pins s σ H E I hf st hg
  subst hP hw hK
  obtain⟨xs,ys,hq,hr,hx⟩:=hg
  obtain⟨its,rv,p,hzl⟩:=I.list hq
  obtain⟨jts,rw',p',hzm⟩:=I.list hr
  obtain⟨g1,g2,⟨a,b,g3⟩,g4,g5⟩:=st
  have l1:=rv.length
  have l2:=rw'.length
  refine wpAny_pyNext_zip_end (I.ok.hd hc) D g1 g2 g3 g4 g5 p.isList p'.isList ?_ λh1 kk=>⟨rfl,I.turnedL (ch:=[z,TI,TO,i1,i2]) (t':=s.toks) (λb o hb q=>kk b o (λe=>hb (by simp[e])) (λe=>hb (by simp[e])) (λe=>hb (by simp[e])) (λe=>hb (by simp[e])) q) hf⟩
  rcases hx with hx | hx
  ·exact .inl (by rw[List.getElem?_toArray];exact List.getElem?_eq_none (by omega))
  ·exact .inr (by rw[List.getElem?_toArray];exact List.getElem?_eq_none (by omega))
 self:=λ_ _ _ _ _ st h=>wpAny_pyIter_zip st.1 h
section
variable {X:Cx} {a b:Expr} {ta tb:RE} {pos p:Pos} {elts:List Expr} {k:Nat} {tp:Pos}
noncomputable def gN (ta tb:RE):RA:=λρ Q=>ta ρ λx=>tb ρ λy=>match x,y with
 | .lst xs,.lst ys=>Q (xs.zipWith (λa b=>D.tup [a,b]) ys)
 | _,_=>False
theorem AK (hm:X.mg "zip" = none) (ha:DE X a ta) (hb:DE X b tb) (hg:Gl X "zip":=by rfl) (h2:starEach [a,b] X.env=(false,eval a X.env)::starEach [b] X.env:=by rfl) (h1:starEach [b] X.env=[(false,eval b X.env)]:=by rfl) (hn:starEach [] X.env=[]:=by rfl) :
  DI X (.Tuple elts k tp) (.Call (.Name "zip" p) [a,b] [] pos) (gN ta tb):=by
 intro pins s σ H R I hh_0
 obtain⟨ρ,P,st,q,kk⟩:=hh_0
 refine Call_ (dZ I hg hm HC (PyProof.Rows.callWith_type1 (thn (gY ha (gY hb oU (by rw[h1,hn])) h2 pos pins s σ H (λvs H1=>∃l m xs ys us ws,vs=[V.ref l,V.ref m]/\Same H H1/\P (xs.zipWith (λa b=>D.tup [a,b]) ys)/\FzL X.K H1 l us/\Reps X.K H1 xs us/\FzL X.K H1 m ws/\Reps X.K H1 ys ws) I
  ⟨ρ,_,st,q,λx v H1 hx s1 r1=>⟨ρ,_,st.ext s1,hx,λy u H2 hy s2 r2=>?_⟩⟩) λus s1 ⟨vs,H1,I1,r1,q1⟩=>?_) h2 (by rw[h1];rfl)))
 ·cases x with
  | lst xs =>
   cases y with
   | lst ys =>
    cases r1 with
    | @lst l us _ z1 t1 =>
     cases r2 with
     | @lst m ws _ z2 t2=>exact⟨l,m,xs,ys,us,ws,rfl,s1.trans s2,hy,z1.keep (.of s2),t1.keep (.of s2),z2,t2⟩
   | _=>exact hy.elim
  | _=>exact hy.elim
 obtain⟨l,m,xs,ys,us,ws,rfl,s01,hp,z1,t1,z2,t2⟩:=q1
 obtain⟨w1,w2,rfl,rv,ru⟩:=DR r1
 cases rv;cases ru
 obtain⟨its,rv,pl,hzz⟩:=I1.list z1.sq
 obtain⟨jts,rv',pl',hzz'⟩:=I1.list z2.sq
 have lt1:l<s1.heap.objs.size:=by obtain⟨o,n,e,_⟩:=pl;exact Heap.lt_size e
 have lt2:m<s1.heap.objs.size:=by obtain⟨o,n,e,_⟩:=pl';exact Heap.lt_size e
 refine call_zip_2 pl.isList pl'.isList λh' hz hTI hTO hi1 hi2 hsz kk'=>?_
 have I2:Inv X pins σ H1 { s1 with heap:=h' }:=I1.kept (t':=s1.toks) kk'
 refine wpAny_pyIter_zip hz ⟨s1.heap.objs.size+4,[s1.heap.objs.size+4,s1.heap.objs.size+2,s1.heap.objs.size+3,s1.heap.objs.size,s1.heap.objs.size+1],_,_,H1,rfl,I2,KR (s1.heap.objs.size+4) (s1.heap.objs.size+2) (s1.heap.objs.size+3) s1.heap.objs.size (s1.heap.objs.size+1) l m (zipApart_new lt1 lt2),⟨hz,hTI,⟨_,_,hTO⟩,hi1,hi2⟩,λb hb=>?_,?_⟩
 ·have:s1.heap.objs.size<=b:=by
   simp only[List.mem_cons,List.not_mem_nil,or_false] at hb
   rcases hb with rfl | rfl | rfl | rfl | rfl <;> simp
  exact I1.fpOk this (I1.hok.fresh this)
 ·refine kk _ _ H1 hp s01 λi H2 kp=>⟨λd ed=>?_,λhl=>⟨us,ws,(z1.keep kp).sq,(z2.keep kp).sq,by rw[<-t1.length,<-t2.length];simp at hl;omega⟩⟩
  rw[List.getElem?_zipWith] at ed
  cases e1:xs[i]? with
  | none=>rw[e1] at ed;cases ed
  | some d1 =>
   cases e2:ys[i]? with
   | none=>rw[e1,e2] at ed;cases ed
   | some d2 =>
    rw[e1,e2] at ed
    cases ed
    obtain⟨v,f1,f2⟩:=(t1.keep kp).get e1
    obtain⟨u,f3,f4⟩:=(t2.keep kp).get e2
    refine⟨⟨us,ws,v,u,(z1.keep kp).sq,(z2.keep kp).sq,f1,f3⟩,λx H' y=>?_⟩
    obtain⟨pp,y1,y2,hn,rfl,rfl,ha',hb'⟩:=y
    have e3:=ha' us (z1.keep kp).sq
    have e4:=hb' ws (z2.keep kp).sq
    rw[f1] at e3;rw[f3] at e4;cases e3;cases e4
    have sm:Same H2 (upd H2 pp (.tup [v,u])):=Same.fn λb o e=>by rw[aG (aK e hn)];exact e
    exact⟨sm,.tup aU (.cons (f2.keep (.of sm)) (.cons (f4.keep (.of sm)) .nil))⟩
end
section
variable {prog:Program} {w:World} {A:Around} {E:Value->Shared->Prop} {s:Shared}
end
noncomputable abbrev cR (ns:List Int):D:=.tup (ns.map .int)
theorem Reps.tupI_inv {K:PySem.W.Frag} {H:Hp} {ns:List Int} {v:V} (r:Rep K H (cR ns) v):∃a,v = .ref a/\H a=some (.tup (ns.map V.int)):=by
 cases r with
 | tup h rr=>rw[rr.ints_inv] at h;exact⟨_,rfl,h⟩
section
variable {X:Cx} {e a b:Expr} {te ta tb:RE} {p pos:Pos}
noncomputable def dLtT:R22:=λx y Q=>∃ns ms:List Int,x=cR ns/\y=cR ms/\Q (.bl (HT.lexLt ns ms))
noncomputable def dMinT:D->(D->Prop)->Prop:=λd Q=>match d with
 | .lst ds=>∃nss:List (List Int),ds=nss.map cR/\nss≠[]/\∀M,M∈nss->(∀x∈nss,HT.lexLt x M=false)->Q (cR M)
 | .tup ds=>∃nss:List (List Int),ds=nss.map cR/\nss≠[]/\∀M,M∈nss->(∀x∈nss,HT.lexLt x M=false)->Q (cR M)
 | _=>False
noncomputable def dNe:R22:=λx y Q=>match x,y with
 | .int i,.int j=>Q (.bl !(decide (i=j)))
 | .bl i,.bl j=>Q (.bl !(decide (i=j)))
 | .tup xs,.tup ys=>match eqL (eqF 5) xs ys with
  | some b=>Q (.bl !b)
  | none=>False
 | .non,.non=>Q (.bl false)
 | _,_=>False
theorem SU {k:Nat} (hr:Room k X.A):OpD X (compareOp .NotEq) dNe:=by
 intro pins s σ H x y v u Q I rx ry hh_0
 obtain⟨d,e,P,r1,r2,q,kk⟩:=hh_0
 have hu:=hr.un
 unfold dNe at q
 split at q
 ·rename_i i j
  rw[r1.int_inv] at rx;rw[r2.int_inv] at ry
  obtain⟨t,rfl⟩:=rx
  obtain⟨t',rfl⟩:=ry
  have e:(!(decide (i=j))) = !(i == j):=by rw[Bool.beq_eq_decide_eq]
  rw[e] at q
  exact SeqAt.RcNeAt.int_int i t j t' _ _ _ _ ⟨.bl _,H,I,rfl,kk _ _ H q (Same.refl H) (.bl _)⟩
 ·rename_i i j
  rw[r1.bl_inv] at rx;rw[r2.bl_inv] at ry
  cases rx;cases ry
  have e:(!(decide (i=j))) = !(i == j):=by rw[Bool.beq_eq_decide_eq]
  rw[e] at q
  exact SeqAt.RcNeAt.bool_bool i j _ _ _ _ ⟨.bl _,H,I,rfl,kk _ _ H q (Same.refl H) (.bl _)⟩
 ·rename_i xs ys
  split at q
  ·rename_i b h
   obtain⟨a,vs,rfl,h1,q1⟩:=r1.tup
   obtain⟨c,ws,rfl,h2,q2⟩:=r2.tup
   cases rx;cases ry
   obtain⟨its,rv,ht,_⟩:=I.tuple (SqT.of h1)
   obtain⟨its2,rv2,ht2,_⟩:=I.tuple (SqT.of h2)
   have l1:xs.length=its.length:=q1.length.trans rv.length
   have l2:ys.length=its2.length:=q2.length.trans rv2.length
   have rc:SeqAt.RcNeAt X.A s (.ref a) (.ref c) (!b):=by
    have:=SeqAt.RcNeAt.tuples (A:=X.A) (s:=s) (e:=λj=>match xs[j]?,ys[j]? with | some x,some y=>(eqF 5 x y).getD false | _,_=>false) ht ht2 (by omega) (λj g1 g2=>?_)
    ·simp only[List.size_toArray,<-l1,<-l2] at this
     have al:=kZ h
     rw[<-al]
     exact this
    ·simp only[List.size_toArray] at g1 g2
     have e1:xs[j]? = some (xs[j]'(by omega)):=List.getElem?_eq_getElem _
     have e2:ys[j]? = some (ys[j]'(by omega)):=List.getElem?_eq_getElem _
     obtain⟨k,hk⟩:=nH h j _ _ e1 e2
     rw[e1,e2]
     simp only[hk,Option.getD_some]
     obtain⟨v1,f1,f2⟩:=q1.get e1
     obtain⟨v2,f3,f4⟩:=q2.get e2
     obtain⟨u1,g3,g4⟩:=rv.get f1
     obtain⟨u2,g5,g6⟩:=rv2.get f3
     have a1:its.toArray[j]=u1:=by
      have:=List.getElem?_eq_getElem g1
      rw[this] at g3
      simpa using Option.some.inj g3
     have a2:its2.toArray[j]=u2:=by
      have:=List.getElem?_eq_getElem g2
      rw[this] at g5
      simpa using Option.some.inj g5
     rw[a1,a2]
     exact (rN I 5 hk f2 f4 g4 g6 (by show X.A.units+1+5<cLine;omega)).2
   exact rc _ _ _ _ ⟨.bl _,H,I,rfl,kk _ _ H q (Same.refl H) (.bl _)⟩
  ·exact q.elim
 ·have non:∀{v:V},RepB X.K H .non v->v = .non:=λr=>by
   rcases r with r | ⟨_,_,_,e,_⟩
   ·cases r;rfl
   ·cases e
  rw[non r1] at rx;rw[non r2] at ry
  cases rx;cases ry
  exact SeqAt.RcNeAt.none_none _ _ _ _ ⟨.bl _,H,I,rfl,kk _ _ H q (Same.refl H) (.bl _)⟩
 ·exact q.elim
noncomputable def OT:R22:=λx y Q=>match x with
 | .lst xs=>∃j:Nat,(∃d,xs[j]? = some d/\eqF 6 d y=some true)/\(∀(i:Nat) d,i<j->xs[i]? = some d->eqF 6 d y=some false)/\(∀d∈xs,∃b,eqF 6 d y=some b)/\Q (.int (j:Int))
 | _=>False
end
section
variable {X:Cx} {pins:List (Addr × Obj)} {σ:St} {H:Hp} {s:Shared}
end
section
variable {X:Cx} {e a b:Expr} {te ta tb:RE} {p pos:Pos}
noncomputable def oY (ta tb:RE):RE:=λρ Q=>ta ρ λx=>(∃xs,x = .lst xs)/\tb ρ λy=>OT x y Q
end
end L2.R2
set_option Elab.async false
set_option linter.all false
set_option maxRecDepth 100000
set_option maxHeartbeats 1000000
namespace L2.R2
open PySem PySem.SetTable
noncomputable def hop (N i:Nat):Nat:=(i*5+1) % N
noncomputable def vZ (N:Nat):Nat->Nat->Nat
 | 0,i=>i
 | m+1,i=>vZ N m (hop N i)
theorem nJ (N:Nat):∀a b i,vZ N (a+b) i=vZ N b (vZ N a i)
 | 0,b,i=>by rw[Nat.zero_add];rfl
 | a+1,b,i=>by rw[Nat.add_right_comm];exact nJ N a b (hop N i)
noncomputable def DQ (N:Nat):Nat->Nat->List Nat
 | 0,_=>[]
 | m+1,i=>i::DQ N m (hop N i)
theorem oP {N j:Nat}:∀{m i:Nat},j∈DQ N m i->∃k,k<m/\vZ N k i=j
 | 0,_,h=>by cases h
 | m+1,i,h=>by
  rcases List.mem_cons.mp h with rfl | h
  ·exact⟨0,by omega,rfl⟩
  ·obtain⟨k,hk,e⟩:=oP h
   exact⟨k+1,by omega,e⟩
noncomputable def Round (N:Nat):Prop:=(∀j,j<N->j∈DQ N N 0)/\vZ N N 0=0
theorem sS {N:Nat} (h:((List.range N).all λj=>(DQ N N 0).contains j)=true) (k:vZ N N 0=0):Round N :=
 ⟨λj hj=>by have:=List.all_eq_true.mp h j (List.mem_range.mpr hj);simpa using this,k⟩
theorem QU:Round 8:=sS (by decide +kernel) (by decide +kernel)
theorem ND:Round 32:=sS (by decide +kernel) (by decide +kernel)
theorem KE:Round 128:=sS (by decide +kernel) (by decide +kernel)
theorem Round.reach {N:Nat} (h:Round N) {i j:Nat} (hi:i<N) (hj:j<N):∃k,k<N/\vZ N k i=j:=by
 obtain⟨a,ha,ea⟩:=oP (h.1 i hi)
 obtain⟨b,hb,eb⟩:=oP (h.1 j hj)
 by_cases hab:a<=b
 ·refine⟨b-a,by omega,?_⟩
  rw[<-ea,<-nJ,show a+(b-a)=b by omega,eb]
 ·refine⟨b+(N-a),by omega,?_⟩
  rw[<-ea,<-nJ,show a+(b+(N-a))=N+b by omega,nJ,h.2,eb]
noncomputable def Em (P:Nat->Prop) (mask:Nat):Nat->Nat->Nat->Prop
 | 0,i,_=>P i
 | m+1,i,pt=>Em P mask m (leap mask i pt).1 (leap mask i pt).2
theorem BW {P:Nat->Prop} {mask:Nat}:∀m i,P (vZ (mask+1) m i)->Em P mask m i 0
 | 0,_,h=>h
 | m+1,i,h=>by
  unfold Em
  have e:leap mask i 0=(hop (mask+1) i,0):=by simp[leap,hop]
  rw[e]
  exact BW m (hop (mask+1) i) h
theorem AA {P:Nat->Prop} {mask:Nat} (R:Round (mask+1)) {j:Nat} (hj:j<=mask) (hP:P j):∀(b i pt:Nat),i<=mask->pt<32 ^ b->∃m,m<=mask+b/\Em P mask m i pt
 | 0,i,pt,hi,hp=>by
  have:pt=0:=by simpa using hp
  subst this
  obtain⟨k,hk,e⟩:=R.reach (i:=i) (j:=j) (by omega) (by omega)
  exact⟨k,by omega,BW k i (by rw[e];exact hP)⟩
 | b+1,i,pt,hi,hp=>by
  have h1:(leap mask i pt).1<=mask:=by unfold leap;exact Nat.le_of_lt_succ (Nat.mod_lt _ (by omega))
  have h2:(leap mask i pt).2<32 ^ b:=by
   unfold leap;dsimp only
   rw[Nat.pow_succ] at hp
   omega
  obtain⟨m,hm,e⟩:=AA R hj hP b _ _ h1 h2
  exact⟨m+1,by omega,e⟩
theorem CF (h:Int):bits h<32 ^ 13:=by
 unfold bits
 have:(h % (2 ^ 64:Int))<2 ^ 64:=Int.emod_lt_of_pos _ (by decide)
 have h2:0<=h % (2 ^ 64:Int):=Int.emod_nonneg _ (by decide)
 have:(h % (2 ^ 64:Int)).toNat<2 ^ 64:=by omega
 exact Nat.lt_of_lt_of_le this (by decide)
theorem lN {α:Type} [DecidableEq α]:∀(l m:List α),l.Nodup->(∀x∈l,x∈m)->l.length<=m.length
 | [],_,_,_=>Nat.zero_le _
 | x::l,m,hn,hs=>by
  have hx:=hs x (by simp)
  have hn':=List.nodup_cons.mp hn
  have:=lN l (m.erase x) hn'.2 λy hy=>by
   have ne:y≠x:=λe=>hn'.1 (e ▸ hy)
   exact (List.mem_erase_of_ne ne).mpr (hs y (by simp[hy]))
  rw[List.length_erase_of_mem hx] at this
  have:0<m.length:=List.length_pos_of_mem hx
  simp;omega
structure TabOk (t:SetTable) (n:Nat):Prop where
 size:t.place.size=n
 dum:t.dummies = #[]
 room:n<=t.mask
 round:Round (t.mask+1)
 ris:t.place.toList.Pairwise (· < ·)
theorem wR {t:SetTable} (hd:t.dummies = #[]) (j:Nat):t.slot j = .empty\/∃i,t.slot j = .live i/\t.place[i]? = some j:=by
 unfold slot
 dsimp only
 by_cases h:(t.place[below t.place j]? == some j)=true
 ·rw[if_pos h];exact Or.inr ⟨_,rfl,by simpa using h⟩
 ·rw[if_neg h,hd,if_neg (by simp[has])];exact Or.inl rfl
theorem BP {t:SetTable} {n:Nat} (T:TabOk t n):∃j,j<=t.mask/\t.slot j = .empty:=by
 apply Classical.byContradiction
 intro hn
 have all:∀j∈List.range (t.mask+1),j∈t.place.toList:=by
  intro j hj
  rcases wR T.dum j with h | ⟨i,h,e⟩
  ·exact absurd ⟨j,by have:=List.mem_range.mp hj;omega,h⟩ hn
  ·rw[Array.mem_toList_iff];exact Array.mem_of_getElem? e
 have:=lN _ _ List.nodup_range all
 rw[List.length_range,Array.length_toList,T.size] at this
 have:=T.room
 omega
noncomputable def tW (t:SetTable) (p:Probe) (m:Nat):Prop:=p.dummy=none/\p.more<=9/\Em (λj=>t.slot j = .empty) t.mask m p.i p.perturb/\(m=0->p.j=p.i)
noncomputable def qF (p:Probe) (m:Nat):Nat:=p.more+10*m
theorem lC (mask i:Nat):runEnd mask i-i<=9:=by unfold runEnd;split <;> omega
theorem wX {t:SetTable} {p:Probe} {m:Nat} (h:tW t p m) (hn:t.slot p.j≠.empty):∃m',tW t (t.advance p) m'/\qF (t.advance p) m'<qF p m:=by
 obtain⟨hd,hm,he,hj⟩:=h
 have m0:m≠0:=by rintro rfl;rw[hj rfl] at hn;exact hn he
 unfold advance
 split
 ·refine⟨m,⟨hd,by dsimp only;omega,he,λe=>absurd e m0⟩,by unfold qF;dsimp only;omega⟩
 ·obtain⟨k,rfl⟩:∃k,m=k+1:=⟨m-1,by omega⟩
  refine⟨k,⟨hd,lC _ _,he,λ_=>rfl⟩,?_⟩
  unfold qF
  have:=lC t.mask (leap t.mask p.i p.perturb).1
  dsimp only
  omega
theorem GL {t:SetTable} {n:Nat} (T:TabOk t n) (h:Int):∃m,tW t (t.probeStart h) m/\qF (t.probeStart h) m<10*turns t.mask:=by
 obtain⟨j,hj,he⟩:=BP T
 obtain⟨m,hm,e⟩:=AA (P:=λj=>t.slot j = .empty) T.round hj he 13 (bits h % (t.mask+1)) (bits h) (Nat.le_of_lt_succ (Nat.mod_lt _ (by omega))) (CF h)
 refine⟨m,⟨rfl,lC _ _,e,λ_=>rfl⟩,?_⟩
 have:=lC t.mask (bits h % (t.mask+1))
 unfold qF probeStart turns
 dsimp only
 omega
theorem CP {mask:Nat} {owner:Array (Option Nat)}:∀(fuel m i pt:Nat),i<=mask->owner.size=mask+1->Em (λj=>owner.getD j (some 0)=none) mask m i pt->m<fuel->∃j,layClean.free mask owner fuel i pt=some j/\j<=mask/\owner.getD j (some 0)=none
 | 0,_,_,_,_,_,_,h=>absurd h (Nat.not_lt_zero _)
 | fuel+1,m,i,pt,hi,hs,he,hf=>by
  unfold layClean.free
  cases hq:(List.range (runEnd mask i+1-i)).find? λk=>(owner.getD (i+k) (some 0)).isNone with
  | some k =>
   have h1:=List.find?_some hq
   have h2:=List.mem_of_find?_eq_some hq
   have h3:=List.mem_range.mp h2
   refine⟨i+k,rfl,?_,by simpa using h1⟩
   have:runEnd mask i<=mask:=by unfold runEnd;split <;> omega
   omega
  | none =>
   dsimp only
   have hn:owner.getD i (some 0)≠none:=by
    have h0:=List.find?_eq_none.mp hq 0 (List.mem_range.mpr (by unfold runEnd;split <;> omega))
    simpa using h0
   obtain⟨k,rfl⟩:∃k,m=k+1:=by
    cases m with
    | zero=>exact absurd he hn
    | succ k=>exact⟨k,rfl⟩
   exact CP fuel k _ _ (by unfold leap;exact Nat.le_of_lt_succ (Nat.mod_lt _ (by omega))) hs he (by omega)
noncomputable def nR (owner:Array (Option Nat)) (n:Nat):List Nat:=(List.range n).filterMap λj=>owner.getD j none
theorem xY {α:Type} {f g:Nat->Option α}:∀(l:List Nat),(∀a∈l,f a=g a)->l.filterMap f=l.filterMap g
 | [],_=>rfl
 | a::l,h=>by rw[List.filterMap_cons,List.filterMap_cons,h a (by simp),xY l λb hb=>h b (by simp[hb])]
theorem lL {α:Type} {f g:Nat->Option α} {x:α} {j:Nat}:∀(l:List Nat),l.Nodup->j∈l->(∀i,i≠j->f i=g i)->f j=none->g j=some x->(l.filterMap g).Perm (x::l.filterMap f)
 | [],_,h,_,_,_=>by cases h
 | i::l,hn,hj,hfg,hf,hg=>by
  have hn':=List.nodup_cons.mp hn
  by_cases e:i=j
  ·subst e
   rw[List.filterMap_cons,List.filterMap_cons,hf,hg]
   dsimp only
   have:l.filterMap g=l.filterMap f:=by
    exact xY l λa ha=>(hfg a (λe=>hn'.1 (e ▸ ha))).symm
   rw[this]
  ·have hj':j∈l:=by rcases List.mem_cons.mp hj with h | h;exact absurd h.symm e;exact h
   have ih:=lL l hn'.2 hj' hfg hf hg
   rw[List.filterMap_cons,List.filterMap_cons,hfg i e]
   cases g i with
   | none=>exact ih
   | some y=>exact (ih.cons y).trans (List.Perm.swap x y _)
theorem FQ {owner:Array (Option Nat)} {N c:Nat} (hp:(nR owner N).Perm (List.range c)) (hs:owner.size=N) (hc:c<N):∃j,j<N/\owner.getD j (some 0)=none:=by
 apply Classical.byContradiction
 intro hn
 have key:∀(l:List Nat),(∀j∈l,∃k,owner.getD j none=some k)->(l.filterMap λj=>owner.getD j none).length=l.length:=by
  intro l
  induction l with
  | nil=>intro _;rfl
  | cons j l ih =>
   intro h
   obtain⟨k,e⟩:=h j (by simp)
   rw[List.filterMap_cons,e]
   have:=ih λj hj=>h j (by simp[hj])
   rw[List.length_cons,List.length_cons,this]
 have:=key (List.range N) (by
  intro j hj
  have hj':=List.mem_range.mp hj
  cases h:owner.getD j none with
  | some k=>exact⟨k,rfl⟩
  | none =>
   refine absurd ⟨j,hj',?_⟩ hn
   have lt:j<owner.size:=by omega
   simp[Array.getD,lt] at h ⊢
   exact h)
 have e:=hp.length_eq
 unfold nR at e
 rw[this] at e
 simp at e
 omega
theorem yE {mask:Nat} (R:Round (mask+1)):∀(hs:List Int) (owner:Array (Option Nat)) (c:Nat),owner.size=mask+1->(nR owner (mask+1)).Perm (List.range c)->c+hs.length<=mask+1 ->
  ∃owner' ,(hs.foldl (λacc h=>do
    let (owner,k) <-acc
    let j <-layClean.free mask owner (turns mask) (bits h % (mask+1)) (bits h)
    pure (owner.setIfInBounds j (some k),k+1)) (some (owner,c)))=some (owner',c+hs.length)/\owner'.size=mask+1/\(nR owner' (mask+1)).Perm (List.range (c+hs.length))
 | [],owner,c,hs,hp,_=>⟨owner,rfl,hs,hp⟩
 | h::hs,owner,c,hz,hp,hl=>by
  simp only[List.length_cons] at hl
  obtain⟨j0,hj0,e0⟩:=FQ hp hz (by omega)
  obtain⟨m,hm,em⟩:=AA (P:=λj=>owner.getD j (some 0)=none) R (j:=j0) (by omega) e0 13 (bits h % (mask+1)) (bits h) (Nat.le_of_lt_succ (Nat.mod_lt _ (by omega))) (CF h)
  obtain⟨j,ej,hj,ef⟩:=CP (turns mask) m _ _ (Nat.le_of_lt_succ (Nat.mod_lt _ (by omega))) hz em (by unfold turns;omega)
  rw[List.foldl_cons]
  have step:((do
    let (owner,k) <-some (owner,c)
    let j <-layClean.free mask owner (turns mask) (bits h % (mask+1)) (bits h)
    pure (owner.setIfInBounds j (some k),k+1)):Option (Array (Option Nat) × Nat))=some (owner.setIfInBounds j (some c),c+1):=by
   show (layClean.free mask owner (turns mask) (bits h % (mask+1)) (bits h) >>= λj=>_)=_
   rw[ej];rfl
  rw[step]
  have lt:j<owner.size:=by omega
  have perm:(nR (owner.setIfInBounds j (some c)) (mask+1)).Perm (List.range (c+1)):=by
   unfold nR
   refine (lL (f:=λi=>owner.getD i none) (x:=c) (j:=j) _ List.nodup_range (List.mem_range.mpr (by omega)) ?_ ?_ ?_).trans ?_
   ·intro i hi
    simp only[Array.getD_eq_getD_getElem?]
    rw[Array.getElem?_setIfInBounds_ne (Ne.symm hi)]
   ·simp only[Array.getD_eq_getD_getElem?] at ef ⊢
    have:owner[j]? = some owner[j]:=Array.getElem?_eq_getElem lt
    rw[this] at ef ⊢
    exact ef
   ·simp only[Array.getD_eq_getD_getElem?]
    rw[Array.getElem?_setIfInBounds_self_of_lt lt];rfl
   ·rw[List.range_succ (n:=c)]
    exact (List.Perm.cons c hp).trans (List.perm_append_comm (l₁:=[c]))
  obtain⟨o',r1,r2,r3⟩:=yE R hs (owner.setIfInBounds j (some c)) (c+1) (by simp[hz]) perm (by omega)
  refine⟨o',?_,r2,?_⟩
  ·rw[r1,List.length_cons,show c+1+hs.length=c+(hs.length+1) by omega]
  ·rw[List.length_cons,show c+(hs.length+1)=c+1+hs.length by omega];exact r3
theorem MA {mask:Nat} (R:Round (mask+1)) (finger moves:Nat) (led plain:Bool) (hashes:Array Int) (hl:hashes.size<=mask) :
  ∃t order,laid mask finger moves led plain hashes=some (t,order)/\TabOk t hashes.size/\t.mask=mask/\t.led=led/\t.plain=plain/\order.toList.Perm (List.range hashes.size):=by
 obtain⟨o,e,sz,pm⟩:=yE R hashes.toList (Array.replicate (mask+1) none) 0 (by simp) (by
  have:nR (Array.replicate (mask+1) none) (mask+1)=[]:=by
   unfold nR
   rw[List.filterMap_eq_nil_iff]
   intro j hj
   have:=List.mem_range.mp hj
   simp[Array.getD_eq_getD_getElem?,this]
  rw[this];exact List.Perm.refl _) (by rw[Array.length_toList];omega)
 have el:layClean mask hashes=some o:=by
  unfold layClean
  rw[<-Array.foldl_toList]
  have e':=e
  simp only[Nat.zero_add] at e'
  rw[e']
  rfl
 unfold laid
 rw[el]
 simp only[Nat.zero_add,Array.length_toList] at pm
 have e2:∀l:List Nat,(l.filterMap λj=>(o.getD j none).map (j,·)).map (·.2)=l.filterMap λj=>o.getD j none:=by
  intro l
  induction l with
  | nil=>rfl
  | cons j l ih =>
   rw[List.filterMap_cons,List.filterMap_cons]
   cases o.getD j none with
   | none=>exact ih
   | some k=>exact congrArg (k :: ·) ih
 have e3:∀l:List Nat,((l.filterMap λj=>(o.getD j none).map (j,·)).map (·.1)).Sublist l:=by
  intro l
  induction l with
  | nil=>exact List.Sublist.refl _
  | cons j l ih =>
   rw[List.filterMap_cons]
   cases o.getD j none with
   | none=>exact ih.cons j
   | some k=>exact ih.cons_cons j
 refine⟨_,_,rfl,⟨?_,rfl,hl,R,List.Pairwise.sublist (e3 _) List.pairwise_lt_range⟩,rfl,rfl,rfl,?_⟩
 ·have h1:=congrArg List.length (e2 (List.range (mask+1)))
  have h2:=pm.length_eq
  unfold nR at h2
  simp only[List.length_map,List.length_range] at h1 h2
  simp only[List.size_toArray,List.length_map]
  omega
 ·dsimp only
  rw[e2];exact pm
theorem rE {xs:Array Nat} {j:Nat} (hr:xs.toList.Pairwise (· < ·)):∀(fuel lo hi:Nat),lo<=hi->hi<=xs.size->hi-lo<=fuel->(∀i x,i<lo->xs[i]? = some x->x<j)->(∀i x,hi<=i->xs[i]? = some x->j<=x) ->
  below.go xs j fuel lo hi<=xs.size/\(∀i x,i<below.go xs j fuel lo hi->xs[i]? = some x->x<j)/\(∀i x,below.go xs j fuel lo hi<=i->xs[i]? = some x->j<=x)
 | 0,lo,hi,h1,h2,h3,a,b=>by
  have:lo=hi:=by omega
  subst this
  exact⟨h2,a,b⟩
 | fuel+1,lo,hi,h1,h2,h3,a,b=>by
  unfold below.go
  by_cases hl:lo<hi
  ·rw[if_pos hl]
   dsimp only
   have hm:(lo+hi) / 2<xs.size:=by omega
   have em:xs[(lo+hi) / 2]? = some xs[(lo+hi) / 2]:=Array.getElem?_eq_getElem hm
   have eg:xs.getD ((lo+hi) / 2) j=xs[(lo+hi) / 2]:=by simp[Array.getD,hm]
   have mono:∀(i k x y:Nat),i<k->xs[i]? = some x->xs[k]? = some y->x<y:=by
    intro i k x y hik ex ey
    have hk:k<xs.size:=(Array.getElem?_eq_some_iff.mp ey).1
    have:=List.pairwise_iff_getElem.mp hr i k (by simp;omega) (by simpa using hk) hik
    rw[Array.getElem?_eq_getElem (by omega)] at ex
    rw[Array.getElem?_eq_getElem hk] at ey
    cases ex;cases ey
    simpa using this
   rw[eg]
   split
   ·rename_i h
    refine rE hr fuel _ _ (by omega) h2 (by omega) (λi x hq ex=>?_) b
    by_cases he:i=(lo+hi) / 2
    ·subst he;rw[em] at ex;cases ex;exact h
    ·exact Nat.lt_trans (mono i ((lo+hi) / 2) x _ (by omega) ex em) h
   ·rename_i h
    refine rE hr fuel _ _ (by omega) (by omega) (by omega) a (λi x hq ex=>?_)
    by_cases he:i=(lo+hi) / 2
    ·subst he;rw[em] at ex;cases ex;omega
    ·have:=mono ((lo+hi) / 2) i _ x (by omega) em ex
     omega
  ·rw[if_neg hl]
   have:lo=hi:=by omega
   subst this
   exact⟨h2,a,b⟩
theorem rF {xs:Array Nat} (j:Nat) (hr:xs.toList.Pairwise (· < ·)):below xs j<=xs.size/\(∀i x,i<below xs j->xs[i]? = some x->x<j)/\(∀i x,below xs j<=i->xs[i]? = some x->j<=x) :=
 rE hr xs.size 0 xs.size (Nat.zero_le _) (Nat.le_refl _) (by omega) (λi x h=>absurd h (Nat.not_lt_zero _)) λi x h e=>by
  have:=(Array.getElem?_eq_some_iff.mp e).1;omega
theorem dP {α:Type} (xs:Array α) (p:Nat) (x:α) (hp:p<=xs.size):(insertAt xs p x).toList=xs.toList.take p++x::xs.toList.drop p:=by
 unfold insertAt
 rw[Array.toList_append,Array.toList_push,Array.toList_extract,Array.toList_extract]
 simp only[List.extract_eq_drop_take,Nat.sub_zero,List.drop_zero,List.append_assoc,List.singleton_append]
 congr 2
 rw[List.take_of_length_le (by simp)]
theorem lM {α:Type} (xs:Array α) (p:Nat) (x:α) (hp:p<=xs.size):(insertAt xs p x).size=xs.size+1:=by
 rw[<-Array.length_toList,dP xs p x hp];simp;omega
theorem nK {α:Type} (xs:Array α) (p:Nat) (x:α) (hp:p<=xs.size) (y:α):y∈(insertAt xs p x).toList↔y=x\/y∈xs.toList:=by
 rw[dP xs p x hp,List.mem_append,List.mem_cons]
 constructor
 ·rintro (h | h | h)
  ·exact Or.inr (List.mem_of_mem_take h)
  ·exact Or.inl h
  ·exact Or.inr (List.mem_of_mem_drop h)
 ·rintro (h | h)
  ·exact Or.inr (Or.inl h)
  ·rw[<-List.take_append_drop p xs.toList] at h
   rcases List.mem_append.mp h with h | h
   ·exact Or.inl h
   ·exact Or.inr (Or.inr h)
theorem QQ {t:SetTable} {n j:Nat} (T:TabOk t n) (he:t.slot j = .empty) (hr:n+1<=t.mask):TabOk (t.put j).1 (n+1)/\(t.put j).2=below t.place j/\below t.place j<=n/\(t.put j).1.mask=t.mask/\(t.put j).1.led=t.led/\(t.put j).1.plain=t.plain/\(t.put j).1.moves=t.moves:=by
 obtain⟨b1,b2,b3⟩:=rF j T.ris
 have hn:t.place[below t.place j]?≠some j:=by
  intro h
  unfold slot at he
  dsimp only at he
  rw[if_pos (by simpa using h)] at he
  cases he
 have hd:(if has t.dummies j=true then eraseAt t.dummies (below t.dummies j) else t.dummies) = #[]:=by
  rw[T.dum];simp[has]
 refine⟨⟨?_,hd,hr,T.round,?_⟩,rfl,by rw[<-T.size];exact b1,rfl,rfl,rfl,rfl⟩
 ·show (insertAt t.place _ j).size=_
  rw[lM _ _ _ b1,T.size]
 ·show (insertAt t.place _ j).toList.Pairwise _
  rw[dP _ _ _ b1]
  refine List.pairwise_append.mpr ⟨List.Pairwise.sublist (List.take_sublist _ _) T.ris,List.pairwise_cons.mpr ⟨λx hx=>?_,List.Pairwise.sublist (List.drop_sublist _ _) T.ris⟩,λx hx y hy=>?_⟩
  ·obtain⟨i,hi,e⟩:=List.getElem_of_mem hx
   simp only[List.length_drop,Array.length_toList] at hi
   rw[List.getElem_drop] at e
   have ex:t.place[below t.place j+i]? = some x:=by rw[Array.getElem?_eq_getElem (by omega),<-e];simp
   have:=b3 _ x (by omega) ex
   rcases Nat.lt_or_eq_of_le this with h | h
   ·exact h
   ·subst h
    exfalso
    cases i with
    | zero=>exact hn ex
    | succ i =>
     have hp:below t.place j<t.place.size:=by omega
     have e0:t.place[below t.place j]? = some t.place[below t.place j]:=Array.getElem?_eq_getElem hp
     have g1:=b3 _ _ (Nat.le_refl _) e0
     have g2:=List.pairwise_iff_getElem.mp T.ris (below t.place j) (below t.place j+(i+1)) (by simpa using hp) (by simp;omega) (by omega)
     rw[Array.getElem?_eq_getElem (by omega)] at ex
     injection ex with ex
     simp at g2
     omega
  ·obtain⟨i,hi,e⟩:=List.getElem_of_mem hx
   simp only[List.length_take,Array.length_toList] at hi
   rw[List.getElem_take] at e
   have ex:t.place[i]? = some x:=by rw[Array.getElem?_eq_getElem (by omega),<-e];simp
   have lx:=b2 i x (by omega) ex
   rcases List.mem_cons.mp hy with rfl | hy
   ·exact lx
   ·obtain⟨k,hk,e'⟩:=List.getElem_of_mem hy
    simp only[List.length_drop,Array.length_toList] at hk
    rw[List.getElem_drop] at e'
    have ey:t.place[below t.place j+k]? = some y:=by rw[Array.getElem?_eq_getElem (by omega),<-e'];simp
    have:=b3 _ y (by omega) ey
    omega
noncomputable def nxP (mask:Nat) (p:Probe):Probe:=if p.more > 0 then { p with j:=p.j+1,more:=p.more-1 } else
 { p with j:=(leap mask p.i p.perturb).1,more:=runEnd mask (leap mask p.i p.perturb).1-(leap mask p.i p.perturb).1,i:=(leap mask p.i p.perturb).1,perturb:=(leap mask p.i p.perturb).2 }
noncomputable def atP (mask i pt:Nat):Probe:={ j:=i,more:=runEnd mask i-i,i,perturb:=pt,dummy:=none }
noncomputable def stP (mask:Nat) (h:Int):Probe:=atP mask (bits h % (mask+1)) (bits h)
inductive Via (mask:Nat) (O:Nat->Prop) (j:Nat):Probe->Prop
 | here {p:Probe} (e:p.j=j):Via mask O j p
 | on {p:Probe} (o:O p.j) (v:Via mask O j (nxP mask p)):Via mask O j p
theorem Via.mono {mask j:Nat} {O O':Nat->Prop} {p:Probe} (h:Via mask O j p) (m:∀x,O x->O' x):Via mask O' j p:=by
 induction h with
 | here e=>exact .here e
 | on o v ih=>exact .on (m _ o) ih
noncomputable def Occ (t:SetTable) (x:Nat):Prop:=t.slot x≠.empty
theorem yM {t:SetTable} {j i:Nat} (e:t.slot j = .live i):Occ t j:=by unfold Occ;rw[e];exact λz=>nomatch z
theorem uP {t:SetTable} (hd:t.dummies = #[]) (hashAt:Nat->Int) (h:Int):∀(fuel:Nat) (p:Probe) (m:Nat),tW t p m->qF p m<fuel ->
  (∃j,probe.go t hashAt h fuel p=some (.empty j none)/\t.slot j = .empty/\Via t.mask (Occ t) j p/\∀j1 i1,t.slot j1 = .live i1->hashAt i1=h->¬Via t.mask (Occ t) j1 p) \/
  (∃j i next m',probe.go t hashAt h fuel p=some (.candidate j i next)/\t.slot j = .live i/\t.place[i]? = some j/\tW t next m'/\qF next m'<qF p m/\(∀x,Via t.mask (Occ t) x next->Via t.mask (Occ t) x p) /\
   ∀j1 i1,t.slot j1 = .live i1->hashAt i1=h->Via t.mask (Occ t) j1 p->j1=j\/Via t.mask (Occ t) j1 next)
 | 0,_,_,_,h=>absurd h (Nat.not_lt_zero _)
 | fuel+1,p,m,hi,hf=>by
  unfold probe.go
  rcases wR hd p.j with e | ⟨i,e,ep⟩
  ·rw[e];dsimp only;rw[hi.1]
   refine Or.inl ⟨_,rfl,e,.here rfl,λj1 i1 e1 _ v=>?_⟩
   cases v with
   | here ej=>rw[ej,e1] at e;cases e
   | on o _=>exact o e
  ·rw[e];dsimp only
   have oc:=yM e
   obtain⟨m',hi',hl⟩:=wX hi (by rw[e];exact λx=>nomatch x)
   split
   ·refine Or.inr ⟨_,_,_,m',rfl,e,ep,hi',hl,λx v=>.on oc v,λj1 i1 e1 _ v=>?_⟩
    cases v with
    | here ej=>exact .inl ej.symm
    | on _ v=>exact .inr v
   ·rename_i ne
    have step:∀j1 i1,t.slot j1 = .live i1->hashAt i1=h->Via t.mask (Occ t) j1 p->Via t.mask (Occ t) j1 (t.advance p):=λj1 i1 e1 eh v=>by
     cases v with
     | here ej=>rw[ej,e1] at e;cases e;exact absurd (by rw[eh];simp) ne
     | on _ v=>exact v
    rcases uP hd hashAt h fuel (t.advance p) m' hi' (by omega) with ⟨j,r,r1,r2,r3⟩ | ⟨j,i,nx,m'',r,r2,r3,r4,r5,r6,r7⟩
    ·exact Or.inl ⟨j,r,r1,.on oc r2,λj1 i1 e1 eh v=>r3 j1 i1 e1 eh (step j1 i1 e1 eh v)⟩
    ·exact Or.inr ⟨j,i,nx,m'',r,r2,r3,r4,by omega,λx v=>.on oc (r6 x v),λj1 i1 e1 eh v=>r7 j1 i1 e1 eh (step j1 i1 e1 eh v)⟩
theorem pC {t:SetTable} (hr:t.place.toList.Pairwise (· < ·)) {i j:Nat} (e:t.place[i]? = some j):t.slot j = .live i:=by
 obtain⟨b1,b2,b3⟩:=rF j hr
 obtain⟨hi,ei⟩:=Array.getElem?_eq_some_iff.mp e
 have le:below t.place j<=i:=by
  apply Nat.not_lt.mp
  intro lt
  exact Nat.lt_irrefl _ (b2 i j lt e)
 have eq:below t.place j=i:=by
  rcases Nat.lt_or_eq_of_le le with lt | eq
  ·exfalso
   have hb:below t.place j<t.place.size:=by omega
   have g1:=b3 _ _ (Nat.le_refl _) (Array.getElem?_eq_getElem hb)
   have g2:=List.pairwise_iff_getElem.mp hr (below t.place j) i (by simpa using hb) (by simpa using hi) lt
   simp at g2
   omega
  ·exact eq
 unfold slot
 dsimp only
 rw[eq,if_pos (by rw[e];simp)]
theorem wD {t:SetTable} (hd:t.dummies = #[]) (hr:t.place.toList.Pairwise (· < ·)) {x:Nat}:Occ t x↔x∈t.place.toList:=by
 constructor
 ·intro h
  rcases wR hd x with e | ⟨i,_,e⟩
  ·exact absurd e h
  ·exact Array.mem_toList_iff.mpr (Array.mem_of_getElem? e)
 ·intro h
  obtain⟨i,hi,e⟩:=Array.getElem_of_mem (Array.mem_toList_iff.mp h)
  exact yM (pC hr (by rw[Array.getElem?_eq_getElem hi,e]))
noncomputable def Chn {α:Type} (t:SetTable) (es:List (Int × α)):Prop:=∀x∈t.place.toList.zip es,Via t.mask (Occ t) x.1 (stP t.mask x.2.1)
theorem BU {α β:Type} (A:List α) (B:List β) (hl:A.length=B.length) (p:Nat) (a:α) (b:β) {x:α × β} (h:x∈(A.take p++a::A.drop p).zip (B.take p++b::B.drop p)):x=(a,b)\/x∈A.zip B:=by
 rw[List.zip_append (by rw[List.length_take,List.length_take,hl]),List.zip_cons_cons] at h
 rcases List.mem_append.mp h with h | h
 ·refine .inr ?_
  rw[<-List.take_append_drop p A,<-List.take_append_drop p B,List.zip_append (by rw[List.length_take,List.length_take,hl])]
  exact List.mem_append_left _ h
 ·rcases List.mem_cons.mp h with h | h
  ·exact .inl h
  ·refine .inr ?_
   rw[<-List.take_append_drop p A,<-List.take_append_drop p B,List.zip_append (by rw[List.length_take,List.length_take,hl])]
   exact List.mem_append_right _ h
theorem LC {α:Type} {t:SetTable} {es:Array (Int × α)} {j:Nat} {e:Int × α} (T:TabOk t es.size) (T1:TabOk (t.put j).1 (es.size+1)) (c:Chn t es.toList) (v:Via t.mask (Occ t) j (stP t.mask e.1)):Chn (t.put j).1 (insertAt es (below t.place j) e).toList:=by
 obtain⟨b1,_,_⟩:=rF j T.ris
 have pl:(t.put j).1.place=insertAt t.place (below t.place j) j:=rfl
 have up:∀x,Occ t x->Occ (t.put j).1 x:=λx o=>(wD T1.dum T1.ris).mpr (by
  rw[pl,nK _ _ _ b1]
  exact .inr ((wD T.dum T.ris).mp o))
 intro x hx
 rw[pl,dP _ _ _ b1,dP _ _ _ (by rw[<-T.size];exact b1)] at hx
 rcases BU _ _ (by rw[Array.length_toList,Array.length_toList,T.size]) _ _ _ hx with rfl | h
 ·exact v.mono up
 ·exact (c x h).mono up
noncomputable def OwO (mask:Nat) (owner:Array (Option Nat)) (x:Nat):Prop:=x<=mask/\owner.getD x (some 0)≠none
theorem DU {mask i pt:Nat} {O:Nat->Prop}:∀(k a m:Nat),k<=m->(∀b,b<k->O (a+b))->Via mask O (a+k) { j:=a,more:=m,i,perturb:=pt,dummy:=none }
 | 0,a,m,_,_=>.here rfl
 | k+1,a,m,h,o=>by
  refine .on (o 0 (by omega)) ?_
  have e:nxP mask { j:=a,more:=m,i,perturb:=pt,dummy:=none } = { j:=a+1,more:=m-1,i,perturb:=pt,dummy:=none }:=by
   unfold nxP;dsimp only;rw[if_pos (by omega)]
  rw[e,show a+(k+1)=(a+1)+k by omega]
  exact DU k (a+1) (m-1) (by omega) λb hb=>by rw[show a+1+b=a+(b+1) by omega];exact o (b+1) (by omega)
theorem zU {mask i pt x:Nat} {O:Nat->Prop}:∀(m a:Nat),(∀b,b<=m->O (a+b))->Via mask O x (atP mask (leap mask i pt).1 (leap mask i pt).2)->Via mask O x { j:=a,more:=m,i,perturb:=pt,dummy:=none }
 | 0,a,o,v=>.on (o 0 (Nat.le_refl _)) v
 | m+1,a,o,v=>by
  refine .on (o 0 (by omega)) ?_
  have e:nxP mask { j:=a,more:=m+1,i,perturb:=pt,dummy:=none } = { j:=a+1,more:=m,i,perturb:=pt,dummy:=none }:=by
   unfold nxP;dsimp only;rw[if_pos (by omega)];rfl
  rw[e]
  exact zU m (a+1) (λb hb=>by rw[show a+1+b=a+(b+1) by omega];exact o (b+1) (by omega)) v
theorem AN {p:Nat->Bool} {n k:Nat} (h:(List.range n).find? p=some k):∀b,b<k->p b=false:=by
 rw[List.find?_range_eq_some] at h
 intro b hb
 have:=h.2.2 b hb
 simpa using this
theorem xZ {mask:Nat} {owner:Array (Option Nat)}:∀(fuel i pt j:Nat),i<=mask->layClean.free mask owner fuel i pt=some j->j<=mask/\Via mask (OwO mask owner) j (atP mask i pt)
 | 0,_,_,_,_,h=>by cases h
 | fuel+1,i,pt,j,hi,h=>by
  have re:i<=runEnd mask i/\runEnd mask i<=mask:=by unfold runEnd;split <;> omega
  unfold layClean.free at h
  cases hq:(List.range (runEnd mask i+1-i)).find? λk=>(owner.getD (i+k) (some 0)).isNone with
  | some k =>
   rw[hq] at h
   cases h
   have h3:=List.mem_range.mp (List.mem_of_find?_eq_some hq)
   refine⟨by omega,DU k i _ (by omega) λb hb=>⟨by omega,?_⟩⟩
   have:=AN hq b hb
   intro z
   rw[z] at this
   cases this
  | none =>
   rw[hq] at h
   dsimp only at h
   have ho:∀b,b<=runEnd mask i-i->OwO mask owner (i+b):=λb hb=>⟨by omega,λz=>by
    have h0:=List.find?_eq_none.mp hq b (List.mem_range.mpr (by omega))
    rw[z] at h0
    exact h0 rfl⟩
   obtain⟨r1,r2⟩:=xZ fuel _ _ j (by unfold leap;exact Nat.le_of_lt_succ (Nat.mod_lt _ (by omega))) h
   exact⟨r1,zU _ i ho r2⟩
noncomputable def NP (mask:Nat) (pre:List Int) (owner:Array (Option Nat)):Prop:=∀j k,owner.getD j none=some k->∃hk,pre[k]? = some hk/\Via mask (OwO mask owner) j (stP mask hk)
noncomputable def nM (mask:Nat) (acc:Option (Array (Option Nat) × Nat)) (h:Int):Option (Array (Option Nat) × Nat):=do
 let (owner,k) <-acc
 let j <-layClean.free mask owner (turns mask) (bits h % (mask+1)) (bits h)
 pure (owner.setIfInBounds j (some k),k+1)
theorem yF {mask:Nat}:∀hs:List Int,hs.foldl (nM mask) none=none
 | []=>rfl
 | _::hs=>yF hs
theorem CU {mask:Nat}:∀(hs pre:List Int) (owner o':Array (Option Nat)) (n:Nat),hs.foldl (nM mask) (some (owner,pre.length))=some (o',n)->owner.size=mask+1->NP mask pre owner->o'.size=mask+1/\NP mask (pre++hs) o'
 | [],pre,owner,o',n,e,hz,I=>by cases e;rw[List.append_nil];exact⟨hz,I⟩
 | h::hs,pre,owner,o',n,e,hz,I=>by
  rw[List.foldl_cons] at e
  cases ej:layClean.free mask owner (turns mask) (bits h % (mask+1)) (bits h) with
  | none =>
   have:nM mask (some (owner,pre.length)) h=none:=by
    show (layClean.free mask owner (turns mask) (bits h % (mask+1)) (bits h) >>= λj=>_)=_
    rw[ej];rfl
   rw[this,yF] at e;cases e
  | some j =>
   obtain⟨hj,vj⟩:=xZ _ _ _ _ (Nat.le_of_lt_succ (Nat.mod_lt _ (by omega))) ej
   have st:nM mask (some (owner,pre.length)) h=some (owner.setIfInBounds j (some pre.length),pre.length+1):=by
    show (layClean.free mask owner (turns mask) (bits h % (mask+1)) (bits h) >>= λj=>_)=_
    rw[ej];rfl
   have lt:j<owner.size:=by omega
   have same:∀x,x≠j->∀d,(owner.setIfInBounds j (some pre.length)).getD x d=owner.getD x d:=λx hx d=>by
    simp only[Array.getD_eq_getD_getElem?]
    rw[Array.getElem?_setIfInBounds_ne (Ne.symm hx)]
   have at_:∀d,(owner.setIfInBounds j (some pre.length)).getD j d=some pre.length:=λd=>by
    simp only[Array.getD_eq_getD_getElem?]
    rw[Array.getElem?_setIfInBounds_self_of_lt lt];rfl
   have up:∀x,OwO mask owner x->OwO mask (owner.setIfInBounds j (some pre.length)) x:=λx ⟨a,b⟩=>⟨a,by
    by_cases hx:x=j
    ·subst hx;rw[at_];exact λz=>nomatch z
    ·rw[same x hx];exact b⟩
   rw[st,show pre.length+1=(pre++[h]).length by simp] at e
   have:=CU hs (pre++[h]) _ o' n e (by simp[hz]) λj1 k e1=>by
    by_cases hx:j1=j
    ·subst hx
     rw[at_] at e1
     cases e1
     exact⟨h,by simp,vj.mono up⟩
    ·rw[same j1 hx] at e1
     obtain⟨hk,g1,g2⟩:=I j1 k e1
     exact⟨hk,by rw[List.getElem?_append_left (List.getElem?_eq_some_iff.mp g1).1];exact g1,g2.mono up⟩
   rw[List.append_assoc] at this
   exact this
theorem IR {mask finger moves:Nat} {led plain:Bool} {hashes:Array Int} {t:SetTable} {ord:Array Nat} (e:laid mask finger moves led plain hashes=some (t,ord)) (T:TabOk t hashes.size) :
  ∀x∈t.place.toList.zip ord.toList,∃hk,hashes.toList[x.2]? = some hk/\Via t.mask (Occ t) x.1 (stP t.mask hk):=by
 unfold laid at e
 cases ec:layClean mask hashes with
 | none=>rw[ec] at e;cases e
 | some o =>
  rw[ec] at e
  have e:some _=some (t,ord):=e
  have ec':((hashes.toList.foldl (nM mask) (some (Array.replicate (mask+1) none,0))).map (·.1))=some o:=by
   rw[<-ec];unfold layClean;rw[<-Array.foldl_toList];rfl
  obtain⟨⟨o1,n⟩,e1,rfl⟩:=Option.map_eq_some_iff.mp ec'
  obtain⟨sz,I⟩:=CU hashes.toList [] _ o1 n e1 (by simp) λj k z=>by
   simp only[Array.getD_eq_getD_getElem?] at z
   by_cases hj:j<mask+1
   ·rw[Array.getElem?_eq_getElem (by simpa using hj)] at z;simp at z
   ·rw[Array.getElem?_eq_none (by simpa using hj)] at z;cases z
  cases e
  dsimp only at T ⊢
  intro x hx
  rw[<-List.unzip_fst,<-List.unzip_snd] at hx
  have hx:x∈(List.range (mask+1)).filterMap λj=>(o1.getD j none).map (j,·):=by
   have z:=List.zip_unzip ((List.range (mask+1)).filterMap λj=>(o1.getD j none).map (j,·))
   rw[<-z];exact hx
  obtain⟨j,hj,ex⟩:=List.mem_filterMap.mp hx
  obtain⟨k,ek,rfl⟩:=Option.map_eq_some_iff.mp ex
  obtain⟨hk,g1,g2⟩:=I j k ek
  refine⟨hk,by simpa using g1,g2.mono λy ⟨y1,y2⟩=>(wD T.dum T.ris).mpr ?_⟩
  dsimp only
  have lt:y<o1.size:=by omega
  simp only[Array.getD_eq_getD_getElem?,Array.getElem?_eq_getElem lt] at y2
  cases ey:o1[y] with
  | none=>rw[ey] at y2;exact absurd rfl y2
  | some k' =>
   refine List.mem_map.mpr ⟨(y,k'),List.mem_filterMap.mpr ⟨y,List.mem_range.mpr (by omega),?_⟩,rfl⟩
   simp only[Array.getD_eq_getD_getElem?,Array.getElem?_eq_getElem lt,ey];rfl
theorem KU {α β γ:Type} {f:β->Option γ}:∀(P:List α) (Q:List β),(∀q∈Q,∃y,f q=some y)->∀x∈P.zip (Q.filterMap f),∃q,(x.1,q)∈P.zip Q/\f q=some x.2
 | [],_,_,x,h=>by cases h
 | _::_,[],_,x,h=>by cases h
 | p::P,q::Q,hf,x,h=>by
  obtain⟨y,ey⟩:=hf q (.head _)
  rw[List.filterMap_cons,ey] at h
  rcases List.mem_cons.mp h with rfl | h
  ·exact⟨q,.head _,ey⟩
  ·obtain⟨q',h1,h2⟩:=KU P Q (λz hz=>hf z (.tail _ hz)) x h
   exact⟨q',.tail _ h1,h2⟩
section
variable {prog:Program} {w:World} {A:Around} {E:Value->Shared->Prop} {s:Shared}
theorem zO {ks:List Int} {a:Addr} {Q:Bool->Shared->Prop} (hk:IsTupleKey (intKind prog w) s.heap ks a) (q:Q false s):wpAny (model prog w) A (ofAClassStatement 8 (.ref a)) Q E s:=by
 have hT:=hk.typeIs
 obtain⟨o,items,n,ho,_,hd,hi⟩:=hk
 unfold ofAClassStatement
 refine wpAny_bind (wpAny_typeOf hT ?_)
 dsimp only
 rw[if_pos (by decide)]
 refine wpAny_bind (wpAny_pure ?_)
 simp only[Bool.not_true,Bool.false_eq_true,if_false]
 refine wpAny_bind (wpAny_seqItems ho hd ?_)
 try dsimp only
 refine wpAny_bind ?_
 rw[<-Array.forIn_toList]
 refine wpAny_forIn_list _ (λrest r s'=>r.1=none/\s'=s/\∀v∈rest,carriedByValue v=true) _ ?_ ?_ _ _ ⟨rfl,rfl,hi.byValue⟩
 ·rintro v rest r s' ⟨hr,rfl,hall⟩
  have hv:=hall v List.mem_cons_self
  have e:ofAClassStatement 7 v=pure false:=by
   cases v with
   | ref a=>simp[carriedByValue] at hv
   | _=>first | rfl | (unfold ofAClassStatement;rfl)
  rw[e]
  refine wpAny_bind (wpAny_pure ?_)
  simp only[Bool.false_eq_true,if_false]
  exact wpAny_pure ⟨rfl,rfl,λu hu'=>hall u (List.mem_cons_of_mem _ hu')⟩
 ·rintro⟨r1,r2⟩ s' ⟨hr,rfl,_⟩
  simp only at hr
  subst hr
  exact wpAny_pure q
theorem BQ {ks:List Int} {a:Addr} {Q:Bool->Shared->Prop} (hk:IsTupleKey (intKind prog w) s.heap ks a) (q:Q true s):wpAny (model prog w) A (hashByValue 8 (.ref a)) Q E s:=by
 have hT:=hk.typeIs
 obtain⟨o,items,n,ho,_,hd,hi⟩:=hk
 unfold hashByValue
 refine wpAny_bind (wpAny_specialOf hT F.slot_tuple_hash.lookup ?_)
 try dsimp only
 refine wpAny_bind (wpAny_seqItems ho hd ?_)
 try dsimp only
 refine wpAny_bind ?_
 show wpAny _ _ (forIn items _ _) _ _ s
 rw[<-Array.forIn_toList]
 refine wpAny_forIn_list _ (λrest r s'=>r.1=none/\s'=s/\∃ks',ItemsAre (intKind prog w) ks' rest) _ ?_ ?_ _ _ ⟨rfl,rfl,ks,hi⟩
 ·rintro v rest r s' ⟨hr,rfl,ks',hall⟩
  cases hall with
  | @cons k _ ks'' _ h1 h2 =>
   have e:hashByValue 7 v=pure true:=by
    obtain⟨t,rfl⟩:∃t,v = .int k t:=by
     cases v <;> simp[intKind,Value.isInt] at h1
     exact⟨_,by rw[h1]⟩
    rfl
   rw[e]
   refine wpAny_bind (wpAny_pure ?_)
   simp only[Bool.not_true,Bool.false_eq_true,if_false]
   exact wpAny_pure ⟨rfl,rfl,_,h2⟩
 ·rintro⟨r1,r2⟩ s' ⟨hr,rfl,_⟩
  simp only at hr
  subst hr
  exact wpAny_pure q
theorem NH {ks:List Int} {a:Addr} {stored:List Value} {Q:Bool->Shared->Prop} (hk:IsTupleKey (intKind prog w) s.heap ks a) (hs:∀y∈stored,∃ks' b,y = .ref b/\IsTupleKey (intKind prog w) s.heap ks' b) (q:Q false s) :
  wpAny (model prog w) A (searchCouldBeSeen (.ref a) stored) Q E s:=by
 unfold searchCouldBeSeen
 refine wpAny_bind ?_
 refine wpAny_forIn_list _ (λrest r s'=>r.1=none/\s'=s/\∀y∈rest,y∈stored) _ ?_ ?_ _ _ ⟨rfl,rfl,λ_ h=>h⟩
 ·rintro v rest r s' ⟨hr,rfl,hall⟩
  obtain⟨ks',b,rfl,hb⟩:=hs v (hall v List.mem_cons_self)
  have hall':∀y∈rest,y∈stored:=λu hu'=>hall u (List.mem_cons_of_mem _ hu')
  dsimp only
  by_cases hv:((a == b) || (carriedByValue (Value.ref a) && carriedByValue (Value.ref b)))=true
  ·rw[if_pos hv]
   exact wpAny_pure ⟨rfl,rfl,hall'⟩
  ·rw[if_neg hv]
   refine wpAny_bind (wpAny_eqIsQuiet_tuple hk ?_)
   simp only[Bool.not_true,Bool.false_eq_true,if_false]
   refine wpAny_bind (wpAny_eqIsQuiet_tuple hb ?_)
   simp only[Bool.not_true,Bool.false_eq_true,if_false]
   refine wpAny_bind (zO hk ?_)
   simp only[Bool.false_eq_true,if_false]
   refine wpAny_bind (zO hb ?_)
   simp only[Bool.false_eq_true,if_false]
   exact wpAny_pure ⟨rfl,rfl,hall'⟩
 ·rintro⟨r1,r2⟩ s' ⟨hr,rfl,_⟩
  simp only at hr
  subst hr
  exact wpAny_pure q
noncomputable def jD (w:World):Bool:=w.params.followText "set-order"
noncomputable def EsOk (prog:Program) (w:World) (h:Heap) (es:Array (Int × Value)):Prop:=∀e∈es.toList,∃ks b,e=(tupleKeyHash (intKind prog w) ks,.ref b)/\IsTupleKey (intKind prog w) h ks b
noncomputable def GR (mask n:Nat):Prop:=(mask=7/\n<=4)\/(mask=31/\n<=18)\/(mask=127/\n<=76)
noncomputable def eZ (es:Array (Int × Value)) (ep:Nat) (t:SetTable):Obj:={ cls:=.type "set",dict:=none,data:=.set es ep t }
theorem TabOk.fits {t:SetTable} {n:Nat} (T:TabOk t n):t.fits n=true:=by
 unfold SetTable.fits fill
 rw[T.dum,T.size]
 simp
 exact T.room
theorem II {mask n:Nat} (h:GR mask n):(mask % 2 == 0)=false:=by
 rcases h with ⟨rfl,_⟩ | ⟨rfl,_⟩ | ⟨rfl,_⟩ <;> rfl
noncomputable def KeyL (prog:Program) (w:World) (h:Heap):List (Int × Value)->List (List Int)->Prop
 | [],[]=>True
 | e::es,k::ks=>(∃b,e=(tupleKeyHash (intKind prog w) k,.ref b)/\IsTupleKey (intKind prog w) h k b)/\KeyL prog w h es ks
 | _,_=>False
theorem KeyL.get {h:Heap}:∀{es:List (Int × Value)} {kss:List (List Int)} {i:Nat} {e:Int × Value},KeyL prog w h es kss->es[i]? = some e->∃k,kss[i]? = some k/\∃b,e=(tupleKeyHash (intKind prog w) k,.ref b)/\IsTupleKey (intKind prog w) h k b
 | _::_,k::_,0,_,K,e=>by cases e;exact⟨k,rfl,K.1⟩
 | _::es,_::ks,i+1,_,K,e=>KeyL.get (es:=es) (kss:=ks) (i:=i) K.2 e
 | [],_,_,_,_,e=>by cases e
theorem KeyL.len {h:Heap}:∀{es:List (Int × Value)} {kss:List (List Int)},KeyL prog w h es kss->es.length=kss.length
 | [],[],_=>rfl
 | _::_,_::_,K=>congrArg (· + 1) (KeyL.len K.2)
theorem KeyL.mono {h h':Heap}:∀{es:List (Int × Value)} {kss:List (List Int)},KeyL prog w h es kss->(∀k b,(∃e∈es,e.2 = .ref b)->IsTupleKey (intKind prog w) h k b->IsTupleKey (intKind prog w) h' k b)->KeyL prog w h' es kss
 | [],[],_,_=>trivial
 | _::_,_::_,⟨⟨b,e,hb⟩,K⟩,m=>⟨⟨b,e,m _ b ⟨_,.head _,by rw[e]⟩ hb⟩,K.mono λk b ⟨x,hx,ex⟩ q=>m k b ⟨x,.tail _ hx,ex⟩ q⟩
theorem KeyL.perm {h:Heap} {es es':List (Int × Value)} (p:es.Perm es'):∀{kss:List (List Int)},KeyL prog w h es kss->∃kss',kss.Perm kss'/\KeyL prog w h es' kss':=by
 induction p with
 | nil=>exact λ{kss} K=>⟨kss,.refl _,K⟩
 | cons x _ ih =>
  intro kss K
  cases kss with
  | nil=>exact K.elim
  | cons k kss =>
   obtain⟨kss',p',K'⟩:=ih K.2
   exact⟨k::kss',.cons k p',K.1,K'⟩
 | swap x y l =>
  intro kss K
  cases kss with
  | nil=>exact K.elim
  | cons k kss =>
   cases kss with
   | nil=>exact K.2.elim
   | cons k' kss=>exact⟨k'::k::kss,.swap _ _ _,K.2.1,K.1,K.2.2⟩
 | trans _ _ ih1 ih2 =>
  intro kss K
  obtain⟨k1,p1,K1⟩:=ih1 K
  obtain⟨k2,p2,K2⟩:=ih2 K1
  exact⟨k2,p1.trans p2,K2⟩
theorem vC {S a:Addr} {ks:List Int} {es:Array (Int × Value)} {ep:Nat} {t:SetTable} {Q:SetFound->Shared->Prop} (hu:A.units<cLine) (ho:s.heap.get? S=some (eZ es ep t)) (T:TabOk t es.size) (hf:GR t.mask es.size) (he:EsOk prog w s.heap es)
  (hk:IsTupleKey (intKind prog w) s.heap ks a) (q1:(∃e∈es.toList,∃b,e.2 = .ref b/\IsTupleKey (intKind prog w) s.heap ks b)->Q (.there none) s) {kss:List (List Int)} (KL:KeyL prog w s.heap es.toList kss) (q2:∀j,t.slot j = .empty->Via t.mask (Occ t) j (stP t.mask (tupleKeyHash (intKind prog w) ks))->ks ∉ kss->Q (.free j false) s) :
  ∀(fuel:Nat) (stand:Option Probe) (m:Nat),tW t (stand.getD (t.probeStart (tupleKeyHash (intKind prog w) ks))) m->qF (stand.getD (t.probeStart (tupleKeyHash (intKind prog w) ks))) m<10*turns t.mask->qF (stand.getD (t.probeStart (tupleKeyHash (intKind prog w) ks))) m<fuel ->
   (∀x,Via t.mask (Occ t) x (stand.getD (t.probeStart (tupleKeyHash (intKind prog w) ks)))->Via t.mask (Occ t) x (stP t.mask (tupleKeyHash (intKind prog w) ks)))->(∀j1 i1:Nat,t.place[i1]? = some j1->kss[i1]? = some ks->Via t.mask (Occ t) j1 (stand.getD (t.probeStart (tupleKeyHash (intKind prog w) ks)))) ->
   wpAny (model prog w) A (setSearchFrom S (.ref a) (tupleKeyHash (intKind prog w) ks) true fuel stand) Q E s
 | 0,_,_,_,_,h,_,_=>absurd h (Nat.not_lt_zero _)
 | fuel+1,stand,m,hi,hm,hl,v1,v2=>by
  have hashAt:∀i1:Nat,kss[i1]? = some ks->(es[i1]?.map (·.1)).getD 0=tupleKeyHash (intKind prog w) ks:=λi1 e1=>by
   have lt:i1<es.toList.length:=by rw[KL.len];exact (List.getElem?_eq_some_iff.mp e1).1
   obtain⟨k,g1,b,g2,_⟩:=KL.get (List.getElem?_eq_getElem lt)
   rw[e1] at g1;cases g1
   have:es[i1]? = some es.toList[i1]:=by rw[<-Array.getElem?_toList,List.getElem?_eq_getElem lt]
   rw[this,g2];rfl
  unfold setSearchFrom
  refine wpAny_bind (wpAny_setState_of ho rfl T.fits ?_)
  dsimp only
  rw[if_neg (by unfold SetTable.gaveWay;rw[II hf];exact Bool.false_ne_true)]
  unfold probe
  rcases uP T.dum _ (tupleKeyHash (intKind prog w) ks) (10*turns t.mask) _ m hi hm with ⟨j,e,ej,w1,w2⟩ | ⟨j,i,next,m',e,ej,ep',hi',hm',w1,w2⟩
  ·rw[e]
   dsimp only
   refine wpAny_pure (q2 j ej (v1 _ w1) λhk'=>?_)
   obtain⟨i1,lt,e1⟩:=List.getElem_of_mem hk'
   have e1:kss[i1]? = some ks:=by rw[List.getElem?_eq_getElem lt,e1]
   have lp:i1<t.place.size:=by rw[T.size,<-Array.length_toList,KL.len];exact lt
   have ep1:t.place[i1]? = some t.place[i1]:=Array.getElem?_eq_getElem lp
   exact w2 _ i1 (pC T.ris ep1) (hashAt i1 e1) (v2 _ i1 ep1 e1)
  ·rw[e]
   dsimp only
   have hil:i<es.size:=by
    have:=(Array.getElem?_eq_some_iff.mp ep').1
    rw[T.size] at this;exact this
   have ei:es[i]? = some es[i]:=Array.getElem?_eq_getElem hil
   have mi:es[i]∈es.toList:=by simp
   obtain⟨ks',kk',b,ee,hb⟩:=KL.get (i:=i) (e:=es[i]) (by rw[Array.getElem?_toList];exact ei)
   have rest:wpAny (model prog w) A (match es[i]? with
    | some (fst,y)=>do
     let equal <-holding [y] (eqBool y (Value.ref a))
     let __x <-setState S
     if (true && equal)=true then pure (SetFound.there none)
      else
       match __x.2.snd.sameMemory t.moves t.mask with
       | some same =>
        let still <-match if same=true then __x.2.snd.slot j else Slot.empty with
        | Slot.live i' =>
         match __x.fst[i']? with
         | some (fst,y')=>do pure (if <-isSame y' y then some i' else none)
         | none=>pure none
        | _=>pure none
        match still with
        | none=>do
         rule "set.search.anew"
         setSearchFrom S (Value.ref a) (tupleKeyHash (intKind prog w) ks) true fuel none
        | some i' =>
         if equal=true then pure (SetFound.there (some i'))
         else setSearchFrom S (Value.ref a) (tupleKeyHash (intKind prog w) ks) true fuel (some next)
       | _=>unsupported "set.changed-during-lookup:is-the-new-block-at-the-old-address"
    | _=>unsupported "internal:set-entry") Q E s:=by
    rw[ei,ee]
    dsimp only
    refine wpAny_bind (wpAny_holding (wpAny_eqBool_tuple hu hb hk ?_))
    refine wpAny_bind (wpAny_setState_of ho rfl T.fits ?_)
    dsimp only
    by_cases hkk:ks'=ks
    ·subst hkk
     rw[if_pos (by simp)]
     exact wpAny_pure (q1 ⟨_,mi,b,by rw[ee],hb⟩)
    ·rw[if_neg (by simp[hkk])]
     have sm:t.sameMemory t.moves t.mask=some true:=by unfold sameMemory;rw[if_pos (by simp)]
     rw[sm]
     dsimp only
     rw[if_pos rfl,ej]
     dsimp only
     rw[ei,ee]
     dsimp only
     refine wpAny_bind ?_
     have same:isSame (.ref b) (.ref b)=pure true:=by
      show (if (b == b)=true then pure true else _)=_
      rw[if_pos (by simp)]
     rw[same]
     refine wpAny_pure (wpAny_bind (wpAny_pure ?_))
     rw[if_pos rfl]
     dsimp only
     rw[if_neg (by simp[hkk])]
     refine vC hu ho T hf he hk q1 KL q2 fuel (some next) m' hi' (Nat.lt_trans hm' hm) (by simp only[Option.getD_some];omega) (λx v=>v1 x (w1 x v)) λj1 i1 e1 k1=>?_
     have sl:=pC T.ris e1
     rcases w2 j1 i1 sl (hashAt i1 k1) (v2 j1 i1 e1 k1) with rfl | h
     ·rw[sl] at ej;cases ej
      rw[k1] at kk';cases kk'
      exact absurd rfl hkk
     ·exact h
   cases hled:t.led with
   | true =>
    simp only[Bool.not_true,Bool.false_eq_true,if_false]
    exact rest
   | false =>
    simp only[Bool.not_false,if_true]
    refine wpAny_bind (NH hk ?_ ?_)
    ·intro y hy
     obtain⟨e0,he0,rfl⟩:=List.mem_map.mp hy
     have:=(Array.mem_filter.mp (Array.mem_toList_iff.mp he0)).1
     obtain⟨ks1,b1,e1,h1⟩:=he e0 (Array.mem_toList_iff.mpr this)
     exact⟨ks1,b1,by rw[e1],h1⟩
    ·simp only[Bool.false_eq_true,if_false]
     exact rest
structure SetTup (prog:Program) (w:World) (h:Heap) (S:Addr) (es:Array (Int × Value)):Prop where
 tab:∃ep t,h.get? S=some (eZ es ep t)/\TabOk t es.size/\GR t.mask es.size/\t.led = !jD w/\t.plain=true/\Chn t es.toList
 els:EsOk prog w h es
 dis:∃kss,KeyL prog w h es.toList kss/\kss.Nodup
theorem eI {h h':Heap} {ks:List Int} {S b:Addr} {es:Array (Int × Value)} {ep:Nat} {t:SetTable} (hS:h.get? S=some (eZ es ep t)) (up:∀b o,b≠S->h.get? b=some o->h'.get? b=some o) (hk:IsTupleKey (intKind prog w) h ks b):IsTupleKey (intKind prog w) h' ks b:=by
 obtain⟨o,items,n,ho,hc,hd,hi⟩:=hk
 refine⟨o,items,n,up b o ?_ ho,hc,hd,hi⟩
 rintro rfl
 rw[hS] at ho;cases ho
 exact nomatch hd
theorem yB {n:Nat} (h:n<100):SetTable.grown n=n*4:=by
 unfold SetTable.grown;rw[if_neg (by omega)]
theorem BN {S a:Addr} {ks:List Int} {es:Array (Int × Value)} {Q:Bool->Shared->Prop} (hu:A.units<cLine) (H:SetTup prog w s.heap S es) (hk:IsTupleKey (intKind prog w) s.heap ks a) (hn:es.size<76)
  (q:∀b h' tk es',SetTup prog w h' S es'->(∀y∈es'.toList,y∈es.toList\/y.2 = .ref a)->(∀y∈es.toList,y∈es'.toList)->(∃y∈es'.toList,∃b,y.2 = .ref b/\IsTupleKey (intKind prog w) h' ks b)->es'.size<=es.size+1 ->
   (∀b o,b≠S->s.heap.get? b=some o->h'.get? b=some o)->h'.objs.size=s.heap.objs.size->s.toks<=tk->Q b { s with heap:=h',toks:=tk }) :
  wpAny (model prog w) A (setAdd S (.ref a)) Q E s:=by
 obtain⟨⟨ep,t,ho,T,hf,hled,hpl,hchn⟩,hels,kss,KL,knd⟩:=H
 unfold setAdd
 refine wpAny_holding (wpAny_bind (wpAny_pyHash_tuple hu hk ?_))
 unfold setAddHashed
 refine wpAny_holding ?_
 unfold setAddHashedIn
 refine wpAny_bind (wpAny_setState_of (s:={ s with toks:=s.toks+(ks.length+1) }) ho rfl T.fits ?_)
 dsimp only
 have nb:byScan (.ref a) es=false:=by unfold byScan;simp[Value.scannable]
 rw[nb]
 simp only[Bool.false_eq_true,if_false]
 obtain⟨m,hi,hm⟩:=GL T (tupleKeyHash (intKind prog w) ks)
 have hm2:qF (t.probeStart (tupleKeyHash (intKind prog w) ks)) m<100000:=by
  refine Nat.lt_of_lt_of_le hm ?_
  unfold turns
  rcases hf with ⟨e,_⟩ | ⟨e,_⟩ | ⟨e,_⟩ <;> rw[e] <;> decide
 unfold setSearch
 refine wpAny_bind (vC (s:={ s with toks:=s.toks+(ks.length+1) }) hu ho T hf hels hk ?_ KL ?_ 100000 none m hi hm hm2 (λx v=>v) ?_)
 ·rintro⟨e,he,b,e2,hb⟩
  dsimp only
  refine wpAny_pure ?_
  exact q false s.heap _ es ⟨⟨ep,t,ho,T,hf,hled,hpl,hchn⟩,hels,kss,KL,knd⟩ (λy hy=>Or.inl hy) (λy hy=>hy) ⟨e,he,b,e2,hb⟩ (by omega) (λb o _ e=>e) rfl (by show s.toks<=s.toks+_;omega)
 ·intro j hj hvia hnk
  dsimp only
  refine wpAny_bind (wpAny_setState_of (s:={ s with toks:=s.toks+(ks.length+1) }) ho rfl T.fits ?_)
  dsimp only
  have room:es.size+1<=t.mask:=by rcases hf with ⟨e,h⟩ | ⟨e,h⟩ | ⟨e,h⟩ <;> omega
  obtain⟨T1,p1,p2,p3,p4,p5,p6⟩:=QQ T hj room
  rw[p5,hpl]
  simp only[if_true]
  refine wpAny_bind (BQ (s:={ s with toks:=s.toks+(ks.length+1) }) hk ?_)
  simp only[if_true]
  rw[p1]
  have sz:=lM es (below t.place j) (tupleKeyHash (intKind prog w) ks,Value.ref a) p2
  have mem:=nK es (below t.place j) (tupleKeyHash (intKind prog w) ks,Value.ref a) p2
  have chn1:=LC (e:=(tupleKeyHash (intKind prog w) ks,Value.ref a)) T T1 hchn hvia
  have per1:=PySem.SetTable.insertAt_perm es (below t.place j) (tupleKeyHash (intKind prog w) ks,Value.ref a)
  rw[Array.toList_push] at per1
  have per1:=(per1.trans (List.perm_append_comm (l₁:=es.toList) (l₂:=[_]))).symm
  generalize insertAt es (below t.place j) (tupleKeyHash (intKind prog w) ks,Value.ref a)=es1 at sz mem chn1 per1
  refine wpAny_bind (wpAny_storeSet_of (s:={ s with toks:=s.toks+(ks.length+1) }) ho rfl ?_ (by rw[sz,sizeLine_eq];omega))
  have up1:∀b o,b≠S->s.heap.get? b=some o->(s.heap.update S (Obj.putSet es1 (t.put j).1)).get? b=some o:=λb o hb e=>(Heap.get?_update_other _ _ (Ne.symm hb)).trans e
  obtain⟨ep1,g1⟩:∃ep1,(s.heap.update S (Obj.putSet es1 (t.put j).1)).get? S=some (eZ es1 ep1 (t.put j).1):=⟨_,Heap.get?_update_self _ ho rfl⟩
  have z1:(s.heap.update S (Obj.putSet es1 (t.put j).1)).objs.size=s.heap.objs.size:=(Heap.SameBut.update ..).1
  generalize s.heap.update S (Obj.putSet es1 (t.put j).1)=h1 at up1 g1 z1
  have els1:EsOk prog w h1 es1:=by
   intro e he
   rcases (mem e).mp he with rfl | he
   ·exact⟨ks,a,rfl,eI ho up1 hk⟩
   ·obtain⟨ks',b,r1,r2⟩:=hels e he
    exact⟨ks',b,r1,eI ho up1 r2⟩
  obtain⟨kss1,kp1,KL1⟩:=KeyL.perm per1 (kss:=ks::kss) ⟨⟨a,rfl,eI ho up1 hk⟩,KL.mono λk b _ q=>eI ho up1 q⟩
  have knd1:kss1.Nodup:=kp1.nodup_iff.mp (List.nodup_cons.mpr ⟨hnk,knd⟩)
  have T1':TabOk (t.put j).1 es1.size:=by rw[sz];exact T1
  have fill1:(t.put j).1.fill=es1.size:=by unfold fill;rw[T1'.size,T1'.dum];simp
  by_cases tf:(t.put j).1.tooFull=true
  ·rw[tf]
   simp only[Bool.not_false,Bool.and_self,if_true]
   have tf':=tf
   unfold tooFull at tf'
   rw[fill1,p3,sz] at tf'
   simp only[ge_iff_le,decide_eq_true_eq] at tf'
   have cases2:(t.mask=7/\es.size=4)\/(t.mask=31/\es.size=18):=by rcases hf with ⟨e,h⟩ | ⟨e,h⟩ | ⟨e,h⟩ <;> omega
   unfold setRelay
   refine wpAny_bind (wpAny_bind (wpAny_setState_of (s:={ s with heap:=h1,toks:=s.toks+(ks.length+1) }) g1 rfl T1'.fits ?_))
   dsimp only
   have hw:SetTable.sizeAbove (grown (es.size+1))=(if t.mask=7 then 32 else 128):=by
    rw[yB (by omega)]
    rcases cases2 with ⟨e,h⟩ | ⟨e,h⟩ <;> rw[e,h] <;> decide
   rw[if_neg (by rw[hw,sizeLine_eq];split <;> decide)]
   have R:Round ((if t.mask=7 then 31 else 127)+1):=by
    split
    ·exact ND
    ·exact KE
   obtain⟨t2,order,l1,T2,l3,l4,l5,l6⟩:=MA R (t.put j).1.finger ((t.put j).1.movedTo (if t.mask=7 then 31 else 127)) (t.put j).1.led (t.put j).1.plain (es1.map (·.1)) (by rw[Array.size_map,sz];rcases cases2 with ⟨e,h⟩ | ⟨e,h⟩ <;> rw[e,h] <;> decide)
   have er:(t.put j).1.relaid (es1.map (·.1)) (grown (es.size+1))=some (t2,order):=by
    unfold relaid
    rw[hw]
    have:(if t.mask=7 then 32 else 128)-1=(if t.mask=7 then 31 else 127):=by split <;> rfl
    rw[this];exact l1
   rw[er]
   rw[Array.size_map] at T2 l6
   have esl:(order.filterMap (es1[·]?)).toList.Perm es1.toList:=by
    rw[Array.toList_filterMap]
    refine (l6.filterMap _).trans ?_
    have:(List.range es1.size).filterMap (es1[·]?)=es1.toList:=by
     apply List.ext_getElem?
     intro i
     have key:∀n,n<=es1.size->(List.range n).filterMap (es1[·]?)=es1.toList.take n:=by
      intro n
      induction n with
      | zero=>intro _;rfl
      | succ n ih =>
       intro hn
       rw[List.range_succ,List.filterMap_append,ih (by omega)]
       have:es1[n]? = some es1[n]:=Array.getElem?_eq_getElem (by omega)
       simp only[List.filterMap_cons,this,List.filterMap_nil]
       rw[List.take_succ]
       simp[show n<es1.size by omega]
     rw[key _ (Nat.le_refl _),<-Array.length_toList,List.take_length]
    rw[this]
   have es2sz:(order.filterMap (es1[·]?)).size=es1.size:=by rw[<-Array.length_toList,esl.length_eq,Array.length_toList]
   have hne:((order.filterMap (es1[·]?)).size != es1.size)=false:=by rw[es2sz];simp
   refine wpAny_bind ?_
   show wpAny _ _ (if ((order.filterMap (es1[·]?)).size != es1.size)=true then (unsupported "internal:set-table-lost-an-element" >>= λ_=>pure (order.filterMap (es1[·]?),t2)) else pure (order.filterMap (es1[·]?),t2)) _ _ _
   rw[hne]
   simp only[Bool.false_eq_true,if_false]
   refine wpAny_pure ?_
   dsimp only
   have mem2:∀y,y∈(order.filterMap (es1[·]?)).toList↔y∈es1.toList:=λy=>esl.mem_iff
   have chn2:Chn t2 (order.filterMap (es1[·]?)).toList:=by
    intro x hx
    rw[Array.toList_filterMap] at hx
    obtain⟨k,h1,h2⟩:=KU _ _ (λk hk'=>by
     have:=List.mem_range.mp (l6.mem_iff.mp hk')
     exact⟨_,Array.getElem?_eq_getElem this⟩) x hx
    obtain⟨hk',g1,g2⟩:=IR l1 (by rw[Array.size_map];exact T2) _ h1
    have:hk'=x.2.1:=by
     have h2:es1[k]? = some x.2:=h2
     rw[Array.getElem?_toList,Array.getElem?_map,h2] at g1
     exact (Option.some.inj g1).symm
    rw[<-this];exact g2
   obtain⟨kss2,kp2,KL2⟩:=KeyL.perm esl.symm KL1
   generalize order.filterMap (es1[·]?)=es2 at es2sz mem2 chn2 KL2
   refine wpAny_storeSet_of (s:={ s with heap:=h1,toks:=s.toks+(ks.length+1) }) g1 rfl ?_ (by rw[es2sz,sz,sizeLine_eq];omega)
   have up2:∀b o,b≠S->s.heap.get? b=some o->(h1.update S (Obj.putSet es2 t2)).get? b=some o:=λb o hb e=>(Heap.get?_update_other _ _ (Ne.symm hb)).trans (up1 b o hb e)
   have up12:∀b o,b≠S->h1.get? b=some o->(h1.update S (Obj.putSet es2 t2)).get? b=some o:=λb o hb e=>(Heap.get?_update_other _ _ (Ne.symm hb)).trans e
   obtain⟨ep2,g2⟩:∃ep2,(h1.update S (Obj.putSet es2 t2)).get? S=some (eZ es2 ep2 t2):=⟨_,Heap.get?_update_self _ g1 rfl⟩
   have z2:(h1.update S (Obj.putSet es2 t2)).objs.size=s.heap.objs.size:=((Heap.SameBut.update ..).1).trans z1
   refine wpAny_pure (q true (h1.update S (Obj.putSet es2 t2)) _ es2 ⟨⟨ep2,t2,g2,by rw[es2sz];exact T2,?_,by rw[l4,p4];exact hled,by rw[l5,p5];exact hpl,chn2⟩,?_,kss2,KL2.mono λk b _ q=>eI g1 up12 q,kp2.nodup_iff.mp knd1⟩ (λy hy=>?_) (λy hy=>(mem2 y).mpr ((mem y).mpr (Or.inr hy))) ⟨_,(mem2 _).mpr ((mem _).mpr (Or.inl rfl)),a,rfl,eI ho up2 hk⟩ (by omega) up2 z2 (by show s.toks<=s.toks+_;omega))
   ·rw[l3,es2sz,sz]
    unfold GR
    rcases cases2 with ⟨e,h⟩ | ⟨e,h⟩ <;> rw[e,h] <;> decide
   ·intro e he
    obtain⟨ks',b,r1,r2⟩:=els1 e ((mem2 e).mp he)
    exact⟨ks',b,r1,eI g1 up12 r2⟩
   ·rcases (mem y).mp ((mem2 y).mp hy) with rfl | h
    ·exact Or.inr rfl
    ·exact Or.inl h
  ·have tf0:(t.put j).1.tooFull=false:=by simpa using tf
   rw[tf0]
   simp only[Bool.and_false,Bool.false_eq_true,if_false]
   refine wpAny_pure (q true h1 _ es1 ⟨⟨ep1,_,g1,T1',?_,by rw[p4];exact hled,by rw[p5];exact hpl,chn1⟩,els1,kss1,KL1,knd1⟩ (λy hy=>?_) (λy hy=>(mem y).mpr (Or.inr hy)) ⟨_,(mem _).mpr (Or.inl rfl),a,rfl,eI ho up1 hk⟩ (by omega) up1 z1 (by show s.toks<=s.toks+_;omega))
   ·unfold tooFull at tf0
    rw[fill1,p3,sz] at tf0
    simp only[ge_iff_le,decide_eq_false_iff_not] at tf0
    rw[p3,sz]
    unfold GR
    rcases hf with ⟨e,h⟩ | ⟨e,h⟩ | ⟨e,h⟩ <;> omega
   ·rcases (mem y).mp hy with rfl | h
    ·exact Or.inr rfl
    ·exact Or.inl h
 ·intro j1 i1 e1 k1
  have lt:i1<es.toList.length:=by rw[KL.len];exact (List.getElem?_eq_some_iff.mp k1).1
  obtain⟨k,g1,b,g2,_⟩:=KL.get (List.getElem?_eq_getElem lt)
  rw[k1] at g1;cases g1
  have:=hchn (j1,es.toList[i1]) (List.mem_iff_getElem?.mpr ⟨i1,by rw[List.getElem?_zip_eq_some];exact⟨by rw[Array.getElem?_toList];exact e1,List.getElem?_eq_getElem lt⟩⟩)
  rw[g2] at this
  exact this
end
end L2.R2
set_option Elab.async false
set_option linter.all false
set_option maxRecDepth 100000
set_option maxHeartbeats 3200000
namespace L2.R2
open PySem PySem.SetTable PyProof.Rows
section
variable {prog:Program} {w:World} {A:Around} {E:Value->Shared->Prop} {s:Shared}
theorem SetTup.other {h h':Heap} {S:Addr} {es:Array (Int × Value)} (H:SetTup prog w h S es) (up:∀b o,h.get? b=some o->(∃e∈es.toList,e.2 = .ref b)\/b=S->h'.get? b=some o):SetTup prog w h' S es:=by
 obtain⟨⟨ep,t,ho,r⟩,els,kss,KL,nd⟩:=H
 refine⟨⟨ep,t,up _ _ ho (Or.inr rfl),r⟩,λe he=>?_,kss,KL.mono λk b hb ⟨o,items,n,h1,h2,h3,h4⟩=>⟨o,items,n,up b o h1 (Or.inl hb),h2,h3,h4⟩,nd⟩
 obtain⟨ks,b,e1,o,items,n,h1,h2,h3,h4⟩:=els e he
 exact⟨ks,b,e1,o,items,n,up b o h1 (Or.inl ⟨e,he,by rw[e1]⟩),h2,h3,h4⟩
structure SetDone (prog:Program) (w:World) (items:Array Value) (key:Nat->List Int) (S:Addr) (i:Nat) (h:Heap):Prop where
 ex:∃es,SetTup prog w h S es/\(∀y∈es.toList,∃j,j<i/\items[j]? = some y.2)/\(∀j,j<i->∃y∈es.toList,∃b,y.2 = .ref b/\IsTupleKey (intKind prog w) h (key j) b)/\es.size<=i
theorem KM {R:Result->Shared->Prop} {I l:Addr} {items:Array Value} {key:Nat->List Int} {h0:Heap} (hh:A.in1.handled=none) (hne:l≠I) (hu:A.in1.units<cLine) (S:Addr) (hSI:S≠I) (hSl:S≠l)
  (hi:∀i v,items[i]? = some v->∃a,v = .ref a/\IsTupleKey (intKind prog w) h0 (key i) a/\a≠S/\a≠I) (hb:items.size<=76) :
  ∀(k i:Nat) (s:Shared),items.size-i=k->i<=items.size->s.heap.IsListIter I l i/\s.heap.IsList l items->SetDone prog w items key S i s.heap ->
   (∀b o,b≠S->b≠I->h0.get? b=some o->s.heap.get? b=some o) ->
   (∀h' tk,SetDone prog w items key S items.size h'->(∀b o,b≠S->b≠I->h0.get? b=some o->h'.get? b=some o)->R (.ok (.ret .none)) { s with heap:=h',toks:=tk }) ->
   codeAny (model prog w) A (.builtin "set.update.loop" ⟨[.ref S,.ref I],[]⟩) R s:=by
 have W:=Walks.list (prog:=prog) (w:=w) (A:=A.in1) hh I l hne items
 have wr:∀{b:Addr},b≠I->b ∉ [I]:=λh=>by simpa using h
 have keyAt:∀{h:Heap} {i:Nat} {a:Addr},(∀b o,b≠S->b≠I->h0.get? b=some o->h.get? b=some o)->IsTupleKey (intKind prog w) h0 (key i) a->a≠S->a≠I->IsTupleKey (intKind prog w) h (key i) a:=by
  intro h i a up hk n1 n2
  obtain⟨o,its,n,h1,h2,h3,h4⟩:=hk
  exact⟨o,its,n,up a o n1 n2 h1,h2,h3,h4⟩
 have move:∀{h h':Heap} {i:Nat},i<=items.size->SetDone prog w items key S i h->(∀b o,b≠I->h.get? b=some o->h'.get? b=some o)->SetDone prog w items key S i h':=by
  intro h h' i hi' ⟨es,D,d1,d2,d3⟩ up
  refine⟨es,D.other λb o e hm=>up b o ?_ e,d1,λj hj=>?_,d3⟩
  ·rcases hm with ⟨y,hy,ey⟩ | rfl
   ·obtain⟨j,hj,ej⟩:=d1 y hy
    obtain⟨a,ea,_,_,na⟩:=hi j y.2 ej
    rw[ey] at ea;cases ea;exact na
   ·exact hSI
  ·obtain⟨y,hy,b,e1,o,its,n,h1,h2,h3,h4⟩:=d2 j hj
   refine⟨y,hy,b,e1,o,its,n,up b o ?_ h1,h2,h3,h4⟩
   obtain⟨j',hj',ej⟩:=d1 y hy
   obtain⟨a,ea,_,_,na⟩:=hi j' y.2 ej
   rw[e1] at ea;cases ea;exact na
 intro k
 induction k with
 | zero =>
  intro i s hk hi' st D up hR
  have hin:i=items.size:=by omega
  subst hin
  refine codeAny_builtin F.entry_set_update_loop ?_
  rw[Around.under_plainId F.plain_set_update_loop _]
  show wpAny _ A.in1 (pyNext (.ref I) >>= _) _ _ s
  refine wpAny_bind (W.done s _ _ st λh' tk kp=>?_)
  show wpAny _ A.in1 (ret Value.none) _ _ _
  exact wpAny_pure (hR h' tk (move (Nat.le_refl _) D λb o hb e=>kp b o (wr hb) e) λb o n1 n2 e=>kp b o (wr n2) (up b o n1 n2 e))
 | succ k ih =>
  intro i s hk hi' st D up hR
  have hlt:i<items.size:=by omega
  refine codeAny_builtin F.entry_set_update_loop ?_
  rw[Around.under_plainId F.plain_set_update_loop _]
  show wpAny _ A.in1 (pyNext (.ref I) >>= _) _ _ s
  refine wpAny_bind (W.item i s _ _ hlt st λv h' tk hv st' kp=>?_)
  obtain⟨a,rfl,hka,na1,na2⟩:=hi i v hv
  obtain⟨es,D1,d1,d2,d3⟩:=move hi' D (λb o hb e=>kp b o (wr hb) e)
  have up':∀b o,b≠S->b≠I->h0.get? b=some o->h'.get? b=some o:=λb o n1 n2 e=>kp b o (wr n2) (up b o n1 n2 e)
  show wpAny _ A.in1 (holding [Value.ref a] (setAdd S (.ref a)) >>= _) _ _ _
  refine wpAny_bind (wpAny_holding ?_)
  refine BN (s:={ s with heap:=h',toks:=tk }) hu D1 (keyAt up' hka na1 na2) (by omega) λ_ h2 tk2 es2 D2 m1 m2 m3 m4 up2 z2 _=>?_
  refine wpAny_pure ⟨plainId_quiet F.plain_set_update_loop _,ih (i+1) _ (by omega) hlt ⟨st'.1.at λo e=>up2 _ o (Ne.symm hSI) e,st'.2.at λo e=>up2 _ o (Ne.symm hSl) e⟩ ?_ (λb o n1 n2 e=>up2 b o n1 (up' b o n1 n2 e)) λh3 tk3 D3 up3=>hR h3 tk3 D3 up3⟩
  refine⟨es2,D2,λy hy=>?_,λj hj=>?_,by omega⟩
  ·rcases m1 y hy with h | h
   ·obtain⟨j,hj,ej⟩:=d1 y h
    exact⟨j,by omega,ej⟩
   ·exact⟨i,by omega,by rw[h];exact hv⟩
  ·by_cases hji:j=i
   ·subst hji;exact m3
   ·obtain⟨y,hy,b,e1,o,its,n,h1,h2',h3,h4⟩:=d2 j (by omega)
    refine⟨y,m2 y hy,b,e1,o,its,n,up2 b o ?_ h1,h2',h3,h4⟩
    obtain⟨j',hj',ej⟩:=d1 y hy
    obtain⟨a',ea,_,na,_⟩:=hi j' y.2 ej
    rw[e1] at ea;cases ea;exact na
theorem zL (a:Value) {Q₁:Value->Shared->Prop} (h:Q₁ (.ref s.heap.objs.size) { s with heap:=s.heap.push (eZ #[] 0 (.fresh 0 0 (!jD w))) }) :
  codeAny (model prog w) A (.call (.builtin "set.__new__") ⟨[.type "set",a],[]⟩) (wants Q₁ E) s:=by
 apply codeAny_of_tree
 show wpAny _ A.in1 (checkBuiltinCall "set.__new__" ⟨[.type "set",a],[]⟩ >>= λ_=>again (.builtin "set.__new__" ⟨[.type "set",a],[]⟩)) _ _ s
 apply wpAny_bind;refine wpAny_of_eq (PySem.F.newCall_set_1 a) (wpAny_pure ⟨plainId_quiet PySem.F.plain_set_new _,codeAny_builtin PySem.F.entry_set_new ?_⟩)
 rw[Around.under_plainId PySem.F.plain_set_new _];unfold Builtin.«set.__new__» Builtin.Frozenset.newClass
 have hsub:=sub_set_self
 obtain⟨hp,g,d,tk,os⟩:=s;dsimp only;wp_walk
 refine wpAny_askSetting (wpAny_pure ?_);dsimp only;simp only[newObj]
 apply wpAny_bind;refine wpAny_alloc (wpAny_pure ?_)
 exact wpAny_pure h
theorem GM (b:Bool):TabOk (.fresh 0 0 b) 0:=⟨rfl,rfl,Nat.zero_le _,QU,List.Pairwise.nil⟩
noncomputable def yL (l:Addr):Obj:={ cls:=.type "list_iterator",data:=.fields #[.ref l,.int 0 0] }
theorem tH {l:Addr} {items:Array Value} {key:Nat->List Int} {Q:Value->Shared->Prop} (hh:A.handled=none) (hu:A.units+8<cLine) (hl:s.heap.IsList l items)
  (hi:∀i v,items[i]? = some v->∃a,v = .ref a/\IsTupleKey (intKind prog w) s.heap (key i) a) (hb:items.size<=76)
  (q:∀h' tk,SetDone prog w items key s.heap.objs.size items.size h'->(∀b o,s.heap.get? b=some o->h'.get? b=some o)->Q (.ref s.heap.objs.size) { s with heap:=h',toks:=tk }) :
  wpAny (model prog w) A (call (.type "set") [.ref l]) Q E s:=by
 obtain⟨c,tl,hmro⟩:=PySem.F.called_set.mro
 have hmade:=PySem.F.called_set.made;have hsub:=PySem.F.called_set.sub
 apply wpAny_call;apply codeAny_of_tree
 show wpAny _ _ (callAny (.type "set") _) _ _ _
 refine wpAny_pure ⟨Code.quiet_builtin _ (by decide +kernel),codeAny_builtin PySem.F.entry_type_call ?_⟩;rw[Around.under_plain (weight_type_call_type "set" [.ref l] []) rfl]
 have h1:=PySem.F.called_set.notType;have h2:=PySem.F.called_set.canCreate;have hct:=PySem.F.typeCall_set_1 (.ref l)
 repeat (any_goals (first | assumption | wp_step))
 refine codeAny_mono (zL (.ref l) (E:=E) (Q₁:=λobj s₁=>obj = .ref s.heap.objs.size/\s₁ = { s with heap:=s.heap.push (eZ #[] 0 (.fresh 0 0 (!jD w))) }) ⟨rfl,rfl⟩) λr s₁ hr=>?_
 match r,hr with
 | .error e,hr=>exact hr
 | .ok (.ret obj),hr =>
  obtain⟨rfl,rfl⟩:=hr
  have hS:(s.heap.push (eZ #[] 0 (.fresh 0 0 (!jD w)))).get? s.heap.objs.size=some (eZ #[] 0 (.fresh 0 0 (!jD w))):=Heap.get?_push_size _ rfl
  have zS:(s.heap.push (eZ #[] 0 (.fresh 0 0 (!jD w)))).objs.size=s.heap.objs.size+1:=Heap.size_push ..
  have kS:∀b o,s.heap.get? b=some o->(s.heap.push (eZ #[] 0 (.fresh 0 0 (!jD w)))).get? b=some o:=λb o e=>Heap.get?_push_of_some _ e
  have hT:Shared.TypeIs { s with heap:=s.heap.push (eZ #[] 0 (.fresh 0 0 (!jD w))) } (.ref s.heap.objs.size) "set":=⟨_,hS,rfl⟩
  have hli:=PySem.F.called_set.init.lookup;have hbi:=PySem.F.called_set.init.bind (.ref s.heap.objs.size)
  repeat (any_goals (first | assumption | wp_step))
  generalize s.heap.push (eZ #[] 0 (.fresh 0 0 (!jD w)))=h2 at hS zS kS hT
  refine codeAny_mono (codeAny_call_builtin (R:=wants (λr s₂=>r = .none/\∃h' tk,s₂ = { s with heap:=h',toks:=tk }/\SetDone prog w items key s.heap.objs.size items.size h'/\(∀b o,s.heap.get? b=some o->h'.get? b=some o)) E) PySem.F.called_set.init.plain PySem.F.entry_set_init (check_set_init_1 hT ?_)) λr₂ s₂ hr₂=>?_
  ·obtain⟨ol,hol,hcl,nl,hdl⟩:=hl
   obtain⟨ocls,odict,odata,oslots⟩:=ol
   simp only at hcl hdl;subst hcl;subst hdl
   have hol2:=kS _ _ hol
   have hsls:=PySem.F.sub_list_set;have hslf:=PySem.F.sub_list_frozenset
   have hne:(Value.type "list" == Value.type "dict")=false:=by decide
   have hl1:h2.IsList l items:=⟨_,hol2,rfl,nl,rfl⟩
   have lt:l<s.heap.objs.size:=Heap.lt_size hol
   unfold Builtin.«set.__init__» noKeywords Builtin.Frozenset.updateFrom;generalize hPI:pyIter=PI
   unfold eZ at hS
   wp_walk
   subst hPI
   refine wpAny_pyIter_list hl1 ?_
   apply wpAny_bind;apply wpAny_runValue;rw[zS]
   have zI:(h2.push (yL l)).get? (s.heap.objs.size+1)=some (yL l):=by rw[<-zS];exact Heap.get?_push_size _ rfl
   have kI:∀b o,h2.get? b=some o->(h2.push (yL l)).get? b=some o:=λb o e=>Heap.get?_push_of_some _ e
   show codeAny _ _ _ _ { s with heap:=h2.push (yL l) }
   generalize h2.push (yL l)=h3 at zI kI
   have ne1:∀{b:Addr} {o:Obj},s.heap.get? b=some o->b≠s.heap.objs.size/\b≠s.heap.objs.size+1:=λe=>⟨Nat.ne_of_lt (Heap.lt_size e),Nat.ne_of_lt (Nat.lt_succ_of_lt (Heap.lt_size e))⟩
   refine KM (A:=A.in1.in1) (s:={ s with heap:=h3 }) (key:=key) (h0:=s.heap) (by simp[hh]) (Nat.ne_of_lt (Nat.lt_succ_of_lt lt)) (by show A.units+3<cLine;omega) s.heap.objs.size (Nat.ne_of_lt (Nat.lt_succ_self _)) (Nat.ne_of_gt lt) (λi v e=>?_) hb items.size 0 (Nat.sub_zero _) (Nat.zero_le _) ⟨⟨_,zI,rfl,rfl⟩,hl1.at λo e=>kI _ o e⟩ ?_ (λb o _ _ e=>kI b o (kS b o e)) λh' tk D up=>?_
   ·obtain⟨a,rfl,hk⟩:=hi i v e
    refine⟨a,rfl,hk,?_⟩
    obtain⟨o,_,_,ho,_⟩:=hk
    exact ne1 ho
   ·exact⟨#[],⟨⟨0,_,kI _ _ hS,GM _,Or.inl ⟨rfl,Nat.zero_le _⟩,rfl,rfl,(λx hx=>by cases hx)⟩,(λe he=>by simp at he),[],trivial,.nil⟩,λy hy=>by simp at hy,λj hj=>absurd hj (Nat.not_lt_zero _),Nat.zero_le _⟩
   ·show wpAny _ _ _ _ _ _
    apply wpAny_pure
    show wpAny _ _ (ret Value.none) _ _ _
    exact wpAny_pure ⟨rfl,h',tk,rfl,D,λb o e=>up b o (ne1 e).1 (ne1 e).2 e⟩
  ·match r₂,hr₂ with
   | .error e,hr₂=>exact hr₂
   | .ok (.ret r),hr₂ =>
    obtain⟨rfl,h',tk,rfl,D,up⟩:=hr₂
    repeat (any_goals (first | assumption | wp_step))
    exact q _ _ D up
end
section
variable {prog:Program} {w:World} {A:Around} {E:Value->Shared->Prop} {s:Shared}
end
section
variable {prog:Program} {w:World} {A:Around} {E:Value->Shared->Prop} {s:Shared}
end
end L2.R2
set_option Elab.async false
set_option linter.all false
set_option maxRecDepth 100000
set_option maxHeartbeats 1000000
namespace L2.R2
open PySem PySem.W PyProof.Rows
noncomputable def bF {α:Type} (lt:Nat->Nat->Bool):KasT α->α
 | .ret a=>a
 | .ask i j k=>bF lt (k (lt i j))
theorem gI {α β:Type} {lt:Nat->Nat->Bool} {f:α->KasT β}:∀t:KasT α,bF lt (t.bind f)=bF lt (f (bF lt t))
 | .ret _=>rfl
 | .ask i j k=>gI (k (lt i j))
noncomputable def kIn {α:Type} (lt:Nat->Nat->Bool) (n:Nat):KasT α->Prop
 | .ret _=>True
 | .ask i j k=>i<n/\j<n/\kIn lt n (k (lt i j))
theorem dF {α β:Type} {lt:Nat->Nat->Bool} {n:Nat} {f:α->KasT β}:∀t:KasT α,kIn lt n t->kIn lt n (f (bF lt t))->kIn lt n (t.bind f)
 | .ret _,_,h=>h
 | .ask i j k,⟨h1,h2,h3⟩,h=>⟨h1,h2,dF (k (lt i j)) h3 h⟩
theorem rR {α:Type} {cmp:Nat->Nat->(Bool->Shared->Prop)->Shared->Prop} {lt:Nat->Nat->Bool} {n:Nat} {s:Shared} {Q:α->Shared->Prop} (hc:∀i j (C:Bool->Shared->Prop),i<n->j<n->C (lt i j) s->cmp i j C s) :
  ∀t:KasT α,kIn lt n t->Q (bF lt t) s->t.kasWp cmp Q s
 | .ret _,_,h=>h
 | .ask i j k,⟨h1,h2,h3⟩,h=>hc i j _ h1 h2 (rR hc (k (lt i j)) h3 h)
section
variable {O:KeyOrd} {key:Nat->O.α} {N:Nat}
noncomputable def ltK (O:KeyOrd) (key:Nat->O.α) (i j:Nat):Bool:=O.blt (key i) (key j)
noncomputable def kk (O:KeyOrd) (key:Nat->O.α) (p:Array Nat) (i:Nat):O.α:=key (p.getD i 0)
noncomputable def Up (O:KeyOrd) (key:Nat->O.α) (p:Array Nat) (n:Nat):Prop:=∀i j,i<=j->j<n->O.kle (kk O key p i) (kk O key p j)
noncomputable def Dn (O:KeyOrd) (key:Nat->O.α) (p:Array Nat) (n:Nat):Prop:=∀i j,i<=j->j<n->O.kle (kk O key p j) (kk O key p i)
noncomputable def Lo (p:Array Nat) (N:Nat):Prop:=∀i,p.getD i 0<N
theorem jF {p q:Array Nat} (h:p.Perm q) (hq:Lo q N):Lo p N:=by
 intro i
 by_cases hi:i<p.size
 ·have m:p[i]∈p:=Array.getElem_mem hi
  have m2:p[i]∈q:=h.mem_iff.mp m
  obtain⟨j,hj,e⟩:=Array.getElem_of_mem m2
  have:=hq j
  simp[Array.getD,hj] at this
  simp[Array.getD,hi]
  rw[<-e];exact this
 ·have h0:=hq q.size
  simp[Array.getD] at h0
  simp[Array.getD,hi];exact h0
theorem jY {p q:Array Nat} {i j:Nat} (h:p[i]? = q[j]?):kk O key p i=kk O key q j:=by
 unfold kk;rw[Array.getD_eq_getD_getElem?,Array.getD_eq_getD_getElem?,h]
theorem AT {p:Array Nat} {i j:Nat} (hj:j<=p.size) (k:Nat):kk O key (kas_rev p i j) k=if i<=k/\k<j then kk O key p (i+j-1-k) else kk O key p k:=by
 have e:=getElem?_mirror_all (i:=i) hj k
 unfold kas_rev
 by_cases h1:i<=k/\k<j
 ·rw[if_pos h1] at e ⊢;exact jY e
 ·rw[if_neg h1] at e ⊢;exact jY e
theorem oN {p:Array Nat} {i j:Nat} (hj:j<=p.size) (h:∀k,i<=k->k<j->kk O key p k=kk O key p (j-1)) (k:Nat):kk O key (kas_rev p i j) k=kk O key p k:=by
 rw[AT hj]
 split
 ·rw[h _ (by omega) (by omega),h k (by omega) (by omega)]
 ·rfl
theorem FB {p:Array Nat} {src d:Nat} (hs:src<p.size) (hd:d<=src) (k:Nat) :
  kk O key (bubble p src d) k=if k=src-d then kk O key p src else if src-d<k/\k<=src then kk O key p (k-1) else kk O key p k:=by
 have e:=getElem?_bubble hs d hd k
 by_cases h1:k=src-d
 ·rw[if_pos h1] at e ⊢;exact jY e
 ·rw[if_neg h1] at e ⊢
  by_cases h2:src-d<k/\k<=src
  ·rw[if_pos h2] at e ⊢;exact jY e
  ·rw[if_neg h2] at e ⊢;exact jY e
theorem kJ (p:Array Nat) (i j:Nat):(kas_rev p i j).Perm p:=mirror_perm _ _ _ _
theorem NL {p:Array Nat} {n:Nat} (h1:1<=n) (h:Up O key p n) (hl:O.kle (kk O key p (n-1)) (kk O key p n)):Up O key p (n+1):=by
 intro i j hij hj
 by_cases hjx:j<n
 ·exact h i j hij hjx
 ·have hj':j=n:=by omega
  subst hj'
  by_cases hi':i=j
  ·subst hi';exact KeyOrd.kle_refl _
  ·exact KeyOrd.kle_trans (h i (j-1) (by omega) (by omega)) hl
theorem vU {p:Array Nat} {n:Nat} (h1:1<=n) (h:Dn O key p n) (hl:O.kle (kk O key p n) (kk O key p (n-1))):Dn O key p (n+1):=by
 intro i j hij hj
 by_cases hjx:j<n
 ·exact h i j hij hjx
 ·have hj':j=n:=by omega
  subst hj'
  by_cases hi':i=j
  ·subst hi';exact KeyOrd.kle_refl _
  ·exact KeyOrd.kle_trans hl (h i (j-1) (by omega) (by omega))
theorem AE {p:Array Nat} (lo:Lo p N):∀(f n:Nat),1<=n->Up O key p n->kIn (ltK O key) N (kas_asc p f n)/\n<=bF (ltK O key) (kas_asc p f n)/\bF (ltK O key) (kas_asc p f n)<=n+f/\Up O key p (bF (ltK O key) (kas_asc p f n)) /\
  (bF (ltK O key) (kas_asc p f n)=n+f\/O.klt (kk O key p (bF (ltK O key) (kas_asc p f n))) (kk O key p (bF (ltK O key) (kas_asc p f n)-1)))
 | 0,n,_,h=>⟨trivial,Nat.le_refl _,Nat.le_refl _,h,Or.inl rfl⟩
 | f+1,n,h1,h=>by
  simp only[kas_asc,bF,kIn]
  cases hb:ltK O key (p.getD n 0) (p.getD (n-1) 0) with
  | true =>
   simp only[if_true]
   exact⟨⟨lo _,lo _,trivial⟩,Nat.le_refl _,by simp only[bF];omega,h,Or.inr hb⟩
  | false =>
   simp only[Bool.false_eq_true,if_false]
   obtain⟨i1,i2,i3,i4,i5⟩:=AE lo f (n+1) (by omega) (NL h1 h hb)
   refine⟨⟨lo _,lo _,i1⟩,by omega,by omega,i4,?_⟩
   rcases i5 with e | e
   ·exact Or.inl (by omega)
   ·exact Or.inr e
theorem zQ {p:Array Nat} (lo:Lo p N) {n nrem:Nat} (h1:1<=n) (hn:n<=nrem) (hz:nrem<=p.size) (h:Dn O key p n) :
  kIn (ltK O key) N (kas_tail3 n nrem p)/\1<=(bF (ltK O key) (kas_tail3 n nrem p)).1/\(bF (ltK O key) (kas_tail3 n nrem p)).1<=nrem/\(bF (ltK O key) (kas_tail3 n nrem p)).2.Perm p/\Up O key (bF (ltK O key) (kas_tail3 n nrem p)).2 (bF (ltK O key) (kas_tail3 n nrem p)).1:=by
 unfold kas_tail3
 have up:Up O key (kas_rev p 0 n) n:=by
  intro i j hij hj
  rw[AT (by omega),AT (by omega),if_pos (by omega),if_pos (by omega)]
  exact h _ _ (by omega) (by omega)
 obtain⟨i1,i2,i3,i4,_⟩:=AE (jF (kJ p 0 n) lo) (nrem-n) n h1 up
 rw[gI]
 refine⟨dF _ i1 trivial,?_,?_,kJ p 0 n,i4⟩
 ·show 1<=_;simp only[bF];omega
 ·simp only[bF];omega
theorem qO:∀(f:Nat) (p:Array Nat) (n q:Nat),Lo p N->1<=n->n+f<=p.size->Dn O key p n->q+1<=n->(∀i,n-(q+1)<=i->i<n->kk O key p i=kk O key p (n-1)) ->
  kIn (ltK O key) N (kas_desc f p n q)/\(bF (ltK O key) (kas_desc f p n q)).1.Perm p/\n<=(bF (ltK O key) (kas_desc f p n q)).2.1/\(bF (ltK O key) (kas_desc f p n q)).2.1<=n+f /\
  Dn O key (bF (ltK O key) (kas_desc f p n q)).1 (bF (ltK O key) (kas_desc f p n q)).2.1/\(bF (ltK O key) (kas_desc f p n q)).2.2+1<=(bF (ltK O key) (kas_desc f p n q)).2.1 /\
  (∀i,(bF (ltK O key) (kas_desc f p n q)).2.1-((bF (ltK O key) (kas_desc f p n q)).2.2+1)<=i->i<(bF (ltK O key) (kas_desc f p n q)).2.1->kk O key (bF (ltK O key) (kas_desc f p n q)).1 i=kk O key (bF (ltK O key) (kas_desc f p n q)).1 ((bF (ltK O key) (kas_desc f p n q)).2.1-1))
 | 0,p,n,q,lo,h1,hz,h,hq,he=>⟨trivial,Array.Perm.refl _,Nat.le_refl _,Nat.le_refl _,h,hq,he⟩
 | f+1,p,n,q,lo,h1,hz,h,hq,he=>by
  simp only[kas_desc,bF,kIn]
  cases hb:ltK O key (p.getD n 0) (p.getD (n-1) 0) with
  | true =>
   simp only[if_true]
   by_cases h0:q > 0
   ·simp only[if_pos h0]
    have hk:=oN (O:=O) (key:=key) (p:=p) (i:=n-(q+1)) (j:=n) (by omega) he
    have pm:=kJ p (n-(q+1)) n
    have dn:Dn O key (kas_rev p (n-(q+1)) n) (n+1):=by
     have d0:=vU h1 h (KeyOrd.kle_of_klt hb)
     intro i j hij hj
     rw[hk,hk];exact d0 i j hij hj
    obtain⟨i1,i2,i3,i4,i5,i6,i7⟩:=qO f (kas_rev p (n-(q+1)) n) (n+1) 0 (jF pm lo) (by omega) (by rw[pm.size_eq];omega) dn (by omega) (λi a b=>by congr 1;omega)
    exact⟨⟨lo _,lo _,i1⟩,i2.trans pm,by omega,by omega,i5,i6,i7⟩
   ·simp only[if_neg h0]
    obtain⟨i1,i2,i3,i4,i5,i6,i7⟩:=qO f p (n+1) 0 lo (by omega) (by omega) (vU h1 h (KeyOrd.kle_of_klt hb)) (by omega) (λi a b=>by congr 1;omega)
    exact⟨⟨lo _,lo _,i1⟩,i2,by omega,by omega,i5,i6,i7⟩
  | false =>
   simp only[Bool.false_eq_true,if_false,bF,kIn]
   cases hc:ltK O key (p.getD (n-1) 0) (p.getD n 0) with
   | true =>
    simp only[if_true]
    exact⟨⟨lo _,lo _,lo _,lo _,trivial⟩,Array.Perm.refl _,Nat.le_refl _,by simp only[bF];omega,h,hq,he⟩
   | false =>
    simp only[Bool.false_eq_true,if_false]
    have e:kk O key p n=kk O key p (n-1):=KeyOrd.kle_antisymm hc hb
    obtain⟨i1,i2,i3,i4,i5,i6,i7⟩:=qO f p (n+1) (q+1) lo (by omega) (by omega) (vU h1 h (by rw[e];exact KeyOrd.kle_refl _)) (by omega) (λi a b=>by
     rw[show n+1-1=n by omega]
     by_cases hi:i=n
     ·subst hi;rfl
     ·rw[e];exact he i (by omega) (by omega))
    exact⟨⟨lo _,lo _,lo _,lo _,i1⟩,i2,by omega,by omega,i5,i6,i7⟩
theorem pG {p:Array Nat} (lo:Lo p N) {n nrem:Nat} (hn:n+1<=nrem) (hz:nrem<=p.size) (h:Dn O key p (n+1)) :
  kIn (ltK O key) N (kas_descPart n nrem p)/\1<=(bF (ltK O key) (kas_descPart n nrem p)).1/\(bF (ltK O key) (kas_descPart n nrem p)).1<=nrem/\(bF (ltK O key) (kas_descPart n nrem p)).2.Perm p/\Up O key (bF (ltK O key) (kas_descPart n nrem p)).2 (bF (ltK O key) (kas_descPart n nrem p)).1:=by
 unfold kas_descPart
 obtain⟨i1,i2,i3,i4,i5,i6,i7⟩:=qO (N:=N) (nrem-(n+1)) p (n+1) 0 lo (by omega) (by omega) h (by omega) (λi a b=>by congr 1;omega)
 rw[gI]
 generalize hr:bF (ltK O key) (kas_desc (nrem-(n+1)) p (n+1) 0)=r at *
 by_cases h0:r.2.2 > 0
 ·have sz:r.1.size=p.size:=i2.size_eq
  have hk:=oN (O:=O) (key:=key) (p:=r.1) (i:=r.2.1-(r.2.2+1)) (j:=r.2.1) (by omega) i7
  have pm:=(kJ r.1 (r.2.1-(r.2.2+1)) r.2.1).trans i2
  have t:=zQ (O:=O) (key:=key) (N:=N) (jF pm lo) (n:=r.2.1) (nrem:=nrem) (by omega) (by omega) (by rw[pm.size_eq];omega) (λi j hij hj=>by rw[hk,hk];exact i5 i j hij hj)
  rw[if_pos h0]
  refine⟨dF _ i1 ?_,t.2.1,t.2.2.1,t.2.2.2.1.trans pm,t.2.2.2.2⟩
  rw[hr,if_pos h0];exact t.1
 ·have t:=zQ (O:=O) (key:=key) (N:=N) (jF i2 lo) (n:=r.2.1) (nrem:=nrem) (by omega) (by omega) (by rw[i2.size_eq];omega) i5
  rw[if_neg h0]
  refine⟨dF _ i1 ?_,t.2.1,t.2.2.1,t.2.2.2.1.trans i2,t.2.2.2.2⟩
  rw[hr,if_neg h0];exact t.1
theorem HJ {p:Array Nat} (lo:Lo p N) {nrem:Nat} (h1:1<=nrem) (hz:nrem<=p.size) :
  kIn (ltK O key) N (kas_count nrem p)/\1<=(bF (ltK O key) (kas_count nrem p)).1/\(bF (ltK O key) (kas_count nrem p)).1<=nrem/\(bF (ltK O key) (kas_count nrem p)).2.Perm p/\Up O key (bF (ltK O key) (kas_count nrem p)).2 (bF (ltK O key) (kas_count nrem p)).1:=by
 unfold kas_count
 obtain⟨i1,i2,i3,i4,i5⟩:=AE (O:=O) (key:=key) lo (nrem-1) 1 (Nat.le_refl _) (λi j hij hj=>by have:i=j:=(by omega);subst this;exact KeyOrd.kle_refl _)
 rw[gI]
 generalize hr:bF (ltK O key) (kas_asc p (nrem-1) 1)=n at *
 by_cases hn:n=nrem
 ·rw[if_pos (by simpa using hn)]
  exact⟨dF _ i1 (by rw[hr,if_pos (by simpa using hn)];trivial),i2,by show n<=nrem;omega,Array.Perm.refl _,i4⟩
 ·rw[if_neg (by simpa using hn)]
  have hlt:O.klt (kk O key p n) (kk O key p (n-1)):=i5.resolve_left (by omega)
  by_cases hg:n > 1
  ·rw[if_pos hg]
   simp only[bF]
   cases hb:ltK O key (p.getD 0 0) (p.getD (n-1) 0) with
   | true =>
    simp only[if_true]
    exact⟨dF _ i1 (by rw[hr,if_neg (by simpa using hn),if_pos hg];exact⟨lo _,lo _,by rw[hb];trivial⟩),by show 1<=n;omega,by show n<=nrem;omega,Array.Perm.refl _,i4⟩
   | false =>
    simp only[Bool.false_eq_true,if_false]
    have hall:∀k,0<=k->k<n->kk O key p k=kk O key p (n-1):=by
     intro k _ hk
     have a1:=i4 0 k (by omega) hk
     have a2:=i4 k (n-1) (by omega) (by omega)
     exact KeyOrd.kle_antisymm a2 (KeyOrd.kle_trans hb a1)
    have hk:=oN (O:=O) (key:=key) (p:=p) (i:=0) (j:=n) (by omega) hall
    have pm:=kJ p 0 n
    have t:=pG (O:=O) (key:=key) (N:=N) (jF pm lo) (n:=n) (nrem:=nrem) (by omega) (by rw[pm.size_eq];omega) (λi j hij hj=>by
     rw[hk,hk]
     by_cases hjn:j<n
     ·rw[hall i (by omega) (by omega),hall j (by omega) hjn];exact KeyOrd.kle_refl _
     ·have hj':j=n:=by omega
      subst hj'
      by_cases hi':i=j
      ·subst hi';exact KeyOrd.kle_refl _
      ·rw[hall i (by omega) (by omega)];exact KeyOrd.kle_of_klt hlt)
    exact⟨dF _ i1 (by rw[hr,if_neg (by simpa using hn),if_pos hg];exact⟨lo _,lo _,by rw[hb];exact t.1⟩),t.2.1,t.2.2.1,t.2.2.2.1.trans pm,t.2.2.2.2⟩
  ·rw[if_neg hg]
   have n1:n=1:=by omega
   have t:=pG (O:=O) (key:=key) (N:=N) lo (n:=n) (nrem:=nrem) (by omega) hz (λi j hij hj=>by
    by_cases hi':i=j
    ·subst hi';exact KeyOrd.kle_refl _
    ·have e1:i=n-1:=by omega
     have e2:j=n:=by omega
     rw[e1,e2];exact KeyOrd.kle_of_klt hlt)
   exact⟨dF _ i1 (by rw[hr,if_neg (by simpa using hn),if_neg hg];exact t.1),t.2⟩
theorem sJ {p:Array Nat} (lo:Lo p N) {k:Nat} (hs:Up O key p k):∀(f l r:Nat),l<=r->r<=k->r-l<=f->(∀i,i<l->O.kle (kk O key p i) (kk O key p k))->(∀i,r<=i->i<k->O.klt (kk O key p k) (kk O key p i)) ->
  kIn (ltK O key) N (kas_place p k f l r)/\bF (ltK O key) (kas_place p k f l r)<=k/\(∀i,i<bF (ltK O key) (kas_place p k f l r)->O.kle (kk O key p i) (kk O key p k))/\(∀i,bF (ltK O key) (kas_place p k f l r)<=i->i<k->O.klt (kk O key p k) (kk O key p i))
 | 0,l,r,hlr,hrk,hf,a,b=>by
  have:l=r:=by omega
  subst this
  exact⟨trivial,hrk,a,b⟩
 | f+1,l,r,hlr,hrk,hf,a,b=>by
  simp only[kas_place]
  by_cases hge:l ≥ r
  ·have:l=r:=by omega
   subst this
   rw[if_pos hge]
   exact⟨trivial,hrk,a,b⟩
  ·rw[if_neg hge]
   simp only[bF,kIn]
   cases hb:ltK O key (p.getD k 0) (p.getD ((l+r) / 2) 0) with
   | true =>
    simp only[if_true]
    have t:=sJ lo hs f l ((l+r) / 2) (by omega) (by omega) (by omega) a (λi h1 h2=>KeyOrd.klt_of_klt_of_kle hb (hs _ _ h1 h2))
    exact⟨⟨lo _,lo _,t.1⟩,t.2⟩
   | false =>
    simp only[Bool.false_eq_true,if_false]
    have t:=sJ lo hs f ((l+r) / 2+1) r (by omega) hrk (by omega) (λi h1=>KeyOrd.kle_trans (hs i ((l+r) / 2) (by omega) (by omega)) hb) b
    exact⟨⟨lo _,lo _,t.1⟩,t.2⟩
theorem HA:∀(f:Nat) (p:Array Nat) (k:Nat),Lo p N->k+f<=p.size->Up O key p k->kIn (ltK O key) N (kas_bin f p k)/\(bF (ltK O key) (kas_bin f p k)).Perm p/\Up O key (bF (ltK O key) (kas_bin f p k)) (k+f)
 | 0,p,k,lo,hz,h=>⟨trivial,Array.Perm.refl _,h⟩
 | f+1,p,k,lo,hz,h=>by
  simp only[kas_bin]
  obtain⟨i1,i2,i3,i4⟩:=sJ lo h k 0 k (by omega) (by omega) (by omega) (λi hi=>absurd hi (by omega)) (λi h1 h2=>absurd h2 (by omega))
  rw[gI]
  generalize hr:bF (ltK O key) (kas_place p k k 0 k)=l at *
  have pm:=bubble_perm p k (k-l)
  have hb:=λi=>FB (O:=O) (key:=key) (p:=p) (src:=k) (d:=k-l) (by omega) (by omega) i
  have up:Up O key (bubble p k (k-l)) (k+1):=by
   intro i j hij hj
   rw[hb,hb,show k-(k-l)=l by omega]
   by_cases e1:i=l
   ·rw[if_pos e1]
    by_cases e2:j=l
    ·rw[if_pos e2];exact KeyOrd.kle_refl _
    ·rw[if_neg e2,if_pos (by omega)];exact KeyOrd.kle_of_klt (i4 _ (by omega) (by omega))
   ·rw[if_neg e1]
    by_cases e2:j=l
    ·rw[if_pos e2,if_neg (by omega)];exact i3 _ (by omega)
    ·rw[if_neg e2]
     by_cases e3:l<i/\i<=k
     ·rw[if_pos e3,if_pos (by omega)];exact h _ _ (by omega) (by omega)
     ·rw[if_neg e3]
      by_cases e4:l<j/\j<=k
      ·rw[if_pos e4];exact h _ _ (by omega) (by omega)
      ·rw[if_neg e4];exact h _ _ (by omega) (by omega)
  obtain⟨t1,t2,t3⟩:=HA f (bubble p k (k-l)) (k+1) (jF pm lo) (by rw[pm.size_eq];omega) up
  refine⟨dF _ i1 (by rw[hr];exact t1),t2.trans pm,?_⟩
  rw[show k+(f+1)=k+1+f by omega];exact t3
theorem NG {n:Nat} (h1:1<=n):kIn (ltK O key) n (kas_sort n)/\(bF (ltK O key) (kas_sort n)).Perm (List.toArray (List.range n))/\Up O key (bF (ltK O key) (kas_sort n)) n:=by
 have lo:Lo (List.toArray (List.range n)) n:=by
  intro i
  by_cases hi:i<n
  ·simp[Array.getD,hi]
  ·simp[Array.getD,hi];omega
 unfold kas_sort
 obtain⟨i1,i2,i3,i4,i5⟩:=HJ (O:=O) (key:=key) lo (nrem:=n) h1 (by simp)
 rw[gI]
 generalize hr:bF (ltK O key) (kas_count n (List.toArray (List.range n)))=r at *
 have sz:r.2.size=n:=by rw[i4.size_eq];simp
 by_cases h:r.1<n
 ·have t:=HA (O:=O) (key:=key) (N:=n) (n-max r.1 1) r.2 (max r.1 1) (jF i4 lo) (by omega) (by rw[show max r.1 1=r.1 by omega];exact i5)
  rw[if_pos h]
  refine⟨dF _ i1 (by rw[hr,if_pos h];exact t.1),t.2.1.trans i4,?_⟩
  have:=t.2.2
  rwa [show max r.1 1+(n-max r.1 1)=n by omega] at this
 ·rw[if_neg h]
  refine⟨dF _ i1 (by rw[hr,if_neg h];trivial),i4,?_⟩
  rw[show n=r.1 by omega];exact i5
end
end L2.R2
set_option Elab.async false
set_option linter.all false
set_option maxRecDepth 100000
set_option maxHeartbeats 3200000
namespace L2.R2
open PySem PySem.W PySem.SetTable PyProof.Rows
noncomputable def dN:List Int->List Int->Bool
 | [],[]=>false
 | [],_::_=>true
 | _::_,[]=>false
 | a::as,b::bs=>if a=b then dN as bs else decide (a<b)
theorem yJ:∀a,dN a a=false
 | []=>rfl
 | a::as=>by simp only[dN,if_true];exact yJ as
theorem mG:∀a b c,dN a b=true->dN b c=true->dN a c=true
 | [],[],c,h,_=>by simp[dN] at h
 | [],_::_,[],_,h=>by simp[dN] at h
 | [],_::_,_::_,_,_=>rfl
 | _::_,[],_,h,_=>by simp[dN] at h
 | _::_,_::_,[],_,h=>by simp[dN] at h
 | a::as,b::bs,c::cs,h,k=>by
  simp only[dN] at h k ⊢
  by_cases e1:a=b
  ·subst e1
   rw[if_pos rfl] at h
   by_cases e2:a=c
   ·subst e2;rw[if_pos rfl] at k ⊢;exact mG as bs cs h k
   ·rw[if_neg e2] at k ⊢;exact k
  ·rw[if_neg e1] at h
   by_cases e2:b=c
   ·subst e2;rw[if_neg e1];exact h
   ·rw[if_neg e2] at k
    simp only[decide_eq_true_eq] at h k
    rw[if_neg (by omega)]
    simp only[decide_eq_true_eq];omega
theorem mF:∀a b,dN a b=false->dN b a=false->a=b
 | [],[],_,_=>rfl
 | [],_::_,h,_=>by simp[dN] at h
 | _::_,[],_,h=>by simp[dN] at h
 | a::as,b::bs,h,k=>by
  simp only[dN] at h k
  by_cases e:a=b
  ·subst e;rw[if_pos rfl] at h k;rw[mF as bs h k]
  ·rw[if_neg e] at h;rw[if_neg (Ne.symm e)] at k
   simp only[decide_eq_false_iff_not] at h k;omega
theorem IW (a b c:List Int) (h:dN a c=true):dN a b=true\/dN b c=true:=by
 cases h1:dN a b with
 | true=>exact Or.inl rfl
 | false =>
  right
  cases h2:dN b a with
  | true=>exact mG b a c h2 h
  | false=>rw[<-mF a b h1 h2];exact h
noncomputable def MJ:KeyOrd:=⟨List Int,dN,yJ,mG,IW,mF⟩
section
variable {prog:Program} {w:World} {A:Around} {E:Value->Shared->Prop} {s:Shared}
theorem int_inv {k:Int} {v:Value} (h:(intKind prog w).is k v=true):∃t,v = .int k t:=by
 cases v <;> simp[intKind,Value.isInt] at h
 exact⟨_,by rw[h]⟩
theorem MK {fin:Bool} {Q:Bool->Shared->Prop}:∀(ns ms:List Int) (vs us:List Value) (i:Nat),ItemsAre (intKind prog w) ns vs->ItemsAre (intKind prog w) ms us->fin=decide (vs.length<us.length)->Q (dN ns ms) s->KatLex prog w A true fin Q (vs.zip us) i s:=by
 intro ns
 induction ns with
 | nil =>
  intro ms vs us i h1 h2 hf q
  cases h1
  cases h2 with
  | nil=>simp at hf;subst hf;exact kat_nil q
  | cons _ _=>simp at hf;subst hf;exact kat_nil q
 | cons n ns ih =>
  intro ms vs us i h1 h2 hf q
  cases h1 with
  | cons h1 t1 =>
   cases h2 with
   | nil=>simp at hf;subst hf;exact kat_nil q
   | @cons m u ms us h2 t2 =>
    rw[List.zip_cons_cons]
    refine kat_cons ((intKind prog w).eqBool h1 h2 ?_)
    by_cases e:n=m
    ·subst e
     rw[decide_eq_true rfl]
     exact kat_yes (ih ms _ us (i+1) t1 t2 (by simpa using hf) (by simpa [dN] using q))
    ·rw[decide_eq_false e]
     obtain⟨tn,rfl⟩:=int_inv h1
     obtain⟨tm,rfl⟩:=int_inv h2
     have q':Q (decide (n<m)) s:=by simpa [dN,e] using q
     refine kat_no ?_
     cases hi:(i == 0) with
     | true=>exact oneLt_int q'
     | false=>exact kat_one _ _ (PySem.wpAny_lt_int (by exact q'))
noncomputable def KeysAt (prog:Program) (w:World) (h:Heap) (vs:List Value) (nss:List (List Int)):Prop:=vs.length=nss.length/\∀i v,vs[i]? = some v->∃a,v = .ref a/\IsTupleKey (intKind prog w) h (nss.getD i []) a
theorem rS {h:Heap}:∀(vs:List Value) (nss:List (List Int)),KeysAt prog w h vs nss->(∀ns∈nss,ns≠[])->∃fs:List Value,KatTups h vs fs/\fs.length=vs.length/\∀f∈fs,∃k t,f = .int k t
 | [],nss,_,_=>⟨[],trivial,rfl,λf hf=>by cases hf⟩
 | v::vs,nss,H,hn=>by
  match nss,H with
  | [],H=>exact absurd H.1 (by simp)
  | ns::nss,H =>
   obtain⟨a,rfl,o,items,n,ho,hc,hd,hi⟩:=H.2 0 v rfl
   obtain⟨fs,f1,f2,f3⟩:=rS vs nss ⟨by have:=H.1;simpa using this,λi v e=>H.2 (i+1) v e⟩ λms hm=>hn ms (List.mem_cons_of_mem _ hm)
   simp only[List.getD_cons_zero] at hi
   match ns,hi,hn ns (List.mem_cons_self ..) with
   | [],_,h=>exact absurd rfl h
   | k::ks,hi,_ =>
    generalize e:items.toList=its at hi
    cases hi with
    | cons h1 h2 =>
     obtain⟨t,rfl⟩:=int_inv h1
     refine⟨.int k t::fs,⟨⟨a,o,items,n,rfl,ho,hc,hd,?_⟩,f1⟩,by simp[f2],λf hf=>?_⟩
     ·rw[<-Array.getElem?_toList,e];rfl
     ·rcases List.mem_cons.mp hf with rfl | hf
      ·exact⟨k,t,rfl⟩
      ·exact f3 f hf
theorem KeysAt.other {h h':Heap} {vs:List Value} {nss:List (List Int)} {a:Addr} {xs:Array Value} {n:Nat} (K:KeysAt prog w h vs nss) (ho:h.get? a=some (seqObj "list" xs n)) (up:∀b o,b≠a->h.get? b=some o->h'.get? b=some o):KeysAt prog w h' vs nss:=by
 refine⟨K.1,λi v e=>?_⟩
 obtain⟨b,rfl,o,its,m,h1,h2,h3,h4⟩:=K.2 i v e
 refine⟨b,rfl,o,its,m,up b o ?_ h1,h2,h3,h4⟩
 rintro rfl
 rw[ho] at h1;cases h1
 exact absurd h2 (by simp[seqObj])
theorem BI {α:Type} (d:α) (xs:List α):(List.range xs.length).map (λi=>xs.getD i d)=xs:=by
 apply List.ext_getElem (by simp)
 intro i h1 h2
 simp[h2]
theorem GK {a:Addr} {vs:List Value} {nss:List (List Int)} {n:Nat} {P:PySem.Fin->Shared->Prop} (ho:s.heap.get? a=some (seqObj "list" vs.toArray n)) (K:KeysAt prog w s.heap vs nss) (hn:∀ns∈nss,ns≠[]) (h64:vs.length<64)
  (q:∀h' out mss c,h'.get? a=some (seqObj "list" (List.toArray out) c)->KeysAt prog w h' out mss->(∀v∈out,v∈vs)->mss.Perm nss->mss.Pairwise (λx y=>dN y x=false)->(∀b o,b≠a->s.heap.get? b=some o->h'.get? b=some o)->P (.done (.ret .none)) { s with heap:=h' }) :
  wpAny (model prog w) A (Builtin.«list.sort» ⟨[.ref a],[]⟩) P E s:=by
 have lt:a<s.heap.objs.size:=Heap.lt_size ho
 rw[list_sort_plain]
 apply wpAny_bind;refine listItems_at ho rfl ?_
 apply wpAny_bind;refine listUpdate_at ho rfl ?_ (by rw[List.size_toArray,sizeLine_eq];omega) (Nat.zero_le _)
 obtain⟨e1,ho1⟩:∃e1,(s.heap.update a (Obj.mapSeq λ_=>(#[]:Array Value))).get? a=some (seqObj "list" #[] e1):=⟨_,get?_update_seq ho λ_=>#[]⟩
 have up1:∀b o,b≠a->s.heap.get? b=some o->(s.heap.update a (Obj.mapSeq λ_=>(#[]:Array Value))).get? b=some o:=λb o hb e=>(Heap.get?_update_other _ _ (Ne.symm hb)).trans e
 generalize s.heap.update a (Obj.mapSeq λ_=>(#[]:Array Value))=h1 at ho1 up1
 apply wpAny_bind;refine seqEpoch_at ho1 rfl ?_
 apply wpAny_bind;refine wpAny_newTuple ?_ (by show vs.length<=_;rw[sizeLine_eq];omega)
 apply wpAny_bind;refine wpAny_newList ?_ (Nat.zero_le _)
 apply wpAny_holding
 show wpAny (model prog w) A _ P E { s with heap:=(h1.push (seqObj "tuple" vs.toArray 0)).push (seqObj "list" #[] 0) }
 have up2:∀b o,b≠a->s.heap.get? b=some o->((h1.push (seqObj "tuple" vs.toArray 0)).push (seqObj "list" #[] 0)).get? b=some o:=λb o hb e=>Heap.get?_push_of_some _ (Heap.get?_push_of_some _ (up1 b o hb e))
 have ho2:((h1.push (seqObj "tuple" vs.toArray 0)).push (seqObj "list" #[] 0)).get? a=some (seqObj "list" #[] e1):=Heap.get?_push_of_some _ (Heap.get?_push_of_some _ ho1)
 generalize (h1.push (seqObj "tuple" vs.toArray 0)).push (seqObj "list" #[] 0)=h2 at up2 ho2
 have K2:=K.other ho up2
 have fin:∀(out:List Value) (mss:List (List Int)) (st':SortSt),(arrOf st').map (·.2)=out.toArray->failedOf st'=none->KeysAt prog w h2 out mss->(∀v∈out,v∈vs)->mss.Perm nss->mss.Pairwise (λx y=>dN y x=false)->out.length<=64 ->
   wpAny (model prog w) A (do
    let sorted:=(arrOf st').map (·.2)
    let touched:=(<-seqEpoch a) != e1
    Builtin.List.listUpdate (.ref a) λ_=>sorted
    if let some e:=failedOf st' then rule "list.sort.comparison-raised";throw e
    if touched then rule "list.sort.modified";raiseError "ValueError" "list modified during sort"
    ret .none) P E { s with heap:=h2 }:=by
  intro out mss st' h1 hf KO hv hp hs hlen
  dsimp only
  apply wpAny_bind;refine seqEpoch_at (s:={ s with heap:=h2 }) ho2 rfl ?_
  rw[h1]
  apply wpAny_bind;refine listUpdate_at (s:={ s with heap:=h2 }) ho2 rfl ?_ (Nat.zero_le _) (by show out.toArray.size<=_;rw[List.size_toArray,sizeLine_eq];omega)
  obtain⟨c,hc⟩:∃c,(h2.update a (Obj.mapSeq λ_=>out.toArray)).get? a=some (seqObj "list" out.toArray c):=⟨_,get?_update_seq ho2 λ_=>out.toArray⟩
  have up3:∀b o,b≠a->h2.get? b=some o->(h2.update a (Obj.mapSeq λ_=>out.toArray)).get? b=some o:=λb o hb e=>(Heap.get?_update_other _ _ (Ne.symm hb)).trans e
  generalize h2.update a (Obj.mapSeq λ_=>out.toArray)=h3 at hc up3
  rw[hf]
  simp only[bne_self_eq_false,Bool.false_eq_true,if_false]
  exact wpAny_pure (q h3 out mss c hc (KO.other ho2 up3) hv hp hs λb o hb e=>up3 b o hb (up2 b o hb e))
 have ln:=K.1
 dsimp only
 by_cases h2':vs.length<2
 ·have c2:vs.toArray.size<2:=by rw[List.size_toArray];exact h2'
  rw[if_pos c2,if_pos c2]
  apply wpAny_bind;apply wpAny_pure
  apply wpAny_bind
  show wpAny _ _ (pure ((),SortSt.mk' general' (vs.toArray.zip vs.toArray) #[] 7 none)) _ _ _
  apply wpAny_pure
  refine fin vs nss _ ?_ rfl K2 (λ_ h=>h) (List.Perm.refl _) ?_ (by omega)
  ·show (vs.toArray.zip vs.toArray).map (·.2)=vs.toArray
   apply Array.toList_inj.mp
   simp[List.map_snd_zip]
  ·match nss,ln with
   | [],_=>exact List.Pairwise.nil
   | [x],_=>exact List.pairwise_singleton _ _
   | _::_::_,ln=>simp at ln;omega
 ·have c2:¬vs.toArray.size<2:=by rw[List.size_toArray];exact h2'
  rw[if_neg c2,if_neg c2]
  obtain⟨fs,f1,f2,f3⟩:=rS vs nss K2 hn
  apply wpAny_bind
  refine kat_kind (s:={ s with heap:=h2 }) (T:=.type "int") f1 (by omega) (λv hv=>?_) (by decide) ?_
  ·obtain⟨k,t,rfl⟩:=f3 v hv
   exact Looks.now
  have hT:(Value.type "int" != Value.type "tuple")=true:=by decide
  rw[hT]
  obtain⟨i1,i2,i3⟩:=NG (O:=MJ) (key:=λi=>nss.getD i []) (n:=vs.length) (by omega)
  have psz:(bF (ltK MJ λi=>nss.getD i []) (kas_sort vs.length)).size=vs.length:=by rw[i2.size_eq];simp
  generalize hp:bF (ltK MJ λi=>nss.getD i []) (kas_sort vs.length)=p at i2 i3 psz
  apply wpAny_bind
  refine wpAny_mono (kat_run (ks:=vs) (vs:=vs) (Q:=λst' s'=>s' = { s with heap:=h2 }/\arrOf st'=p.map (kas_item (vs.toArray.zip vs.toArray))/\failedOf st'=none) (G:=λp' s'=>p'=p/\s' = { s with heap:=h2 }) rfl (by omega) h64 (λp' st' s' a1 a2 a3 a4=>⟨a4.2,by rw[a2,a4.1],a3⟩) ?_) ?_ λ_ _ e=>e
  ·refine rR (lt:=ltK MJ λi=>nss.getD i []) (n:=vs.length) (s:={ s with heap:=h2 }) (λi j C hi hj c=>?_) _ i1 ⟨hp,rfl⟩
   unfold kas_ask
   obtain⟨x,ex,ox,xs,nx,hx1,hx2,hx3,hx4⟩:=K2.2 i (vs.getD i Value.none) (by simp[hi])
   obtain⟨y,ey,oy,ys,ny,hy1,hy2,hy3,hy4⟩:=K2.2 j (vs.getD j Value.none) (by simp[hj])
   rw[ex,ey]
   refine kat_lt (s:={ s with heap:=h2 }) hx1 hx3 hy1 hy3 (MK _ _ _ _ 0 hx4 hy4 (by simp) ?_)
   exact c
  ·rintro⟨⟨⟩,st'⟩ s' ⟨rfl,har,hf⟩
   have hout:=kat_snds (ks:=vs) (vs:=vs) rfl har
   refine fin (p.toList.map λi=>vs.getD i Value.none) (p.toList.map λi=>nss.getD i []) st' hout hf ⟨by simp,λi v e=>?_⟩ (λv hv=>?_) ?_ ?_ (by simp[psz];omega)
   ·rw[List.getElem?_map] at e
    cases e2:p.toList[i]? with
    | none=>rw[e2] at e;simp at e
    | some j =>
     rw[e2] at e
     simp only[Option.map_some,Option.some.injEq] at e
     have hj:j<vs.length:=by
      have m:j∈p.toList:=List.mem_of_getElem? e2
      have:=(Array.Perm.mem_iff i2).mp (Array.mem_toList_iff.mp m)
      simpa using this
     obtain⟨b,hb1,hb2⟩:=K2.2 j v (by rw[<-e];simp[hj])
     refine⟨b,hb1,?_⟩
     have g:(p.toList.map λi=>nss.getD i []).getD i []=nss.getD j []:=by
      rw[List.getD_eq_getElem?_getD,List.getElem?_map,e2];rfl
     rw[g];exact hb2
   ·obtain⟨j,m,rfl⟩:=List.mem_map.mp hv
    have hj:j<vs.length:=by
     have:=(Array.Perm.mem_iff i2).mp (Array.mem_toList_iff.mp m)
     simpa using this
    simp[hj]
   ·have pl:p.toList.Perm (List.range vs.length):=by simpa using i2.toList
    refine (pl.map _).trans ?_
    rw[ln,BI]
   ·refine List.pairwise_map.mpr (List.pairwise_iff_getElem.mpr λi j hi hj hij=>?_)
    have:=i3 i j (by omega) (by simp at hj;omega)
    unfold kk at this
    simp only[Array.length_toList] at hi hj
    have e1:p.getD i 0=p[i]:=by simp[Array.getD,hi]
    have e2:p.getD j 0=p[j]:=by simp[Array.getD,hj]
    rw[e1,e2] at this
    exact this
end
end L2.R2
set_option Elab.async false
set_option linter.all false
set_option maxRecDepth 100000
set_option maxHeartbeats 3200000
namespace L2.R2
open PySem PySem.W PyProof.Rows
section
variable {prog:Program} {w:World} {A:Around} {E:Value->Shared->Prop} {s:Shared}
end
end L2.R2
set_option Elab.async false
set_option linter.all false
set_option maxRecDepth 100000
set_option maxHeartbeats 1000000
namespace L2.R2
open PySem PySem.Spec PyProof.Rows L2
theorem jU:bootBuiltins "sorted" = some (.builtin "sorted"):=by decide +kernel
theorem HB:bootBuiltins "set" = some (.type "set"):=by decide +kernel
theorem rQ {prog:Program} {w:World}:∀{ns:List Int} {us:List Value},Vals (ns.map V.int) us->ItemsAre (intKind prog w) ns us
 | [],_,h=>by cases h;exact .nil
 | n::ns,_,h=>by
  cases h with
  | cons h1 t =>
   obtain⟨t',rfl⟩:=h1
   exact .cons (intKind_is _ _ _ _) (rQ t)
noncomputable def TN (te:RE):RA:=λρ Q=>te ρ λx=>∃ds:List D,x = .lst ds/\Q ds.reverse
theorem zF {K:PySem.W.Frag} {H:Hp}:∀(out:List Value) (mss:List (List Int)),out.length=mss.length->(∀(i:Nat) (v:Value),out[i]? = some v->∃a,v = .ref a/\H a=some (.tup ((mss.getD i []).map V.int)))->∃ws:List V,Vals ws out/\Reps K H (mss.map cR) ws
 | [],[],_,_=>⟨[],.nil,.nil⟩
 | [],_::_,h,_=>by simp at h
 | _::_,[],h,_=>by simp at h
 | v::out,ms::mss,h,k=>by
  obtain⟨ws,h1,h2⟩:=zF (K:=K) (H:=H) out mss (by simpa using h) λi v e=>k (i+1) v (by simpa using e)
  obtain⟨a,rfl,ha⟩:=k 0 v rfl
  exact⟨.ref a::ws,.cons rfl h1,.cons (.tup ha Reps.ints) h2⟩
section
variable {X:Cx} {e:Expr} {te:RE} {p pz pos posz:Pos}
end
section
variable {X:Cx} {tg:Expr}
noncomputable def TV (lo:Int) (n:Nat):List D:=(List.range n).map λk:Nat=>D.int (lo+(k:Int)*2)
structure StpOk (j:Int):Prop where
 lo:-(2 ^ 60)<=j
 hi:j<2 ^ 60
noncomputable def pA (t:RA):RA:=λρ Q=>t ρ λds=>match ds with
 | [.int i,.int j,.int c]=>(StpOk i/\StpOk j/\c=2)/\Q (TV i ((j-i+1) / 2).toNat)
 | _=>False
end
end L2.R2
set_option Elab.async false
set_option linter.all false
set_option maxRecDepth 100000
namespace L2
open PySem PySem.Spec PyProof.Rows
section
variable {κ:Type} [DecidableEq κ]
noncomputable def gS (kvs:List (κ × V)) (k:κ):Option V:=(kvs.find? λkv=>decide (kv.1=k)).map (·.2)
noncomputable def mO (kvs:List (κ × V)) (k:κ) (v:V):List (κ × V) :=
 if (kvs.any λkv=>decide (kv.1=k))=true then kvs.map (λkv=>if kv.1=k then (kv.1,v) else kv) else kvs++[(k,v)]
theorem fU {p:κ × V} {r:List (κ × V)} {k:κ} (e:p.1=k):gS (p::r) k=some p.2:=by simp[gS,List.find?_cons,e]
theorem fB {p:κ × V} {r:List (κ × V)} {k:κ} (e:¬p.1=k):gS (p::r) k=gS r k:=by simp[gS,List.find?_cons,e]
theorem sX (k:κ):∀kvs:List (κ × V),(kvs.any λkv=>decide (kv.1=k))=(gS kvs k).isSome
 | []=>rfl
 | p::r=>by
  rw[List.any_cons]
  by_cases e:p.1=k
  ·simp only[fU e,decide_eq_true e,Bool.true_or,Option.isSome_some]
  ·rw[fB e,decide_eq_false e,Bool.false_or];exact sX k r
theorem pM (kvs:List (κ × V)) (k:κ) (v:V):(mO kvs k v).length<=kvs.length+1:=by
 unfold mO
 split
 ·rw[List.length_map];omega
 ·rw[List.length_append,List.length_cons,List.length_nil];omega
theorem JW {kvs:List (κ × V)} {k:κ} (v:V) (h:gS kvs k=none):mO kvs k v=kvs++[(k,v)]:=by
 unfold mO
 rw[sX,h]
 exact if_neg (by decide)
theorem RelO.isSome_eq {o:Option V} {u:Option Value} (r:RelO o u):o.isSome=u.isSome:=by
 cases o with
 | none=>cases u with
  | none=>rfl
  | some _=>exact (show False from r).elim
 | some _=>cases u with
  | none=>exact (show False from r).elim
  | some _=>rfl
theorem RelO.getD {o:Option V} {u:Option Value} {d:V} {d':Value} (r:RelO o u) (rd:RelV d d'):RelV (o.getD d) (u.getD d'):=by
 cases o with
 | none=>cases u with
  | none=>exact rd
  | some _=>exact (show False from r).elim
 | some _=>cases u with
  | none=>exact (show False from r).elim
  | some _=>exact r
theorem KV.val {kvs:List (κ × V)} {vs:List (κ × Value)} (r:KV kvs vs) (k:κ):RelO (gS kvs k) (valueAt vs k):=by
 unfold KV at r
 induction r with
 | nil=>exact True.intro
 | @cons p q ps qs h t ih =>
  obtain⟨h1,h2⟩:=h
  by_cases e:p.1=k
  ·have e':q.1=k:=h1.symm.trans e
   have b:valueAt (q::qs) k=some q.2:=by simp[valueAt,List.find?_cons,e']
   rw[fU e,b];exact h2
  ·have e':¬q.1=k:=λz=>e (h1.trans z)
   have b:valueAt (q::qs) k=valueAt qs k:=by simp[valueAt,List.find?_cons,e']
   rw[fB e,b];exact ih
theorem KV.any {kvs:List (κ × V)} {vs:List (κ × Value)} (r:KV kvs vs) (k:κ):(kvs.any λkv=>decide (kv.1=k))=vs.any λkv=>decide (kv.1=k):=by
 unfold KV at r
 induction r with
 | nil=>rfl
 | cons h t ih=>rw[List.any_cons,List.any_cons,ih,h.1]
theorem KV.repl {kvs:List (κ × V)} {vs:List (κ × Value)} (r:KV kvs vs) (k:κ) {y:V} {u:Value} (ry:RelV y u) :
  KV (kvs.map λkv=>if kv.1=k then (kv.1,y) else kv) (vs.map λkv=>if kv.1=k then (kv.1,u) else kv):=by
 unfold KV at r ⊢
 induction r with
 | nil=>exact .nil
 | @cons p q ps qs h t ih =>
  rw[List.map_cons,List.map_cons]
  refine .cons ?_ ih
  obtain⟨h1,h2⟩:=h
  by_cases e:p.1=k
  ·rw[if_pos e,if_pos (h1.symm.trans e)];exact⟨h1,ry⟩
  ·rw[if_neg e,if_neg (λz=>e (h1.trans z))];exact⟨h1,h2⟩
theorem KV.put {kvs:List (κ × V)} {vs:List (κ × Value)} (r:KV kvs vs) (k:κ) {y:V} {u:Value} (ry:RelV y u):KV (mO kvs k y) (stored vs k u):=by
 unfold mO stored
 rw[r.any k]
 by_cases e:(vs.any λkv=>decide (kv.1=k))=true
 ·rw[if_pos e,if_pos e];exact r.repl k ry
 ·rw[if_neg e,if_neg e];exact Paired.snoc r ⟨rfl,ry⟩
theorem KV.length {kvs:List (κ × V)} {vs:List (κ × Value)} (r:KV kvs vs):kvs.length=vs.length:=Paired.length r
end
theorem CT {P:Program} {w:World} {k:Key} {u:Value} (r:RelV (kV k) u):(cC P w).is k u=true:=by
 cases k with
 | inl i=>obtain⟨t,e⟩:=(show ∃t,u=Value.int i t from r);subst e;exact yO P w i t
 | inr x=>obtain⟨t,e⟩:=(show ∃t,u=Value.str x t from r);subst e;exact yP P w x t
theorem uM {P:Program} {w:World}:∀{ks:List Key} {us:List Value},Vals (ks.map kV) us->ItemsAre (cC P w) ks us
 | [],_,r=>by rw[List.map_nil] at r;cases r;exact .nil
 | k::ks,_,r=>by
  rw[List.map_cons] at r
  cases r with
  | cons h t=>exact .cons (CT h) (uM t)
noncomputable abbrev KT (H:Hp):List (List Key × V)->List (List Key × Addr × Value)->Prop:=Paired λp q=>p.1=q.1/\H q.2.1=some (.tup (p.1.map kV))/\RelV p.2 q.2.2
theorem KT.val {H:Hp} {kvs:List (List Key × V)} {xs:List (List Key × Addr × Value)} (r:KT H kvs xs) (k:List Key):RelO (gS kvs k) ((atKey xs k).map (·.2)):=by
 induction r with
 | nil=>exact True.intro
 | @cons p q ps qs h t ih =>
  obtain⟨h1,_,h2⟩:=h
  by_cases e:p.1=k
  ·have e':q.1=k:=h1.symm.trans e
   have b:atKey (q::qs) k=some q.2:=by simp[atKey,List.find?_cons,e']
   rw[fU e,b];exact h2
  ·have e':¬q.1=k:=λz=>e (h1.trans z)
   have b:atKey (q::qs) k=atKey qs k:=by simp[atKey,List.find?_cons,e']
   rw[fB e,b];exact ih
theorem KT.repl {H:Hp} {kvs:List (List Key × V)} {xs:List (List Key × Addr × Value)} (r:KT H kvs xs) (k:List Key) {y:V} {u:Value} (ry:RelV y u) :
  KT H (kvs.map λkv=>if kv.1=k then (kv.1,y) else kv) (xs.map (putAt k u)):=by
 induction r with
 | nil=>exact .nil
 | @cons p q ps qs h t ih =>
  rw[List.map_cons,List.map_cons]
  refine .cons ?_ ih
  obtain⟨h1,h2,h3⟩:=h
  unfold putAt
  by_cases e:p.1=k
  ·rw[if_pos e,if_pos (h1.symm.trans e)];exact⟨h1,h2,ry⟩
  ·rw[if_neg e,if_neg (λz=>e (h1.trans z))];exact⟨h1,h2,h3⟩
theorem KT.put {H:Hp} {kvs:List (List Key × V)} {xs:List (List Key × Addr × Value)} (r:KT H kvs xs) (k:List Key) {b:Addr} {y:V} {u:Value} (hb:H b=some (.tup (k.map kV))) (ry:RelV y u) :
  KT H (mO kvs k y) (storedH xs k b u):=by
 have e:(kvs.any λkv=>decide (kv.1=k))=(atKey xs k).isSome:=by
  rw[sX,(r.val k).isSome_eq,Option.isSome_map]
 unfold mO storedH
 rw[e]
 by_cases q:(atKey xs k).isSome=true
 ·rw[if_pos q,if_pos q];exact r.repl k ry
 ·rw[if_neg q,if_neg q];exact Paired.snoc r ⟨rfl,hb,ry⟩
theorem KT.keeps {H H':Hp} {kvs:List (List Key × V)} {xs:List (List Key × Addr × Value)} (r:KT H kvs xs) (ht:∀b ys,H b=some (.tup ys)->H' b=some (.tup ys)):KT H' kvs xs :=
 Paired.mapP r λ_ _ z=>⟨z.1,ht _ _ z.2.1,z.2.2⟩
section
variable {P:Program} {w:World} {H:Hp} {h:Heap} {a:Addr}
theorem OJ {u:HO} (ok:HOk P w H h) (e:Rd H a u):ObjOk P w H h a u:=e.ok ok
theorem xS {kvs:List (Key × V)} (ok:HOk P w H h) (e:Rd H a (.dK kvs)):kvs.length<=sizeLine/\(a == sysModules)=false/\∃vs,KV kvs vs/\h.DictOf (cC P w) a vs :=
 show ObjOk P w H h a (.dK kvs) from OJ ok e
theorem NS {kvs:List (Key × V)} (ok:HOk P w H h) (e:H a=some (.dK kvs)):kvs.length<=sizeLine/\(a == sysModules)=false/\∃vs,KV kvs vs/\h.DictOf (cC P w) a vs:=xS ok (.inl e)
theorem AR {ks:List Key} (ok:HOk P w H h) (e:H a=some (.tup (ks.map kV))):(tupleKind (cC P w)).is h ks a:=by
 obtain⟨_,its,r,o,h1,h2,n,h3⟩:=(show ObjOk P w H h a (.tup (ks.map kV)) from ok a _ e)
 exact⟨o,its.toArray,n,h1,h2,h3,by simpa using uM r⟩
theorem xW {kvs:List (List Key × V)} (ok:HOk P w H h) (e:Rd H a (.dT kvs)):kvs.length<=sizeLine/\(a == sysModules)=false /\
  ∃xs,KT H kvs xs/\h.DictOfH (tupleKind (cC P w)) a xs:=by
 obtain⟨z,y,xs,r,o,es,ep,h1,h2,h3,h4,h5⟩:=(show ObjOk P w H h a (.dT kvs) from OJ ok e)
 refine⟨z,y,xs,r,o,es,ep,h1,h2,h3,h4,λx hx=>?_,h5⟩
 have all:∀{l:List (List Key × V)} {m:List (List Key × Addr × Value)},KT H l m->∀x∈m,(tupleKind (cC P w)).is h x.1 x.2.1:=by
  intro l m q
  induction q with
  | nil=>intro x hx;exact nomatch hx
  | @cons p q ps qs hq t ih =>
   intro x hx
   rcases List.mem_cons.mp hx with e | hx
   ·subst e
    exact AR ok (by rw[<-hq.1];exact hq.2.1)
   ·exact ih x hx
 exact all r x hx
theorem SC {kvs:List (List Key × V)} (ok:HOk P w H h) (e:H a=some (.dT kvs)):kvs.length<=sizeLine/\(a == sysModules)=false /\
  ∃xs,KT H kvs xs/\h.DictOfH (tupleKind (cC P w)) a xs:=xW ok (.inl e)
end
noncomputable def OL (H:Hp) (a:Addr) (y:V) (r:Option V):Prop :=
 (∃kvs k,Rd H a (.dK kvs)/\y=kV k/\r=gS kvs k)\/∃kvs k b,Rd H a (.dT kvs)/\y = .ref b/\H b=some (.tup (k.map kV))/\r=gS kvs k
noncomputable def DPut (H:Hp) (a:Addr) (y v:V) (H':Hp):Prop :=
 (∃kvs k,H a=some (.dK kvs)/\y=kV k/\kvs.length<sizeLine/\H'=upd H a (.dK (mO kvs k v))) \/
 ∃kvs k b,H a=some (.dT kvs)/\y = .ref b/\H b=some (.tup (k.map kV))/\kvs.length<sizeLine/\H'=upd H a (.dT (mO kvs k v))
theorem DPut.t {H:Hp} {a b:Addr} {kvs:List (List Key × V)} {k:List Key} {v:V} (e:H a=some (.dT kvs)) (eb:H b=some (.tup (k.map kV))) (hl:kvs.length<sizeLine) :
  DPut H a (.ref b) v (upd H a (.dT (mO kvs k v))):=.inr ⟨kvs,k,b,e,rfl,eb,hl,rfl⟩
section
variable {X:Cx} {pins:List (Addr × Obj)} {σ:St} {H:Hp} {s:Shared} {a:Addr} {y v:V} {u r:Value} {o:Option V} {A:Around} {E:Value->Shared->Prop}
theorem Inv.big (I:Inv X pins σ H s):sysModules<s.heap.objs.size:=by
 have h:mainGlobals<s.heap.objs.size:=(I.mod.glob.keeps I.bk).lt
 exact Nat.lt_trans (by decide) h
theorem EM {Q:Value->Shared->Prop} (hu:A.units+1<cLine) (I:Inv X pins σ H s) (g:OL H a y (some v)) (ry:RelV y u) (h:∀w' s',Inv X pins σ H s'->RelV v w'->Q w' s') :
  wpAny (model X.prog X.w) A (getItem (.ref a) u) Q E s:=by
 rcases g with ⟨kvs,k,e,ey,l⟩ | ⟨kvs,k,b,e,ey,eb,l⟩
 ·subst ey
  obtain⟨z,hd,vs,rel,dd⟩:=xS I.hok e
  obtain⟨w',hw,rw'⟩:=RelO.some_of (v:=v) (o:=valueAt vs k) (by rw[l];exact rel.val k)
  exact wpAny_getItem_of (CT ry) dd.mapOf hw (h w' _ (I.tok _) rw')
 ·subst ey
  cases (show u=Value.ref b from ry)
  obtain⟨z,hd,xs,rel,dd⟩:=xW I.hok e
  obtain⟨w',hw,rw'⟩:=RelO.some_of (v:=v) (o:=(atKey xs k).map (·.2)) (by rw[l];exact rel.val k)
  obtain⟨p,hp,hp2⟩:=Option.map_eq_some_iff.mp hw
  refine wpAny_getItem_heap (tupleKind_room_in1 hu) (AR I.hok eb) dd hp ?_
  rw[hp2]
  exact h w' _ (I.tok _) rw'
theorem vS {h':Heap} {t':Nat} {ob:HO} (I:Inv X pins σ H s) (mu:Mut (H a)) (hs:Heap.SameBut a s.heap h') (he:∃q,h'.get? a=some q) (new:ObjOk X.prog X.w (upd H a ob) h' a ob) :
  Inv X pins σ (upd H a ob) { s with heap:=h',toks:=t' } :=
 I.write (x:=a) (e:=a) mu (.inl rfl) (λb q hb z=>(hs.2 b hb).trans z) he new
theorem HS {P:Program} {w:World} {H':Hp} {h':Heap} {kvs:List (Key × V)} {vs:List (Key × Value)} (z:kvs.length<=sizeLine) (hd:(a == sysModules)=false) (rel:KV kvs vs) (dd:h'.DictOf (cC P w) a vs) :
  ObjOk P w H' h' a (.dK kvs):=⟨z,hd,vs,rel,dd⟩
theorem EN {H':Hp} {Q:Unit->Shared->Prop} (hu:A.units+1<cLine) (I:Inv X pins σ H s) (g:DPut H a y v H') (ry:RelV y u) (rv:RelV v r) (h:∀s',Inv X pins σ H' s'->Q () s') :
  wpAny (model X.prog X.w) A (setItem (.ref a) u r) Q E s:=by
 rcases g with ⟨kvs,k,e,ey,l,eH⟩ | ⟨kvs,k,b,e,ey,eb,l,eH⟩
 ·subst ey eH
  obtain⟨z,hd,vs,rel,dd⟩:=NS I.hok e
  have hz:vs.length<=sizeLine:=by rw[<-rel.length];exact z
  have hl:(mO kvs k v).length<=sizeLine:=by have:=pM kvs k v;omega
  refine wpAny_setItem_pairs (hsz:=hz) (CT ry) dd λh' dd' hs=>h _ ?_
  have he:∃q,h'.get? a=some q:=let ⟨q,_,_,hq,_⟩:=dd';⟨q,hq⟩
  exact vS I (by rw[e];exact True.intro) hs he (HS hl hd (rel.put k rv) dd')
 ·subst ey eH
  cases (show u=Value.ref b from ry)
  obtain⟨z,hd,xs,rel,dd⟩:=SC I.hok e
  have hz:xs.length<=sizeLine:=by rw[<-Paired.length rel];exact z
  have hl:(mO kvs k v).length<=sizeLine:=by have:=pM kvs k v;omega
  refine wpAny_setItem_heap (hsz:=hz) (tupleKind_room_in1 hu) (AR I.hok eb) dd λh' dd' hs=>h _ ?_
  obtain⟨q,es,ep,hq,h2,h3,h4,_,h5⟩:=dd'
  refine vS I (by rw[e];exact True.intro) hs ⟨q,hq⟩ ⟨hl,hd,_,(rel.put k eb rv).keeps λc ys ec=>?_,q,es,ep,hq,h2,h3,h4,h5⟩
  rw[aG (SQ ec e (λz=>nomatch z))]
  exact ec
end
section
variable {X:Cx} {pins:List (Addr × Obj)} {σ:St} {H:Hp} {s:Shared} {a:Addr} {kvs:List (Key × V)} {k:Key} {u:Value} {A:Around} {E:Value->Shared->Prop}
end
noncomputable def OM (i:Expr):Prop:=∀ov iv,subscripted i false ov iv=operate [ov,iv] (getItem ov iv)
theorem NI {prog:Program} {w:World} {A:Around} {E:Value->Shared->Prop} {s:Shared} {env:Env} {value slice:Expr} {pos:Pos} {T id:String} {Q:Value->Shared->Prop}
  (hl:typeLookup (.type T) "__getitem__" = pure (some (.builtin id))) (hs:OM slice)
  (h:wpAny (model prog w) A (eval value env) (λo s₁=>wpAny (model prog w) A (eval slice env) (λi s₂=>s₂.TypeIs o T/\wpAny (model prog w) A (getItem o i) Q E s₂) E s₁) E s) :
  wpAny (model prog w) A (eval (.Subscript value slice pos) env) Q E s:=by
 refine Subscript_ (wpAny_mono h (λo s₁ h₁=>wpAny_mono h₁ (λi s₂ h₂=>?_) λ_ _ x=>x) λ_ _ x=>x)
 obtain⟨hT,h₂⟩:=h₂
 unfold subscriptTail
 refine wpAny_bind ?_
 rw[getitemInPython_of_ne hT.not_modules]
 refine wpAny_bind (wpAny_specialOf hT hl ?_)
 have fin:wpAny (model prog w) A (subscripted slice false o i) (λr s₃=>wpAny (model prog w) A (letTemporaryGo value o r >>= λ_=>pure r) Q E s₃) E s₂:=by
  rw[hs o i]
  exact wpAny_operating (wpAny_mono h₂ (λr s₃ h₃=>wpAny_bind (wpAny_letTemporaryGo (wpAny_pure h₃))) λ_ _ x=>x)
 first
  | exact wpAny_pure (wpAny_bind fin)
  | exact wpAny_bind (wpAny_pure (wpAny_bind fin))
  | exact wpAny_bind fin
theorem xQ {X:Cx} {pins:List (Addr × Obj)} {σ:St} {H:Hp} {s:Shared} {a:Addr} {y:V} {o:Option V} (I:Inv X pins σ H s) (g:OL H a y o):s.TypeIs (.ref a) "dict":=by
 rcases g with ⟨kvs,k,e,_,_⟩ | ⟨kvs,k,b,e,_,_,_⟩
 ·obtain⟨_,_,vs,_,dd⟩:=xS I.hok e
  exact dd.typeIs
 ·obtain⟨_,_,xs,_,dd⟩:=xW I.hok e
  exact dd.typeIs
noncomputable def UB (td ty:TE):TE:=λσ H Q=>td σ H λx H1=>ty σ H1 λy H2=>∃a v,x = .ref a/\OL H2 a y (some v)/\Q v H2
noncomputable def TR (td ty tv:TE):TS:=λD σ H=>tv σ H λv H1=>td σ H1 λx H2=>ty σ H2 λy H3=>∃a H4,x = .ref a/\DPut H3 a y v H4/\D.nx σ H4
section
variable {X:Cx} {o i e value:Expr} {pos pos' tpos:Pos} {td ty tv:TE}
theorem MT (hu:X.A.units+1<cLine) (ho:PE X o td) (hi:PE X i ty) (hs:OM i):PE X (.Subscript o i pos) (UB td ty):=by
 intro pins s σ H Q I h
 refine NI PySem.F.slot_dict_getitem.lookup hs (thn (ho pins s σ H _ I h) λu s1 ⟨x,H1,I1,rx,q1⟩=>thn (hi pins s1 σ H1 _ I1 q1) λiv s2 ⟨y,H2,I2,ry,a,v,ex,g,q2⟩=>?_)
 subst ex
 obtain rfl:u=Value.ref a:=rx
 exact⟨xQ I2 g,EM hu I2 g ry λw' s3 I3 rw'=>⟨v,H2,I3,rw',q2⟩⟩
theorem MY (hu:X.A.units+1<cLine) (ho:PE X o td) (hi:PE X i ty) (hv:PE X value tv) (hs:swapsWith value (some (.Subscript o i pos')) pos.line X.env=pure false) :
  PS X (.Assign [.Subscript o i pos'] value pos) (TR td ty tv):=by
 intro pins s σ H D I h
 refine wpAny_Assign_Subscript (thn (hv pins s σ H _ I h) λr s1 ⟨v,H1,I1,rv,q1⟩=>thn (ho pins s1 σ H1 _ I1 q1) λu s2 ⟨x,H2,I2,rx,q2⟩=>thn (hi pins s2 σ H2 _ I2 q2) λiv s3 ⟨y,H3,I3,ry,a,H4,ex,g,q3⟩=>?_) hs
 subst ex
 obtain rfl:u=Value.ref a:=rx
 exact EN hu I3 g ry rv λs4 I4=>⟨σ,H4,I4,q3⟩
end
theorem HR {P:Program} {w:World} {H:Hp} (h:Heap) (hb:sysModules<h.objs.size):ObjOk P w H (h.push { cls:=.type "dict",data:=.dict #[] }) h.objs.size (.dK []) :=
 ⟨Nat.zero_le _,beq_eq_false_iff_ne.mpr (Ne.symm (Nat.ne_of_lt hb)),[],.nil,Heap.DictOf.new h⟩
theorem ID {P:Program} {w:World} {H:Hp} (h:Heap) (hb:sysModules<h.objs.size):ObjOk P w H (h.push { cls:=.type "dict",data:=.dict #[] }) h.objs.size (.dT []) :=
 ⟨Nat.zero_le _,beq_eq_false_iff_ne.mpr (Ne.symm (Nat.ne_of_lt hb)),[],.nil,_,#[],0,Heap.get?_push_size _ rfl,⟨rfl,rfl,rfl⟩,rfl,rfl,List.nodup_nil⟩
noncomputable def RF:TE:=λ_ H Q=>∀p,H p=none->Q (.ref p) (upd H p (.dK []))
noncomputable def RH:TE:=λ_ H Q=>∀p,H p=none->Q (.ref p) (upd H p (.dT []))
section
variable {X:Cx} {pos:Pos}
theorem JK:PE X (.Dict [] [] pos) RF:=λpins s σ H Q I h =>
 wpAny_Dict_empty ⟨.ref s.heap.objs.size,_,I.laid (a:=s.heap.objs.size) (o:=.dK []) (t':=s.toks) (λ_ _ q=>Heap.get?_push_of_some _ q) (Nat.le_refl _) (HR s.heap I.big),rfl,h _ (I.hok.fresh (Nat.le_refl _))⟩
theorem JL:PE X (.Dict [] [] pos) RH:=λpins s σ H Q I h =>
 wpAny_Dict_empty ⟨.ref s.heap.objs.size,_,I.laid (a:=s.heap.objs.size) (o:=.dT []) (t':=s.toks) (λ_ _ q=>Heap.get?_push_of_some _ q) (Nat.le_refl _) (ID s.heap I.big),rfl,h _ (I.hok.fresh (Nat.le_refl _))⟩
end
noncomputable abbrev VV:List (V × V)->List (Value × Value)->Prop:=Paired λp q=>RelV p.1 q.1/\RelV p.2 q.2
structure M1 (X:Cx) (o:Expr) (m:Str) (apos:Pos) (e:Expr) (cpos:Pos):Prop where
 base:attributeBase o m X.env (eval o X.env)=eval o X.env
 few:((backTo cpos (starEach [e] X.env)).all (λx=>!x.1) && (backToKw cpos (keywordEach [] X.env)).all (λx=>x.1.isSome)
  && decide (([e]:List Expr).length+([]:List Keyword).length+(if ([]:List Keyword).isEmpty then 0 else 1)<30))=true
 line:(apos.endLine == cpos.line)=true
 trees:backTo cpos (starEach [e] X.env)=[(false,eval e X.env)]
noncomputable def IsD (H:Hp) (a:Addr):Prop:=(∃kvs,Rd H a (.dK kvs))\/∃kvs,Rd H a (.dT kvs)
theorem UR {X:Cx} {pins:List (Addr × Obj)} {σ:St} {H:Hp} {s:Shared} {a:Addr} (I:Inv X pins σ H s) (d:IsD H a) :
  s.TypeIs (.ref a) "dict"/\(∀b,Value.ref a = .ref b->∃ob,s.heap.get? b=some ob/\ob.dict=none)/\(a == sysModules)=false:=by
 rcases d with ⟨kvs,e⟩ | ⟨kvs,e⟩
 ·obtain⟨_,hd,vs,_,dd⟩:=xS I.hok e
  refine⟨dd.typeIs,λb q=>?_,hd⟩
  cases q
  obtain⟨ob,_,_,h1,h2,_⟩:=dd
  exact⟨ob,h1,h2.2.1⟩
 ·obtain⟨_,hd,xs,_,dd⟩:=xW I.hok e
  refine⟨dd.typeIs,λb q=>?_,hd⟩
  cases q
  obtain⟨ob,_,_,h1,h2,_⟩:=dd
  exact⟨ob,h1,h2.2.1⟩
section
variable {X:Cx} {pins:List (Addr × Obj)} {σ:St} {H:Hp} {s:Shared} {a:Addr} {y d:V} {u r:Value} {o:Option V} {A:Around} {E:Value->Shared->Prop}
end
section
variable {X:Cx} {o e f:Expr} {apos cpos:Pos} {td ty tx:TE}
end
section
variable {X:Cx} {pins:List (Addr × Obj)} {σ:St} {H:Hp} {s:Shared} {a:Addr} {kvs:List (Key × V)} {A:Around} {E:Value->Shared->Prop}
end
section
variable {X:Cx} {pins:List (Addr × Obj)} {σ:St} {H:Hp} {s:Shared} {a:Addr} {y:V} {u:Value} {A:Around} {E:Value->Shared->Prop}
end
end L2
set_option Elab.async false
set_option linter.all false
set_option maxRecDepth 100000
namespace L2.R2
open PySem PySem.Spec PyProof.Rows L2
noncomputable def NC:V->List V->Hp->VK->Prop:=λx vs H Q=>∃a kvs k y,x = .ref a/\vs=[kV k,y]/\H a=some (.dK kvs)/\kvs.length<sizeLine /\
 (∀v,gS kvs k=some v->Q v H)/\(gS kvs k=none->Q y (upd H a (.dK (kvs++[(k,y)]))))
section
variable {X:Cx}
theorem FK:MtR X "dict.setdefault" NC:=by
 intro pins s σ H x vs v us Q I rx rv h
 obtain⟨a,kvs,k,y,rfl,rfl,hH,hz,h1,h2⟩:=h
 cases rx
 obtain⟨u,w,rfl,ru,rw'⟩:=rv.two
 obtain⟨z,hd,ws,rel,dd⟩:=NS I.hok hH
 have val:=rel.val k
 refine call_meetsIn PySem.F.slot_dict_setdefault dd.typeIs PySem.F.entry_dict_setdefault (PySem.F.args_dict_setdefault_3 _ _ _) (kt_meets_setdefault (cC X.prog X.w) a (CT ru) hd w)
  ⟨ws,dd,by rw[<-rel.length];exact z,λv hv=>?_,λhn h' dd' hs=>?_⟩
 ·rw[hv] at val
  cases e:gS kvs k with
  | none=>rw[e] at val;exact (show False from val).elim
  | some v'=>rw[e] at val;exact⟨v',H,I.tok _,val,h1 v' e⟩
 ·rw[hn] at val
  cases e:gS kvs k with
  | some _=>rw[e] at val;exact (show False from val).elim
  | none =>
   have he:∃q,h'.get? a=some q:=let ⟨q,_,_,hq,_⟩:=dd';⟨q,hq⟩
   have r2:=rel.put k rw'
   rw[JW y e] at r2
   exact⟨y,_,vS I (by rw[hH];exact True.intro) hs he (HS (by rw[List.length_append];exact hz) hd r2 dd'),rw',h2 e⟩
end
noncomputable def jS:List (Int × List D)->Int->List (Int × List D)
 | [],k=>[(k,[])]
 | (k',ds)::r,k=>if k'=k then (k',ds)::r else (k',ds)::jS r k
noncomputable def fO:List (Int × List D)->Int->D->List (Int × List D)
 | [],k,d=>[(k,[d])]
 | (k',ds)::r,k,d=>if k'=k then (k',ds++[d])::r else (k',ds)::fO r k d
section
variable {K:PySem.W.Frag} {H₀ H H':Hp} {kvs:List (Int × List D)} {kws:List (Key × V)} {as:List Addr} {k:Int}
theorem BE {v:V} (t:Dcl K H₀ H kvs kws as) (e:gS kws (Sum.inl k)=some v):jS kvs k=kvs:=by
 induction t with
 | nil=>cases e
 | @cons k' b vs ds kvs kws as h h0 r n t ih =>
  unfold jS
  by_cases hk:k'=k
  ·rw[if_pos hk]
  ·rw[if_neg hk,ih (by rw[fB (λz=>hk (by cases z;rfl))] at e;exact e)]
theorem Dcl.there {v:V} (t:Dcl K H₀ H kvs kws as) (e:gS kws (Sum.inl k)=some v):∃b vs ds,v = .ref b/\b∈as/\H b=some (.lst vs)/\Reps K H ds vs/\(∃p∈kvs,p.2=ds) /\
  ∀(H':Hp) (d:D) (w:V),Keep H H'->H' b=some (.lst (vs++[w]))->(∀a o,a∈as->a≠b->H a=some o->H' a=some o)->Rep K H' d w->Dcl K H₀ H' (fO kvs k d) kws as:=by
 induction t with
 | nil=>cases e
 | @cons k' b vs ds kvs kws as h h0 r n t ih =>
  by_cases hk:k'=k
  ·subst hk
   rw[fU rfl] at e
   cases e
   refine⟨b,vs,ds,rfl,.head _,h,r,⟨_,.head _,rfl⟩,λH' d w kp hb ho rd=>?_⟩
   unfold fO
   rw[if_pos rfl]
   exact .cons hb h0 ((r.keep kp).append (.cons rd .nil)) n (t.keep kp λa m o e=>ho a o (.tail _ m) (by rintro rfl;exact n m) e)
  ·rw[fB (λz=>hk (by cases z;rfl))] at e
   obtain⟨c,us,es,e1,m,g1,g2,⟨p,pm,pe⟩,g3⟩:=ih e
   refine⟨c,us,es,e1,.tail _ m,g1,g2,⟨p,.tail _ pm,pe⟩,λH' d w kp hb ho rd=>?_⟩
   unfold fO
   rw[if_neg hk]
   exact .cons (ho b _ (.head _) (by rintro rfl;exact n m) h) h0 (r.keep kp) n (g3 H' d w kp hb (λa o q=>ho a o (.tail _ q)) rd)
theorem Dcl.fresh {p:Addr} (t:Dcl K H₀ H kvs kws as) (e:gS kws (Sum.inl k)=none) (kp:Keep H H') (ho:∀a o,a∈as->H a=some o->H' a=some o) (hp:H' p=some (.lst [])) (h0:H₀ p=none) (np:p ∉ as) :
  Dcl K H₀ H' (jS kvs k) (kws++[(Sum.inl k,.ref p)]) (as++[p]):=by
 induction t with
 | nil=>exact .cons hp h0 .nil (by simp) .nil
 | @cons k' b vs ds kvs kws as h h1 r n t ih =>
  have hk:¬k'=k:=λz=>by rw[fU (by rw[z])] at e;cases e
  rw[fB (λz=>hk (by cases z;rfl))] at e
  unfold jS
  rw[if_neg hk]
  rw[List.mem_cons,not_or] at np
  exact .cons (ho b _ (.head _) h) h1 (r.keep kp) (λz=>(List.mem_append.mp (show b∈as++[p] from z)).elim n λz=>np.1 (List.mem_singleton.mp z).symm) (ih e (λa o q=>ho a o (.tail _ q)) np.2)
theorem GQ {p:V} (t:Dcl K H₀ H kvs kws as) (e:gS kws (Sum.inl k)=none):gS (kws++[(Sum.inl k,p)]) (Sum.inl k)=some p:=by
 induction t with
 | nil=>exact fU rfl
 | @cons k' b vs ds kvs kws as h h1 r n t ih =>
  have hk:¬(Sum.inl k':Key)=Sum.inl k:=λz=>by rw[fU z] at e;cases e
  rw[fB hk] at e
  rw[List.cons_append,fB hk]
  exact ih e
theorem JX:∀(kvs:List (Int × List D)) (k:Int) (d:D),fO (jS kvs k) k d=fO kvs k d
 | [],k,d=>by simp[jS,fO]
 | (k',ds)::r,k,d=>by
  unfold jS
  by_cases hk:k'=k
  ·rw[if_pos hk]
  ·rw[if_neg hk];simp only[fO,if_neg hk];rw[JX r k d]
theorem yZ:∀(kvs:List (Int × List D)) (k:Int) {p:Int × List D},p∈jS kvs k->p∈kvs\/p.2=[]
 | [],k,p,h=>by rw[jS,List.mem_singleton] at h;subst h;exact .inr rfl
 | (k',ds)::r,k,p,h=>by
  unfold jS at h
  by_cases hk:k'=k
  ·rw[if_pos hk] at h;exact .inl h
  ·rw[if_neg hk] at h
   rcases List.mem_cons.mp h with h | h
   ·exact .inl (h ▸ .head _)
   ·exact (yZ r k h).imp (.tail _) id
theorem Dcl.len (t:Dcl K H₀ H kvs kws as):kvs.length=kws.length:=by
 induction t with
 | nil=>rfl
 | cons _ _ _ _ _ ih=>simp[ih]
end
section
variable {X:Cx} {e k:Expr} {pos pos' p apos cpos npos spos dpos lpos:Pos} {te tk:RE} {x:Str}
noncomputable def zB (i:Nat):RS:=λE ρ=>E.nx (ρ.set i (some (.dcl [])))
theorem LP {i:Nat} (hN:X.N.Nodup) (hi:X.N[i]? = some x:=by rfl) (hx:Loc X.env.scope x:=by walk_at "vis") (hs:swapsWith (.Dict [] [] p) (some (.Name x pos')) pos.line X.env=pure false:=by rfl)
  (hf:X.fn x=true\/X.env.scope.names.lookup x=some .local:=by walk_at "loc"):DS X (.Assign [.Name x pos'] (.Dict [] [] p) pos) (zB i) :=
 PS.mono (wI hN hi hx JK hs hf) λDe σ H hh=>dM hh λρ E st q n r b c=>λa ha=>by
  have sm:Same H (upd H a (.dK [])):=Same.fn λb o h=>by rw[aG (aK h ha)];exact h
  refine n _ _ _ q (.of sm) (st.put sm ⟨a,[],[],rfl,aU,st.same.free ha,.nil⟩ λc o=>?_)
  obtain⟨p,kws,e1,e2,e3⟩:=o
  cases e1
  rw[aU] at e2;cases e2
  rcases e3 with rfl | ⟨_,z⟩
  ·exact ha
  ·cases z
noncomputable def zA (i:Nat) (tk te:RE):RS:=λE ρ=>match ρ[i]? with
 | some (some (.dcl kvs))=>tk ρ λkd=>match kd with
  | .int k=>Sz (kvs.length+1)/\te (ρ.set i (some (.dcl (jS kvs k)))) λd=>(∀p∈kvs,Sz (p.2.length+1))/\E.nx (ρ.set i (some (.dcl (fO kvs k d))))
  | _=>False
 | _=>False
theorem LO (i:Nat) (hk:DE X k tk) (he:DE X e te) (hN:X.N[i]? = some x:=by rfl) (hv:Vis X.env.scope x:=by walk_at "vis") (hd:(x == ("__debug__":Str))=false:=by decide) (hcd:(x == ("__classdict__":Str))=false:=by decide)
  (hbase:attributeBase (.Name x npos) "setdefault" X.env (eval (.Name x npos) X.env)=eval (.Name x npos) X.env:=by rfl)
  (hfew:((backTo dpos (starEach [k,.List [] lpos] X.env)).all (λx=>!x.1) && (backToKw dpos (keywordEach [] X.env)).all (λx=>x.1.isSome) && decide (([k,.List [] lpos]:List Expr).length+([]:List Keyword).length+(if ([]:List Keyword).isEmpty then 0 else 1)<30))=true:=by rfl)
  (hline:(spos.endLine == dpos.line)=true:=by rfl) (hs1:starEach [k,.List [] lpos] X.env=(false,eval k X.env)::starEach [.List [] lpos] X.env:=by rfl) (hs2:starEach [.List [] lpos] X.env=(false,eval (.List [] lpos) X.env)::starEach [] X.env:=by rfl)
  (hpl:(backTo dpos (starEach [.List [] lpos] X.env)).any (·.1)=false:=by rfl)
  (hbase':attributeBase (.Call (.Attribute (.Name x npos) "setdefault" spos) [k,.List [] lpos] [] dpos) "append" X.env (eval (.Call (.Attribute (.Name x npos) "setdefault" spos) [k,.List [] lpos] [] dpos) X.env)=eval (.Call (.Attribute (.Name x npos) "setdefault" spos) [k,.List [] lpos] [] dpos) X.env:=by rfl)
  (hfew':((backTo cpos (starEach [e] X.env)).all (λx=>!x.1) && (backToKw cpos (keywordEach [] X.env)).all (λx=>x.1.isSome) && decide (([e]:List Expr).length+([]:List Keyword).length+(if ([]:List Keyword).isEmpty then 0 else 1)<30))=true:=by rfl)
  (hline':(apos.endLine == cpos.line)=true:=by rfl) (hs:starEach [e] X.env=[(false,eval e X.env)]:=by rfl) (hn:starEach [] X.env=[]:=by rfl)
  (hsw:swapsWith (.Call (.Attribute (.Call (.Attribute (.Name x npos) "setdefault" spos) [k,.List [] lpos] [] dpos) "append" apos) [e] [] cpos) none pos.line X.env=pure false:=by rfl) :
  DS X (.Expr (.Call (.Attribute (.Call (.Attribute (.Name x npos) "setdefault" spos) [k,.List [] lpos] [] dpos) "append" apos) [e] [] cpos) pos) (zA i tk te):=by
 have inner:=CZ (apos:=spos) (cpos:=dpos) PySem.F.plainAttrs_dict PySem.F.slot_dict_setdefault PySem.F.type_dict_setdefault FK (pv (pos:=npos) i hN hv hd hcd) (gY hk (gY (JM (pos:=lpos) oU) oU hs2) hs1) hbase hfew hline hs1 hpl
 refine PS.mono (wH (CZ PySem.F.plainAttrs_list PySem.F.slot_list_append PySem.F.type_list_append uO inner (gL he hs hn) hbase' hfew' hline' (by rw[hs,hn]) (by rw[hn];rfl)) hsw) λDe σ H hh=>dM hh λρ E so q n r bk ct=>?_
 unfold zA at q
 split at q
 ·rename_i kvs ex
  obtain⟨v,h1,a,kws,as,ev,ha,h0,t⟩:=so.rel i _ ex
  subst ev
  refine⟨.ref a,h1,.inr (.inr (.inl ⟨rfl,.inl ⟨kws,ha⟩⟩)),ρ,_,so,q,λkd kv H1 hkd s1 rk=>?_⟩
  cases kd with
  | int k =>
   obtain⟨z1,q1⟩:=hkd
   have z1:kvs.length+1<=sizeLine:=z1.ok
   rw[rk.int_inv]
   have so1:=so.ext s1
   have ha1:=s1.get _ _ ha trivial
   have t1:Dcl X.K X.H₀ H1 kvs kws as:=t.same s1
   refine⟨Nat.zero_le _,λp hp=>?_⟩
   have sm2:Same H1 (upd H1 p (.lst [])):=Same.fn λb o h=>by rw[aG (aK h hp)];exact h
   have kl:=t1.len
   have go:∀(b:Addr) (H2:Hp) (kws2:List (Key × V)),StOk X (ρ.set i (some (.dcl (jS kvs k)))) σ H2->H2 a=some (.dK kws2)->gS kws2 (Sum.inl k)=some (.ref b)->Keep H H2 ->
     tyV X.K "list" (.ref b) H2/\IZ X te σ H2 λw H3=>DF (.ref b) [w] H3 λ_ H4=>De.nx σ H4:=λb H2 kws2 so2 ha2 hv2 kp2=>by
    have e2:(ρ.set i (some (.dcl (jS kvs k))))[i]? = some (some (.dcl (jS kvs k))):=List.getElem?_set_self (List.getElem?_eq_some_iff.mp ex).1
    obtain⟨v2,g1,a',kws',as2,ev2,ha',g0,t2⟩:=so2.rel i _ e2
    rw[h1] at g1;cases g1;cases ev2
    rw[ha2] at ha';cases ha'
    obtain⟨b',us,ds',eb,_,hb,_,_,_⟩:=t2.there hv2
    cases eb
    refine⟨.inl ⟨rfl,us,SqL.of hb⟩,_,_,so2,q1,λd w H3 ⟨z2,hd⟩ s3 rd=>?_⟩
    have t3:Dcl X.K X.H₀ H3 (jS kvs k) kws2 as2:=t2.same s3
    obtain⟨b',us3,ds3,eb,mb,hb3,rb3,⟨pp,pm,pe⟩,fin⟩:=t3.there hv2
    cases eb
    have ha3:=s3.get _ _ ha2 trivial
    have ne:a≠b:=by rintro rfl;rw[ha3] at hb3;cases hb3
    have sz:us3.length<sizeLine:=by
     rw[<-rb3.length,<-pe]
     rcases yZ kvs k pm with h | h
     ·exact (z2 pp h).ok
     ·rw[h];exact Nat.lt_of_lt_of_le (Nat.succ_pos _) z1
    refine⟨b,us3,w,rfl,rfl,hb3,sz,?_⟩
    have kpU:Keep H3 (upd H3 b (.lst (us3++[w]))):=Keep.chg1 hb3 (.inl ⟨_,rfl⟩)
    have ow:∀c,Ow H3 (.dcl (jS kvs k)) (.ref a) c↔(c=a\/∃k,(k,V.ref c)∈kws2):=λc=>⟨λ⟨p',kw',e1,e2,e3⟩=>by cases e1;rw[ha3] at e2;cases e2;exact e3,λh=>⟨a,kws2,rfl,ha3,h⟩⟩
    have haU:upd H3 b (.lst (us3++[w])) a=some (.dK kws2):=by rw[aG ne];exact ha3
    obtain⟨so4,k4⟩:=(so2.ext s3).updW (x':=.dcl (fO kvs k d)) (v':=.ref a) e2 h1 (H':=upd H3 b (.lst (us3++[w])))
     (λc o h w'=>by rw[aG (by rintro rfl;exact w' ((ow _).mpr (.inr (t3.mem.mp mb))))];exact h)
     ⟨a,kws2,as2,rfl,haU,h0,by
      rw[<-JX]
      exact fin _ d w kpU aU (λc o _ nc h=>by rw[aG nc];exact h) (rd.keep kpU)⟩
     (λc o=>.inl ((ow c).mpr (by
      obtain⟨p',kw',e1,e2,e3⟩:=o
      cases e1;rw[haU] at e2;cases e2;exact e3)))
    rw[cK h1,List.set_set] at so4
    exact n _ _ _ hd ((kp2.trans (.of s3)).trans k4) so4
   refine⟨a,kws,Sum.inl k,.ref p,rfl,rfl,sm2.get _ _ ha1 trivial,by omega,λv hv=>?_,λhv=>?_⟩
   ·obtain⟨b,_,_,eb,_⟩:=t1.there hv
    subst eb
    refine go b _ kws ?_ (sm2.get _ _ ha1 trivial) hv (.of (s1.trans sm2))
    rw[BE t1 hv,cK ex]
    exact so1.ext sm2
   ·have pa:p≠a:=by rintro rfl;rw[hp] at ha1;cases ha1
    have np:p ∉ as:=λm=>by obtain⟨_,us,q'⟩:=t1.at m;rw[hp] at q';cases q'
    have ow:∀c,Ow H1 (.dcl kvs) (.ref a) c↔(c=a\/∃k,(k,V.ref c)∈kws):=λc=>⟨λ⟨p',kw',e1,e2,e3⟩=>by cases e1;rw[ha1] at e2;cases e2;exact e3,λh=>⟨a,kws,rfl,ha1,h⟩⟩
    have st1:∀c o,c≠a->H1 c=some o->upd (upd H1 p (.lst [])) a (.dK (kws++[(Sum.inl k,.ref p)])) c=some o:=λc o nc h=>by rw[aG nc,aG (aK h hp)];exact h
    have kpU:Keep H1 (upd (upd H1 p (.lst [])) a (.dK (kws++[(Sum.inl k,.ref p)]))):=(Keep.of sm2).trans (Keep.chg1 (sm2.get _ _ ha1 trivial) (.inr (.inl ⟨_,rfl⟩)))
    obtain⟨so2,k2⟩:=so1.updW (x':=.dcl (jS kvs k)) (v':=.ref a) ex h1 (H':=upd (upd H1 p (.lst [])) a (.dK (kws++[(Sum.inl k,.ref p)])))
     (λc o h w'=>st1 c o (by rintro rfl;exact w' ((ow _).mpr (.inl rfl))) h)
     ⟨a,_,_,rfl,aU,h0,t1.fresh hv kpU (λc o m h=>st1 c o (by rintro rfl;obtain⟨_,us,q'⟩:=t1.at m;rw[ha1] at q';cases q') h) (by rw[aG pa];exact aU) (so1.same.free hp) np⟩
     (λc o=>by
      obtain⟨p',kw',e1,e2,e3⟩:=o
      cases e1;rw[aU] at e2;cases e2
      rcases e3 with rfl | ⟨k',m⟩
      ·exact .inl ((ow _).mpr (.inl rfl))
      ·rcases List.mem_append.mp m with m | m
       ·exact .inl ((ow _).mpr (.inr ⟨k',m⟩))
       ·rw[List.mem_singleton] at m;cases m;exact .inr hp)
    rw[cK h1] at so2
    exact go p _ _ so2 aU (GQ t1 hv) ((Keep.of s1).trans k2)
  | _=>exact hkd.elim
 ·exact q.elim
noncomputable def lK:List Int->List D->Int->Option D
 | k'::ks,d::ds,k=>if k'=k then some d else lK ks ds k
 | _,_,_=>none
noncomputable def LI:R22:=λx y Q=>match x,y with
 | .dct ks ds,.int k=>∃d,lK ks ds k=some d/\Q d
 | _,_=>False
theorem HM {K:PySem.W.Frag} {H:Hp} {k:Int}:∀{ks:List Int} {ds:List D} {vs:List V} {d:D},Reps K H ds vs->lK ks ds k=some d->∃v,gS (pL ks vs) (Sum.inl k)=some v/\Rep K H d v
 | [],_,_,_,_,e=>by simp[lK] at e
 | k'::ks,_,_,_,.nil,e=>by simp[lK] at e
 | k'::ks,_,_,d,.cons (v:=v) (vs:=vs) h t,e=>by
  unfold lK at e
  by_cases hk:k'=k
  ·rw[if_pos hk] at e;cases e
   exact⟨v,fU (by rw[hk]),h⟩
  ·rw[if_neg hk] at e
   obtain⟨u,g1,g2⟩:=HM t e
   exact⟨u,by show gS ((Sum.inl k',v)::pL ks vs) _=_;rw[fB (λz=>hk (by cases z;rfl))];exact g1,g2⟩
theorem OU {kk:Nat} {a b:Expr} {ta tb:RE} (hr:Room kk X.A) (ha:DE X a ta) (hb:DE X b tb) (hs:OM b:=by intro _ _;rfl):DE X (.Subscript a b pos) (r2 LI ta tb):=by
 refine PE.mono (MT (by have:=hr.un;omega) ha hb hs) λσ H Q h=>?_
 obtain⟨ρ,P,st,ht,hP⟩:=h
 refine⟨ρ,_,st,ht,λx v H1 h1 s1 r1=>⟨ρ,_,st.ext s1,h1,λy u H2 h2 s2 r2=>?_⟩⟩
 unfold LI at h2
 split at h2
 ·rename_i ks ds k
  obtain⟨d,e,h2⟩:=h2
  rw[r2.int_inv]
  have r1':=Rep.keep (.of s2) r1
  cases r1' with
  | @dct a vs _ _ o hh hl rr =>
   obtain⟨w,g1,g2⟩:=HM rr e
   exact⟨a,w,rfl,.inl ⟨_,Sum.inl k,.inr ⟨o,hh⟩,rfl,g1.symm⟩,hP d w H2 h2 (s1.trans s2) g2⟩
 ·exact h2.elim
end
end L2.R2
set_option Elab.async false
set_option linter.all false
set_option maxRecDepth 100000
set_option maxHeartbeats 1000000
namespace L2.R2
open PySem PySem.Spec PyProof.Rows L2 PySem.W
theorem iZ:∀{ns:List Int} {us:List Value},IntsAre us ns->Vals (ns.map V.int) us
 | [],[],_=>.nil
 | n::ns,u::us,h=>by
  cases h with
  | cons _ t h=>exact .cons ⟨_,rfl⟩ (iZ h)
theorem FA (ks:List Int) (vs:List V):(pL ks vs).length=min ks.length vs.length:=List.length_zipWith
theorem vF {P:Program} {w:World}:∀(ks:List Int) (vs:List V) (ws:List (Key × Value)),ks.length=vs.length->KV (pL ks vs) ws->∀us:List Value,us.length=ks.length ->
  (∀(j:Nat) (v:Value),us[j]? = some v->∃k x,ws[j]? = some (k,x)/\(cC P w).is k v=true)->Vals (ks.map V.int) us
 | [],_,_,_,_,us,h,_=>by rw[List.length_eq_zero_iff.mp h];exact .nil
 | k::ks,[],_,h,_,_,_,_=>by cases h
 | k::ks,v::vs,ws,hl,r,us,h,q=>by
  cases us with
  | nil=>cases h
  | cons u us =>
   cases r with
   | @cons _ b _ bs h1 t =>
    refine .cons ?_ (vF ks vs bs (by simpa using hl) t us (by simpa using h) λj v e=>q (j+1) v (by simpa using e))
    obtain⟨k',x,e,i⟩:=q 0 u rfl
    cases e
    rw[<-show (Sum.inl k:Key)=k' from h1.1] at i
    rcases bX (show rT (Sum.inl k) u=true from i) with ⟨i',t',e1,e2⟩ | ⟨y,t',e1,e2⟩
    ·cases e1;exact⟨t',e2⟩
    ·cases e1
noncomputable def sO (te:RE):RA:=λρ Q=>te ρ λx=>∃ns:List Int,x = .lst (ns.map .int)/\ns.length<64/\∀ms:List Int,ms.Perm ns->ms.Pairwise (·<=·)->Q (ms.map .int)
noncomputable def wO (te:RE):RA:=λρ Q=>te ρ λx=>∃nss:List (List Int),x = .lst (nss.map cR)/\nss.length<64/\(∀ns∈nss,ns≠[])/\∀mss:List (List Int),mss.Perm nss->mss.Pairwise (λx y=>dN y x=false)->Q (mss.map cR)
noncomputable def BG (te:RE):RA:=λρ Q=>te ρ λx=>∃(ks:List Int) (ds:List D),x = .dct ks ds/\ks.length=ds.length/\Q (ks.map .int)
section
variable {X:Cx} {e:Expr} {te:RE} {p pos:Pos}
theorem xT (hms:X.mg "sorted" = none) (h:DB X e te) (hgs:Gl X "sorted":=by rfl) (hs:starEach [e] X.env=[(false,eval e X.env)]:=by rfl) (hn:starEach [] X.env=[]:=by rfl) :
  DO X (.Call (.Name "sorted" p) [e] [] pos) (sO te):=by
 intro pins s σ H Q I hh_0
 obtain⟨ρ,P,st,q,kq⟩:=hh_0
 refine wpAny_Call_Name_kw (dZ I hgs hms jU ?_)
 refine PyProof.Rows.callWith_builtin1 (thn (gL h hs hn pos pins s σ H (λvs H1=>∃(ns:List Int) (v:V),vs=[v]/\Same H H1/\RepB X.K H1 (.lst (ns.map .int)) v/\ns.length<64/\∀ms:List Int,ms.Perm ns->ms.Pairwise (·<=·)->P (ms.map .int)) I
  ⟨ρ,_,st,q,λx v H1 hx s1 r1=>?_⟩) λus s1 ⟨vs,H1,I1,r1,q1⟩=>?_) (by rw[hs,hn]) (by rw[hn];rfl)
 ·obtain⟨ns,rfl,a1,a2⟩:=hx
  exact⟨ns,v,rfl,s1,r1,a1,a2⟩
 obtain⟨ns,v,rfl,s01,rb,h64,hP⟩:=q1
 obtain⟨l,vs,rfl,hq,rr⟩:=rb.lst
 obtain⟨u,rfl,rx⟩:=lU r1
 cases rx
 obtain⟨its,rv,pl,hz⟩:=I1.list hq
 have l2:=rv.length
 rw[rr.ints_inv] at rv l2
 rw[List.length_map] at l2
 refine sorted_ints pl.isList (AO rv) (by omega) λout ms a1 a2 a3=>?_
 obtain⟨c,he⟩:=sortedAll_at s1.heap its out
 have VV:=iZ a1
 have lw:ms.length=ns.length:=a2.length_eq
 have I4:=I1.laid (a:=s1.heap.objs.size+1) (o:=.lst (ms.map V.int)) (h':=sortedAll s1.heap its out) (t':=s1.toks) (λb o=>sortedAll_old) (Nat.le_succ _) ⟨by rw[List.length_map,sizeLine_eq];omega,out.toList,c,VV,by simpa using he⟩
 exact⟨.ref (s1.heap.objs.size+1),_,I4,rfl,kq _ _ _ H1 (hP ms a2 a3) s01 (I1.hok.fresh (Nat.le_succ _)) Reps.ints⟩
theorem HZ (hms:X.mg "sorted" = none) (h:DB X e te) (hgs:Gl X "sorted":=by rfl) (hs:starEach [e] X.env=[(false,eval e X.env)]:=by rfl) (hn:starEach [] X.env=[]:=by rfl) :
  DO X (.Call (.Name "sorted" p) [e] [] pos) (wO te):=by
 intro pins s σ H Q I hh_0
 obtain⟨ρ,P,st,q,kq⟩:=hh_0
 refine wpAny_Call_Name_kw (dZ I hgs hms jU ?_)
 refine PyProof.Rows.callWith_builtin1 (thn (gL h hs hn pos pins s σ H (λvs H1=>∃(nss:List (List Int)) (v:V),vs=[v]/\Same H H1/\RepB X.K H1 (.lst (nss.map cR)) v/\nss.length<64/\(∀ns∈nss,ns≠[])/\∀mss:List (List Int),mss.Perm nss->mss.Pairwise (λx y=>dN y x=false)->P (mss.map cR)) I
  ⟨ρ,_,st,q,λx v H1 hx s1 r1=>?_⟩) λus s1 ⟨vs,H1,I1,r1,q1⟩=>?_) (by rw[hs,hn]) (by rw[hn];rfl)
 ·obtain⟨nss,rfl,a1,a2,a3⟩:=hx
  exact⟨nss,v,rfl,s1,r1,a1,a2,a3⟩
 obtain⟨nss,v,rfl,s01,rb,h64,hne,hP⟩:=q1
 obtain⟨l,vs,rfl,hq,rr⟩:=rb.lst
 obtain⟨u,rfl,rx⟩:=lU r1
 cases rx
 obtain⟨its,rv,pl,hz⟩:=I1.list hq
 have l1:=rr.length
 have l2:=rv.length
 rw[List.length_map] at l1
 have each:∀(i:Nat) (u:Value),its[i]? = some u->∃ns a,nss[i]? = some ns/\vs[i]? = some (.ref a)/\u = .ref a/\H1 a=some (.tup (ns.map V.int))/\IsTupleKey (intKind X.prog X.w) s1.heap ns a:=λi u e=>by
  have hi:i<nss.length:=by have:=(List.getElem?_eq_some_iff.mp e).1;omega
  obtain⟨v,e1,e2⟩:=rr.get (i:=i) (d:=cR nss[i]) (by rw[List.getElem?_map,List.getElem?_eq_getElem hi];rfl)
  obtain⟨a,rfl,ha⟩:=Reps.tupI_inv e2
  obtain⟨u',f1,f2⟩:=rv.get e1
  rw[e] at f1;cases f1
  cases f2
  obtain⟨ts,g1,g2,_⟩:=I1.tuple (SqT.of (K:=X.K) ha)
  obtain⟨o,go,gc,n,gd⟩:=g2
  exact⟨_,a,List.getElem?_eq_getElem hi,e1,rfl,ha,o,ts.toArray,n,go,gc,gd,by simpa using rQ g1⟩
 refine Calls.call_function_entry kind_sorted plain_sorted entry_sorted (args_sorted1 _) ?_
 unfold Builtin.«sorted»
 refine wpAny_bind (m:=checkCount "sorted" 1 1 _) (wpAny_pure ?_)
 apply wpAny_bind;refine collect_list pl.isList ?_ (by rw[sizeLine_eq];omega)
 apply wpAny_bind;refine wpAny_newList ?_ (by rw[sizeLine_eq];omega)
 generalize hh1:(s1.heap.push (seqObj "list" #[] 0)).update s1.heap.objs.size (Obj.mapSeq (· ++ its.toArray))=h1
 have k1:∀b o,s1.heap.get? b=some o->h1.get? b=some o:=λb o e=>by rw[<-hh1,Heap.get?_update_ne _ _ _ _ (Nat.ne_of_lt (Heap.lt_size e))];exact Heap.get?_push_of_some _ e
 have big:s1.heap.objs.size<=h1.objs.size:=by rw[<-hh1,Heap.size_update,size_push'];exact Nat.le_succ _
 show wpAny _ _ _ _ _ { s1 with heap:=h1.push (seqObj "list" its.toArray 0) }
 have hL:(h1.push (seqObj "list" its.toArray 0)).get? h1.objs.size=some (seqObj "list" its.toArray 0):=Heap.get?_push_size _ rfl
 have k2:∀b o,s1.heap.get? b=some o->(h1.push (seqObj "list" its.toArray 0)).get? b=some o:=λb o e=>Heap.get?_push_of_some _ (k1 b o e)
 generalize h1.push (seqObj "list" its.toArray 0)=h2 at hL k2
 have KA:KeysAt X.prog X.w h2 its nss:=by
  refine⟨by omega,λi v e=>?_⟩
  obtain⟨ns,a,n1,n2,n3,_,o,jts,m,g1,g2⟩:=each i v e
  have:nss.getD i []=ns:=by rw[List.getD_eq_getElem?_getD,n1];rfl
  rw[this]
  exact⟨a,n3,o,jts,m,k2 _ _ g1,g2⟩
 refine wpAny_bind (wpAny_holding (wpAny_call_entry slot_list_sort ⟨_,hL,rfl⟩ entry_list_sort ?body (args_list_sort _)))
 case body =>
  refine GK (s:={ s1 with heap:=h2 }) hL KA hne (by omega) λh3 out mss c g1 g2 g3 g4 g5 g6=>?_
  have kp:∀b o,s1.heap.get? b=some o->h3.get? b=some o:=λb o e=>g6 b o (Nat.ne_of_lt (Nat.lt_of_lt_of_le (Heap.lt_size e) big)) (k2 b o e)
  obtain⟨ws,VV,RR⟩:=zF (K:=X.K) (H:=H1) out mss g2.1 λi v e=>by
   obtain⟨j,hj,ej⟩:=List.getElem_of_mem (g3 v (List.mem_of_getElem? e))
   obtain⟨ns,a,n1,n2,n3,ha,hk⟩:=each j v (by rw[List.getElem?_eq_getElem hj,ej])
   obtain⟨b,eb,hb⟩:=g2.2 i v e
   rw[n3] at eb;cases eb
   refine⟨a,n3,?_⟩
   have hk3:IsTupleKey (intKind X.prog X.w) h3 ns a:=by obtain⟨o,jts,n,q1,q2⟩:=hk;exact⟨o,jts,n,kp _ _ q1,q2⟩
   rw[hb.inj hk3]
   exact ha
  have lw:=VV.length
  have lo:out.length<64:=by rw[g2.1,g4.length_eq];exact h64
  have I4:=I1.laid (a:=h1.objs.size) (o:=.lst ws) (h':=h3) (t':=s1.toks) kp big ⟨by rw[sizeLine_eq];omega,out,c,VV,g1⟩
  exact⟨_,rfl,wpAny_pure ⟨_,rfl,.ref h1.objs.size,_,I4,rfl,kq _ _ _ H1 (hP mss g4 g5) s01 (I1.hok.fresh big) RR⟩⟩
theorem HY (hml:X.mg "list" = none) (hc:X.calm=true) (h:DE X e te) (hgl:Gl X "list":=by rfl) (hs:starEach [e] X.env=[(false,eval e X.env)]:=by rfl) (hn:starEach [] X.env=[]:=by rfl) :
  DO X (.Call (.Name "list" p) [e] [] pos) (BG te):=by
 intro pins s σ H Q I hh_0
 obtain⟨ρ,P,st,q,kq⟩:=hh_0
 refine wpAny_Call_Name_kw (dZ I hgl hml oC ?_)
 refine PyProof.Rows.callWith_type1 (thn (gL h hs hn pos pins s σ H (λvs H1=>∃(ks:List Int) (ds:List D) (v:V),vs=[v]/\Same H H1/\Rep X.K H1 (.dct ks ds) v/\P (ks.map .int)) I
  ⟨ρ,_,st,q,λx v H1 hx s1 r1=>?_⟩) λus s1 ⟨vs,H1,I1,r1,q1⟩=>?_) (by rw[hs,hn]) (by rw[hn];rfl)
 ·obtain⟨ks,ds,rfl,a1,a2⟩:=hx
  exact⟨ks,ds,v,rfl,s1,r1,a2⟩
 obtain⟨ks,ds,v,rfl,s01,rd,hP⟩:=q1
 obtain⟨u,rfl,rx⟩:=lU r1
 cases rd with
 | @dct a vs _ _ o ha hl rr =>
  cases rx
  obtain⟨z,hd,ws,rel,dd⟩:=xS I1.hok (.inr ⟨o,ha⟩)
  have le:=rel.length
  obtain⟨ep,da⟩:=dd.dictAt
  refine kdl_call (kdl_dict (knd:=cC X.prog X.w) (kvs:=ws) (ep:=ep) hd) (I1.ok.hd hc) da (by rw[<-le];exact z) λh' tk acc c kp g1 it=>?_
  have lk:ks.length=ws.length:=by rw[<-le,FA,<-hl,Nat.min_self]
  have VV:Vals (ks.map V.int) acc.toList:=vF ks vs ws hl rel acc.toList (by rw[Array.length_toList,it.1];exact lk.symm) λj v e=>it.2 j v (by simpa using e)
  have I4:=I1.laid (a:=s1.heap.objs.size) (o:=.lst (ks.map V.int)) (h':=h') (t':=tk) kp (Nat.le_refl _) ⟨by rw[List.length_map,lk,<-le];exact z,acc.toList,c,VV,by simpa using g1⟩
  exact⟨.ref s1.heap.objs.size,_,I4,rfl,kq _ _ _ H1 hP s01 (I1.hok.fresh (Nat.le_refl _)) Reps.ints⟩
end
end L2.R2
set_option Elab.async false
set_option linter.all false
set_option maxRecDepth 100000
set_option maxHeartbeats 1000000
namespace L2.R2
open PySem PySem.Spec PyProof.Rows L2
theorem qA (l:Addr) (items:Array Value) (n:Nat) (b:Addr) (items2:Array Value) (n2:Nat) (sl:Array (Option Value)) (hc0:¬(!items.isEmpty && Builtin.List.listTooLong (items.size+items2.size))=true) (hc1:items.size<=sizeLine) (hs2:items.size+items2.size<=sizeLine+1) :
  Meets (Builtin.«list.extend» ⟨[.ref l,.ref b],[]⟩) (λ_ R s=>s.heap.get? l=some { cls:=.type "list",dict:=none,data:=.seq items n,slots:=#[] }/\s.heap.get? b=some { cls:=.type "list",dict:=none,data:=.seq items2 n2,slots:=sl }/\R (.ok (.ret Value.none)) { s with heap:=s.heap.update l (Obj.mapSeq λx=>x++items2),toks:=s.toks }) :=
 .of_wp λprog w A R s h=>by
  obtain⟨hp,g,d,tk,os⟩:=s;obtain⟨hl,hb,h⟩:=h
  have hz':(items++items2).size<=sizeLine+1:=by rw[Array.size_append];exact hs2
  wp_walk using (wpAny_updateSeq hl rfl (hz:=hc1) (_hz':=hz')),wpAny_loadPart' hl,wpAny_loadPart' hb;exact⟨_,rfl,h⟩
noncomputable def JZ (K:PySem.W.Frag):V->List V->Hp->VK->Prop:=λx vs H Q=>∃l b xs zs,x = .ref l/\vs=[.ref b]/\H l=some (.lst xs)/\SqL K H b zs/\xs.length+zs.length<=sizeLine/\Q .non (upd H l (.lst (xs++zs)))
section
variable {X:Cx} {e:Expr} {pos apos cpos npos p2 p3 p4:Pos} {te:RE} {x:Str}
theorem AY:MtM X "list.extend" (JZ X.K):=by
 intro pins s σ H x vs v us Q I rx rv h
 obtain⟨l,b,xs,zs,rfl,rfl,hH,hB,hz,q⟩:=h
 cases rx
 obtain⟨u,rfl,ru⟩:=rv.one
 cases ru
 obtain⟨z,its,n,r,hl,e⟩:=I.lstM hH
 obtain⟨its2,r2,pl,z2⟩:=I.list hB
 have hl2:=r2.length
 obtain⟨o,n2,e2,c1,c2,c3⟩:=pl
 obtain⟨oc,od,oda,osl⟩:=o
 dsimp only at c1 c2 c3
 subst c1 c2 c3
 have hsz:its.toArray.size+its2.toArray.size<=sizeLine:=by rw[List.size_toArray,List.size_toArray];omega
 have hlong:¬(!its.toArray.isEmpty && Builtin.List.listTooLong (its.toArray.size+its2.toArray.size))=true:=by
  rw[JE hsz,Bool.and_false]
  exact Bool.false_ne_true
 refine call_meets F.slot_list_extend ⟨_,e,rfl⟩ F.entry_list_extend (F.args_list_extend_2 _ _)
  (qA l its.toArray n b its2.toArray n2 osl hlong (by rw[List.size_toArray];omega) (by omega)) ⟨e,e2,?_⟩
 refine⟨.non,_,I.lset (its':=its++its2) hH e (by simp) (r.append r2) ?_,rfl,q⟩
 rw[List.length_append]
 omega
noncomputable def sN (i:Nat) (te:RE):RS:=λE ρ=>match ρ[i]? with
 | some (some (.own xs))=>te ρ λd=>match d with
  | .lst ys=>Sz (xs.length+ys.length)/\E.nx (ρ.set i (some (.own (xs++ys))))
  | _=>False
 | _=>False
theorem ET (i:Nat) (he:DE X e te) (hN:X.N[i]? = some x:=by rfl) (hv:Vis X.env.scope x:=by walk_at "vis") (hd:(x == ("__debug__":Str))=false:=by decide) (hcd:(x == ("__classdict__":Str))=false:=by decide)
  (hbase:attributeBase (.Name x npos) "extend" X.env (eval (.Name x npos) X.env)=eval (.Name x npos) X.env:=by rfl)
  (hfew:((backTo cpos (starEach [e] X.env)).all (λx=>!x.1) && (backToKw cpos (keywordEach [] X.env)).all (λx=>x.1.isSome) && decide (([e]:List Expr).length+([]:List Keyword).length+(if ([]:List Keyword).isEmpty then 0 else 1)<30))=true:=by rfl)
  (hline:(apos.endLine == cpos.line)=true:=by rfl) (hs:starEach [e] X.env=[(false,eval e X.env)]:=by rfl) (hn:starEach [] X.env=[]:=by rfl) (hsw:swapsWith (.Call (.Attribute (.Name x npos) "extend" apos) [e] [] cpos) none pos.line X.env=pure false:=by rfl) :
  DS X (.Expr (.Call (.Attribute (.Name x npos) "extend" apos) [e] [] cpos) pos) (sN i te):=by
 refine PS.mono (wH (CZ PySem.F.plainAttrs_list PySem.F.slot_list_extend PySem.F.type_list_extend AY (pv i hN hv hd hcd) (gL he hs hn) hbase hfew hline (by rw[hs,hn]) (by rw[hn];rfl)) hsw) λDe σ H hh=>dM hh λρ E so q n r bk ct=>?_
 unfold sN at q
 split at q
 ·rename_i xs ex
  obtain⟨v,h1,p,vs,ev,hp,h0,rr⟩:=so.rel i _ ex
  subst ev
  refine⟨.ref p,h1,.inl ⟨rfl,vs,SqL.of hp⟩,ρ,_,so,q,λd v H1 hd s1 rd=>?_⟩
  have hp1:=s1.get _ _ hp trivial
  cases d with
  | lst ys =>
   cases rd with
   | @lst b us _ hz rd =>
    obtain⟨so2,k2⟩:=(so.ext s1).upd_own ex h1 hp1 h0 ((rr.keep (.of s1)).append rd)
    have hsz:xs.length+ys.length<=sizeLine:=hd.1.ok
    exact⟨p,b,vs,us,rfl,rfl,hp1,hz.sq,by rw[<-rr.length,<-rd.length];exact hsz,n _ _ _ hd.2 ((Keep.of s1).trans k2) so2⟩
  | _=>exact hd.elim
 ·exact q.elim
noncomputable def alt {α:Type}:List α->List α
 | []=>[]
 | [x]=>[x]
 | x::_::r=>x::alt r
theorem CD {α:Type}:∀(l:List α) (i:Nat),(alt l)[i]? = l[2*i]?
 | [],i=>by simp[alt]
 | [x],0=>rfl
 | [x],i+1=>by simp[alt]
 | x::y::r,0=>rfl
 | x::y::r,i+1=>by
  rw[alt,List.getElem?_cons_succ,CD r i,show 2*(i+1)=2*i+1+1 by omega,List.getElem?_cons_succ,List.getElem?_cons_succ]
theorem qN {α:Type}:∀(l:List α),(alt l).length=(l.length+1) / 2
 | []=>by simp[alt]
 | [x]=>by simp[alt]
 | x::y::r=>by rw[alt,List.length_cons,qN r];simp only[List.length_cons];omega
theorem OO {α:Type} (l:List α):(alt l).length<=l.length:=by rw[qN];omega
theorem Reps.alt {K:PySem.W.Frag} {H:Hp}:∀{ds:List D} {vs:List V},Reps K H ds vs->Reps K H (alt ds) (L2.R2.alt vs)
 | _,_,.nil=>.nil
 | _,_,.cons h .nil=>.cons h .nil
 | _,_,.cons h (.cons _ t)=>.cons h (Reps.alt t)
theorem Vals.alt:∀{vs:List V} {us:List Value},Vals vs us->Vals (alt vs) (L2.R2.alt us)
 | _,_,.nil=>.nil
 | _,_,.cons h .nil=>.cons h .nil
 | _,_,.cons h (.cons _ t)=>.cons h (Vals.alt t)
theorem JP (its:List Value) (k:Nat) (lo:Option Int) (hk:(lo=none/\k=0)\/(lo=some 1/\k=1)):slicePick its.toArray lo none (some 2)=(alt (its.drop k)).toArray:=by
 have e:(sliceBounds lo none (some 2) its.toArray.size)=(((min k its.length:Nat):Int),(its.length:Int),2):=by
  rcases hk with ⟨rfl,rfl⟩ | ⟨rfl,rfl⟩
  ·simp[sliceBounds]
  ·simp[sliceBounds];omega
 unfold slicePick
 rw[e]
 congr 1
 dsimp only
 have c:(if (2:Int) > 0 then (if ((min k its.length:Nat):Int)<(its.length:Int) then ((its.length:Int)-(min k its.length:Nat)+2-1) / 2 else 0) else (if ((min k its.length:Nat):Int) > (its.length:Int) then (((min k its.length:Nat):Int)-(its.length:Int)-2-1) / (-2) else 0)).toNat=(alt (its.drop k)).length:=by
  rw[qN,List.length_drop,if_pos (by decide)]
  split <;> omega
 unfold sliceRange
 dsimp only
 rw[c]
 refine List.ext_getElem? λi=>?_
 have key:∀(n:Nat),n<=(alt (its.drop k)).length->((List.range n).map λ(j:Nat)=>(((min k its.length:Nat):Int)+2*(j:Int)).toNat).filterMap (its.toArray[·]?)=(alt (its.drop k)).take n:=by
  intro n
  induction n with
  | zero=>intro _;rfl
  | succ n ih =>
   intro h
   have hn:n<(alt (its.drop k)).length:=h
   rw[List.range_succ,List.map_append,List.filterMap_append,ih (Nat.le_of_lt hn),List.take_succ]
   congr 1
   have hl:2*n<(its.drop k).length:=by rw[qN] at hn;omega
   rw[List.length_drop] at hl
   have:(((min k its.length:Nat):Int)+2*(n:Int)).toNat=k+2*n:=by omega
   simp only[List.map_cons,List.map_nil,this]
   rw[CD,List.getElem?_drop]
   have hh:k+2*n<its.length:=by omega
   simp[hh]
 rw[key _ (Nat.le_refl _),List.take_length]
noncomputable def BF (k:Nat) (te:RE):RA:=λρ Q=>te ρ λx=>match x with
 | .lst ds=>Q (alt (ds.drop k))
 | _=>False
theorem HW {k:Nat} {lo:Option Expr} {l:Option Int} {j:Nat} (h:DB X e te) (hl:∀(H:Hp),PO X lo (λσ H Q=>Q l H)) (hk:(l=none/\k=0)\/(l=some 1/\k=1)) :
  DO X (.Subscript e (.Slice lo none (some (.Constant (.int 2) j p3)) p2) pos) (BF k te):=by
 intro pins s σ H Q I hh
 obtain⟨ρ,P,st,q,kq⟩:=hh
 refine Subscript_ (thn (h pins s σ H (λv H1=>∃ds,Same H H1/\RepB X.K H1 (.lst ds) v/\P (alt (ds.drop k))) I ⟨ρ,_,st,q,λx v H1 hx s1 r1=>?_⟩) λv s1 ⟨x,H1,I1,r1,q1⟩=>?_)
 ·cases x with
  | lst ds=>exact⟨ds,s1,r1,hx⟩
  | _=>exact hx.elim
 obtain⟨ds,sm,rb,hP⟩:=q1
 obtain⟨a,vs,rfl,hq,rr⟩:=rb.lst
 cases r1
 refine wpAny_Slice (thn (hl H1 pins s1 σ H1 (λo H2=>o=l/\H2=H1) I1 ⟨rfl,rfl⟩) λvl s2 ⟨l',H2,I2,pl,e1,e2⟩=>?_)
 subst e1 e2
 rw[evalPart_none]
 refine wpAny_pure ?_
 refine thn (wG (BA (X:=X) (i:=2) (j:=j) (pos:=p3)) pins s2 σ H2 (λo H3=>o=some 2/\H3=H2) I2 ⟨2,rfl,rfl,rfl⟩) λvst s3 ⟨o3,H3,I3,pst,e3,e4⟩=>?_
 subst e3 e4
 have I4:Inv X pins σ H3 { s3 with heap:=s3.heap.push { cls:=.type "slice",data:=.fields #[vl,.none,vst] } }:=I3.kept (t':=s3.toks) λb ob q=>Heap.get?_push_of_some _ q
 obtain⟨its,rv,pll,hz⟩:=I4.list hq
 have hlen:=rv.length
 show wpAny (model X.prog X.w) X.A (subscriptTail e (.Slice lo none (some (.Constant (.int 2) j p3)) p2) (.ref a) (.ref s3.heap.objs.size)) (EP X pins σ Q) X.xe { s3 with heap:=s3.heap.push { cls:=.type "slice",data:=.fields #[vl,.none,vst] } }
 refine tail_any (ops:=[.ref a,.ref s3.heap.objs.size]) pll.isList.typeIs PySem.slot_list_getitem.lookup ?_ (by with_unfolding_all rfl)
 refine wpAny_getItem_list_slice pll.isList (Heap.IsSliceOf.new ..) pl .none pst (by decide) ?_ (by rw[List.size_toArray,<-hlen];exact hz)
 rw[JP its k l' hk]
 have VV:Vals (alt (vs.drop k)) (alt (its.drop k)):=Vals.alt (Vals.drop k rv)
 have I5:=I4.lnew (t':=s3.toks) VV (Nat.le_trans (OO _) (by rw[List.length_drop];omega))
 exact⟨.ref _,_,I5,rfl,kq _ _ _ H3 hP sm I4.fresh (Reps.alt (rr.drop k))⟩
theorem LM {j:Nat} (h:DB X e te):DO X (.Subscript e (.Slice none none (some (.Constant (.int 2) j p3)) p2) pos) (BF 0 te) :=
 HW h (λH pins s σ H' Q I q=>DC pins s σ H' Q I q) (.inl ⟨rfl,rfl⟩)
theorem LN {j j':Nat} (h:DB X e te):DO X (.Subscript e (.Slice (some (.Constant (.int 1) j' p4)) none (some (.Constant (.int 2) j p3)) p2) pos) (BF 1 te) :=
 HW h (λH pins s σ H' Q I q=>wG (BA (X:=X) (i:=1) (j:=j') (pos:=p4)) pins s σ H' Q I ⟨1,rfl,q⟩) (.inr ⟨rfl,rfl⟩)
end
theorem GP {P:Program} {w:World} {K:PySem.W.Frag} {tg:Expr} (it:Addr) (lo:Int) (n:Nat):Turn P w K tg (Itr lo n) [it] it (λi h=>IsLongIter h it (lo+(i:Nat)*1) ((n:Int)-(i:Nat)) 1) where
 mem:=by simp
 obj:=λi h st b hb=>by
  have e:b=it:=by simpa using hb
  subst e
  exact⟨_,st,λv z=>by have z':Data.fields _=Data.cell v:=z;cases z'⟩
 keep:=λi h h' st k=>k it (by simp) _ st
 item:=by
  intro X hP hw hK hc i pins s σ H E I hf st hg
  subst hP hw hK
  obtain⟨f0,f1,f2,f3,f4,f5⟩:=hf it (by simp)
  have W:=Walks.longrange (prog:=X.prog) (w:=X.w) (I.ok.hd hc) it lo 1 n
  refine W.item i s _ _ hg st λv h' tk hv st' kk=>?_
  obtain⟨t,rfl⟩:=hv
  have I1:Inv X pins σ H { s with heap:=h',toks:=tk }:=I.turned (λb o hb e=>kk b o (by simpa using hb) e) f0 f1 f3 f4 f5
  exact⟨_,rfl,yA (s:={ s with heap:=h',toks:=tk }) (n:="longrange_iterator") st' rfl rfl (by decide) ⟨.int (lo+i),H,I1,⟨t,by rw[Int.mul_one]⟩,⟨rfl,rfl⟩,st',λb hb=>(hf b hb).1⟩⟩
 done:=by
  intro X hP hw hK hc i pins s σ H E I hf st hg
  subst hP hw hK
  obtain⟨f0,f1,f2,f3,f4,f5⟩:=hf it (by simp)
  exact wpAny_pyNext_long_end (I.ok.hd hc) st (by have:n<=i:=hg;omega) λh' eb=>⟨rfl,I.turned (t':=s.toks) (λb o hb e=>eb b o hb e) f0 f1 f3 f4 f5⟩
 self:=λ_ _ _ _ _ st h=>wpAny_pyIter_longiter st h
theorem KG (a b:Int):Builtin.Range.rangeSize a b 1=((b-a).toNat:Int):=by
 unfold Builtin.Range.rangeSize
 simp only[show (1:Int) > 0 by decide,if_true]
 split <;> omega
section
variable {X:Cx} {tg:Expr}
theorem ML {pins:List (Addr × Obj)} {σ:St} {H:Hp} {s:Shared} {R:It->Hp->Prop} {E:Value->Shared->Prop} {lo hi:Int} {t u v:Tok} {tk:Nat} (I:Inv X pins σ H s) (hs:Builtin.Range.small lo hi 1=false)
  (q:R (Itr lo (hi-lo).toNat) H):wpAny (model X.prog X.w) X.A (pyIter (.ref s.heap.objs.size)) (PIE X pins σ tg R) E { s with heap:=s.heap.push { cls:=.type "range",data:=.fields #[.int lo t,.int hi u,.int 1 v] },toks:=tk }:=by
 refine wpAny_pyIter_longrange (IsRange.new ..) hs ?_
 have I1:Inv X pins σ H { s with heap:=s.heap.push { cls:=.type "range",data:=.fields #[.int lo t,.int hi u,.int 1 v] },toks:=tk }:=I.kept λb o e=>Heap.get?_push_of_some _ e
 have e1:lo+((0:Nat):Int)*1=lo:=by simp
 have e2:(((hi-lo).toNat:Nat):Int)-((0:Nat):Int)=Builtin.Range.rangeSize lo hi 1:=by rw[KG];simp
 generalize hh:s.heap.push { cls:=.type "range",data:=.fields #[.int lo t,.int hi u,.int 1 v] } = h1 at I1
 refine⟨h1.objs.size,[h1.objs.size],_,_,H,rfl,I1.kept (t':=tk) λb o e=>Heap.get?_push_of_some _ e,GP _ lo (hi-lo).toNat,?_,λb hb=>?_,q⟩
 ·show IsLongIter _ _ (lo+((0:Nat):Int)*1) ((((hi-lo).toNat:Nat):Int)-((0:Nat):Int)) 1
  rw[e1,e2]
  exact Heap.get?_push_size _ rfl
 ·have e:b=h1.objs.size:=by simpa using hb
  subst e
  exact I1.fpOk (Nat.le_refl _) (I1.hok.fresh (Nat.le_refl _))
theorem PB {pins:List (Addr × Obj)} {σ:St} {H:Hp} {s:Shared} {R:It->Hp->Prop} {E:Value->Shared->Prop} {lo hi:Int} {t u v:Tok} {tk:Nat} (I:Inv X pins σ H s)
  (q:R (Itr lo (hi-lo).toNat) H):wpAny (model X.prog X.w) X.A (pyIter (.ref s.heap.objs.size)) (PIE X pins σ tg R) E { s with heap:=s.heap.push { cls:=.type "range",data:=.fields #[.int lo t,.int hi u,.int 1 v] },toks:=tk }:=by
 cases hs:Builtin.Range.small lo hi 1 with
 | false=>exact ML I hs q
 | true =>
  refine wpAny_pyIter_range (IsRange.new ..) hs ?_
  have I1:Inv X pins σ H { s with heap:=s.heap.push { cls:=.type "range",data:=.fields #[.int lo t,.int hi u,.int 1 v] },toks:=tk }:=I.kept λb o e=>Heap.get?_push_of_some _ e
  have e1:lo+((0:Nat):Int)*1=lo:=by simp
  have e2:(((hi-lo).toNat:Nat):Int)-((0:Nat):Int)=Builtin.Range.rangeSize lo hi 1:=by rw[KG];simp
  generalize hh:s.heap.push { cls:=.type "range",data:=.fields #[.int lo t,.int hi u,.int 1 v] } = h1 at I1
  refine⟨h1.objs.size,[h1.objs.size],_,_,H,rfl,I1.kept (t':=tk) λb o e=>Heap.get?_push_of_some _ e,sV _ lo (hi-lo).toNat,?_,λb hb=>?_,q⟩
  ·show IsRangeIter _ _ (lo+((0:Nat):Int)*1) ((((hi-lo).toNat:Nat):Int)-((0:Nat):Int)) 1
   rw[e1,e2]
   exact Heap.get?_push_size _ rfl
  ·have e:b=h1.objs.size:=by simpa using hb
   subst e
   exact I1.fpOk (Nat.le_refl _) (I1.hok.fresh (Nat.le_refl _))
noncomputable def DH (t:RA):RA:=λρ Q=>t ρ λds=>match ds with
 | [.int i,.int j]=>Q (cA i (j-i).toNat)
 | _=>False
theorem OW {a b:Expr} {t:RA} {p pos:Pos} (hm:X.mg "range" = none) (ha:DA X [a,b] t) (hg:Gl X "range":=by rfl) (hs:starEach [a,b] X.env=[(false,eval a X.env),(false,eval b X.env)]:=by rfl) (hs2:starEach [b] X.env=[(false,eval b X.env)]:=by rfl) :
  DI X tg (.Call (.Name "range" p) [a,b] [] pos) (DH t):=by
 intro pins s σ H R I hh
 obtain⟨ρ,P,st,q,k⟩:=hh
 refine Call_ (dZ I hg hm boot_range (PyProof.Rows.callWith_type1 (thn (ha pos pins s σ H (λvs H1=>∃i j:Int,vs=[.int i,.int j]/\Same H H1/\P (cA i (j-i).toNat)) I ⟨ρ,_,st,q,λds vs H1 hd s1 r=>?_⟩) λus s1 ⟨vs,H1,I1,r1,q1⟩=>?_) (by rw[hs,hs2]) (by rw[hs2];rfl)))
 ·split at hd
  ·rename_i i j
   rw[Reps.ints_inv (ns:=[i,j]) r]
   exact⟨i,j,rfl,s1,hd⟩
  ·exact hd.elim
 obtain⟨i,j,e,sm,q⟩:=q1
 subst e
 cases r1 with
 | cons r rr =>
  cases rr with
  | cons r' rr =>
   cases rr
   obtain⟨t,rfl⟩:=r
   obtain⟨t',rfl⟩:=r'
   exact call_range_2 (PB I1 (k _ _ H1 q sm (IN i _)))
noncomputable def HL:R22:=λx y Q=>match x,y with
 | .bl a,.bl b=>Q (.int ((if a then 1 else 0)-(if b then 1 else 0)))
 | _,_=>False
end
end L2.R2
set_option Elab.async false
set_option linter.all false
set_option maxRecDepth 100000
set_option maxHeartbeats 1000000
namespace HT
open PySem PyProof.Rows
section
open PySem.SeqAt
open PySem.AutoSeq1 (wpAny_loadPart')
open PySem.MeetsSeq PySem.MeetsSeq2 PySem.MeetsSeq3
end
section
variable {prog:Program} {w:World} {A:Around} {E:Value->Shared->Prop} {s:Shared}
end
end HT
namespace L2.R2
open PySem PySem.Spec PyProof.Rows L2
section
variable {prog:Program} {w:World} {A:Around} {E:Value->Shared->Prop} {s:Shared}
end
section
variable {X:Cx}
noncomputable def UM:List D->(D->Prop)->Prop:=λds Q=>∃ns ms,ds=[cR ns,cR ms]/\Q (cR (if HT.lexLt ms ns=true then ms else ns))
noncomputable def UL:List D->(D->Prop)->Prop:=λds Q=>∃ns ms,ds=[cR ns,cR ms]/\Q (cR (if HT.lexLt ns ms=true then ms else ns))
end
section
variable {X:Cx} {pins:List (Addr × Obj)} {σ:St} {H:Hp} {s:Shared}
theorem Inv.thaw {a:Addr} {xs:List V} {o:Obj} (I:Inv X pins σ H s) (h:H a=some (.frz o (.lst xs))) (h0:X.H₀ a=none):Inv X pins σ (upd H a (.lst xs)) s:=by
 have nn:∀b,H b=none->upd H a (.lst xs) b=none:=λb q=>by rw[aG (by rintro rfl;rw[h] at q;cases q)];exact q
 have ne0:∀b u,X.H₀ b=some u->b≠a:=λb u q z=>by subst z;rw[h0] at q;cases q
 refine⟨I.ok,I.os,I.bare,⟨I.base.keep,I.base.slot,λb o q n x=>nn b (I.base.free b o q n x),I.base.there,λb ys q=>?_,λb o u q=>?_,λb ps q=>?_⟩,I.loc,I.cell,nn _ I.free,λx c e=>nn _ (I.freeC x c e),λp hp=>?_,λb u q=>?_,I.len⟩
 ·rw[aG (ne0 b _ q)];exact I.base.tups b ys q
 ·rw[aG (ne0 b _ q)];exact I.base.frzs b o u q
 ·rw[aG (ne0 b _ q)];exact I.base.tbls b ps q
 ·obtain⟨p1,p2,p3⟩:=I.pin p hp
  exact⟨p1,nn _ p2,p3⟩
 ·have st:∀{b:Addr} {u:HO},ObjOk X.prog X.w H s.heap b u->ObjOk X.prog X.w (upd H a (.lst xs)) s.heap b u:=λ{b u} q =>
   q.stay (λc v _ w=>w) (λc w=>by rw[aG (by rintro rfl;rw[h] at w;cases w)];exact w) λc ys w=>by rw[aG (by rintro rfl;rw[h] at w;cases w)];exact w
  by_cases hb:b=a
  ·subst hb
   rw[aU] at q;cases q
   exact st (show ObjOk X.prog X.w H s.heap b (.frz o (.lst xs)) from I.hok b _ h).2
  ·rw[aG hb] at q
   exact st (I.hok b u q)
end
section
variable {X:Cx} {e:Expr} {t:RT}
noncomputable def lend (i:Nat) (ρ:En):En:=match ρ[i]? with
 | some (some (.own ds))=>ρ.set i (some (.d (.lst ds)))
 | _=>ρ
end
noncomputable def rSeqN (t u:RS):RS:=λE ρ=>t { nx:=u E,rt:=λ_=>False } ρ
noncomputable def rRetO (i:Nat):RS:=λE ρ=>match ρ[i]? with
 | some (some (.own xs))=>E.rt (.lst xs)
 | _=>False
section
variable {X:Cx} {st:Stmt} {rest:List Stmt} {t u:RS} {x:Str} {p pos:Pos}
end
section
variable {P:Program} {w:World} {K:PySem.W.Frag} {mg:Str->Option Value} {base:Heap}
end
noncomputable def UT (F:FD) (t:RA):RA:=λρ Q=>t ρ λds=>F ds λd=>match d with
 | .lst xs=>Q xs
 | _=>False
section
variable {X:Cx} {k:Nat} {ps:List Str} {F:FD} {x:Str} {p pos:Pos} {e:Expr} {es:List Expr} {t:RA}
end
theorem qI:isSubtype (.type "range_iterator") (.type "reversed")=pure false:=by rw[isSubtype_type];kernel_rfl
theorem qH (r:Addr) (a b c:Int) (t u v:Tok) (hc0:¬(!(Builtin.Range.rangeFitsLong a && Builtin.Range.rangeFitsLong b && Builtin.Range.rangeFitsLong c && Builtin.Range.rangeFitsLong (-c) && Builtin.Range.rangeFitsLong (a-c) && Builtin.Range.rangeFitsLong (Builtin.Range.rangeSize a b c)))=true) :
  Meets (Builtin.«range.__reversed__» ⟨[.ref r],[]⟩) (λ_ R s=>IsRange s.heap r a b c t u v/\R (.ok (.ret (Value.ref s.heap.objs.size))) { s with heap:=s.heap.push { cls:=Value.type (if (Builtin.Range.rangeFitsLong a && Builtin.Range.rangeFitsLong b && Builtin.Range.rangeFitsLong c && Builtin.Range.rangeFitsLong (-c) && Builtin.Range.rangeFitsLong (a-c) && Builtin.Range.rangeFitsLong (Builtin.Range.rangeSize a b c))=true then "range_iterator" else "longrange_iterator"),data:=Data.fields #[rawInt (a+(Builtin.Range.rangeSize a b c-1)*c),rawInt (Builtin.Range.rangeSize a b c),rawInt (-c)] } }) :=
 .of_wp λprog w A R s h=>by obtain⟨hp,g,d,tk,os⟩:=s;obtain⟨hl,h⟩:=h;wp_walk;exact⟨_,rfl,h⟩
section
variable {prog:Program} {w:World} {A:Around} {E:Value->Shared->Prop} {s:Shared}
noncomputable def mP (n:Int):Obj:={ cls:=.type "range_iterator",data:=.fields #[rawInt (n-1),rawInt n,rawInt (-1)] }
theorem PC {n:Int} (h1:-(2 ^ 62)<=n) (h2:n<2 ^ 62):Builtin.Range.rangeFitsLong n=true:=by
 unfold Builtin.Range.rangeFitsLong
 simp only[Bool.and_eq_true,decide_eq_true_eq]
 omega
theorem lE {r:Addr} {n:Int} {t u v:Tok} {Q:Value->Shared->Prop} (h0:0<=n) (h2:n<2 ^ 62) (hr:IsRange s.heap r 0 n 1 t u v)
  (h:Q (.ref s.heap.objs.size) { s with heap:=s.heap.push (mP n) }):wpAny (model prog w) A (call (.builtin "range.__reversed__") [.ref r]) Q E s:=by
 have hT:s.TypeIs (.ref r) "range":=⟨_,hr,rfl⟩
 have sz:Builtin.Range.rangeSize 0 n 1=n:=by rw[rangeSize_one];split <;> omega
 have fit:(Builtin.Range.rangeFitsLong 0 && Builtin.Range.rangeFitsLong n && Builtin.Range.rangeFitsLong 1 && Builtin.Range.rangeFitsLong (-1) && Builtin.Range.rangeFitsLong (0-1) && Builtin.Range.rangeFitsLong (Builtin.Range.rangeSize 0 n 1))=true:=by
  rw[sz,PC (n:=n) (by omega) h2];decide
 refine call_meets F.slot_range_reversed hT F.entry_range_reversed (F.args_range_reversed_1 _) (qH r 0 n 1 t u v (by rw[fit];decide)) ⟨hr,?_⟩
 rw[fit,sz]
 have e:(0:Int)+(n-1)*1=n-1:=by omega
 rw[e]
 exact h
theorem mB {r:Addr} {n:Int} {t u v:Tok} {Q₁:Value->Shared->Prop} (h0:0<=n) (h2:n<2 ^ 62) (hr:IsRange s.heap r 0 n 1 t u v)
  (h:Q₁ (.ref s.heap.objs.size) { s with heap:=s.heap.push (mP n) }) :
  codeAny (model prog w) A (.call (.builtin "reversed.__new__") ⟨[.type "reversed",.ref r],[]⟩) (wants Q₁ E) s:=by
 have hT:s.TypeIs (.ref r) "range":=⟨_,hr,rfl⟩
 refine codeAny_of_tree ?_
 show wpAny _ A.in1 (do checkBuiltinCall "reversed.__new__" ⟨[.type "reversed",.ref r],[]⟩;again (.builtin "reversed.__new__" ⟨[.type "reversed",.ref r],[]⟩)) _ _ s
 refine wpAny_bind (wpAny_of_eq (F.newCall_reversed_1 _) (wpAny_pure ⟨plainId_quiet F.plain_reversed_new _,codeAny_builtin F.entry_reversed_new ?_⟩))
 rw[Around.under_plainId F.plain_reversed_new _]
 unfold Builtin.«reversed.__new__»
 refine wpAny_bind (wpAny_of_eq (newClass_reversed _) ?_)
 try dsimp only
 refine wpAny_bind (wpAny_of_eq (a:=()) (by first | rfl | kernel_rfl) ?_)
 refine wpAny_bind (wpAny_of_eq (a:=()) (by first | rfl | kernel_rfl) ?_)
 try dsimp only
 refine wpAny_bind (wpAny_specialOf hT F.slot_range_reversed.lookup ?_)
 try dsimp only
 refine wpAny_bind (wpAny_of_eq (F.slot_range_reversed.bind _) ?_)
 try dsimp only
 first
 | rw[if_neg (show ¬((Value.builtin "range.__reversed__" == Value.none)=true) from Bool.false_ne_true)]
 | (show wpAny _ _ (if (Value.builtin "range.__reversed__" == Value.none)=true then _ else _) _ _ _;rw[if_neg (show ¬((Value.builtin "range.__reversed__" == Value.none)=true) from Bool.false_ne_true)])
 refine wpAny_bind (wpAny_rule ?_)
 refine wpAny_bind (m:=runValue (.call (.builtin "range.__reversed__") ⟨[.ref r],[]⟩)) (show wpAny _ _ (call (.builtin "range.__reversed__") [.ref r]) _ _ _ from lE h0 h2 hr ?_)
 first
 | exact wpAny_pure h
 | exact wpAny_bind (wpAny_pure (wpAny_pure h))
theorem lF {r:Addr} {n:Int} {t u v:Tok} {Q:Value->Shared->Prop} (h0:0<=n) (h2:n<2 ^ 62) (hr:IsRange s.heap r 0 n 1 t u v)
  (h:Q (.ref s.heap.objs.size) { s with heap:=s.heap.push (mP n) }):wpAny (model prog w) A (call (.type "reversed") [.ref r]) Q E s:=by
 refine callType_other (U:="range_iterator") (Q₁:=λobj s₁=>obj = .ref s.heap.objs.size/\s₁ = { s with heap:=s.heap.push (mP n) }) (by decide +kernel) F.create_reversed ⟨_,_,F.mro_reversed⟩ F.made_reversed qI (F.typeCall_reversed_1 _) (mB h0 h2 hr ⟨rfl,rfl⟩) ?_
 rintro obj s₁ ⟨rfl,rfl⟩
 exact⟨⟨_,Heap.get?_push_size _ rfl,rfl⟩,h⟩
end
noncomputable def RQ (n:Nat):It:=⟨λi _=>i<n,λi H x H'=>H'=H/\x = .int ((n:Int)-1+i*(-1)),λi _=>n<=i⟩
theorem zR {P:Program} {w:World} {K:PySem.W.Frag} {tg:Expr} (it:Addr) (n:Nat):Turn P w K tg (RQ n) [it] it (λi h=>IsRangeIter h it ((n:Int)-1+(i:Nat)*(-1)) ((n:Int)-(i:Nat)) (-1)) where
 mem:=by simp
 obj:=λi h st b hb=>by
  have e:b=it:=by simpa using hb
  subst e
  exact⟨_,st,λv z=>by have z':Data.fields _=Data.cell v:=z;cases z'⟩
 keep:=λi h h' st k=>k it (by simp) _ st
 item:=by
  intro X hP hw hK hc i pins s σ H E I hf st hg
  subst hP hw hK
  obtain⟨f0,f1,f2,f3,f4,f5⟩:=hf it (by simp)
  have W:=Walks.range (prog:=X.prog) (w:=X.w) (I.ok.hd hc) it ((n:Int)-1) (-1) n
  refine W.item i s _ _ hg st λv h' tk hv st' kk=>?_
  obtain⟨t,rfl⟩:=hv
  have I1:Inv X pins σ H { s with heap:=h',toks:=tk }:=I.turned (λb o hb e=>kk b o (by simpa using hb) e) f0 f1 f3 f4 f5
  exact⟨_,rfl,yA (s:={ s with heap:=h',toks:=tk }) (n:="range_iterator") st' rfl rfl (by decide) ⟨.int ((n:Int)-1+i*(-1)),H,I1,⟨t,rfl⟩,⟨rfl,rfl⟩,st',λb hb=>(hf b hb).1⟩⟩
 done:=by
  intro X hP hw hK hc i pins s σ H E I hf st hg
  subst hP hw hK
  obtain⟨f0,f1,f2,f3,f4,f5⟩:=hf it (by simp)
  exact wpAny_pyNext_range_end (I.ok.hd hc) st (by have:n<=i:=hg;omega) λh' eb=>⟨rfl,I.turned (t':=s.toks) (λb o hb e=>eb b o hb e) f0 f1 f3 f4 f5⟩
 self:=λ_ _ _ _ _ st h=>wpAny_pyIter_rangeiter st h
section
variable {X:Cx} {tg a:Expr} {t:RA} {pos p pos2 p2:Pos}
theorem LV {H0:Hp} (n:Nat):DZ X (RQ n) (cA 0 n).reverse H0:=λi H kp=>by
 have hl:(cA 0 n).length=n:=by simp[cA]
 refine⟨λd e=>?_,λhl2=>by show n<=i;rw[List.length_reverse,hl] at hl2;exact hl2⟩
 by_cases hi:i<n
 ·rw[List.getElem?_reverse (by omega),hl] at e
  unfold cA at e
  rw[List.getElem?_map,List.getElem?_range (by omega)] at e
  cases e
  refine⟨hi,λx H' y=>by
   obtain⟨rfl,rfl⟩:=y
   refine⟨Same.refl _,?_⟩
   rw[show (n:Int)-1+(i:Int)*(-1)=0+((n-1-i:Nat):Int) by omega]
   exact .int _⟩
 ·rw[List.getElem?_eq_none (by rw[List.length_reverse,hl];omega)] at e;cases e
structure RvOk (j:Int):Prop where
 lo:0<=j
 hi:j<2 ^ 62
noncomputable def BK (t:RA):RA:=λρ Q=>t ρ λds=>match ds with
 | [.int j]=>RvOk j/\Q (cA 0 j.toNat).reverse
 | _=>False
theorem LK (hm:X.mg "reversed" = none) (hm2:X.mg "range" = none) (ha:DA X [a] t) (hg:Gl X "reversed":=by rfl) (hg2:Gl X "range":=by rfl) (hs2:starEach [a] X.env=[(false,eval a X.env)]:=by rfl)
  (hs:starEach [.Call (.Name "range" p2) [a] [] pos2] X.env=[(false,eval (.Call (.Name "range" p2) [a] [] pos2) X.env)]:=by rfl) (hn:starEach [] X.env=[]:=by rfl) :
  DI X tg (.Call (.Name "reversed" p) [.Call (.Name "range" p2) [a] [] pos2] [] pos) (BK t):=by
 intro pins s σ H R I hh_0
 obtain⟨ρ,P,st,q,kk⟩:=hh_0
 refine Call_ (dZ I hg hm tG (PyProof.Rows.callWith_type1 ?_ (by rw[hs,hn]) (by rw[hn];rfl)))
 rw[hs]
 show wpAny _ _ (spliced ((false,eval (.Call (.Name "range" p2) [a] [] pos2) X.env)::backTo pos [])) _ _ s
 refine Calls.spliced_cons (wpAny_Call_Name_kw (dZ I hg2 hm2 boot_range ?_))
 refine PyProof.Rows.callWith_type1 (thn (ha pos2 pins s σ H (λvs H1=>∃j:Int,vs=[.int j]/\Same H H1/\RvOk j/\P (cA 0 j.toNat).reverse) I ⟨ρ,_,st,q,λds vs H1 hd s1 r=>?_⟩) λus s1 ⟨vs,H1,I1,r1,q1⟩=>?_) hs2 (by rfl)
 ·split at hd
  ·rename_i j
   rw[Reps.ints_inv (ns:=[j]) r]
   exact⟨j,rfl,s1,hd.1,hd.2⟩
  ·exact hd.elim
 obtain⟨j,rfl,s01,hj,hp⟩:=q1
 obtain⟨u,rfl,⟨tk,rfl⟩⟩:=lU r1
 refine call_range_1 (Calls.spliced_nil ?_)
 have I2:Inv X pins σ H1 { s1 with heap:=s1.heap.push { cls:=.type "range",data:=.fields #[.int 0 s1.toks,.int j tk,.int 1 (s1.toks+1)] },toks:=s1.toks+1+1 }:=I1.kept λb o e=>Heap.get?_push_of_some _ e
 have hR:IsRange (s1.heap.push { cls:=.type "range",data:=.fields #[.int 0 s1.toks,.int j tk,.int 1 (s1.toks+1)] }) s1.heap.objs.size 0 j 1 s1.toks tk (s1.toks+1):=IsRange.new ..
 generalize hh:s1.heap.push { cls:=.type "range",data:=.fields #[.int 0 s1.toks,.int j tk,.int 1 (s1.toks+1)] } = h1 at I2 hR
 refine lF hj.lo hj.hi hR ?_
 have hit:({ s1 with heap:=h1.push (mP j),toks:=s1.toks+1+1 }:Shared).heap.get? h1.objs.size=some (mP j):=Heap.get?_push_size _ rfl
 have en:((j.toNat:Nat):Int)=j:=Int.toNat_of_nonneg hj.lo
 have hit2:IsRangeIter ({ s1 with heap:=h1.push (mP j),toks:=s1.toks+1+1 }:Shared).heap h1.objs.size (((j.toNat:Nat):Int)-1+((0:Nat):Int)*(-1)) (((j.toNat:Nat):Int)-((0:Nat):Int)) (-1):=by
  rw[en,show j-1+((0:Nat):Int)*(-1)=j-1 by omega,show j-((0:Nat):Int)=j by omega]
  exact hit
 refine wpAny_pyIter_rangeiter hit2 ⟨h1.objs.size,[h1.objs.size],_,_,H1,rfl,I2.kept (t':=s1.toks+1+1) λb o e=>Heap.get?_push_of_some _ e,zR _ j.toNat,hit2,λb hb=>?_,kk _ _ H1 hp s01 (LV _)⟩
 rw[List.mem_singleton.mp hb];exact I2.fpOk (Nat.le_refl _) (I2.hok.fresh (Nat.le_refl _))
end
noncomputable def EK:R22:=λx y Q=>match x,y with
 | .lst xs,.lst ys=>xs.length=ys.length/\match eqL (eqF 5) xs ys with
  | some b=>Q (.bl !b)
  | none=>False
 | _,_=>False
section
variable {X:Cx}
theorem JF {k:Nat} (hr:Room k X.A):OpD X (compareOp .NotEq) EK:=by
 intro pins s σ H x y v u Q I rx ry hh_0
 obtain⟨d,e,P,r1,r2,q,kk⟩:=hh_0
 have hu:=hr.un
 unfold EK at q
 split at q
 ·rename_i xs ys
  obtain⟨hl,q⟩:=q
  split at q
  ·rename_i b h
   obtain⟨a,vs,rfl,h1,q1⟩:=r1.lst
   obtain⟨c,ws,rfl,h2,q2⟩:=r2.lst
   cases rx;cases ry
   obtain⟨its,rv,ht,_⟩:=I.list h1
   obtain⟨its2,rv2,ht2,_⟩:=I.list h2
   have l1:xs.length=its.length:=q1.length.trans rv.length
   have l2:ys.length=its2.length:=q2.length.trans rv2.length
   have rc:SeqAt.RcNeAt X.A s (.ref a) (.ref c) (!b):=by
    have:=SeqAt.RcNeAt.lists (A:=X.A) (s:=s) (e:=λj=>match xs[j]?,ys[j]? with | some x,some y=>(eqF 5 x y).getD false | _,_=>false) ht.isList ht2.isList (by simp;omega) (by omega) (λj g1 g2=>?_)
    ·have al:=kZ h
     simp only[List.size_toArray,<-l1] at this
     rw[<-hl,Nat.min_self,beq_self_eq_true,Bool.and_true] at al
     rw[<-al]
     exact this
    ·simp only[List.size_toArray] at g1 g2
     have e1:xs[j]? = some (xs[j]'(by omega)):=List.getElem?_eq_getElem _
     have e2:ys[j]? = some (ys[j]'(by omega)):=List.getElem?_eq_getElem _
     obtain⟨k,hk⟩:=nH h j _ _ e1 e2
     rw[e1,e2]
     simp only[hk,Option.getD_some]
     obtain⟨v1,f1,f2⟩:=q1.get e1
     obtain⟨v2,f3,f4⟩:=q2.get e2
     obtain⟨u1,g3,g4⟩:=rv.get f1
     obtain⟨u2,g5,g6⟩:=rv2.get f3
     have a1:its.toArray[j]=u1:=by
      have:=List.getElem?_eq_getElem g1
      rw[this] at g3
      simpa using Option.some.inj g3
     have a2:its2.toArray[j]=u2:=by
      have:=List.getElem?_eq_getElem g2
      rw[this] at g5
      simpa using Option.some.inj g5
     rw[a1,a2]
     exact (rN I 5 hk f2 f4 g4 g6 (by show X.A.units+1+5<cLine;omega)).2
   exact rc _ _ _ _ ⟨.bl _,H,I,rfl,kk _ _ H q (Same.refl H) (.bl _)⟩
  ·exact q.elim
 ·exact q.elim
end
section
variable {K:PySem.W.Frag} {H₀ H:Hp}
end
section
variable {X:Cx} {e k:Expr} {pos pos' p p1 p2 apos cpos npos spos:Pos} {te tk:RE} {x:Str}
noncomputable def rBNew (i:Nat):RS:=λE ρ=>E.nx (ρ.set i (some (.box false [[],[]])))
noncomputable def rBApp (i:Nat) (tk te:RE):RS:=λE ρ=>match ρ[i]? with
 | some (some (.box false xss))=>tk ρ λkd=>match kd with
  | .int k=>∃(j:Nat) (ds:List D),(k=(j:Int)/\xss[j]? = some ds/\Sz (ds.length+1))/\te ρ λd=>E.nx (ρ.set i (some (.box false (xss.set j (ds++[d])))))
  | _=>False
 | _=>False
end
noncomputable abbrev zk (xss:List (List D)):List (Int × List D):=xss.map λx=>(0,x)
noncomputable def rRetB (i:Nat) (ta tb:RA):RS:=λE ρ=>match ρ[i]? with
 | some (some (.own xs))=>ta ρ λys=>tb ρ λzs=>E.rt (.tup [.lst xs,.lst ys,.lst zs])
 | _=>False
section
variable {X:Cx} {st:Stmt} {rest:List Stmt} {t u:RS} {x:Str} {p pos tp:Pos} {j:Nat} {e1 e2:Expr} {ta tb:RA}
end
section
variable {P:Program} {w:World} {K:PySem.W.Frag} {mg:Str->Option Value} {base:Heap}
end
noncomputable def rSetB (j:Nat) (F:FD) (t:RA):RS:=λE ρ=>t ρ λds=>F ds λd=>∃xss:List (List D),d = .tup (xss.map .lst)/\E.nx (ρ.set j (some (.box true xss)))
section
variable {X:Cx} {k j:Nat} {ps:List Str} {F:FD} {x y:Str} {p pos pos' cpos:Pos} {e:Expr} {es:List Expr} {t:RA}
end
section
variable {X:Cx} {pins:List (Addr × Obj)} {σ:St} {s:Shared}
end
section
variable {K:PySem.W.Frag} {H₀ H H':Hp}
end
noncomputable def lendB (i:Nat) (ρ:En):En:=match ρ[i]? with
 | some (some (.box true xss))=>ρ.set i (some (.d (.tup (xss.map .lst))))
 | _=>ρ
section
variable {X:Cx} {e:Expr} {t:RT}
end
section
variable {X:Cx} {ρ:En} {σ:St} {H:Hp}
end
noncomputable def rBFor (i j:Nat):RS:=λE ρ=>match ρ[i]? with
 | some (some (.box true xss))=>(j<ρ.length/\∀ds∈xss,Sz (ds.length+1))/\E.nx ((ρ.set j none).set i (some (.box true (xss.map (· ++ [.non])))))
 | _=>False
section
variable {X:Cx} {x y:Str} {pos cpos apos npos pos' xpos epos:Pos} {jn:Nat}
end
noncomputable def rGet2 (ta tk tf:RE):RE:=λρ Q=>ta ρ λx=>match x with
 | .dct ks ds=>tk ρ λy=>match y with
  | .int k=>tf ρ λz=>Q ((lK ks ds k).getD z)
  | _=>False
 | _=>False
section
variable {X:Cx} {a k f:Expr} {ta tk tf:RE} {apos cpos:Pos}
end
noncomputable def dInI:R22:=λx y Q=>match x,y with
 | .int i,.lst ds=>∃ns:List Int,ds=ns.map .int/\Q (.bl (decide (i∈ns)))
 | _,_=>False
section
variable {X:Cx}
end
section
variable {prog:Program} {w:World} {A:Around} {E:Value->Shared->Prop} {s:Shared}
end
noncomputable def rgLst (n:Nat) (g:RGs):RG:=λd ρ Q=>match d with
 | .lst ds=>ds.length=n/\g ds ρ Q
 | _=>False
section
variable {X:Cx} {pos:Pos}
end
noncomputable def dEqD:R22:=λx y Q=>match eqF 9 x y with
 | some b=>Q (.bl b)
 | none=>False
section
variable {X:Cx}
end
open PySem.W in
section
variable {K:PySem.W.Frag} {prog:Program} {w:World} {A:Around} {E:Value->Shared->Prop} {s:Shared} {x C:Addr} {o:Obj}
open PySem.W Builtin Builtin.ObjectAttr Builtin.Getset_descriptor
end
section
variable {P:Program} {w:World} {H H':Hp} {h h':Heap} {a:Addr} {u:HO}
end
structure FlyAt (P:Program) (w:World) (C:Addr) (outer:List Env) (H:Hp) (s:Shared) (a:Addr) (B:Heap) (a0:Value) (H':Hp) (s':Shared):Prop where
 os:s'.os=s.os
 bare:AllBare s'.gens
 same:Same H H'
 free:∀b o,s.heap.get? b=some o->H b=none->H' b=none
 bT:∀b u,H' b=some u->∀o,s'.heap.get? b=some o->B.get? b=some o
 bU:∀b o,s.heap.get? b=some o->H b=none->b ∉ frs outer->B.get? b=some o
 thr:∀b o,s.heap.get? b=some o->∃o',s'.heap.get? b=some o'
 fr:∀b∈frs outer,∀o,s.heap.get? b=some o->∃sl,s'.heap.get? b=some { o with slots:=sl }
 frn:∀b∈frs outer,H b=none/\∀o,s.heap.get? b=some o->∀vs,o.data≠.fields vs
 hok:HOk P w H' s'.heap
 fly:Heap.FlyingW B outer a (.ref C) a0 s'.heap
section
variable {P:Program} {w:World} {C:Addr} {outer:List Env} {H H':Hp} {s s':Shared} {a:Addr} {B:Heap} {a0:Value} {h6:Heap}
end
section
variable {X:Cx} {pins:List (Addr × Obj)} {σ:St} {H H1:Hp} {s s1:Shared} {C e:Addr} {E:XK} {EE:Value->Shared->Prop}
end
open PySem.W in
section
variable {X:Cx} {C:Addr} {x:Str} {np cpos pos:Pos} {msg:Str} {j:Nat} {p:Pos}
end
section
variable {X:Cx} {C:Addr} {k:Nat} {ps:List Str} {F:List D->Prop} {x:Str} {p pos:Pos} {e:Expr} {es:List Expr} {t:RA}
end
section
variable {X:Cx} {pins:List (Addr × Obj)} {σ:St} {H:Hp} {s:Shared}
end
section
variable {K:PySem.W.Frag}
open PySem.W in
end
section
variable {X:Cx} {C e:Addr} {oe:Obj} {b:Bool}
end
section
variable {X:Cx} {C:Addr} {k:Nat} {ps:List Str} {F:List D->Prop} {g:Str} {ea:Expr} {es:List Expr} {t:RA} {q1 q2 q3 q4 q5 q6 q7 q8 q9 q10 q11 q12 q13 q14 q15 q16 q17 q18 q19 q20 q21 q22 q23 q24 q25 q26 q27 q28 q29 q30 q31:Pos} {j1 j2 j3:Nat}
end
section
variable {P:Program} {w:World} {K:PySem.W.Frag} {mg:Str->Option Value} {base:Heap}
end
section
variable {X:Cx} {C:Addr} {c:Expr} {tc:RT} {x:Str} {np cpos pos pos2 p:Pos} {msg:Str} {j:Nat} {rest:List Stmt}
end
section
variable {prog:Program} {w:World} {A:Around} {E:Value->Shared->Prop} {h:Heap} {g:Array GenState} {d:Drawn} {t:Nat} {os:OsState}
variable {nm qn:Str} {C N:Addr} {bs bm bB:List Value} {hd:Bool} {sn:List Str} {sub:List Value} {ab:Bool} {col:Option Bool} {dd:Option Addr} {k0 k1 k2 k3 k5:Option Value} {B nI iI:String}
end
section
variable {K:PySem.W.Frag} {prog:Program} {w:World} {A:Around} {E:Value->Shared->Prop} {s:Shared} {e C:Addr} {oe:Obj} {x:Str} {v:Value}
open PySem.W Builtin Builtin.ObjectAttr
end
section
variable {prog:Program} {w:World} {A:Around} {E:Value->Shared->Prop} {h:Heap} {g:Array GenState} {d:Drawn} {t:Nat} {os:OsState}
variable {nm qn:Str} {C N:Addr} {bs bm:List Value} {hd:Bool} {sn:List Str} {sub:List Value} {ab:Bool} {col:Option Bool} {dd:Option Addr} {k0 k1 k2 k3 k5:Option Value} {nI:String}
end
noncomputable def Kd (e:Addr) (d:Option Addr) (h:Heap):Prop:=e<h.objs.size/\∀o,h.get? e=some o->o.dict=d
open PySem.W in
open PySem.W in
open PySem.W in
section
variable {P:Program} {w:World} {H:Hp} {h:Heap} {C e dx:Addr}
end
section
variable {X:Cx} {C Cb f:Addr} {x y self:Str} {p p0 p1 p2 apos pos pos':Pos} {msg:Str} {j i:Nat}
end
section
variable {X:Cx} {C Cb f:Addr} {y x:Str} {k:Nat} {p pos:Pos} {a:Expr} {ta:TE}
end
noncomputable def CXD (P:Program) (w:World) (C:Addr):CXT:=λouter H s E e s'=>∃a B a0 H' dx,e = .ref a/\FlyAt P w C outer H s a B a0 H' s'/\(Kd a (some dx) s'.heap/\H dx=none)/\E (.ref C) (some dx) H'
section
variable {X:Cx} {pins:List (Addr × Obj)} {σ:St} {H H1:Hp} {s s1:Shared} {C e dx:Addr} {E:XK} {EE:Value->Shared->Prop}
end
section
variable {M:Model} {A:Around} {E:Value->Shared->Prop} {env:Env} {nm q:Str} {C N:Addr} {bs bm:List Value} {hd:Bool} {sn:List Str} {sub:List Value} {ab:Bool} {col:Option Bool} {dd:Option Addr} {k0 k1 k2 k3 k5:Option Value} {nI:String}
end
theorem CXD.mono {P:Program} {w:World} {C:Addr} {outer:List Env} {H:Hp} {s s':Shared} {E E':XK} {v:Value} (h:CXD P w C outer H s E v s') (k:∀u d H',E u d H'->E' u d H'):CXD P w C outer H s E' v s':=by
 obtain⟨a,B,a0,H',dx,e1,F,kd,hE⟩:=h
 exact⟨a,B,a0,H',dx,e1,F,kd,k _ _ _ hE⟩
noncomputable def UY (PP:Int->Prop) (te:RE):RS:=λ_ ρ=>te ρ λd=>match d with
 | .int c=>PP c
 | _=>False
section
variable {X:Cx} {C Cb f:Addr} {y x:Str} {k:Nat} {p np cpos pos:Pos} {a:Expr} {te:RE} {PP:Int->Prop}
end
noncomputable abbrev FDX:=List D->(D->Prop)->(Int->Prop)->Prop
section
variable {P:Program} {w:World} {K:PySem.W.Frag} {mg:Str->Option Value} {base:Heap} {C:Addr} {y x:Str} {ps:List Str} {k:Nat}
end
noncomputable def UU (F:FDX) (PP:Int->Prop) (t:RA):RE:=λρ Q=>t ρ λds=>F ds Q PP
section
variable {X:Cx} {C:Addr} {y x:Str} {k:Nat} {ps:List Str} {F:FDX} {PP:Int->Prop} {p pos:Pos} {e:Expr} {es:List Expr} {t:RA}
end
section
variable {X:Cx} {pins:List (Addr × Obj)} {σ:St} {H:Hp} {s:Shared} {a:Addr} {φ:Heap->Prop}
end
section
variable {X:Cx} {C:Addr} {y:Str} {k:Nat} {ps:List Str} {F:FDX} {PP:Int->Prop} {x:Str} {p pos:Pos} {e:Expr} {es:List Expr} {t:RA}
end
section
variable {X:Cx} {C:Addr} {k:Nat} {ps:List Str} {F:FDX} {g y vn:Str} {ea:Expr} {es:List Expr} {t:RA} {q1 q2 q3 q4 q5 q6 q7 q8 q9 q10 q11 q12 q13 q14:Pos} {j1:Nat}
end
noncomputable abbrev FDE:=List D->(Int->Prop)->Prop
noncomputable def rSetE (j:Nat) (F:FDE) (C:Addr) (y:Str) (t:RA):RS:=λE ρ=>t ρ λds=>∃PP,F ds PP/\∀c,PP c->E.nx (ρ.set j (some (.exc C y c)))
noncomputable def rIsiE (i:Nat) (C:Addr) (b:Bool):RE:=λρ Q=>match ρ[i]? with
 | some (some (.exc C' _ _))=>C'=C/\Q (.bl b)
 | _=>False
noncomputable def rColE (i:Nat) (C:Addr) (y:Str):RE:=λρ Q=>match ρ[i]? with
 | some (some (.exc C' y' c))=>(C'=C/\y'=y)/\Q (.int c)
 | _=>False
noncomputable def rColN (te:RE):RE:=λρ Q=>te ρ λd=>match d with
 | .int c=>Q (.int c)
 | _=>False
section
variable {X:Cx} {k j i:Nat} {ps:List Str} {F:FDE} {x y z:Str} {p p1 p2 p3 p4 pos pos' cpos:Pos} {e:Expr} {es:List Expr} {t:RA} {C:Addr} {b:Bool}
end
section
variable {X:Cx} {k i:Nat} {x y:Str} {p p1 pos cpos:Pos} {a:Expr} {te:RE} {C Cb f:Addr}
end
end L2.R2
set_option Elab.async false
set_option linter.all false
set_option maxRecDepth 100000
set_option maxHeartbeats 1000000
namespace L2.R2
open PySem PySem.W PyProof.Rows
section
variable {prog:Program} {w:World} {A:Around} {E:Value->Shared->Prop} {s:Shared} {κ:SortKind} {O:KeyOrd} {k:Keyed->O.α} {G:Keyed->Prop}
noncomputable def at' (a:Array Keyed) (i:Nat):Keyed:=a.getD i (Value.none,Value.none)
section
variable {left:Bool} {key:Keyed} {arr:Array Keyed} {base n:Nat} {bey:Nat->Bool} {Q:Option Nat->SortSt->Prop} {st:SortSt}
end
end
section
variable {α:Type} {R:α->α->Prop} {al bl out A A1 A2 B B1 B2:List α}
end
section
variable {prog:Program} {w:World} {A:Around} {E:Value->Shared->Prop} {s:Shared} {κ:SortKind} {O:KeyOrd} {k:Keyed->O.α} {G:Keyed->Prop}
section
variable {a b out:Array Keyed} {ia ib m:Nat}
end
section
variable {a b out:Array Keyed} {ia ib mg ac bc n0:Nat} {st:SortSt} {F:Option Value} {P:Array (Nat × Nat × Nat)} {X:Array Keyed}
end
end
section
variable {prog:Program} {w:World} {A:Around} {E:Value->Shared->Prop} {s:Shared} {κ:SortKind} {O:KeyOrd} {k:Keyed->O.α} {G:Keyed->Prop}
section
variable {a b out:Array Keyed} {na nb q:Nat}
end
section
variable {a b out:Array Keyed} {na nb mg ac bc n0:Nat} {st:SortSt} {F:Option Value} {P:Array (Nat × Nat × Nat)} {X:Array Keyed}
end
end
section
variable {prog:Program} {w:World} {A:Around} {E:Value->Shared->Prop} {s:Shared} {κ:SortKind} {O:KeyOrd} {k:Keyed->O.α} {G:Keyed->Prop}
end
section
variable {prog:Program} {w:World} {A:Around} {E:Value->Shared->Prop} {s:Shared} {κ:SortKind} {O:KeyOrd} {k:Keyed->O.α} {G:Keyed->Prop}
structure SB (κ:SortKind) (P:Array (Nat × Nat × Nat)) (X:Array Keyed) (st:SortSt):Prop where
 kind:PyProof.Rows.kindOf st=κ
 failed:failedOf st=none
 pend:pendingOf st=P
 perm:(arrOf st).Perm X
section
variable {X:Array Keyed} {P:Array (Nat × Nat × Nat)} {st:SortSt}
theorem SB.size (B:SB κ P X st):(arrOf st).size=X.size:=B.perm.size_eq
end
end
section
variable {prog:Program} {w:World} {A:Around} {E:Value->Shared->Prop} {s:Shared} {κ:SortKind} {O:KeyOrd} {k:Keyed->O.α} {G:Keyed->Prop} {X:Array Keyed} {st:SortSt}
end
end L2.R2
set_option Elab.async false
set_option linter.all false
set_option maxRecDepth 100000
set_option maxHeartbeats 3200000
namespace L2.R2
open PySem PySem.W PySem.SetTable PyProof.Rows
section
variable {prog:Program} {w:World} {A:Around} {E:Value->Shared->Prop} {s:Shared}
end
end L2.R2
namespace L2.R2
open PySem PySem.Spec PyProof.Rows L2
noncomputable def RP (te:RE):RA:=λρ Q=>te ρ λx=>∃nss:List (List Int),x = .lst (nss.map cR)/\nss.length<76/\(∀ns∈nss,ns≠[])/\∀mss:List (List Int),mss.Pairwise (λx y=>dN y x=false)->(∀ns,ns∈mss↔ns∈nss)->mss.length<=nss.length->Q (mss.map cR)
section
variable {X:Cx} {e:Expr} {te:RE} {p pz pos posz:Pos}
end
noncomputable def wM (te:RE):RE:=λρ Q=>te ρ λx=>∃nss:List (List Int),x = .lst (nss.map cR)/\nss.length<=75/\∀mss:List (List Int),mss.Nodup->(∀ns,ns∈mss↔ns∈nss)->Q (.int mss.length)
section
variable {X:Cx} {e:Expr} {te:RE} {p pz pos posz:Pos}
theorem EO {k:Nat} (hr:Room k X.A) (hms:X.mg "len" = none) (hmz:X.mg "set" = none) (hc:X.calm=true) (h:DB X e te) (hgs:Gl X "len":=by rfl) (hgz:Gl X "set":=by rfl)
  (hs:starEach [.Call (.Name "set" pz) [e] [] posz] X.env=[(false,eval (.Call (.Name "set" pz) [e] [] posz) X.env)]:=by rfl) (hn:starEach [] X.env=[]:=by rfl) (h1:starEach [e] X.env=[(false,eval e X.env)]:=by rfl) :
  DE X (.Call (.Name "len" p) [.Call (.Name "set" pz) [e] [] posz] [] pos) (wM te):=by
 intro pins s σ H Q I hh_0
 obtain⟨ρ,P,st,q,kq⟩:=hh_0
 refine wpAny_Call_Name_kw (dZ I hgs hms PySem.boot_len ?_)
 refine PyProof.Rows.callWith_builtin1 ?_ (by rw[hs,hn]) (by rw[hn];rfl)
 rw[hs]
 show wpAny _ _ (spliced ((false,eval (.Call (.Name "set" pz) [e] [] posz) X.env)::backTo pos [])) _ _ s
 refine Calls.spliced_cons (wpAny_Call_Name_kw (dZ I hgz hmz HB ?_))
 refine PyProof.Rows.callWith_type1 (thn (gL h h1 hn posz pins s σ H (λvs H1=>∃(nss:List (List Int)) (v:V),vs=[v]/\Same H H1/\RepB X.K H1 (.lst (nss.map cR)) v/\nss.length<=75/\∀mss:List (List Int),mss.Nodup->(∀ns,ns∈mss↔ns∈nss)->P (.int mss.length)) I
  ⟨ρ,_,st,q,λx v H1 hx s1 r1=>?_⟩) λus s1 ⟨vs,H1,I1,r1,q1⟩=>?_) (by rw[h1,hn]) (by rw[hn];rfl)
 ·obtain⟨nss,rfl,a1,a2⟩:=hx
  exact⟨nss,v,rfl,s1,r1,a1,a2⟩
 obtain⟨nss,v,rfl,s01,rb,h64,hP⟩:=q1
 obtain⟨l,vs,rfl,hq,rr⟩:=rb.lst
 obtain⟨u,rfl,rx⟩:=lU r1
 cases rx
 obtain⟨its,rv,pl,hz⟩:=I1.list hq
 have l1:=rr.length
 have l2:=rv.length
 rw[List.length_map] at l1
 have each:∀(i:Nat) (u:Value),its[i]? = some u->∃ns a,nss[i]? = some ns/\vs[i]? = some (.ref a)/\u = .ref a/\IsTupleKey (intKind X.prog X.w) s1.heap ns a:=λi u e=>by
  have hi:i<nss.length:=by have:=(List.getElem?_eq_some_iff.mp e).1;omega
  obtain⟨v,e1,e2⟩:=rr.get (i:=i) (d:=cR nss[i]) (by rw[List.getElem?_map,List.getElem?_eq_getElem hi];rfl)
  obtain⟨a,rfl,ha⟩:=Reps.tupI_inv e2
  obtain⟨u',f1,f2⟩:=rv.get e1
  rw[e] at f1;cases f1
  cases f2
  obtain⟨ts,g1,g2,_⟩:=I1.tuple (SqT.of (K:=X.K) ha)
  obtain⟨o,go,gc,n,gd⟩:=g2
  exact⟨_,a,List.getElem?_eq_getElem hi,e1,rfl,o,ts.toArray,n,go,gc,gd,by simpa using rQ g1⟩
 have hu:=hr.un
 refine tH (key:=λi=>nss.getD i []) (I1.ok.hd hc) (by omega) pl.isList (λi u e=>?_) (by simp;omega) λh2 tk D up=>?_
 ·obtain⟨ns,a,n1,_,rfl,hk⟩:=each i u (by simpa using e)
  refine⟨a,rfl,?_⟩
  have:nss.getD i []=ns:=by rw[List.getD_eq_getElem?_getD,n1];rfl
  rw[this];exact hk
 refine Calls.spliced_nil ?_
 obtain⟨es,ST,d1,d2,d3⟩:=D
 have keyAt:∀{ns:List Int} {a:Addr},IsTupleKey (intKind X.prog X.w) s1.heap ns a->IsTupleKey (intKind X.prog X.w) h2 ns a:=λ⟨o,its,n,g1,g2⟩=>⟨o,its,n,up _ _ g1,g2⟩
 have elem:∀e∈es.toList,∃(i:Nat) (ns:List Int) (a:Addr),nss[i]? = some ns/\vs[i]? = some (.ref a)/\e.2 = .ref a/\IsTupleKey (intKind X.prog X.w) h2 ns a:=λe he=>by
  obtain⟨j,hj,ej⟩:=d1 e he
  obtain⟨ns,a,n1,n2,n3,hk⟩:=each j e.2 (by simpa using ej)
  exact⟨j,ns,a,n1,n2,n3,keyAt hk⟩
 obtain⟨⟨ep,t,ho,T,_⟩,_,kss,KL,nd⟩:=ST
 have sz:es.size=kss.length:=by rw[<-KL.len,Array.length_toList]
 refine call_len_set (s:={ s1 with heap:=h2,toks:=tk }) ho ⟨rfl,rfl,rfl⟩ rfl T.fits (by simp at d3;omega) ?_
 have I3:Inv X pins σ H1 { s1 with heap:=h2,toks:=tk+1+1 }:=I1.kept up
 refine⟨.int es.size,H1,I3,⟨_,rfl⟩,kq _ _ H1 (hP kss nd λns=>?_) s01 (by rw[sz];exact .int _)⟩
 constructor
 ·intro h
  obtain⟨i,lt,rfl⟩:=List.getElem_of_mem h
  have lt':i<es.toList.length:=by rw[KL.len];exact lt
  obtain⟨k,g1,b,g2,g3⟩:=KL.get (List.getElem?_eq_getElem lt')
  rw[List.getElem?_eq_getElem lt] at g1;cases g1
  obtain⟨j,ms,a,n1,n2,n3,hk⟩:=elem _ (List.getElem_mem lt')
  rw[g2] at n3;cases n3
  rw[g3.inj hk];exact List.mem_of_getElem? n1
 ·intro h
  obtain⟨j,hj,rfl⟩:=List.getElem_of_mem h
  obtain⟨y,hy,b,e1,e2⟩:=d2 j (by simp;omega)
  obtain⟨i,lt,rfl⟩:=List.getElem_of_mem hy
  obtain⟨k,g1,b',g2,g3⟩:=KL.get (List.getElem?_eq_getElem lt)
  rw[g2] at e1;cases e1
  have:nss.getD j []=nss[j]:=by simp[hj]
  rw[this] at e2
  rw[<-g3.inj e2];exact List.mem_of_getElem? g1
end
noncomputable def vR:R22:=λx y Q=>match y with
 | .lst ds=>∃(ks:List Int) (nss:List (List Int)),x=cR ks/\ds=nss.map cR/\Q (.bl (!decide (ks∈nss)))
 | _=>False
theorem xX (n:Nat):∀ns ms:List Int,eqL (eqF (n+1)) (ns.map .int) (ms.map .int)=some (decide (ns=ms))
 | [],[]=>rfl
 | [],_::_=>rfl
 | _::_,[]=>rfl
 | a::ns,b::ms=>by
  show (match eqF (n+1) (.int a) (.int b),eqL (eqF (n+1)) (ns.map .int) (ms.map .int) with | some a,some b=>some (a && b) | _,_=>none)=_
  rw[xX n ns ms]
  show some (decide (a=b) && decide (ns=ms))=_
  by_cases h1:a=b <;> by_cases h2:ns=ms <;> simp[h1,h2]
section
variable {X:Cx}
theorem FL {k:Nat} (hr:Room k X.A):OpD X (compareOp .NotIn) vR:=by
 intro pins s σ H x y v u Q I rx ry hh_0
 obtain⟨d,e,P,r1,r2,q,kk⟩:=hh_0
 have hu:=hr.un
 unfold vR at q
 split at q
 ·rename_i ds
  obtain⟨ks,nss,rfl,rfl,q⟩:=q
  have r1:Rep X.K H (cR ks) x:=by
   rcases r1 with r | ⟨ds,a,vs,e1,_⟩
   ·exact r
   ·cases e1
  obtain⟨a,vs,rfl,h1,q1⟩:=r2.lst
  cases ry
  obtain⟨its,rv,ht,_⟩:=I.list h1
  have l1:=q1.length
  have l2:=rv.length
  rw[List.length_map] at l1
  have each:∀(i:Nat) (y:Value),its[i]? = some y->∃ns a,nss[i]? = some ns/\vs[i]? = some (.ref a)/\y = .ref a/\H a=some (.tup (ns.map V.int))/\Rep X.K H (cR ns) (.ref a):=λi y e=>by
   have hi:i<nss.length:=by have:=(List.getElem?_eq_some_iff.mp e).1;omega
   obtain⟨v,e1,e2⟩:=q1.get (i:=i) (d:=cR nss[i]) (by rw[List.getElem?_map,List.getElem?_eq_getElem hi];rfl)
   obtain⟨a,rfl,ha⟩:=Reps.tupI_inv e2
   obtain⟨u',f1,f2⟩:=rv.get e1
   rw[e] at f1;cases f1
   cases f2
   exact⟨_,a,List.getElem?_eq_getElem hi,e1,rfl,ha,e2⟩
  let f:Value->Bool:=λy=>@decide (∃i:Nat,its[i]? = some y/\nss[i]? = some ks) (Classical.propDecidable _)
  have hf:∀y,f y=true↔∃i:Nat,its[i]? = some y/\nss[i]? = some ks:=λy=>@decide_eq_true_iff _ (Classical.propDecidable _)
  refine SeqAt.notIn_listAt f ht.isList (λy hy=>?_) ?_
  ·obtain⟨i,lt,ei⟩:=List.getElem_of_mem (show y∈its by simpa using hy)
   have ei:its[i]? = some y:=by rw[List.getElem?_eq_getElem lt,ei]
   obtain⟨ns,b,n1,n2,rfl,hb,rb⟩:=each i y ei
   have eq:=(rN I 6 (A:=X.A.in1) (d:=cR ns) (e:=cR ks) (by show eqL (eqF 5) _ _=_;exact xX 4 ns ks) rb r1 rfl rx (by show X.A.units+1+6<cLine;omega)).2
   have:f (.ref b)=decide (ns=ks):=by
    rw[Bool.eq_iff_iff,hf,decide_eq_true_iff]
    constructor
    ·rintro⟨j,e1,e2⟩
     obtain⟨ns',b',m1,m2,e3,hb',_⟩:=each j _ e1
     cases e3
     rw[e2] at m1;cases m1
     rw[hb] at hb'
     injection hb' with hb'
     injection hb' with hb'
     have inj:∀{a b:List Int},a.map V.int=b.map V.int->a=b:=λ{a b} z=>by
      induction a generalizing b with
      | nil=>cases b with | nil=>rfl | cons _ _=>cases z
      | cons x a ih =>
       cases b with
       | nil=>cases z
       | cons y b =>
        rw[List.map_cons,List.map_cons] at z
        injection z with z1 z2
        injection z1 with z1
        rw[z1,ih z2]
     exact inj hb'
    ·rintro rfl
     exact⟨i,ei,n1⟩
   rw[this];exact eq
  ·have e:its.toArray.any f=decide (ks∈nss):=by
    rw[Bool.eq_iff_iff,decide_eq_true_iff,List.any_toArray,List.any_eq_true]
    constructor
    ·rintro⟨y,hy,e⟩
     obtain⟨i,_,e2⟩:=(hf y).mp e
     exact List.mem_of_getElem? e2
    ·intro h
     obtain⟨i,lt,rfl⟩:=List.getElem_of_mem h
     have li:i<its.length:=by omega
     exact⟨its[i],List.getElem_mem li,(hf _).mpr ⟨i,List.getElem?_eq_getElem li,List.getElem?_eq_getElem lt⟩⟩
   rw[e]
   exact⟨.bl _,H,I,rfl,kk _ _ H q (Same.refl H) (.bl _)⟩
 ·exact q.elim
end
end L2.R2
set_option Elab.async false
set_option linter.all false
set_option maxRecDepth 100000
namespace L2.R2
open PySem PySem.Spec PyProof.Rows L2 PySem.W
structure DEnt (h:Heap) (d:Addr) (es:Array DictEntry) (ep:Nat):Prop where
 ex:∃o,h.get? d=some o/\o.ExactDict/\o.data = .dict es ep
section
variable {prog:Program} {w:World} {A:Around} {E:Value->Shared->Prop} {s:Shared} {d it:Addr} {es:Array DictEntry} {ep i:Nat}
theorem DEnt.typeIs (x:DEnt s.heap d es ep):s.TypeIs (.ref d) "dict":=let ⟨o,h1,h2,_⟩:=x.ex;⟨o,h1,h2.1⟩
theorem DEnt.at {h h':Heap} (x:DEnt h d es ep) (k:∀o,h.get? d=some o->h'.get? d=some o):DEnt h' d es ep:=let ⟨o,h1,h2⟩:=x.ex;⟨o,k o h1,h2⟩
theorem DEnt.lt {h:Heap} (x:DEnt h d es ep):d<h.objs.size:=let ⟨_,h1,_⟩:=x.ex;Heap.lt_size h1
theorem EQ {Q:Value->Shared->Prop} (hd:(d == sysModules)=false) (x:DEnt s.heap d es ep)
  (hQ:Q (.ref s.heap.objs.size) { s with heap:=s.heap.push { cls:=.type "dict_keyiterator",data:=.fields #[.ref d,.int 0 0,.int es.size 0,.int ep 0] } }):wpAny (model prog w) A (pyIter (.ref d)) Q E s:=by
 obtain⟨o,ho,_,hdat⟩:=x.ex
 refine wpAny_pyIter_slot x.typeIs F.slot_dict_iter (wpAny_call_entry F.slot_dict_iter x.typeIs F.entry_dict_iter ?_ (F.args_dict_iter_1 _))
 unfold Builtin.«dict.__iter__» Builtin.Dict.dictSlotNone
 refine wpAny_bind (wpAny_bind (wpAny_notOrdered_dict x.typeIs ?_))
 show wpAny _ _ (pure (Value.ref d)) _ _ s
 refine wpAny_pure ?_
 show wpAny _ _ (Builtin.Dict.showsAll d >>= _) _ _ s
 unfold Builtin.Dict.showsAll
 rw[if_neg (by rw[hd];exact Bool.false_ne_true)]
 exact wpAny_bind (wpAny_pure (wpAny_bind (wpAny_dictEntries ho hdat (wpAny_bind (wpAny_dictEpoch ho hdat (wpAny_bind (wpAny_newObj_type (wpAny_pure ⟨_,rfl,"dict_keyiterator",_,⟨_,Heap.get?_push_size _ rfl,rfl⟩,F.slot_dict_keyiterator_next.lookup,hQ⟩))))))))
theorem ER {Q:Option Value->Shared->Prop} (hit:s.heap.IsKeyIter it d i es.size ep) (x:DEnt s.heap d es ep) (hi:i<es.size)
  (hQ:∀h',h'.IsKeyIter it d (i+1) es.size ep->Heap.SameBut it s.heap h'->Q (some es[i].key) { s with heap:=h' }):wpAny (model prog w) A (pyNext (.ref it)) Q E s:=by
 obtain⟨o,ho,hc,hd⟩:=id hit
 obtain⟨od,hod,_,hdd⟩:=x.ex
 have ty:=hit.typeIs
 refine wpAny_bind (wpAny_attempt (wpAny_callSpecial?_slot (name:=Str.ofString "__next__") ty F.slot_dict_keyiterator_next (wpAny_call_entry F.slot_dict_keyiterator_next ty F.entry_dict_keyiterator_next ?_ (F.args_dict_keyiterator_next_1 _))))
 refine wpAny_bind (wpAny_pure (wpAny_bind (wpAny_bind ?_)))
 first | refine wpAny_bind (wpAny_typeNameOfWhole_keyiter ty (wpAny_pure ?_)) | refine wpAny_bind (wpAny_typeNameOf_keyiter ty (wpAny_pure ?_))
 refine wpAny_bind (wpAny_fieldsOf ho hd ?_)
 rw[if_neg (show ¬(Builtin.Dict_items.ownsTuple "dict_keyiterator")=true by decide)]
 show wpAny _ _ (if (Value.ref d == Value.none)=true then _ else _) _ _ s
 rw[if_neg (show ¬((Value.ref d == Value.none)=true) from Bool.false_ne_true)]
 refine wpAny_bind (wpAny_pure (wpAny_bind (wpAny_dictEntries hod hdd ?_)))
 rw[if_neg (by simp)]
 refine wpAny_bind (wpAny_pure (wpAny_bind (wpAny_dictEpoch hod hdd ?_)))
 rw[if_neg (by simp)]
 refine wpAny_pure ?_
 simp only[show ¬((i:Int)<0) from by omega,if_false,Int.toNat_natCast,Array.getElem?_eq_getElem hi]
 refine wpAny_bind ?_
 first | refine wpAny_bind (wpAny_typeNameOfWhole_keyiter ty (wpAny_pure ?_)) | refine wpAny_bind (wpAny_typeNameOf_keyiter ty (wpAny_pure ?_))
 refine wpAny_bind (wpAny_isOneOf_keyiter ty ?_)
 show wpAny _ _ (setField (.ref it) 1 (rawInt ((i:Int)+1)) >>= _) _ _ s
 have it':(s.heap.update it (Obj.mapFields (·.setIfInBounds 1 (rawInt ((i:Int)+1))))).IsKeyIter it d (i+1) es.size ep :=
  ⟨_,Heap.get?_update_self _ ho (Obj.isFreed_of_fields (Obj.data_mapFields hd _)),(Obj.cls_mapFields ..).trans hc,by rw[Obj.data_mapFields hd];simp[rawInt]⟩
 refine wpAny_bind (wpAny_setField ho hd (by simp) (wpAny_bind (wpAny_holding (wpAny_bind (wpAny_isOneOf_keyiter (s:={ s with heap:=s.heap.update it (Obj.mapFields (·.setIfInBounds 1 (rawInt ((i:Int)+1)))) }) it'.typeIs ?_)))))
 show wpAny _ _ (pure es[i].key) _ _ _
 exact wpAny_pure (wpAny_pure ⟨_,rfl,wpAny_pure (hQ _ it' (Heap.SameBut.update ..))⟩)
theorem HU {Q:Option Value->Shared->Prop} (hh:A.handled=none) (hit:s.heap.IsKeyIter it d es.size es.size ep) (x:DEnt s.heap d es ep)
  (hQ:∀h',Heap.ExtBut it s.heap h'->Q none { s with heap:=h' }):wpAny (model prog w) A (pyNext (.ref it)) Q E s:=by
 obtain⟨o,ho,hc,hd⟩:=id hit
 obtain⟨od,hod,_,hdd⟩:=x.ex
 have ty:=hit.typeIs
 refine wpAny_bind (wpAny_attempt (wpAny_callSpecial?_slot (name:=Str.ofString "__next__") ty F.slot_dict_keyiterator_next (wpAny_call_entry F.slot_dict_keyiterator_next ty F.entry_dict_keyiterator_next ?_ (F.args_dict_keyiterator_next_1 _))))
 refine wpAny_bind (wpAny_pure (wpAny_bind (wpAny_bind ?_)))
 first | refine wpAny_bind (wpAny_typeNameOfWhole_keyiter ty (wpAny_pure ?_)) | refine wpAny_bind (wpAny_typeNameOf_keyiter ty (wpAny_pure ?_))
 refine wpAny_bind (wpAny_fieldsOf ho hd ?_)
 rw[if_neg (show ¬(Builtin.Dict_items.ownsTuple "dict_keyiterator")=true by decide)]
 show wpAny _ _ (if (Value.ref d == Value.none)=true then _ else _) _ _ s
 rw[if_neg (show ¬((Value.ref d == Value.none)=true) from Bool.false_ne_true)]
 refine wpAny_bind (wpAny_pure (wpAny_bind (wpAny_dictEntries hod hdd ?_)))
 rw[if_neg (by simp)]
 refine wpAny_bind (wpAny_pure (wpAny_bind (wpAny_dictEpoch hod hdd ?_)))
 rw[if_neg (by simp)]
 refine wpAny_pure ?_
 simp only[show ¬((es.size:Int)<0) from by omega,if_false,Int.toNat_natCast,Array.getElem?_eq_none (Nat.le_refl es.size)]
 refine wpAny_bind ?_
 first | refine wpAny_bind (wpAny_typeNameOfWhole_keyiter ty (wpAny_pure ?_)) | refine wpAny_bind (wpAny_typeNameOf_keyiter ty (wpAny_pure ?_))
 show wpAny _ _ (setField (.ref it) 0 .none >>= _) _ _ s
 refine wpAny_bind (wpAny_setField ho hd (by simp) ?_)
 show wpAny _ _ (newExc (.type "StopIteration") [] >>= _) _ _ _
 refine wpAny_bind ?_
 simp only[newExc,newTuple]
 refine wpAny_bind (wpAny_newObj_type ?_ (by size_fits))
 refine wpAny_bind (m:=firstArgMember _ _) (wpAny_of_eq (a:=Value.none) (by first | rfl | (simp only[firstArgMember];rfl)) (wpAny_newObj_type ?_ (by size_fits)))
 simp only[raiseNew]
 refine wpAny_bind (wpAny_handled ?_)
 rw[show A.in1.handled=none from hh]
 refine wpAny_bind (wpAny_pure (wpAny_throw ?_))
 refine wpAny_bind (wpAny_isInstance (T:="StopIteration") (b:=true) ⟨_,Heap.get?_push_size _ rfl,rfl⟩ isSubtype_stop ?_)
 exact wpAny_pure (hQ _ (((Heap.SameBut.update ..).extBut.push _).push _))
theorem AL (hh:A.handled=none) (I:Addr) (ne:d≠I):Walks prog w A I [I,d] [I] es.size (λi v=>∃e,es[i]? = some e/\v=e.key) (λi h=>h.IsKeyIter I d i es.size ep/\DEnt h d es ep) where
 sub:=λb hb=>by simp at hb;simp[hb]
 frame:=λ_ _ _ st hk=>⟨st.1.at λo e=>hk I (by simp) o e,st.2.at λo e=>hk d (by simp) o e⟩
 item:=λi s Q E hi st hQ=>ER st.1 st.2 hi λh' it' hs'=>hQ _ h' s.toks ⟨_,Array.getElem?_eq_getElem hi,rfl⟩ ⟨it',st.2.at λo e=>hs'.extBut d o ne e⟩ λb o hb e=>hs'.extBut b o (λh=>hb (by simp[h])) e
 done:=λs Q E st hQ=>HU hh st.1 st.2 λh' he'=>hQ h' s.toks λb o hb e=>he' b o (λh=>hb (by simp[h])) e
 self:=λ_ _ _ _ st hQ=>wpAny_pyIter_keyiter st.1 hQ
theorem HV (lo:(d == sysModules)=false):KdlSrc prog w "dict" d d es.size (λi v=>∃e,es[i]? = some e/\v=e.key) (λh=>DEnt h d es ep) where
 type:=λ_ x=>x.typeIs
 there:=λ_ x=>⟨x.lt,x.lt⟩
 keep:=λ_ _ x hk=>x.at λo e=>hk d (.inl rfl) o e
 notList:=by decide
 notTuple:=by decide
 hint:=λ_ _ _ _ x hq=>kdl_hint_dict x.typeIs hq
 iter:=λ_ _ hh x=>⟨_,_,(λ_ _ hq=>EQ lo x hq),AL hh _ (Nat.ne_of_lt x.lt),⟨⟨_,Heap.get?_push_size _ rfl,rfl,rfl⟩,x.at λo e=>Heap.get?_push_of_some _ e⟩⟩
end
noncomputable def sY (ks:List (List Int)) (k:List Int):List (List Int):=if k∈ks then ks else ks++[k]
noncomputable def putX {α:Type} (ks:List (List Int)) (xs:List α) (k:List Int) (x:α):List α:=if k∈ks then List.zipWith (λk' y=>if k'=k then x else y) ks xs else xs++[x]
noncomputable def IE:List (List Int)->List D->List Int->Option D
 | k'::ks,d::ds,k=>if k'=k then some d else IE ks ds k
 | _,_,_=>none
theorem yD {a b:List Int} (e:a.map (Sum.inl:Int->Key)=b.map Sum.inl):a=b:=by
 have z:=congrArg (List.map λx:Key=>match x with | .inl i=>i | .inr _=>0) e
 rw[List.map_map,List.map_map] at z
 simpa [Function.comp_def] using z
theorem rV {ks:List (List Int)} {vs:List V}:(cE ks vs).length=min ks.length vs.length:=by simp[cE]
theorem mD:∀{ks:List (List Int)} {vs:List V} {k:List Int},ks.length=vs.length->((cE ks vs).any (λkv=>decide (kv.1=k.map Sum.inl))=true↔k∈ks)
 | [],[],k,_=>by simp[cE]
 | [],_::_,k,h=>by cases h
 | _::_,[],k,h=>by cases h
 | k'::ks,v::vs,k,h=>by
  show (((k'.map Sum.inl,v)::cE ks vs).any _=true↔_)
  rw[List.any_cons,Bool.or_eq_true,mD (ks:=ks) (vs:=vs) (k:=k) (by simpa using h),List.mem_cons,decide_eq_true_iff]
  exact or_congr_left ⟨λe=>(yD e).symm,λe=>by rw[e]⟩
theorem rW:∀{ks:List (List Int)} {vs:List V} {k:List Int} {v:V},(cE ks vs).map (λkv=>if kv.1=k.map Sum.inl then (kv.1,v) else kv)=cE ks (List.zipWith (λk' y=>if k'=k then v else y) ks vs)
 | [],_,k,v=>by simp[cE]
 | _::_,[],k,v=>by simp[cE]
 | k'::ks,u::vs,k,v=>by
  show (if k'.map Sum.inl=k.map Sum.inl then (k'.map Sum.inl,v) else (k'.map Sum.inl,u))::(cE ks vs).map _=(k'.map Sum.inl,if k'=k then v else u)::cE ks _
  rw[rW]
  by_cases e:k'=k
  ·rw[if_pos (by rw[e]),if_pos e]
  ·rw[if_neg (λz=>e (yD z)),if_neg e]
theorem AS {ks:List (List Int)} {vs:List V} {k:List Int} {v:V} (h:ks.length=vs.length):mO (cE ks vs) (k.map Sum.inl) v=cE (sY ks k) (putX ks vs k v):=by
 unfold mO sY putX
 by_cases m:k∈ks
 ·rw[if_pos ((mD h).mpr m),if_pos m,if_pos m,rW]
 ·rw[if_neg (λz=>m ((mD h).mp z)),if_neg m,if_neg m]
  unfold cE
  rw[List.zipWith_append (by exact h)]
  rfl
theorem JY {α:Type} {ks:List (List Int)} {xs:List α} {k:List Int} {x:α} (h:ks.length=xs.length):(sY ks k).length=(putX ks xs k x).length:=by
 unfold sY putX
 by_cases m:k∈ks
 ·rw[if_pos m,if_pos m];simp[h]
 ·rw[if_neg m,if_neg m];simp[h]
theorem Reps.putX {K:PySem.W.Frag} {H:Hp} {k:List Int} {d:D} {v:V} (rv:Rep K H d v):∀{ks:List (List Int)} {ds:List D} {vs:List V},Reps K H ds vs->Reps K H (List.zipWith (λk' y=>if k'=k then d else y) ks ds) (List.zipWith (λk' y=>if k'=k then v else y) ks vs)
 | [],_,_,_=>by simp;exact .nil
 | _::_,_,_,.nil=>by simp;exact .nil
 | k'::ks,_,_,.cons r t=>by
  rw[List.zipWith_cons_cons,List.zipWith_cons_cons]
  refine .cons ?_ (Reps.putX rv t)
  by_cases e:k'=k
  ·rw[if_pos e,if_pos e];exact rv
  ·rw[if_neg e,if_neg e];exact r
theorem LY {K:PySem.W.Frag} {H:Hp} {kk:List Int} {v:V} (r:Rep K H (.tup (kk.map .int)) v):∃b,v = .ref b/\H b=some (.tup ((kk.map (Sum.inl:Int->Key)).map kV)):=by
 cases r with
 | @tup b vs _ h r =>
  rw[Reps.ints_inv r] at h
  exact⟨b,rfl,by rw[List.map_map];exact h⟩
section
variable {X:Cx} {e k f:Expr} {pos pos' p npos apos cpos spos:Pos} {te tk tf:RE} {x:Str}
noncomputable def OI (i:Nat):RS:=λE ρ=>E.nx (ρ.set i (some (.dt [] [])))
theorem LQ {i:Nat} (hN:X.N.Nodup) (hi:X.N[i]? = some x:=by rfl) (hx:Loc X.env.scope x:=by walk_at "vis") (hs:swapsWith (.Dict [] [] p) (some (.Name x pos')) pos.line X.env=pure false:=by rfl)
  (hf:X.fn x=true\/X.env.scope.names.lookup x=some .local:=by walk_at "loc"):DS X (.Assign [.Name x pos'] (.Dict [] [] p) pos) (OI i) :=
 PS.mono (wI hN hi hx JL hs hf) λDe σ H hh=>dM hh λρ E st q n r b c=>λa ha=>by
  have sm:Same H (upd H a (.dT [])):=Same.fn λb o h=>by rw[aG (aK h ha)];exact h
  exact n _ _ _ q (.of sm) (st.put sm ⟨a,[],rfl,aU,st.same.free ha,rfl,.nil⟩ λc o=>by cases o;exact ha)
noncomputable def uU (i:Nat) (tk te:RE):RS:=λE ρ=>match ρ[i]? with
 | some (some (.dt ks xs))=>te ρ λd=>tk ρ λkd=>∃kk:List Int,kd = .tup (kk.map .int)/\Sz (ks.length+1)/\E.nx (ρ.set i (some (.dt (sY ks kk) (putX ks xs kk d))))
 | _=>False
theorem CN {n:Nat} (i:Nat) (hr:Room n X.A) (hk:DE X k tk) (he:DE X e te) (hN:X.N[i]? = some x:=by rfl) (hv:Vis X.env.scope x:=by walk_at "vis") (hd:(x == ("__debug__":Str))=false:=by decide) (hcd:(x == ("__classdict__":Str))=false:=by decide)
  (hs:swapsWith e (some (.Subscript (.Name x npos) k pos')) pos.line X.env=pure false:=by rfl):DS X (.Assign [.Subscript (.Name x npos) k pos'] e pos) (uU i tk te):=by
 refine PS.mono (MY (by have:=hr.un;omega) (pv (pos:=npos) i hN hv hd hcd) hk he hs) λDe σ H hh=>dM hh λρ E so q n r bk ct=>?_
 unfold uU at q
 split at q
 ·rename_i ks xs ex
  refine⟨ρ,_,so,q,λd v H1 hd' s1 rv=>?_⟩
  have so1:=so.ext s1
  obtain⟨va,h1,a,vs,ev,ha,h0,hl,rr⟩:=so1.rel i _ ex
  subst ev
  refine⟨.ref a,h1,ρ,_,so1,hd',λkd kv H2 hk' s2 rk=>?_⟩
  obtain⟨kk,rfl,sz,fin⟩:=hk'
  obtain⟨b,rfl,hb⟩:=LY rk
  have ha2:=s2.get _ _ ha trivial
  refine⟨a,_,rfl,DPut.t ha2 hb (by rw[rV,<-hl,Nat.min_self];exact sz.ok),?_⟩
  rw[AS hl]
  have kpU:Keep H2 (upd H2 a (.dT (cE (sY ks kk) (putX ks vs kk v)))):=Keep.chg1 ha2 (.inr (.inr ⟨_,rfl⟩))
  have rr2:Reps X.K H2 xs vs:=rr.keep (.of s2)
  have rv2:Rep X.K H2 d v:=rv.keep (.of s2)
  have rp:Reps X.K H2 (putX ks xs kk d) (putX ks vs kk v):=by
   unfold putX
   by_cases m:kk∈ks
   ·rw[if_pos m,if_pos m];exact Reps.putX rv2 rr2
   ·rw[if_neg m,if_neg m];exact rr2.append (.cons rv2 .nil)
  obtain⟨so4,k4⟩:=(so1.ext s2).updW (x':=.dt (sY ks kk) (putX ks xs kk d)) (v':=.ref a) ex h1 (H':=upd H2 a (.dT (cE (sY ks kk) (putX ks vs kk v))))
   (λc o h w'=>by rw[aG (by rintro rfl;exact w' rfl)];exact h) ⟨a,_,rfl,aU,h0,JY hl,rp.keep kpU⟩ λc o=>.inl o
  rw[cK h1] at so4
  exact n _ _ _ fin (((Keep.of s1).trans (.of s2)).trans k4) so4
 ·exact q.elim
noncomputable def rTGet (i:Nat) (tk tf:RE):RE:=λρ Q=>match ρ[i]? with
 | some (some (.dt ks xs))=>tk ρ λkd=>tf ρ λz=>∃kk:List Int,kd = .tup (kk.map .int)/\Q ((IE ks xs kk).getD z)
 | _=>False
noncomputable def wP (i:Nat):RA:=λρ Q=>match ρ[i]? with
 | some (some (.dt ks xs))=>Q (ks.map cR)
 | _=>False
theorem nF {P:Program} {w:World} {H:Hp}:∀{ks:List (List Int)} {vs:List V} {xs:List (List Key × Addr × Value)},ks.length=vs.length->KT H (cE ks vs) xs ->
  ∃bs:List Addr,xs.map (λx=>(entryOfKey (tupleKind (cC P w)) x).key)=bs.map Value.ref/\bs.length=ks.length/\∀(K:PySem.W.Frag),Reps K H (ks.map cR) (bs.map V.ref)
 | [],[],_,_,t=>by cases t;exact⟨[],rfl,rfl,λ_=>.nil⟩
 | [],_::_,_,h,_=>by cases h
 | _::_,[],_,h,_=>by cases h
 | k::ks,v::vs,_,h,t=>by
  cases t with
  | @cons _ q _ qs r t =>
   obtain⟨bs,e1,e2,e3⟩:=nF (P:=P) (w:=w) (by simpa using h) t
   refine⟨q.2.1::bs,by rw[List.map_cons,e1];rfl,by simp[e2],λK=>.cons (.tup (vs:=k.map V.int) ?_ .ints) (e3 K)⟩
   have z:=r.2.1
   rw[show ((k.map Sum.inl,v):List Key × V).1=k.map Sum.inl from rfl,List.map_map] at z
   exact z
theorem BS {pins:List (Addr × Obj)} {σ:St} {H:Hp} {s1:Shared} {a:Addr} {ks:List (List Int)} {vs:List V} {Q:Value->Shared->Prop} {E:Value->Shared->Prop} (hc:X.calm=true) (hl:ks.length=vs.length) (ha:Rd H a (.dT (cE ks vs))) (I1:Inv X pins σ H s1)
  (h:∀(ws:List V) (h':Heap) (tk:Nat),Inv X pins σ (upd H s1.heap.objs.size (.lst ws)) { s1 with heap:=h',toks:=tk }->H s1.heap.objs.size=none->Reps X.K H (ks.map cR) ws->Q (.ref s1.heap.objs.size) { s1 with heap:=h',toks:=tk }) :
  wpAny (model X.prog X.w) X.A (call (.type "list") [.ref a]) Q E s1:=by
 obtain⟨z,hsm,ys,kt,dd⟩:=xW I1.hok ha
 obtain⟨o,es,ep,d1,d2,d3,d4,d5,d6⟩:=dd
 obtain⟨bs,b1,b2,b3⟩:=nF (P:=X.prog) (w:=X.w) hl kt
 have sz:es.size=ks.length:=by rw[<-Array.length_toList,d4,List.length_map,<-List.length_map (f:=λx=>(entryOfKey (tupleKind (cC X.prog X.w)) x).key),b1,List.length_map,b2]
 have zk:ks.length<=sizeLine:=by rw[rV,<-hl,Nat.min_self] at z;exact z
 refine kdl_call (HV (es:=es) (ep:=ep) hsm) (I1.ok.hd hc) ⟨o,d1,d2,d3⟩ (by rw[sz];exact zk) λh' tk acc c kp g1 it=>?_
 have eacc:acc.toList=bs.map Value.ref:=by
  rw[<-b1]
  apply List.ext_getElem?
  intro j
  cases e:acc.toList[j]? with
  | none =>
   have:acc.size<=j:=by simpa using e
   rw[it.1,<-Array.length_toList,d4,List.length_map] at this
   rw[List.getElem?_eq_none (by rw[List.length_map];exact this)]
  | some v =>
   obtain⟨en,e1,e2⟩:=it.2 j v (by simpa using e)
   rw[<-Array.getElem?_toList,d4,List.getElem?_map] at e1
   rw[List.getElem?_map]
   cases q:ys[j]? with
   | none=>rw[q] at e1;cases e1
   | some y=>rw[q] at e1;cases e1;rw[e2];rfl
 have VV:Vals (bs.map V.ref) acc.toList:=by
  rw[eacc]
  clear eacc b1 b2 b3
  induction bs with
  | nil=>exact .nil
  | cons b bs ih=>exact .cons rfl ih
 exact h (bs.map V.ref) h' tk (I1.laid (a:=s1.heap.objs.size) (o:=.lst (bs.map V.ref)) (h':=h') (t':=tk) kp (Nat.le_refl _) ⟨by rw[List.length_map,b2];exact zk,acc.toList,c,VV,by simpa using g1⟩) (I1.hok.fresh (Nat.le_refl _)) (b3 X.K)
theorem IA (i:Nat) (hml:X.mg "list" = none) (hc:X.calm=true) (hN:X.N[i]? = some x:=by rfl) (hv:Vis X.env.scope x:=by walk_at "vis") (hd:(x == ("__debug__":Str))=false:=by decide) (hcd:(x == ("__classdict__":Str))=false:=by decide)
  (hgl:Gl X "list":=by rfl) (hs:starEach [.Name x npos] X.env=[(false,eval (.Name x npos) X.env)]:=by rfl) (hn:starEach [] X.env=[]:=by rfl):DO X (.Call (.Name "list" p) [.Name x npos] [] pos) (wP i):=by
 intro pins s σ H Q I hh_0
 obtain⟨ρ,P,so,q,kq⟩:=hh_0
 unfold wP at q
 split at q
 ·rename_i ks xs ex
  obtain⟨va,h1,a,vs,ev,ha,h0,hl,rr⟩:=so.rel i _ ex
  subst ev
  refine wpAny_Call_Name_kw (dZ I hgl hml oC ?_)
  refine PyProof.Rows.callWith_type1 (thn (gL (pv (pos:=npos) i hN hv hd hcd) hs hn pos pins s σ H (λus H1=>us=[.ref a]/\H1=H) I ⟨.ref a,h1,rfl,rfl⟩) λus s1 ⟨ws,H1,I1,r1,q1⟩=>?_) (by rw[hs,hn]) (by rw[hn];rfl)
  obtain⟨rfl,rfl⟩:=q1
  obtain⟨u,rfl,rx⟩:=lU r1
  cases rx
  exact BS hc hl (.inl ha) I1 λws h' tk I4 hn b3=>⟨.ref s1.heap.objs.size,_,I4,rfl,kq _ _ _ _ q (Same.refl _) hn b3⟩
 ·exact q.elim
end
section
variable {X:Cx} {e a k f:Expr} {pos p apos cpos:Pos} {te ta tk tf:RE}
noncomputable def UX (te:RE):RA:=λρ Q=>te ρ λx=>∃(ks:List (List Int)) (ds:List D),x = .dtt ks ds/\Q (ks.map cR)
noncomputable def dKeyU:R22:=λx y Q=>match x with
 | .dtt ks ds=>∃(kk:List Int) (d:D),y = .tup (kk.map .int)/\IE ks ds kk=some d/\Q d
 | _=>False
end
section
variable {prog:Program} {w:World} {A:Around} {E:Value->Shared->Prop} {s:Shared} {d it v:Addr} {es:Array DictEntry} {ep i:Nat}
end
section
variable {X:Cx} {e tg:Expr} {te:RE} {apos cpos:Pos}
end
end L2.R2
set_option Elab.async false
set_option linter.all false
set_option maxRecDepth 100000
namespace L2.R2
open PySem PySem.Spec PyProof.Rows L2
noncomputable abbrev FM:=List (List Int)->List D->List D->(List Int->D->Prop)->Prop
section
variable {X:Cx} {k:Nat} {ps:List Str} {F:FM} {x y:Str} {p py pos spos:Pos} {es:List Expr} {t:RA}
end
section
variable {X:Cx} {e k f:Expr} {pos pos' p npos apos cpos:Pos} {te tk tf:RE} {x:Str} {a:Addr} {ks:List (List Int)} {xs:List D} {ws:List V}
end
noncomputable abbrev RM:=(List Int->D->Prop)->En->Prop
section
variable {X:Cx} {st:Stmt} {rest:List Stmt} {e k:Expr} {pos pos' npos:Pos} {t:RS} {u:RM} {te tk:RE} {x:Str} {a:Addr} {ks:List (List Int)} {xs:List D} {ws:List V}
end
section
variable {P:Program} {w:World} {K:PySem.W.Frag} {mg:Str->Option Value} {base:Heap}
end
end L2.R2
set_option Elab.async false
set_option linter.all false
set_option maxRecDepth 100000
namespace L2.R2
open PySem PySem.Spec PySem.W PyProof.Rows L2
section
variable {prog:Program} {w:World} {A:Around} {E:Value->Shared->Prop} {s:Shared} {name qual:Str} {params:Arguments} {body:Expr} {scope:Scope} {clos:List (Str × Addr)} {pm ctv v:Value} {f c':Addr} {x:Str} {Q:Value->Shared->Prop}
theorem IS (hroom:A.depth<recursionLimit) (ho:s.heap.get? f=some (kla_obj name qual params body scope clos pm c' ctv)) (hcd:s.heap.CodeRec (.ref c') qual) (hnl:s.heap.NoLimit)
  (hbind:bindArgs (kla_fn name qual params body scope clos pm (.ref c') ctv) ⟨[v],[]⟩=pure [(x,v)]) (hloc:scope.names.lookup x=some .local) (hco:scope.isCoroutine=false) (hgen:scope.isGenerator=false) (hk:scope.kind = .function) (hcell:∀y∈scope.names,y.2≠.cell)
  (h:∀h₁ tk,h₁.Ns s.heap.objs.size (λy=>[(x,v)].reverse.lookup y)->(∀b o,s.heap.get? b=some o->h₁.get? b=some o) ->
   wpAny (model prog w) (A.deeper (envX qual scope s.heap.objs.size f (.ref c') clos)) (eval body (envX qual scope s.heap.objs.size f (.ref c') clos)) Q (λ_ _=>False) { s with heap:=h₁,toks:=tk }) :
  wpAny (model prog w) A (call (.ref f) [v]) Q E s:=by
 refine wpAny_call (kla_callFunE hroom ho rfl hco hgen rfl hcd ?_)
 rw[hbind]
 refine wpAny_pure (wpAny_newFunctionEnv hcell (λy hy=>by rw[List.mem_singleton.mp hy];exact hloc) (λh₁ hns hsb=>⟨hnl.fresh _ hsb,?_⟩) hk)
 have hk₁:∀b o,s.heap.get? b=some o->h₁.get? b=some o:=λb o e=>hsb.extBut b o (Nat.ne_of_lt (Heap.lt_size e)) (Heap.get?_push_of_some _ e)
 exact kla_codeExpr (wpAny_mono (h h₁ _ hns hk₁) (λu s' hq=>hq) λ_ _ z=>z.elim)
end
noncomputable def QE (prog:Program) (w:World) (A:Around) (env:Env) (h:Heap) (e:Expr) (R:Value->Prop):Prop :=
 ∀(s:Shared) (Q:Value->Shared->Prop),s.heap=h->(∀u tk,R u->Q u { s with toks:=tk })->wpAny (model prog w) A (eval e env) Q (λ_ _=>False) s
noncomputable def IsI (i:Int) (u:Value):Prop:=∃t,u = .int i t
section
variable {prog:Program} {w:World} {A:Around} {env:Env} {h:Heap} {a b:Expr} {pos:Pos} {i j:Int} {m:Str->Option Value} {x:Str}
theorem TK {u:Value} (hk:env.scope.kind = .function) (hx:env.kindOf x=some .local) (hn:h.Ns env.locals m) (hm:m x=some u) (hd:(x == ("__debug__":Str))=false:=by decide):QE prog w A env h (.Name x pos) (· = u):=λs Q e k=>by
 subst e
 exact wpAny_Name (wpAny_loadName_local hk hx hn hm (k u s.toks rfl)) hd
theorem QT {u:Value} {c:Addr} (hk:env.scope.kind = .function) (hx:env.kindOf x=some .free) (hc:env.cells.lookup x=some c) (hi:h.IsCell c (some u)) (hd:(x == ("__debug__":Str))=false:=by decide) (hcd:(x == ("__classdict__":Str))=false:=by decide):QE prog w A env h (.Name x pos) (· = u):=λs Q e k=>by
 subst e
 exact wpAny_Name (wpAny_loadName_free hk hx hc hi (k u s.toks rfl) hcd) hd
theorem OH {n:Nat}:QE prog w A env h (.Constant (.int i) n pos) (IsI i):=λs Q e k=>wpAny_Constant_int (k _ _ ⟨_,rfl⟩)
theorem OG {op:Operator} {r:Int} (rule:∀(t u:Tok) (s:Shared) (Q:Value->Shared->Prop) (E:Value->Shared->Prop),Q (.int r s.toks) { s with toks:=s.toks+1 }->wpAny (model prog w) A (binaryOp op (.int i t) (.int j u)) Q E s)
  (ha:QE prog w A env h a (IsI i)) (hb:QE prog w A env h b (IsI j)):QE prog w A env h (.BinOp a op b pos) (IsI r):=λs Q e k=>by
 refine wpAny_BinOp (ha s _ e λu tk hu=>hb _ _ e λv tk2 hv=>?_)
 obtain⟨t,rfl⟩:=hu
 obtain⟨t2,rfl⟩:=hv
 exact rule t t2 _ Q _ (k _ _ ⟨_,rfl⟩)
theorem TL (hc:IntMulOk i j) (ha:QE prog w A env h a (IsI i)) (hb:QE prog w A env h b (IsI j)):QE prog w A env h (.BinOp a .Mult b pos) (IsI (i*j)):=OG (λ_ _ _ _ _ q=>mul_int q hc) ha hb
theorem QS (hc:DivOk i j) (ha:QE prog w A env h a (IsI i)) (hb:QE prog w A env h b (IsI j)):QE prog w A env h (.BinOp a .FloorDiv b pos) (IsI (i.fdiv j)):=OG (λ_ _ _ _ _ q=>floordiv_int hc.nz q (.inl hc.np)) ha hb
theorem TJ {p:Addr} {its:List Value} {n:Nat} {u:Value} (ha:QE prog w A env h a (· = .ref p)) (hb:QE prog w A env h b (IsI (n:Int))) (ht:IsTup h p its.toArray) (hz:its.length<=sizeLine) (hu:its[n]? = some u) (hs:vI b):QE prog w A env h (.Subscript a b pos) (· = u):=λs Q e k=>by
 subst e
 refine Subscript_ (ha s _ rfl λo tk ho=>hb _ _ rfl λv tk2 hv=>?_)
 obtain rfl:o = .ref p:=ho
 obtain⟨t,rfl⟩:=hv
 obtain⟨j,h1,h2,h3,h4,h5⟩:=vJ (gC (xs:=its) hu)
 have l63:=rZ
 exact subscriptTail_builtinR (x:=u) ht.typeIs slot_tuple_getitem.lookup
  (getItem_tuple (j:=j) (Q:=λr s'=>r=u/\Q r s') ht (by omega) (by omega) (by rw[List.size_toArray];exact h1) (by simpa using h2) ⟨rfl,k u _ rfl⟩) (hs _ _)
end
noncomputable def e0H:Heap:={ objs:=#[] }
section
variable {prog:Program} {w:World} {A:Around} {E:Value->Shared->Prop} {s:Shared} {L l f:Addr} {m:Str->Option Value} {vs:List Value} {kz:List Int} {Q:Value->Shared->Prop}
theorem nD (b:Addr):e0H.get? b=none:=by simp[e0H,Heap.get?]
theorem KN (hL:s.heap.Ns L m) (hl:s.heap.IsList l vs.toArray) (hlen:kz.length=vs.length) (h64:vs.length<64) (hf:s.heap.objs.size=f+1) (hfo:∃o,s.heap.get? f=some o) (hfL:f≠L)
  (turn:∀(i:Nat) (v:Value) (k:Int),vs[i]? = some v->kz[i]? = some k->∀(h:Heap) (tk:Nat),(∀b o,b≠L->s.heap.get? b=some o->h.get? b=some o)->h.Ns L m ->
   wpAny (model prog w) A.in1.in1 (call (.ref f) [v]) (λu s'=>∃h' tk' t',s' = { s with heap:=h',toks:=tk' }/\u = .int k t'/\∀b o,h.get? b=some o->h'.get? b=some o) (λ_ _=>False) { s with heap:=h,toks:=tk })
  (q:∀D h' tk out c,(∀b o,b≠L->s.heap.get? b=some o->h'.get? b=some o)->h'.Ns L m->s.heap.objs.size<=D->h'.get? D=some (seqObj "list" out c)->KskOut false kz vs out.toList->Q (.ref D) { s with heap:=h',toks:=tk }) :
  wpAny (model prog w) A (call (.builtin "sorted") [.ref l] [(Str.ofString "key",.ref f)]) Q E s:=by
 have F:Fr e0H L s.heap m:=⟨hL,λb o e=>(by rw[nD] at e;cases e),Nat.zero_le _⟩
 have old:∀{h:Heap} {own:List (Addr × Obj)},News e0H L h (mV e0H s.heap L++own)->∀b o,b≠L->s.heap.get? b=some o->h.get? b=some o:=λ{h own} N b o n e =>
  (N (b,o) (List.mem_append_left _ (kA n (nD b) e))).1
 refine ksk_sorted (kz:=kz) (f:=.ref f) (b:=false) F (JB (g:=e0H) (h:=s.heap) (L:=L)) hl hlen h64 (ksk_s1 _ _) (λx=>ksk_l1 _ _) (λx=>ksk_t1 f x) (λi v k hv hk h tk own Fh N=>?_) λD h' tk out c F' N' hlt ko=>?_
 ·refine wpAny_mono (turn i v k hv hk h tk (old N) Fh.ns) (λu s' hu=>?_) λ_ _ z=>z
  obtain⟨h',tk',t',rfl,rfl,kp⟩:=hu
  exact⟨h',tk',t',rfl,rfl,⟨Fh.ns.keeps kp,λb o e=>(by rw[nD] at e;cases e),Nat.zero_le _⟩,λp hp=>⟨kp _ _ (N p hp).1,(N p hp).2⟩⟩
 ·obtain⟨o,ho⟩:=hfo
  have h1:f<D:=hlt (f,o) (kA hfL (nD f) ho)
  refine q D h' tk out c (λb o n e=>(N' (b,o) (List.mem_cons_of_mem _ (kA n (nD b) e))).1) F'.ns (by rw[hf];exact h1) (N' _ List.mem_cons_self).1 ko
end
end L2.R2
set_option Elab.async false
set_option linter.all false
set_option maxRecDepth 100000
namespace L2.R2
open PySem PySem.Spec PyProof.Rows L2
section
variable {P:Program} {w:World} {K:PySem.W.Frag} {mg:Str->Option Value} {base:Heap}
theorem xH {x qual:Str} {st:Stmt} {f c T:Addr} {oc kV doc pm cdv ct:Value} {od an:Option Addr} {osl:Array (Option Value)} (M:Mod K mg base) (hm:mg x=some (.ref f))
  (lk:K.lookup f=some ⟨oc,od,.func (PySem.W.fnOf x qual (aY st) (aJ st) (aA st) .none kV doc pm an cdv ct),osl⟩) (e:PySem.W.tabIn K x=some (c,T)):cdv = .ref c:=by
 unfold PySem.W.tabIn at e
 split at e
 ·rename_i f' hf
  have e1:=PySem.W.mg_of M.kin M.glob hf
  rw[hm] at e1;cases e1
  rw[lk] at e
  dsimp only at e
  split at e
  ·split at e
   ·split at e
    ·cases e;rfl
    ·cases e
   ·cases e
  ·cases e
 ·cases e
theorem DefAt.okC {x:Str} {st:Stmt} {N ps:List Str} {k:Nat} {F:FD} {t:RS} (Z:DefAt K mg x st ps) (Sc:FnScope N ps (aA st))
  (hbody:∀{f:Addr} (cdv:Value) (A:Around) (outer:List Env) (s:Shared) (H:Hp) (E:XK),(∀c T,PySem.W.tabIn K x=some (c,T)->cdv = .ref c)->Room k (A.deeper (envOfC x (aA st) s.heap.objs.size f cdv)) ->
   DSs (cN CX0 P w K mg base N x (aA st) f cdv A outer s H E).nox (aJ st) t)
  (len:∀ds Q,F ds Q->ds.length=ps.length) (pure:∀ds Q,F ds Q->t { nx:=λ_=>Q .non,rt:=Q } (aM N ds)):FnAt P w K mg base x ps (k+1) F:=by
 obtain⟨f,fd,a,b,c⟩:=Z.ex
 obtain⟨oc,od,kV,doc,pm,an,cdv,ct,osl,rfl,lk,hcd⟩:=a.ex
 have main:Mod K mg base->FnOk P w K mg base CX0 (k+1) f (PySem.W.fnOf x x (aY st) (aJ st) (aA st) .none kV doc pm an cdv ct) ps (spD K F):=λM =>
  NX lk hcd Sc (λvs H Q E ⟨_,ds,P',r,h,_⟩=>by rw[<-r.length];exact len ds P' h) λA outer s H vs Q E hr ⟨tb,ds,P',r,h,kk⟩ =>
   ⟨_,(hbody cdv A outer s H E (λc T e=>xH M b lk e) hr).nox,⟨aM N ds,_,zP (X:=(cN CX0 P w K mg base N x (aA st) f cdv A outer s H E).nox) tb r,pure ds P' h,λρ' σ' H' hq k s'=>kk .non .non H' hq s'.same .non,λd v H' hq k sm rv=>kk d v H' hq sm rv,λ_ _ _ z=>z.elim,λ_ _ _ z=>z.elim⟩⟩
 exact⟨f,_,⟨λvs H Q E ⟨_,ds,P',r,h,_⟩=>by rw[<-r.length];exact len ds P' h,λA outer s H args us vs Q E hr e0 hb r hs=>(main e0.mod).run A outer s H args us vs Q E hr e0 hb r hs⟩,.all c,a.kp,b⟩
end
structure LamW (K:PySem.W.Frag) (mg:Str->Option Value) (base:Heap) (x:Str) (c T:Addr):Prop where
 tab:PySem.W.tabIn K x=some (c,T)
 hd:PySem.W.CodeHd base c T
 blt:base.BuiltinsAt mg T
 ne:mainGlobals≠T
section
variable {X:Cx} {pins:List (Addr × Obj)} {σ:St} {H:Hp} {s:Shared}
theorem HG {P:Program} {w:World} {h:Heap} {c:Addr} {q:Str} {oc:Obj} {vs:Array Value} {t:Tok} (e:h.get? c=some oc) (hd:oc.data = .fields vs) (hv:vs[1]? = some (.str q t)):ObjOk P w H h c (mR c q) :=
 ⟨⟨oc,vs,t,e,hd,hv⟩,⟨_,e⟩,λh1 h2 ⟨oc,vs,t,e,d,v⟩ k=>⟨oc,vs,t,k _ e,d,v⟩⟩
theorem AD {pos pos':Pos} {c cv:Value} (l:List Value) (ht:TriplesOk l) (h:codeAmong pos' (l++[rawInt pos.line,rawInt pos.col,c])=some cv):codeAmong pos' l=some cv\/(cv=c/\pos'.col=pos.col):=by
 fun_induction TriplesOk l with
 | case1 =>
  simp only[List.nil_append,codeAmong,rawInt] at h
  split at h
  ·rename_i hh
   cases h
   refine .inr ⟨rfl,?_⟩
   simp at hh
   omega
  ·cases h
 | case2 a' t b' u x rest ih =>
  simp only[List.cons_append,codeAmong] at h ⊢
  split at h
  ·rename_i hh
   rw[if_pos hh];exact .inl h
  ·rename_i hh
   rw[if_neg hh];exact ih ht h
 | case3 l h1 h2=>exact ht.elim
theorem IU {ρ:En} {x:Str} {c T:Addr} {params:Arguments} {body:Expr} {scope:Scope} {lpos:Pos} {clos:List (Str × Addr)} {Q:Value->Shared->Prop} {E:Value->Shared->Prop} (so:StOk X ρ σ H) (I:Inv X pins σ H s) (W:LamW X.K X.mg X.base x c T) (hx:x∈gF) (hcd:X.env.code = .ref c)
  (hdef:defaultsOf params X.env=([],[])) (hcl:closureFor scope X.env=pure clos) (hqual:X.env.qual ++ "<lambda>" = gK lpos.col)
  (h:∀H2 h' f c' ctv tk,Inv X pins σ H2 { s with heap:=h',toks:=tk }->Same H H2->h'.objs.size=f+1->H2 f=none->s.heap.objs.size<=f->h'.get? f=some (PySem.W.kla_obj "<lambda>" (gK lpos.col) params body scope clos ((X.mg "__name__").getD .none) c' ctv)->h'.CodeRec (.ref c') (gK lpos.col) ->
   Q (.ref f) { s with heap:=h',toks:=tk }):wpAny (model X.prog X.w) X.A (eval (.Lambda params body scope lpos) X.env) Q E s:=by
 obtain⟨ps,hT,ok⟩:=so.tabs x c T hx W.tab
 have hP:s.heap.get? T=some (PySem.W.tabObj ps):=I.hok T _ hT
 have hg:s.heap.Ns mainGlobals X.mg:=I.mod.glob.keeps I.bk
 refine PySem.W.kla_eval hdef ?_
 rw[hqual]
 cases hn:codeAmong lpos ps.toList with
 | none =>
  refine PySem.W.kla_makeFunction hcl I.ok.glob hg hcd (W.hd.keeps I.bk) hP ok.ok hn W.ne (W.blt.keeps I.bk) λc' ctv h' tk hx' hge hlt hrec htb=>?_
  obtain⟨c2,oc,vs,t,e2,hoc,hd,hv⟩:=id hrec
  cases e2
  have nT:∀b o,H b=some o->(∀qs,o≠.tbl qs)->b≠T:=λb o q n z=>by subst z;rw[hT] at q;cases q;exact n _ rfl
  have ncp:H c'=none:=I.hok.fresh hge
  have nTc:T≠c':=aK hT ncp
  have up:∀b o,b≠T->s.heap.get? b=some o->(h'.push (PySem.W.kla_obj "<lambda>" (gK lpos.col) params body scope clos ((X.mg "__name__").getD .none) c' ctv)).get? b=some o:=λb o n e=>Heap.get?_push_of_some _ (hx' b o n e)
  have size:s.heap.objs.size<=h'.objs.size:=Nat.le_trans hge (Nat.le_of_lt hlt)
  have at2:∀b o,H b=some o->b≠T->upd (upd H c' (mR c' (gK lpos.col))) T (.tbl (ps ++ #[rawInt lpos.line,rawInt lpos.col,.ref c'])) b=some o:=λb o q n=>by
   rw[aG n,aG (aK q ncp)];exact q
  have codeAt:upd (upd H c' (mR c' (gK lpos.col))) T (.tbl (ps ++ #[rawInt lpos.line,rawInt lpos.col,.ref c'])) c'=some (mR c' (gK lpos.col)):=by rw[aG (Ne.symm nTc),aU]
  have lamk:LamK H (upd (upd H c' (mR c' (gK lpos.col))) T (.tbl (ps ++ #[rawInt lpos.line,rawInt lpos.col,.ref c']))):=λb qs q=>by
   by_cases hb:b=T
   ·subst hb
    rw[hT] at q;cases q
    refine⟨_,aU,λ_=>⟨?_,λpos cv z=>?_⟩⟩
    ·rw[Array.toList_append];exact TriplesOk_snoc _ _ _ _ ok.ok
    ·rw[Array.toList_append] at z
     rcases AD (pos:=lpos) (c:=.ref c') _ ok.ok z with z | ⟨rfl,zc⟩
     ·obtain⟨d,e1,e3⟩:=ok.code pos cv z
      exact⟨d,e1,at2 d _ e3 (nT d _ e3 λ_ z=>by cases z)⟩
     ·exact⟨c',rfl,by rw[zc];exact codeAt⟩
   ·refine⟨#[],by rw[Array.append_empty];exact at2 b _ q hb,λk=>by rw[Array.append_empty];exact k.mono λd φ z=>at2 d _ z (nT d _ z λ_ z=>by cases z)⟩
  have sm:Same H (upd (upd H c' (mR c' (gK lpos.col))) T (.tbl (ps ++ #[rawInt lpos.line,rawInt lpos.col,.ref c']))):=⟨λb o q nt=>at2 b o q (nT b o q λqs z=>by subst z;exact nt),lamk⟩
  have hok:HOk X.prog X.w (upd (upd H c' (mR c' (gK lpos.col))) T (.tbl (ps ++ #[rawInt lpos.line,rawInt lpos.col,.ref c']))) (h'.push (PySem.W.kla_obj "<lambda>" (gK lpos.col) params body scope clos ((X.mg "__name__").getD .none) c' ctv)):=λb u q=>by
   by_cases hb:b=T
   ·subst hb
    rw[aU] at q;cases q
    exact Heap.get?_push_of_some _ htb
   ·rw[aG hb] at q
    by_cases hc:b=c'
    ·subst hc
     rw[aU] at q;cases q
     exact HG (Heap.get?_push_of_some _ hoc) hd hv
    ·rw[aG hc] at q
     refine (I.hok b u q).stay (λd v hd' e=>up d v ?_ e) (λd e=>at2 d _ e (nT d _ e λ_ z=>by cases z)) λd xs e=>at2 d _ e (nT d _ e λ_ z=>by cases z)
     rcases hd' with rfl | z
     ·exact hb
     ·exact nT d _ z λ_ z=>by cases z
  have un:Un X.fs [] H (upd (upd H c' (mR c' (gK lpos.col))) T (.tbl (ps ++ #[rawInt lpos.line,rawInt lpos.col,.ref c']))) s.heap (h'.push (PySem.W.kla_obj "<lambda>" (gK lpos.col) params body scope clos ((X.mg "__name__").getD .none) c' ctv)):=by
   have neT:∀b,H b=none->b≠T:=λb n z=>by subst z;rw[hT] at n;cases n
   refine⟨λb o e n _ _=>up b o (neT b n) e,λb o e n _ _=>⟨o.slots,up b o (neT b n) e⟩,λb o e n _=>?_,λb o e _=>?_,λb xs q=>sm.get b _ q trivial,λb o u q=>sm.get b _ q trivial,λb qs q=>sm.tbl q⟩
   ·rw[aG (neT b n),aG (Nat.ne_of_lt (Nat.lt_of_lt_of_le (Heap.lt_size e) hge))];exact n
   ·by_cases hb:b=T
    ·subst hb;exact⟨_,Heap.get?_push_of_some _ htb⟩
    ·exact⟨o,up b o hb e⟩
  refine h _ _ h'.objs.size c' ctv tk (I.un un hok) sm (Heap.size_push ..) ?_ size (Heap.get?_push_size _ rfl) ⟨c',oc,vs,t,rfl,Heap.get?_push_of_some _ hoc,hd,hv⟩
  have fr:H h'.objs.size=none:=I.hok.fresh size
  rw[aG (Ne.symm (aK hT fr)),aG (Nat.ne_of_gt hlt)]
  exact fr
 | some cv =>
  obtain⟨c',rfl,hc'⟩:=ok.code lpos cv hn
  obtain⟨⟨oc,vs,t,hoc,hd,hv⟩,_⟩:=I.hok c' _ hc'
  refine PySem.W.kla_makeFunctionHit hcl I.ok.glob hg hcd (W.hd.keeps I.bk) hP ok.ok hn (W.blt.keeps I.bk) λctv h' tk hk hsz=>?_
  exact h H _ h'.objs.size c' ctv tk (I.kept λb o e=>Heap.get?_push_of_some _ (hk b o e)) (Same.refl H) (Heap.size_push ..) (I.hok.fresh hsz) hsz (Heap.get?_push_size _ rfl) ⟨c',oc,vs,t,rfl,Heap.get?_push_of_some _ (hk _ _ hoc),hd,hv⟩
end
theorem yY {α β:Type} {g:α->β}:∀{l1 l0:List β},l1.Perm l0->∀l2:List α,l0=l2.map g->∃l3:List α,l3.Perm l2/\l1=l3.map g:=by
 intro l1 l0 h
 induction h with
 | nil=>intro l2 e;exact⟨[],by rw[List.map_eq_nil_iff.mp e.symm],rfl⟩
 | cons x p ih =>
  intro l2 e
  cases l2 with
  | nil=>cases e
  | cons a l2 =>
   obtain⟨e1,e2⟩:=List.cons.inj e
   obtain⟨l3,p3,e3⟩:=ih l2 e2
   exact⟨a::l3,p3.cons a,by rw[List.map_cons,e3,e1]⟩
 | swap x y l =>
  intro l2 e
  match l2,e with
  | a::b::l2,e =>
   obtain⟨e1,e2⟩:=List.cons.inj e
   obtain⟨e3,e4⟩:=List.cons.inj e2
   exact⟨b::a::l2,List.Perm.swap ..,by simp[e1,e3,e4]⟩
 | trans p1 p2 ih1 ih2 =>
  intro l2 e
  obtain⟨l3,p3,e3⟩:=ih2 l2 e
  obtain⟨l4,p4,e4⟩:=ih1 l3 e3
  exact⟨l4,p4.trans p3,e4⟩
theorem SR {h:Heap} {L:Addr} {m m':Str->Option Value} (a:h.Ns L m) (b:h.Ns L m'):m=m':=a.eq_nsMap.trans b.eq_nsMap.symm
noncomputable abbrev pr2 (p:Int × Int):D:=.tup [.int p.1,.int p.2]
noncomputable def wN (j:Nat) (te:RE):RA:=λρ Q=>te ρ λx=>∃(B:Int) (fs:List (Int × Int)),ρ[j]? = some (some (.d (.int B)))/\x = .lst (fs.map pr2)/\fs.length<64/\(∀f∈fs,DivOk B f.2/\MulOk f.1 (B.fdiv f.2)) /\
 ∀gs:List (Int × Int),gs.Perm fs->gs.Pairwise (λp q=>p.1*B.fdiv p.2<=q.1*B.fdiv q.2)->Q (gs.map pr2)
theorem _root_.L2.Inv.frame {X:Cx} {pins:List (Addr × Obj)} {σ:St} {H:Hp} {s:Shared} {h':Heap} {tk:Nat} {m:Str->Option Value} (I:Inv X pins σ H s) (hn:s.heap.Ns X.env.locals m) (hn':h'.Ns X.env.locals m) (k:∀b o,b≠X.env.locals->s.heap.get? b=some o->h'.get? b=some o):Inv X pins σ H { s with heap:=h',toks:=tk }:=by
 have nL:∀b u,H b=some u->b≠X.env.locals:=λb u e z=>by rw[z,I.free] at e;cases e
 refine I.step (g':=s.gens) (d':=s.drawn) (ch:=[]) (λ_ z=>nomatch z) (λb o n _ _ e _=>k b o n e) (λb o n _ _ e _=>⟨o.slots,k b o n e⟩) (λ_ _ _ _ n=>n) (λb o _ e=>?_) (λ_ _ e=>e) (λ_ _ _ e=>e) (λb ps e=>⟨#[],by rw[e];simp⟩) (λm' hm=>?_) (λb u e=>?_) I.bare
 ·by_cases hb:b=X.env.locals
  ·subst hb;obtain⟨o',_,_,e',_⟩:=hn';exact⟨o',e'⟩
  ·exact⟨o,k b o hb e⟩
 ·rw[SR hm hn];exact hn'
 ·refine (I.hok b u e).stay (λc v hc q=>k c v ?_ q) (λ_ q=>q) λ_ _ q=>q
  rcases hc with rfl | hc
  ·exact nL c u e
  ·exact nL c _ hc
theorem sR {K:PySem.W.Frag} {H:Hp}:∀(l:List ((Int × Int) × Value)),(∀x∈l,∃v,RelV v x.2/\Rep K H (pr2 x.1) v)->∃ws:List V,Vals ws (l.map (·.2))/\Reps K H (l.map λx=>pr2 x.1) ws
 | [],_=>⟨[],.nil,.nil⟩
 | x::l,h=>by
  obtain⟨ws,h1,h2⟩:=sR l λy hy=>h y (List.mem_cons_of_mem _ hy)
  obtain⟨v,r1,r2⟩:=h x List.mem_cons_self
  exact⟨v::ws,.cons r1 h1,.cons r2 h2⟩
theorem IT {x y:Str} {l:List (Str × Addr)} {c:Addr} (h:l.lookup y=some c):∀z∈[(x,NameKind.local),(y,NameKind.free)],z.2=NameKind.free->∃c,l.lookup z.1=some c:=λz m e=>by
 rcases List.mem_cons.mp m with rfl | m
 ·cases e
 ·cases List.mem_singleton.mp m;exact⟨c,h⟩
section
variable {X:Cx} {e:Expr} {te:RE} {p pos kp lpos:Pos} {x y dn:Str} {c T:Addr} {k j:Nat} {params:Arguments} {scope:Scope} {p1 p2 p3 p4 p5 p6 p7 p8 p9:Pos} {n1 n2:Nat}
theorem ES (hr:Room (k+3) X.A) (hms:X.mg "sorted" = none) (W:LamW X.K X.mg X.base dn c T) (hdn:dn∈gF) (hcd:X.env.code = .ref c) (h:DB X e te)
  (hqual:X.env.qual ++ "<lambda>" = gK lpos.col) (hgs:Gl X "sorted":=by rfl) (hdef:defaultsOf params X.env=([],[]):=by rfl) (hfree:∀z∈scope.names,z.2 = .free->∃c,X.env.cells.lookup z.1=some c)
  (hs:starEach [e] X.env=[(false,eval e X.env)]:=by rfl) (hn:starEach [] X.env=[]:=by rfl)
  (hbind:∀(q:Str) (body:Expr) (cl:List (Str × Addr)) (pm cd ct v:Value),bindArgs (PySem.W.kla_fn "<lambda>" q params body scope cl pm cd ct) ⟨[v],[]⟩=pure [(x,v)]:=by intro _ _ _ _ _ _ _;rfl)
  (hloc:scope.names.lookup x=some .local:=by rfl) (hco:scope.isCoroutine=false:=by rfl) (hgen:scope.isGenerator=false:=by rfl) (hk:scope.kind = .function:=by rfl) (hcell:∀z∈scope.names,z.2≠.cell:=by decide)
  (hy:scope.names.lookup y=some .free:=by rfl) (hyN:X.N[j]? = some y:=by rfl) (hyk:X.env.kindOf y=some .cell:=by rfl)
  (hdx:(x == ("__debug__":Str))=false:=by decide) (hdy:(y == ("__debug__":Str))=false:=by decide) (hdc:(y == ("__classdict__":Str))=false:=by decide) :
  DO X (.Call (.Name "sorted" p) [e] [⟨some "key",.Lambda params (.BinOp (.Subscript (.Name x p1) (.Constant (.int 0) n1 p2) p3) .Mult (.BinOp (.Name y p4) .FloorDiv (.Subscript (.Name x p5) (.Constant (.int 1) n2 p6) p7) p8) p9) scope lpos,kp⟩] pos) (wN j te):=by
 intro pins s σ H Q I hh
 obtain⟨ρ,P,so,q,kq⟩:=hh
 refine wpAny_Call_Name_kw (dZ I hgs hms jU ?_)
 refine callWith_kw (thn (gL h hs hn pos pins s σ H (λvs H1=>∃(B:Int) (fs:List (Int × Int)) (v:V),vs=[v]/\Same H H1/\RepB X.K H1 (.lst (fs.map pr2)) v/\ρ[j]? = some (some (.d (.int B)))/\fs.length<64/\(∀f∈fs,DivOk B f.2/\MulOk f.1 (B.fdiv f.2)) /\
   ∀gs:List (Int × Int),gs.Perm fs->gs.Pairwise (λp q=>p.1*B.fdiv p.2<=q.1*B.fdiv q.2)->P (gs.map pr2)) I
  ⟨ρ,_,so,q,λd v H1 hx s1 r1=>?_⟩) λus s1 ⟨vs,H1,I1,r1,q1⟩=>?_) (by rw[hs,hn];rfl) (by rw[hs];rfl)
 ·obtain⟨B,fs,e1,rfl,e2,e3,e4⟩:=hx
  exact⟨B,fs,v,rfl,s1,r1,e1,e2,e3,e4⟩
 obtain⟨B,fs,v,rfl,s01,rb,hB,h64,hok,hP⟩:=q1
 obtain⟨clos,hcl,hcl1,hcl2⟩:=lZ hfree
 refine kws_cons (IU (so.ext s01) I1 W hdn hcd hdef hcl hqual λH2 h2 f c' ctv tk I2 s12 hsz hf0 hfs hfo hrec=>kws_nil ?_)
 have so2:StOk X ρ σ H2:=(so.ext s01).ext s12
 obtain⟨l,vs,rfl,hq,rr⟩:=(rb.same s12).lst
 obtain⟨u,rfl,rx⟩:=lU r1
 cases rx
 obtain⟨its,rv,pl,hz⟩:=I2.list hq
 obtain⟨m,hm,hl⟩:=id I2.loc
 show wpAny (model X.prog X.w) X.A (call (.builtin "sorted") [.ref l] [(Str.ofString "key",.ref f)]) (EP X pins σ Q) X.xe { s1 with heap:=h2,toks:=tk }
 have lf:=rr.length
 have li:=rv.length
 rw[List.length_map] at lf
 have nL:∀b u,H2 b=some u->b≠X.env.locals:=λb u e z=>by rw[z,I2.free] at e;cases e
 have fL:f≠X.env.locals:=λz=>by
  have h1:X.env.locals<s1.heap.objs.size:=I1.lt
  rw[<-z] at h1
  exact absurd (Nat.lt_of_lt_of_le h1 hfs) (Nat.lt_irrefl _)
 have item:∀(i:Nat) (g:Int × Int) (u:Value),fs[i]? = some g->its[i]? = some u->∃a ts,u = .ref a/\H2 a=some (.tup [.int g.1,.int g.2])/\Vals [.int g.1,.int g.2] ts/\IsTup h2 a ts.toArray:=λi g u eg eu=>by
  obtain⟨v,e1,e2⟩:=rr.get (i:=i) (d:=pr2 g) (by rw[List.getElem?_map,eg];rfl)
  obtain⟨u',f1,f2⟩:=rv.get e1
  rw[eu] at f1;cases f1
  cases e2 with
  | tup ha ra =>
   cases f2
   have ev:_=[V.int g.1,V.int g.2]:=Reps.ints_inv (ns:=[g.1,g.2]) ra
   subst ev
   obtain⟨ts,g1,g2,_⟩:=I2.tuple (SqT.of (K:=X.K) ha)
   exact⟨_,ts,rfl,ha,g1,g2⟩
 obtain⟨vB,eB,rB⟩:=so2.rel j _ hB
 have eB':=Rep.int_inv rB
 subst eB'
 obtain⟨uB,rBu,look⟩:=hl j y _ hyN eB (.inr (.inl hyk))
 obtain⟨tB,rfl⟩:=rBu
 obtain⟨cy,ecy,cellY⟩:∃cy,X.env.cells.lookup y=some cy/\h2.IsCell cy (some (.int B tB)):=by
  rcases look with ⟨z,_⟩ | ⟨_,c,e1,e2⟩
  ·rw[hyk] at z;cases z
  ·exact⟨c,e1,e2⟩
 have closY:clos.lookup y=some cy:=by
  obtain⟨c3,e3⟩:=hcl2 (y,.free) (PySem.mem_of_lookup hy) rfl
  have:=hcl1 y c3 e3
  rw[ecy] at this;cases this
  exact e3
 have cyL:cy≠X.env.locals:=I2.cne y cy ecy
 refine KN (kz:=fs.map λg=>g.1*B.fdiv g.2) hm pl.isList (by rw[List.length_map];omega) (by omega) hsz ⟨_,hfo⟩ fL (λi v kk hv hkk h3 tk3 kp3 ns3=>?_) λD h4 tk4 out c4 kp4 ns4 hD hDo ko=>?_
 ·-- a key
  obtain⟨g,eg,rfl⟩:∃g,fs[i]? = some g/\kk=g.1*B.fdiv g.2:=by
   rw[List.getElem?_map] at hkk
   cases e:fs[i]? with
   | none=>rw[e] at hkk;cases hkk
   | some g=>rw[e] at hkk;cases hkk;exact⟨g,rfl,rfl⟩
  obtain⟨a,ts,rfl,ha,ht,tup⟩:=item i g v eg hv
  obtain⟨hdv,hml⟩:=hok g (List.mem_of_getElem? eg)
  cases ht with
  | cons t1 ht =>
   cases ht with
   | cons t2 ht =>
    cases ht
    obtain⟨k1,rfl⟩:=t1
    obtain⟨k2,rfl⟩:=t2
    refine IS (x:=x) (s:={ s1 with heap:=h3,toks:=tk3 }) hr.in1.in1.depth (kp3 f _ fL hfo) ?_ (I2.ok.mod.nolimit.keeps λb o e=>kp3 b o (Nat.ne_of_lt (Nat.lt_of_lt_of_le (Heap.lt_size e) (Nat.le_trans I2.ok.bsz I2.ok.above))) (I2.bk b o e)) (hbind _ _ _ _ _ _ _) hloc hco hgen hk hcell λh5 tk5 ns5 kp5=>?_
    ·obtain⟨c2,oc,vs2,t2,e2,hoc,hd2,hv2⟩:=hrec
     exact⟨c2,oc,vs2,t2,e2,kp3 c2 oc (λz=>by
      obtain⟨o',es,ep,e',d',_⟩:=hm
      rw[<-z] at e'
      rw[hoc] at e';cases e'
      rw[hd2] at d';cases d') hoc,hd2,hv2⟩
    ·have body:QE X.prog X.w (X.A.in1.in1.deeper (PySem.W.envX (gK lpos.col) scope h3.objs.size f (.ref c') clos)) (PySem.W.envX (gK lpos.col) scope h3.objs.size f (.ref c') clos) h5 (.BinOp (.Subscript (.Name x p1) (.Constant (.int 0) n1 p2) p3) .Mult (.BinOp (.Name y p4) .FloorDiv (.Subscript (.Name x p5) (.Constant (.int 1) n2 p6) p7) p8) p9) (IsI (g.1*B.fdiv g.2)):=by
      have tup5:IsTup h5 a [Value.int g.1 k1,Value.int g.2 k2].toArray:=by
       obtain⟨o,e1,e2⟩:=tup
       exact⟨o,kp5 a o (kp3 a o (nL a _ ha) e1),e2⟩
      have cell5:h5.IsCell cy (some (.int B tB)):=by
       obtain⟨o,e1,e2⟩:=cellY
       exact⟨o,kp5 cy o (kp3 cy o cyL e1),e2⟩
      have nx:∀{pz:Pos},QE X.prog X.w (X.A.in1.in1.deeper (PySem.W.envX (gK lpos.col) scope h3.objs.size f (.ref c') clos)) (PySem.W.envX (gK lpos.col) scope h3.objs.size f (.ref c') clos) h5 (.Name x pz) (· = .ref a):=TK hk hloc ns5 (by simp) hdx
      have int:∀{i:Int} {t:Tok} {e:Expr},QE X.prog X.w (X.A.in1.in1.deeper (PySem.W.envX (gK lpos.col) scope h3.objs.size f (.ref c') clos)) (PySem.W.envX (gK lpos.col) scope h3.objs.size f (.ref c') clos) h5 e (· = .int i t)->QE X.prog X.w (X.A.in1.in1.deeper (PySem.W.envX (gK lpos.col) scope h3.objs.size f (.ref c') clos)) (PySem.W.envX (gK lpos.col) scope h3.objs.size f (.ref c') clos) h5 e (IsI i):=λhq s Q e k=>hq s Q e λu tk hu=>k u tk ⟨_,hu⟩
      exact TL hml.ok (int (TJ (n:=0) nx OH tup5 (show 2<=sizeLine by decide) rfl λ_ _=>rfl)) (QS hdv (int (QT hk hy closY cell5 hdy hdc)) (int (TJ (n:=1) nx OH tup5 (show 2<=sizeLine by decide) rfl λ_ _=>rfl)))
     refine body _ _ rfl λu tk6 hu=>?_
     obtain⟨t6,rfl⟩:=hu
     exact⟨h5,tk6,t6,rfl,rfl,kp5⟩
 ·-- what is told
  obtain⟨ps,pp,eo,srt⟩:=ko
  have ez:(fs.map λg=>g.1*B.fdiv g.2).zip its=(fs.zip its).map λz=>(z.1.1*B.fdiv z.1.2,z.2):=by
   rw[List.zip_map_left];rfl
  obtain⟨l3,p3,e3⟩:=yY pp (fs.zip its) ez
  have pf:(l3.map (·.1)).Perm fs:=by
   have:=p3.map (·.1)
   rw[List.map_fst_zip (by omega)] at this
   exact this
  have so':(l3.map (·.1)).Pairwise (λp q=>p.1*B.fdiv p.2<=q.1*B.fdiv q.2):=by
   rw[e3] at srt
   rw[List.pairwise_map] at srt ⊢
   exact srt.imp λ{a b} h=>by simpa using h
  have eout:out.toList=l3.map (·.2):=by rw[eo,e3,List.map_map];rfl
  have mem:∀z∈l3,∃v,RelV v z.2/\Rep X.K H2 (pr2 z.1) v:=λz hz=>by
   obtain⟨i,hi,ei⟩:=List.getElem_of_mem (p3.mem_iff.mp hz)
   have hi':i<fs.length/\i<its.length:=by rw[List.length_zip] at hi;omega
   rw[List.getElem_zip] at ei
   obtain⟨a,ts,e1,ha,_,_⟩:=item i fs[i] its[i] (List.getElem?_eq_getElem hi'.1) (List.getElem?_eq_getElem hi'.2)
   refine⟨.ref a,?_,?_⟩
   ·rw[<-ei];exact e1
   ·rw[<-ei];exact .tup ha (Reps.ints (ns:=[fs[i].1,fs[i].2]))
  obtain⟨ws,V1,R1⟩:=sR l3 mem
  have I4:Inv X pins σ H2 { s1 with heap:=h4,toks:=tk4 }:=I2.frame hm ns4 kp4
  have hD0:H2 D=none:=I2.hok.fresh hD
  have lw:=V1.length
  have l3l:l3.length=fs.length:=by have:=pf.length_eq;simpa using this
  have I5:=I2.trackO (a:=D) (w:=.lst ws) I4 hD hD0 ⟨by rw[sizeLine_eq];simp at lw;omega,out.toList,c4,by rw[eout];exact V1,by simpa using hDo⟩
  exact⟨.ref D,_,I5,rfl,kq _ _ _ H2 (by have:=hP _ pf so';rw[List.map_map] at this;exact this) (s01.trans s12) hD0 R1⟩
end
structure Hid (K K':PySem.W.Frag):Prop where
 get:∀b o,K.lookup b=some o->o.data≠.fields #[]->K'.lookup b=some o
 of:∀b o,K'.lookup b=some o->K.lookup b=some o
section
variable {K K':PySem.W.Frag}
theorem Hid.ns (z:Hid K K') {a:Addr} {x:Str} {r:Option Value} (e:PySem.W.nsIn K a x=some r):PySem.W.nsIn K' a x=some r:=by
 unfold PySem.W.nsIn at e ⊢
 cases q:K.lookup a with
 | none=>rw[q] at e;cases e
 | some o =>
  rw[q] at e
  obtain⟨oc,od,dt,sl⟩:=o
  cases dt with
  | dict es n=>rw[z.get a _ q λy=>by cases y];exact e
  | _=>cases e
theorem Hid.ns' (z:Hid K K') {a:Addr} {x:Str} {r:Option Value} (e:PySem.W.nsIn K' a x=some r):PySem.W.nsIn K a x=some r:=by
 unfold PySem.W.nsIn at e ⊢
 cases q:K'.lookup a with
 | none=>rw[q] at e;cases e
 | some o=>rw[q] at e;rw[z.of a _ q];exact e
theorem Hid.code (z:Hid K K') {cd:Value} {q:Str} (e:PySem.W.codeIn K cd q=true):PySem.W.codeIn K' cd q=true:=by
 unfold PySem.W.codeIn at e ⊢
 split at e
 ·rename_i c
  cases w:K.lookup c with
  | none=>rw[w] at e;cases e
  | some o =>
   rw[w] at e
   obtain⟨oc,od,dt,sl⟩:=o
   cases dt with
   | fields vs =>
    rw[z.get c _ w λy=>by cases y;cases e]
    exact e
   | _=>cases e
 ·cases e
theorem Hid.fn (z:Hid K K') {x qual:Str} {st:Stmt} {f:Addr} {fd:FuncData} (F:Fun K x qual st f fd):Fun K' x qual st f fd:=by
 obtain⟨oc,od,kV,doc,pm,an,cdv,ct,osl,rfl,lk,hcd⟩:=F.ex
 have lk':=z.get f _ lk λy=>by cases y
 refine⟨⟨oc,od,kV,doc,pm,an,cdv,ct,osl,rfl,lk',z.code hcd⟩,?_⟩
 unfold PySem.W.keepIn
 simp only[lk']
theorem Hid.def (z:Hid K K') {mg:Str->Option Value} {x:Str} {st:Stmt} {ps:List Str} (Z:DefAt K mg x st ps):DefAt K' mg x st ps:=by
 obtain⟨f,fd,a,b,c⟩:=Z.ex
 exact⟨f,fd,z.fn a,b,c⟩
theorem Hid.tab' (z:Hid K K') {x:Str} {r:Addr × Addr} (e:PySem.W.tabIn K' x=some r):PySem.W.tabIn K x=some r:=by
 unfold PySem.W.tabIn at e ⊢
 split at e
 ·rename_i f hf
  rw[z.ns' hf]
  dsimp only
  split at e
  ·rename_i fo
   rw[z.of _ _ fo]
   dsimp only
   split at e
   ·rename_i c hc
    split at e
    ·rename_i co
     rw[z.of _ _ co]
     exact e
    ·cases e
   ·cases e
  ·cases e
 ·cases e
theorem Hid.tab (z:Hid K K') {x:Str} {r:Addr × Addr} (e:PySem.W.tabIn K x=some r):PySem.W.tabIn K' x=some r:=by
 unfold PySem.W.tabIn at e ⊢
 split at e
 ·rename_i f hf
  rw[z.ns hf]
  dsimp only
  split at e
  ·rename_i fo
   rw[z.get _ _ fo λy=>by cases y]
   dsimp only
   split at e
   ·rename_i c hc
    split at e
    ·rename_i vs _ co
     rw[z.get _ _ co λy=>by cases y;cases e]
     exact e
    ·cases e
   ·cases e
  ·cases e
 ·cases e
end
theorem RK {K:PySem.W.Frag} {x:Str} {f c P:Addr} {oc coc:Value} {od cod:Option Addr} {fd:FuncData} {sl csl:Array (Option Value)} {vs:Array Value} (a:PySem.W.nsIn K mainGlobals x=some (some (.ref f))) (l:K.lookup f=some ⟨oc,od,.func fd,sl⟩) (e:fd.code = .ref c)
  (m:K.lookup c=some ⟨coc,cod,.fields vs,csl⟩) (v:vs[11]? = some (.ref P)):PySem.W.tabIn K x=some (c,P):=by
 unfold PySem.W.tabIn
 rw[a];dsimp only
 rw[l];dsimp only
 rw[e];dsimp only
 rw[m];dsimp only
 rw[v]
noncomputable def eK (K:PySem.W.Frag):List Addr:=gF.filterMap λx=>(PySem.W.tabIn K x).map (·.2)
noncomputable def kT (K:PySem.W.Frag):PySem.W.Frag:=K.filter λe=>!(eK K).contains e.1
theorem fG {p:Addr->Bool}:∀(K:PySem.W.Frag) (b:Addr),(K.filter λe=>p e.1).lookup b=if p b then K.lookup b else none
 | [],b=>by simp
 | (a,o)::K,b=>by
  have ih:=fG (p:=p) K b
  by_cases hp:p a
  ·rw[List.filter_cons_of_pos (by exact hp)]
   by_cases hb:b=a
   ·subst hb;simp[List.lookup_cons,hp]
   ·rw[List.lookup_cons,List.lookup_cons,beq_eq_false_iff_ne.mpr hb];exact ih
  ·rw[List.filter_cons_of_neg (by exact hp),ih]
   by_cases hb:b=a
   ·subst hb;simp[hp]
   ·rw[List.lookup_cons,beq_eq_false_iff_ne.mpr hb]
noncomputable def tX (K:PySem.W.Frag) (mg:Str->Option Value) (base:Heap):Prop:=∀x c T,x∈gF->PySem.W.tabIn K x=some (c,T)->LamW K mg base x c T
theorem PL {K:PySem.W.Frag} {h:Heap} (KX:K.In h) (hT:∀b∈eK K,h.get? b=some (PySem.W.tabObj #[])):Hid K (kT K):=by
 refine⟨λb o e n=>?_,λb o e=>?_⟩
 ·unfold kT
  rw[fG (p:=λb=>!(eK K).contains b)]
  have nb:b ∉ eK K:=λm=>by
   have:=hT b m
   rw[KX b o e] at this
   cases this
   exact n rfl
  simp[nb,e]
 ·unfold kT at e
  rw[fG (p:=λb=>!(eK K).contains b)] at e
  split at e
  ·exact e
  ·cases e
theorem LX {K:PySem.W.Frag} {b:Addr} (m:b∈eK K):(kT K).lookup b=none:=by
 unfold kT
 rw[fG (p:=λb=>!(eK K).contains b)]
 simp[m]
theorem wU {l:PySem.W.Frag} {b:Addr}:b∈eK l↔∃x c,x∈gF/\PySem.W.tabIn l x=some (c,b):=by
 unfold eK
 rw[List.mem_filterMap]
 constructor
 ·rintro⟨x,m,e⟩
  obtain⟨⟨c,T⟩,e1,e2⟩:=Option.map_eq_some_iff.mp e
  cases e2
  exact⟨x,c,m,e1⟩
 ·rintro⟨x,c,m,e⟩
  exact⟨x,m,by rw[e];rfl⟩
theorem FC {P:Program} {w:World} {K:PySem.W.Frag} {mg mb:Str->Option Value} {k:Nat} {fa a:Addr} {fd:FuncData} {x:Str} {s₁:Shared} {vs:List Value} {ns:List Int}
  (KX:K.In s₁.heap) (hns:s₁.heap.Ns mainGlobals mg) (hb:s₁.heap.Ns builtinsNs mb) (hbb:∀x:Str,x≠"__name__"->mb x=bootBuiltins x) (hlim:s₁.heap.NoLimit) (hg:s₁.gens = #[])
  (ha:s₁.heap.get? a=some { cls:=.type "list",data:=.seq vs.toArray }) (hi:IntsAre vs ns) (hl:ns.length<=63) (hr:Room k callerA)
  (hbm:∃bm ob,mg "__builtins__" = some (.ref bm)/\bm≠builtinsNs/\s₁.heap.get? bm=some ob/\ob.cls = .type "module"/\ob.dict=some builtinsNs/\ob.data = .plain)
  (hT:∀x c T,x∈gF->PySem.W.tabIn K x=some (c,T)->PySem.W.CodeHd s₁.heap c T/\s₁.heap.get? T=some (PySem.W.tabObj #[]))
  (F:∀(base:Heap) (K':PySem.W.Frag),Hid K K'->K'.In base->base.Ns mainGlobals mg->tX K' mg base->FnOk P w K' mg base CX0 k fa fd [x] (spD K' (DX 63))) (hbind:∀(s:Shared) (u:Value),BindsTo s fd ⟨[u],[]⟩ [(x,u)]) :
  codeAny (model P w) callerA (.call (.ref fa) ⟨[.ref a],[]⟩) (λr s'=>r = .ok (.ret (.bool true))/\OldK s₁.heap s'.heap/\s'.os=s₁.os/\AllBare s'.gens) s₁:=by
 have rv:=iZ hi
 have lenV:=hi.length
 have tb0:∀b∈eK K,s₁.heap.get? b=some (PySem.W.tabObj #[]):=λb m=>by
  obtain⟨x,c,m1,e⟩:=wU.mp m
  exact (hT x c b m1 e).2
 have Z:Hid K (kT K):=PL KX tb0
 have na:a ∉ eK K:=λm=>by
  have:=tb0 a m
  rw[ha] at this;cases this
 have core:∀H:Hp,(∀b u,H b=some u->(b∈eK K/\u = .tbl #[])\/(b=a/\K.lookup a=none/\∃o xs,u = .frz o (.lst xs)))->(∀b∈eK K,H b=some (.tbl #[]))->FzL (kT K) H a (ns.map V.int)->HOk P w H s₁.heap ->
   codeAny (model P w) callerA (.call (.ref fa) ⟨[.ref a],[]⟩) (λr s'=>r = .ok (.ret (.bool true))/\OldK s₁.heap s'.heap/\s'.os=s₁.os/\AllBare s'.gens) s₁:=by
  intro H hO hH hS hok
  have base_of:∀{b:Addr} {o:Obj},s₁.heap.get? b=some o->H b=none->(tK s₁.heap H).get? b=some o:=λe n=>IJ e n
  have noA:∀{b:Addr} {o:Obj},s₁.heap.get? b=some o->o.data≠.fields #[]->b≠a->H b=none:=λ{b o} e d n=>by
   cases q:H b with
   | none=>rfl
   | some u =>
    rcases hO b u q with ⟨m,_⟩ | ⟨e',_⟩
    ·have:=tb0 b m
     rw[e] at this;cases this
     exact (d rfl).elim
    ·exact (n e').elim
  have neA:∀{b:Addr} {o:Obj},s₁.heap.get? b=some o->(∀xs n,o.data≠.seq xs n)->b≠a:=λ{b o} e d z=>by
   subst z
   rw[ha] at e;cases e
   exact d _ _ rfl
  have nsK:∀{b:Addr} {m:Str->Option Value},s₁.heap.Ns b m->(tK s₁.heap H).Ns b m:=λ{b m} ⟨o,es,ep,e,d,r⟩=>⟨o,es,ep,base_of e (noA e (by rw[d];intro y;cases y) (neA e (by rw[d];intro _ _ y;cases y))),d,r⟩
  have hKb:(kT K).In (tK s₁.heap H):=λb o e=>base_of (KX b o (Z.of b o e)) (by
   cases q:H b with
   | none=>rfl
   | some u =>
    rcases hO b u q with ⟨m,_⟩ | ⟨e',n,_⟩
    ·rw[LX m] at e;cases e
    ·subst e'
     have:=Z.of b o e
     rw[n] at this;cases this)
  have hM:Mod (kT K) mg (tK s₁.heap H):=⟨hKb,nsK hns,⟨mb,nsK hb,hbb⟩,let ⟨mc,h1,h2⟩:=hlim;⟨mc,nsK h1,h2⟩⟩
  have e0:Env0 P w (kT K) mg (tK s₁.heap H) callerA [] s₁ H:=⟨rfl,hM,λb o e=>MN e,Nat.le_of_eq (EU _ _),trivial,λb hb=>absurd (show b∈([]:List Addr) from hb) (by simp),hok,.of_eq hg⟩
  have tw:tX (kT K) mg (tK s₁.heap H):=λx c T m e=>by
   obtain⟨hd,ht⟩:=hT x c T m (Z.tab' e)
   refine⟨e,?_,?_,λz=>?_⟩
   ·obtain⟨o,vs',file,tf,flags,tg,inF,text,tt,e1,e2,e3,e4,r⟩:=hd
    refine⟨o,vs',file,tf,flags,tg,inF,text,tt,base_of e1 (noA e1 (by rw[e3];intro y;cases y;cases e4) (neA e1 (by rw[e3];intro _ _ y;cases y))),e2,e3,e4,r⟩
   ·obtain⟨bm,ob,b1,b2,b3,b4,b5,b6⟩:=hbm
    refine⟨bm,ob,b1,b2,λz=>?_,λz=>?_,base_of b3 (noA b3 (by rw[b6];intro y;cases y) (neA b3 (by rw[b6];intro _ _ y;cases y))),b4,b5,b6⟩
    ·obtain⟨o,es,ep,e1,d,_⟩:=hns
     rw[<-z,b3] at e1;cases e1
     rw[b6] at d;cases d
    ·rw[z,ht] at b3;cases b3;cases b6
   ·obtain⟨o,es,ep,e1,d,_⟩:=hns
    rw[z,ht] at e1;cases e1;cases d
  have tin:TabsIn (kT K) H:=λx c T m e=>⟨#[],hH T (wU.mpr ⟨x,c,m,Z.tab' e⟩),⟨trivial,λpos cv z=>by cases z⟩⟩
  refine codeAny_mono ((F _ _ Z hKb (nsK hns) tw).run callerA [] s₁ H ⟨[.ref a],[]⟩ [.ref a] [.ref a] (λv _=>v = .bl true) (λ_ _ _=>False) hr e0 (hbind s₁ (.ref a)) (.cons rfl .nil)
   ⟨tin,[.lst (ns.map .int)],λd=>d = .bl true,.cons (.lst hS .ints) .nil,⟨ns,rfl,hl,rfl⟩,λd v H' e _ r=>by subst e;exact r.bl_inv⟩) λr s' h=>?_
  cases r with
  | error e=>exact False.elim h
  | ok fl =>
   cases fl with
   | next=>exact False.elim h
   | brk=>exact False.elim h
   | cont=>exact False.elim h
   | ret u =>
    obtain⟨v,H',os,bare,un,hok',r',q⟩:=h
    have q':v = .bl true:=q
    subst q'
    obtain rfl:u=Value.bool true:=r'
    have as:∀b o,s₁.heap.get? b=some o->asItWas s₁.heap s'.heap b o:=λb o e=>by
     cases q:H b with
     | none=>exact .inl (un.keep b o e q (by intro z;exact absurd (show b∈([]:List Addr) from z) (by simp)) (by simp))
     | some u =>
      rcases hO b u q with ⟨m,rfl⟩ | ⟨_,_,ob,xs,rfl⟩
      ·obtain⟨more,e2⟩:=un.tbls b _ q
       have e3:s'.heap.get? b=some (PySem.W.tabObj (#[]++more)):=hok' b _ e2
       obtain⟨x,c,m1,e4⟩:=wU.mp m
       obtain⟨hd,ht⟩:=hT x c b m1 e4
       rw[e] at ht;cases ht
       exact .inr (.inl ⟨(hd.tab e).isCodeTable,rfl,#[],more,rfl,e3⟩)
      ·have z2:=un.frzs b ob _ q
       obtain⟨e1,_⟩:=hok b _ q
       obtain⟨e2,_⟩:=hok' b _ z2
       rw[e] at e1;cases e1
       exact .inl e2
    exact⟨rfl,⟨as,λb o e=>un.there b o e (by simp)⟩,os,bare⟩
 cases hk:K.lookup a with
 | some o =>
  have e:=KX a o hk
  rw[ha] at e
  cases e
  refine core (λb=>if b∈eK K then some (.tbl #[]) else none) (λb u z=>?_) (λb m=>if_pos m) (.inr ⟨_,vs.toArray,_,Z.get a _ hk (by intro y;cases y),rfl,rfl,rfl,by rw[List.size_toArray,lenV,sizeLine_eq];omega,by simpa using rv⟩) (λb u z=>?_)
  ·by_cases hb:b∈eK K
   ·have z':=(if_pos hb).symm.trans z
    cases z';exact .inl ⟨hb,rfl⟩
   ·have z':=(if_neg hb).symm.trans z
    cases z'
  ·by_cases hb:b∈eK K
   ·have z':=(if_pos hb).symm.trans z
    cases z';exact tb0 b hb
   ·have z':=(if_neg hb).symm.trans z
    cases z'
 | none =>
  refine core (λb=>if b∈eK K then some (.tbl #[]) else if b=a then some (.frz { cls:=.type "list",data:=.seq vs.toArray } (.lst (ns.map V.int))) else none) (λb u z=>?_) (λb m=>if_pos m) (.inl ⟨{ cls:=.type "list",data:=.seq vs.toArray },?_⟩) (λb u z=>?_)
  ·by_cases hb:b∈eK K
   ·have z':=(if_pos hb).symm.trans z
    cases z';exact .inl ⟨hb,rfl⟩
   ·have z':=(if_neg hb).symm.trans z
    by_cases hb:b=a
    ·have z':=(if_pos hb).symm.trans z'
     cases z';exact .inr ⟨hb,hk,_,_,rfl⟩
    ·have z':=(if_neg hb).symm.trans z'
     cases z'
  ·show (if a∈eK K then _ else _)=_
   rw[if_neg na,if_pos rfl]
  ·by_cases hb:b∈eK K
   ·have z':=(if_pos hb).symm.trans z
    cases z';exact tb0 b hb
   ·have z':=(if_neg hb).symm.trans z
    by_cases hb:b=a
    ·have z':=(if_pos hb).symm.trans z'
     cases z'
     subst hb
     exact⟨ha,by rw[List.length_map,sizeLine_eq];omega,vs,_,rv,ha⟩
    ·have z':=(if_neg hb).symm.trans z'
     cases z'
noncomputable def NO (q:Program) (K:PySem.W.Frag):Prop:=∀x∈gF,(∃d,(recsOf q).find? (λe=>e.name == x)=some d)\/PySem.W.nsIn K mainGlobals x=some none
theorem lamIs {q:Program} {K:PySem.W.Frag} (a:(∃d,(recsOf q).find? (λe=>e.name == ("rising":Str))=some d)\/PySem.W.nsIn K mainGlobals "rising" = some none) (b:(∃d,(recsOf q).find? (λe=>e.name == ("framed_rising":Str))=some d)\/PySem.W.nsIn K mainGlobals "framed_rising" = some none)
  (c:(∃d,(recsOf q).find? (λe=>e.name == ("laid_triangles":Str))=some d)\/PySem.W.nsIn K mainGlobals "laid_triangles" = some none):NO q K:=λx m=>by
 simp only[gF,List.mem_cons,List.not_mem_nil,or_false] at m
 rcases m with rfl | rfl | rfl
 ·exact a
 ·exact b
 ·exact c
theorem DefAt.okLT {P:Program} {w:World} {K:PySem.W.Frag} {mg:Str->Option Value} {x:Str} {st:Stmt} {ps:List Str} {k:Nat} {F:FD} (Z:DefAt K mg x st ps)
  (h:∀(base:Heap) (K':PySem.W.Frag) (f:Addr) (fd:FuncData),Hid K K'->tX K' mg base->Fun K' x x st f fd->FnOk P w K' mg base CX0 k f fd ps (spD K' F)) :
  ∃f fd,mg x=some (.ref f)/\(∀us:List Value,us.length=ps.length->bindArgs fd ⟨us,[]⟩=pure (ps.zip us))/\∀(base:Heap) (K':PySem.W.Frag),Hid K K'->K'.In base->base.Ns mainGlobals mg->tX K' mg base->FnOk P w K' mg base CX0 k f fd ps (spD K' F):=by
 obtain⟨f,fd,a,b,c⟩:=Z.ex
 exact⟨f,fd,b,c,λbase K' z _ _ tw=>h base K' f fd z tw (z.fn a)⟩
theorem walk_lawT {l:PySem.W.OpenLaw} {q:Program} {loose:List Str} {XP:(Str->Option Value)->Heap->Prop} {YP:World->Heap->Prop} {d:DefRec} {K:Params->PySem.W.Frag} {x:Str} {k:Nat}
  (hn:l.most=some 63) (hdf:d.params.defaults=[]) (hr:Room k callerA)
  (hY:∀(w:World) (h:Heap),YP w h->(K w.params).In h) (hd:d.name = "law") (hL:∀w:World,NO q (K w.params))
  (F:∀(w:World) (mg:Str->Option Value) (h:Heap),(K w.params).In h->h.Ns mainGlobals mg ->
   ∃f fd,mg "law" = some (.ref f)/\(∀us:List Value,us.length=[x].length->bindArgs fd ⟨us,[]⟩=pure ([x].zip us)) /\
    ∀(base:Heap) (K':PySem.W.Frag),Hid (K w.params) K'->K'.In base->base.Ns mainGlobals mg->tX K' mg base->FnOk l.prog w K' mg base CX0 k f fd [x] (spD K' (DX 63))) :
  PySem.W.WalkO q loose XP YP l.row.toRowW d [] (λf vs=>PySem.call f vs):=by
 refine Att.attach_call hn hdf λw s₀ s₁ mg mb fa o pm cd doc a vs ns G Y ho hd' hcd hmg hobj hints hlen hg=>?_
 have KX:=hY w _ Y
 rw[hd] at hmg
 obtain⟨f,fd,hm,hb,hF⟩:=F w mg _ KX G.T.g
 rw[hmg] at hm;cases hm
 refine FC KX G.T.g G.T.b G.T.builtins G.T.nolimit hg hobj hints hlen hr G.T.bmain (λx c T m e=>?_) hF λs u=>.of_eq (hb [u] rfl)
 rcases hL w x m with ⟨d',hr⟩ | hz
 ·exact PySem.W.tab_of G.T KX hr e
 ·unfold PySem.W.tabIn at e
  rw[hz] at e;cases e
noncomputable def dH:RS :=
 aX (bH 4 (r2 eO (aD 2) (aD 3)))
 (aX (bH 2 (aN 3))
 (bH 3 (aN 4)))
noncomputable def dB:RS :=
 aX (bH 2 (rCB pY (aB (aN 0) (aH))))
 (aX (bH 3 (rCB pY (aB (aN 1) (aH))))
 (aX (sP (bL (r2 (jP true) (aD 3) (rC (.int 0)))) (dH))
 (bO (aN 2))))
noncomputable def nX (F_shared_divisor:FD):RS :=
 aX (fY (bL (r2 (jP false) (aD 1) (rC (.int 0)))) ((λ_ _=>False)) (cP))
 (aX (bH 2 (aV F_shared_divisor (aB (aN 0) (aB (aN 1) (aH)))))
 (aX (fY (bL (r2 (gT λi j=>decide (i<j)) (aD 1) (rC (.int 0)))) (bH 2 (r1 tI (aD 2))) (cP))
 (bO (iF (aB (r2 eF (aD 0) (aD 2)) (aB (r2 eF (aD 1) (aD 2)) (aH)))))))
noncomputable def fJ:RS :=
 bO (nS (r1 (mY "int") (aN 0)) (pN (r1 (mY "bool") (aN 0))))
noncomputable def nW (bE:FD):RS :=
 bO (aV bE (aB (r2 jQ (r2 dY (r2 dIx (aD 0) (rC (.int 0))) (r2 dIx (aD 1) (rC (.int 1)))) (r2 dY (r2 dIx (aD 1) (rC (.int 0))) (r2 dIx (aD 0) (rC (.int 1))))) (aB (r2 dY (r2 dIx (aD 0) (rC (.int 1))) (r2 dIx (aD 1) (rC (.int 1)))) (aH))))
noncomputable def eC:RS :=
 zC 0 1 (aB (aN 1) (aB (r2 eO (aD 0) (aD 1)) (aH)))
noncomputable def dU:RS :=
 aX (bH 0 (rCB pY (aB (aN 0) (aH))))
 (aX (bH 1 (rCB pY (aB (aN 1) (aH))))
 (aX (sP (bL (r2 (gT λi j=>decide (j<i)) (aD 1) (rC (.int 0)))) (eC))
 (bO (aN 0))))
noncomputable def cM (F_shared_divisor:FD):RS :=
 bO (r2 dY (aD 0) (r2 eF (aD 1) (aV F_shared_divisor (aB (aN 0) (aB (aN 1) (aH))))))
noncomputable def iV:RS :=
 bH 0 (r2 eF (aD 0) (aD 1))
noncomputable def fH:RS :=
 aX (cH (kK (aB (aN 2) (aH))) (aP 3) (iV))
 (bO (r2 eO (aD 0) (aD 1)))
noncomputable def eD:RS :=
 aX (bH 4 (rC (.int 0)))
 (aX (fY (bL (r2 (gT λi j=>decide (j<i)) (r1 iC (aD 0)) (rC (.int 0)))) (bH 4 (r2 eO (r2 dIx (aD 0) (r2 eO (aD 3) (rCB jW (aB (r1 iC (aD 0)) (aB (rC (.int 63)) (aH)))))) (r2 eL (r2 mC (rC (.int 10)) (rC (.int 60))) (rC (.int 7))))) (cP))
 (aX (bH 5 (r2 eO (aD 3) (aD 1)))
 (iE 2 (r2 eO (r2 eL (r2 eL (r2 dY (r2 dIx (aD 2) (aD 5)) (rC (.int 48271))) (aD 4)) (r2 dY (aD 3) (aD 3))) (r2 eL (r2 mC (rC (.int 10)) (rC (.int 60))) (rC (.int 7)))) (aN 5))))
noncomputable def dW:RS :=
 aX (cQ 2 (eJ (kK (aB (aN 1) (aH))) 1 [] (aP 0) (rC (.int 0))))
 (aX (cH (kK (aB (rCB mZ (aB (aN 1) (aB (rCB jW (aB (r1 iC (aD 0)) (aB (rC (.int 63)) (aH)))) (aH)))) (aH))) (aP 3) (eD))
 ((λE ρ=>(bO (aN 2)) E (dJ 2 ρ))))
noncomputable def cD (F_shared_multiple:FD):RS :=
 bH 1 (aV F_shared_multiple (aB (aN 1) (aB (aN 2) (aH))))
noncomputable def bA (F_shared_multiple:FD):RS :=
 aX (bH 1 (rC (.int 1)))
 (aX (cH (riL (aN 0)) (aP 2) (cD F_shared_multiple))
 (bO (aN 1)))
noncomputable def eX (bQ:FD):RS :=
 bO (aV bQ (aB (r2 dIx (aD 0) (rC (.int 2))) (aB (r2 dIx (aD 0) (rC (.int 1))) (aH))))
noncomputable def eY (bQ:FD):RS :=
 bO (aV bQ (aB (r2 dIx (aD 0) (rC (.int 4))) (aB (r2 dIx (aD 0) (rC (.int 3))) (aH))))
noncomputable def kH:RS :=
 aX (fY (bL (r2 (gT λi j=>decide (i<j)) (r2 dIx (aD 2) (rC (.int 0))) (r2 dIx (aD 3) (rC (.int 0))))) (gA 1 (iF (aB (aN 2) (aB (aN 3) (aH))))) (cP))
 (fY (bL (r2 (gT λi j=>decide (i<j)) (r2 dIx (aD 3) (rC (.int 0))) (r2 dIx (aD 2) (rC (.int 0))))) (gA 1 (iF (aB (aN 3) (aB (aN 2) (aH))))) (cP))
noncomputable def hZ:RS :=
 aX (cQ 1 (gM (aH)))
 (aX (cH (gN (aN 0) (r2 gW (nU (aD 0) (gZ (rC (.int 1))) (cZ)) (nU (aD 0) (cZ) (gZ (rC (.int 1)))))) (fR 2 (bP (aP 2) (bP (aP 3) (fQ)))) (kH))
 ((λE ρ=>(bO (aN 1)) E (dJ 1 ρ))))
noncomputable def cU:RS :=
 zA 1 (aN 4) (aN 3)
noncomputable def cV:RS :=
 cH (DH (aB (r2 dIx (r2 dIx (aD 3) (rC (.int 0))) (rC (.int 0))) (aB (r2 dIx (r2 dIx (aD 3) (rC (.int 1))) (rC (.int 0))) (aH)))) (aP 4) (cU)
noncomputable def cW (F_sides_of:FD):RS :=
 cH (riL (aV F_sides_of (aB (aN 2) (aH)))) (aP 3) (cV)
noncomputable def bK (F_sides_of:FD):RS :=
 aX (zB 1)
 (aX (cH (riL (aN 0)) (aP 2) (cW F_sides_of))
 ((λE ρ=>(bO (aN 1)) E (dJ 1 ρ))))
noncomputable def iA:RS :=
 bO (r2 jQ (r2 dIx (r2 dIx (aD 0) (rC (.int 1))) (rC (.int 0))) (r2 dIx (r2 dIx (aD 0) (rC (.int 0))) (rC (.int 0))))
noncomputable def dL (F_width_of:FD):RS :=
 aX (bH 3 (r2 dIx (aD 0) (rC (.int 0))))
 (aX (bH 4 (aV F_width_of (aB (aN 0) (aH))))
 (aX (bH 5 (r2 dY (r2 jQ (r2 dIx (r2 dIx (aD 0) (rC (.int 1))) (rC (.int 1))) (r2 dIx (aD 3) (rC (.int 1)))) (r2 jQ (aD 1) (r2 dIx (aD 3) (rC (.int 0))))))
 (bO (r2 dY (r2 eL (r2 dY (r2 dIx (aD 3) (rC (.int 1))) (aD 4)) (aD 5)) (r2 eF (aD 2) (aD 4))))))
noncomputable def cT:RS :=
 fY (bL (r2 (gT λi j=>decide (i<j)) (r2 dIx (aD 5) (rC (.int 1))) (r2 dIx (aD 4) (rC (.int 1))))) ((λ_ _=>False)) (cP)
noncomputable def bJ (F_height_at:FD):RS :=
 aX (cQ 3 (eJ (riL (aN 0)) 1 [1,2] (aP 0) (iF (aB (aV F_height_at (aB (aN 0) (aB (aN 1) (aB (aN 2) (aH))))) (aB (aV F_height_at (aB (aN 0) (aB (r2 eL (aD 1) (rC (.int 1))) (aB (aN 2) (aH))))) (aH))))))
 (aX (cQ 3 (wO (aD 3)))
 (aX ((λE ρ=>(cH (gN (aN 3) (nU (aD 3) (gZ (rC (.int 1))) (cZ))) (fR 2 (bP (aP 4) (bP (aP 5) (fQ)))) (cT)) E (dJ 3 ρ)))
 ((λE ρ=>(bO (aN 3)) E (dJ 3 ρ)))))
noncomputable def eE (bE:FD):RS :=
 fY (bL (r2 (dNe) (aD 5) (aD 6))) (aX (cQ 7 (eJ (riT (r2 gW (aD 5) (aD 6))) 1 [2] (aP 0) (aV bE (aB (aN 0) (aB (aN 1) (aH))))))
 (gA 4 (iF (aB (aN 1) (aB (r2 dIx (aD 7) (rC (.int 0))) (aB (r2 dIx (aD 7) (rC (.int 1))) (aB (r2 dIx (aD 7) (rC (.int 2))) (aB (r2 dIx (aD 7) (rC (.int 3))) (aH))))))))) (cP)
noncomputable def bS (F_lowest_multiple:FD) (F_ordered_heights:FD) (bE:FD) (F_width_of:FD):RS :=
 aX (bH 2 (aV F_lowest_multiple (aB ((λρ Q=>(eJ (riL (aN 0)) 1 [] (aP 0) (aV F_width_of (aB (aN 0) (aH)))) ρ λds=>Q (.lst ds))) (aH))))
 (aX (bH 3 (aV F_ordered_heights (aB (aN 0) (aB (aN 1) (aB (aN 2) (aH))))))
 (aX (cQ 4 (gM (aH)))
 (aX (cH (gN ((λρ Q=>(BF 0 (aD 3)) ρ λds=>Q (.lst ds))) ((λρ Q=>(BF 1 (aD 3)) ρ λds=>Q (.lst ds)))) (fR 2 (bP (aP 5) (bP (aP 6) (fQ)))) (eE bE))
 ((λE ρ=>(bO (aN 4)) E (dJ 4 ρ))))))
noncomputable def pO (F_column_bands:FD):RS :=
 sN 2 (aV F_column_bands (aB (r2 LI (aN 1) (aN 3)) (aB (aN 3) (aH))))
noncomputable def nV (F_column_bands:FD) (F_sides_by_column:FD):RS :=
 aX (bH 1 (aV F_sides_by_column (aB (aN 0) (aH))))
 (aX (cQ 2 (gM (aH)))
 (aX (cH (riL ((λρ Q=>(sO ((λρ Q=>(BG (aN 1)) ρ λds=>Q (.lst ds)))) ρ λds=>Q (.lst ds)))) (aP 3) (pO F_column_bands))
 ((λE ρ=>(bO (aN 2)) E (dJ 2 ρ)))))
noncomputable def cI (VL:FD) (WA:FD):RS :=
 aX (fY (rOr (oZ (bL (r1 (mY "tuple") (aN 0)))) (rOr (bL (r2 (jP true) (r1 iC (aD 0)) (rC (.int 2)))) (rOr (oZ (bL (aV WA (aB (r2 dIx (aD 0) (rC (.int 0))) (aH))))) (oZ (bL (aV WA (aB (r2 dIx (aD 0) (rC (.int 1))) (aH)))))))) (bO (rC (.bl false))) (cP))
 (bO (nS (r2 (gT λi j=>decide (j<i)) (r2 dIx (aD 0) (rC (.int 1))) (rC (.int 0))) (r2 (jP false) (aV VL (aB (r2 dIx (aD 0) (rC (.int 0))) (aB (r2 dIx (aD 0) (rC (.int 1))) (aH)))) (rC (.int 1)))))
noncomputable def fP (VR:FD):RS :=
 gA 3 (aV VR (aB (aN 0) (aB (r2 eL (aD 2) (rC (.int 1))) (aB (aN 4) (aH)))))
noncomputable def dA (VR:FD):RS :=
 aX (cQ 3 (gM (aH)))
 (aX (cH (kK (aB (aN 1) (aH))) (aP 4) (fP VR))
 (bO ((λρ Q=>(sO (aD 3)) ρ λds=>Q (.lst ds)))))
noncomputable def iW:RS :=
 aX (bH 8 (r2 dY (rC (.int 2)) (aD 5)))
 (aX (bH 9 (r2 eL (r2 dY (rC (.int 2)) (aD 5)) (rC (.int 1))))
 (aX (fY (bL (r2 (jP false) (r2 eO (r2 eF (r2 dIx (aD 0) (rC (.int 0))) (rC (.int 2))) (rC (.int 3))) (rC (.int 1)))) (aX (bH 8 (aN 5))
 (bH 9 (r2 jQ (r2 jQ (aD 3) (rC (.int 1))) (aD 5)))) (cP))
 (aX ((λE ρ=>(cQ 10 (eJ (kK (aB (r1 iC (aD 4)) (aH))) 1 [4,6,8] (aP 0) (iF (aB (r2 dIx (aD 1) (aD 0)) (aB (r2 dIx (r2 dIx (aD 2) (aD 0)) (aD 3)) (aH)))))) E (dJ 4 ρ)))
 ((λE ρ=>(gA 7 (r2 gW (aD 10) ((λρ Q=>(eJ (BK (aB (r1 iC (aD 4)) (aH))) 1 [4,6,9] (aP 0) (iF (aB (r2 dIx (aD 1) (aD 0)) (aB (r2 dIx (r2 dIx (aD 2) (aD 0)) (aD 3)) (aH))))) ρ λds=>Q (.lst ds))))) E (dJ 4 ρ))))))
noncomputable def iX:RS :=
 gA 4 (r2 eL (r2 eL (r2 dIx (aD 4) (r1 tI (rC (.int 1)))) (rC (.int 1))) (r2 eO (r2 eF (r2 dIx (aD 0) (rC (.int 1))) (r2 eL (rC (.int 2)) (r2 dY (rC (.int 3)) (aD 5)))) (aD 1)))
noncomputable def fI (VT:FD):RS :=
 aX (bH 3 (r2 dY (rC (.int 2)) (r2 eL (rC (.int 1)) (r2 eO (r2 dIx (aD 0) (rC (.int 0))) (rC (.int 2))))))
 (aX (cQ 4 (gM (aB (rC (.int 0)) (aH))))
 (aX (cH (kK (aB (r2 eL (rC (.int 1)) (r2 eO (r2 dIx (aD 0) (rC (.int 1))) (rC (.int 2)))) (aH))) (aP 5) (iX))
 (aX (bH 6 ((λρ Q=>(eJ (kK (aB (r1 iC (aD 4)) (aH))) 1 [0,3,2] (aP 0) (aV VT (aB (r2 dIx (aD 1) (r2 eL (rC (.int 2)) (aD 0))) (aB (aN 2) (aB (aN 3) (aH)))))) ρ λds=>Q (.lst ds))))
 (aX (cQ 7 (gM (aH)))
 (aX (cH (kK (aB (r2 eF (aD 3) (rC (.int 2))) (aH))) (aP 5) (iW))
 ((λE ρ=>(bO (aN 7)) E (dJ 7 ρ))))))))
noncomputable def kF:RS :=
 gA 3 ((λρ Q=>(eJ (riL (aN 4)) 2 [1,2] (fR 2 (bP (aP 0) (bP (aP 1) (fQ)))) (iF (aB (r2 eL (aD 0) (r2 dIx (aD 2) (rC (.int 0)))) (aB (r2 eL (r2 dY (aD 1) (aD 3)) (r2 dIx (aD 2) (rC (.int 1)))) (aH))))) ρ λds=>Q (.lst ds)))
noncomputable def hU:RS :=
 aX (cQ 3 (gM (aH)))
 (aX (cH (riL (aN 0)) (aP 4) (kF))
 ((λE ρ=>(bO (aN 3)) E (dJ 3 ρ))))
noncomputable def dX (WM:FD) (WC:FD):RS :=
 aX (fY (bL (r2 (jP false) (r2 eO (r2 eF (r2 dIx (aD 0) (rC (.int 0))) (rC (.int 64))) (rC (.int 8))) (rC (.int 1)))) (bO ((λρ Q=>(gM (aH)) ρ λds=>Q (.lst ds)))) (cP))
 (aX (bH 1 (r2 dIx ((λρ Q=>(gM (aB (rC (.int 1)) (aB (r2 eL (rC (.int 1)) (r2 eO (r2 dIx (aD 0) (rC (.int 7))) (r2 mC (rC (.int 10)) (rC (.int 18))))) (aH)))) ρ λds=>Q (.lst ds))) (r2 eO (r2 dIx (aD 0) (rC (.int 6))) (rC (.int 2)))))
 (aX (bH 2 (iF (aB (r2 jQ (r2 eO (r2 dIx (aD 0) (rC (.int 8))) (rC (.int 201))) (rC (.int 100))) (aB (r2 dIx ((λρ Q=>(gM (aB (rC (.int 0)) (aB (r2 jQ (r2 eO (r2 dIx (aD 0) (rC (.int 9))) (r2 eL (r2 dY (rC (.int 2)) (r2 mC (rC (.int 10)) (rC (.int 30)))) (rC (.int 1)))) (r2 mC (rC (.int 10)) (rC (.int 30)))) (aH)))) ρ λds=>Q (.lst ds))) (r2 eO (r2 eF (r2 dIx (aD 0) (rC (.int 6))) (rC (.int 2))) (rC (.int 2)))) (aH)))))
 (bO (aV WM (aB (aV WC (aB (aN 0) (aB (rC (.int 3)) (aB (rC (.int 6)) (aH))))) (aB (aN 2) (aB (aN 1) (aH))))))))
noncomputable def eV (VL:FD):RS :=
 aX (bH 9 (r2 jQ (r2 dY (r2 dIx (aD 8) (rC (.int 0))) (r2 dIx (aD 7) (rC (.int 1)))) (r2 dY (r2 dIx (aD 7) (rC (.int 0))) (r2 dIx (aD 8) (rC (.int 1))))))
 (aX (bH 10 (aV VL (aB (aN 9) (aB (r2 dY (r2 dIx (aD 7) (rC (.int 1))) (r2 dIx (aD 8) (rC (.int 1)))) (aH)))))
 (gA 1 (iF (aB (r2 eF (aD 9) (aD 10)) (aB (r2 eF (r2 dY (r2 dIx (aD 7) (rC (.int 1))) (r2 dIx (aD 8) (rC (.int 1)))) (aD 10)) (aH))))))
noncomputable def hV (VL:FD):RS :=
 cH (riL ((λρ Q=>(gM (aB (iF (aB (aN 3) (aB (aN 4) (aH)))) (aB (iF (aB (aN 5) (aB (aN 6) (aH)))) (aH)))) ρ λds=>Q (.lst ds)))) (fR 2 (bP (aP 7) (bP (aP 8) (fQ)))) (eV VL)
noncomputable def eU (VL:FD):RS :=
 aX (cQ 1 (gM (aH)))
 (aX (cH (riL (aN 0)) (fR 5 (bP (aP 2) (bP (aP 3) (bP (aP 4) (bP (aP 5) (bP (aP 6) (fQ))))))) (hV VL))
 ((λE ρ=>(bO (aN 1)) E (dJ 1 ρ))))
noncomputable def iY (F_lowest_multiple:FD):RS :=
 aX (bH 1 (aV F_lowest_multiple (aB ((λρ Q=>(eJ (riL (aN 0)) 1 [] (aP 0) (r2 dIx (aD 0) (rC (.int 1)))) ρ λds=>Q (.lst ds))) (aH))))
 (bO ((λρ Q=>(wN 1 (aD 0)) ρ λds=>Q (.lst ds))))
noncomputable def kG (F_lower_slope:FD) (F_upper_slope:FD):RS :=
 aX (uU 2 (aV F_lower_slope (aB (aN 3) (aH))) (rC (.bl true)))
 (uU 2 (aV F_upper_slope (aB (aN 3) (aH))) (rC (.bl true)))
noncomputable def hX (F_lower_slope:FD) (F_rising:FD) (F_upper_slope:FD):RS :=
 aX (OI 2)
 (aX (cH (riL (r2 gW (aD 0) (aD 1))) (aP 3) (kG F_lower_slope F_upper_slope))
 (bO (aV F_rising (aB ((λρ Q=>(wP 2) ρ λds=>Q (.lst ds))) (aH)))))
noncomputable def lP (VN:FD):RS :=
 aX (fY (rOr (oZ (bL (aV VN (aB (r2 dIx (aD 5) (aD 7)) (aH))))) (bL (r2 (vR) (r2 dIx (aD 5) (aD 7)) (aD 6)))) (bO (rC (.bl false))) (cP))
 (fY (bL (r2 (gT λi j=>decide (j<i)) (aD 7) (rC (.int 0)))) (aX (bH 8 (r2 dIx (aD 5) (r2 jQ (aD 7) (rC (.int 1)))))
 (fY (bL (r2 (gT λi j=>decide (j<=i)) (r2 dY (r2 dIx (aD 8) (rC (.int 0))) (r2 dIx (r2 dIx (aD 5) (aD 7)) (rC (.int 1)))) (r2 dY (r2 dIx (r2 dIx (aD 5) (aD 7)) (rC (.int 0))) (r2 dIx (aD 8) (rC (.int 1)))))) (bO (rC (.bl false))) (cP))) (cP))
noncomputable def jH (VN:FD) (VU:FD) (VZ:FD) (VS:FD) (F_bands:FD) (F_leans_of:FD):RS :=
 aX (bH 1 (aV VU (aB (aN 0) (aB (rC (.int 20)) (aH)))))
 (aX (bH 2 (aV F_bands (aB (aV VZ (aB (aN 1) (aH))) (aH))))
 (aX (bH 3 (aV F_bands (aB (aV VZ (aB (nU (aD 1) (gZ (rC (.int 10))) (cZ)) (aH))) (aH))))
 (aX (bH 4 ((λρ Q=>(gM (aB (r1 fE (aD 2)) (aB (r1 fE (aD 3)) (aH)))) ρ λds=>Q (.lst ds))))
 (aX (bH 5 (aV F_leans_of (aB (r2 dIx (aD 4) (rC (.int 0))) (aB (r2 dIx (aD 4) (rC (.int 1))) (aH)))))
 (aX (bH 6 (r2 gW (aV VS (aB (aN 2) (aH))) (aV VS (aB (aN 3) (aH)))))
 (aX (fY (rOr (oZ (bL (r1 (mY "list") (aN 5)))) (rOr (bL (r2 (EK) (aD 4) ((λρ Q=>(gM (aB (aN 2) (aB (aN 3) (aH)))) ρ λds=>Q (.lst ds))))) (bL (r2 (EK) (aV F_leans_of (aB (aN 3) (aB (aN 2) (aH)))) (aD 5))))) (bO (rC (.bl false))) (cP))
 (aX (cH (kK (aB (r1 iC (aD 5)) (aH))) (aP 7) (lP VN))
 (bO (r2 (jP false) (r1 iC (aD 5)) (wM (aD 6)))))))))))
theorem RX {α:Type} (x:α) (xs:List α):atI (x::xs) 0=some x:=by
 unfold atI ixN;simp
theorem RY {α:Type} (x y:α) (xs:List α):atI (x::y::xs) 1=some y:=by
 unfold atI ixN
 rw[if_pos (by decide),if_pos (by simp only[List.length_cons];omega)];rfl
theorem RZ {α:Type} (x y z:α) (xs:List α):atI (x::y::z::xs) 2=some z:=by
 unfold atI ixN
 rw[if_pos (by decide),if_pos (by simp only[List.length_cons];omega)];rfl
theorem OP {α:Type} {xs:List α} {i:Int} {j:Nat} {x:α} (h:i=(j:Int)) (e:xs[j]? = some x):atI xs i=some x:=by
 subst h;exact gC e
theorem oD {x y:D} {Q:D->Prop}:dEq x y Q=(match eqF 6 x y with | some b=>Q (.bl b) | none=>False):=rfl
theorem BL.const {n:Nat} {i:Int} (h:i.natAbs<2 ^ n:=by decide):BL n i:=h
theorem JR {i j:Int} (h:0<=j/\j<=1000000/\i.natAbs<2 ^ 64:=by decide):PowOk i j:=⟨h⟩
theorem oQ {j:Int} (h:j≠0:=by decide):ModOk j:=⟨h⟩
theorem fM {x:D} {xs:List D} {Q:D->Prop}:dIx (.tup (x::xs)) (.int 0) Q=Q x:=by simp only[dIx,RX]
theorem fN {x y:D} {xs:List D} {Q:D->Prop}:dIx (.tup (x::y::xs)) (.int 1) Q=Q y:=by simp only[dIx,RY]
theorem iU {x y z:D} {xs:List D} {Q:D->Prop}:dIx (.tup (x::y::z::xs)) (.int 2) Q=Q z:=by simp only[dIx,RZ]
theorem kW {xs:List D} {i:Int} {Q:D->Prop} {x:D} (e:atI xs i=some x) (h:Q x):dIx (.lst xs) (.int i) Q:=by simp only[dIx,e];exact h
theorem CJ {xs:List D} {i:Int} {Q:D->Prop} {x:D} (e:atI xs i=some x) (h:Q x):dIx (.tup xs) (.int i) Q:=by simp only[dIx,e];exact h
theorem vQ {xs:List D} {i:Int} {Q:D->Prop} (h0:0<=i) (h1:i<xs.length) (h:∀x,x∈xs->Q x):dIx (.lst xs) (.int i) Q:=by
 have hj:i.toNat<xs.length:=by omega
 exact kW (OP (j:=i.toNat) (by omega) (List.getElem?_eq_getElem hj)) (h _ (List.getElem_mem hj))
theorem fW {xs:List D} {k:Nat} {x:D} {Q:D->Prop} (e:xs[k]? = some x):dIx (.lst xs) (.int (k:Int)) Q=Q x:=by simp only[dIx,gC e]
theorem iK {a0:D} {r:List D} {Q:D->Prop}:dIx (.lst (a0::r)) (.int 0) Q=Q a0:=fW (k:=0) rfl
theorem iL {a0 a1:D} {r:List D} {Q:D->Prop}:dIx (.lst (a0::a1::r)) (.int 1) Q=Q a1:=fW (k:=1) rfl
theorem iM {a0 a1 a2:D} {r:List D} {Q:D->Prop}:dIx (.lst (a0::a1::a2::r)) (.int 2) Q=Q a2:=fW (k:=2) rfl
theorem iN {a0 a1 a2 a3:D} {r:List D} {Q:D->Prop}:dIx (.lst (a0::a1::a2::a3::r)) (.int 3) Q=Q a3:=fW (k:=3) rfl
theorem iO {a0 a1 a2 a3 a4:D} {r:List D} {Q:D->Prop}:dIx (.lst (a0::a1::a2::a3::a4::r)) (.int 4) Q=Q a4:=fW (k:=4) rfl
theorem iP {a0 a1 a2 a3 a4 a5:D} {r:List D} {Q:D->Prop}:dIx (.lst (a0::a1::a2::a3::a4::a5::r)) (.int 5) Q=Q a5:=fW (k:=5) rfl
theorem iQ {a0 a1 a2 a3 a4 a5 a6:D} {r:List D} {Q:D->Prop}:dIx (.lst (a0::a1::a2::a3::a4::a5::a6::r)) (.int 6) Q=Q a6:=fW (k:=6) rfl
theorem iR {a0 a1 a2 a3 a4 a5 a6 a7:D} {r:List D} {Q:D->Prop}:dIx (.lst (a0::a1::a2::a3::a4::a5::a6::a7::r)) (.int 7) Q=Q a7:=fW (k:=7) rfl
theorem iS {a0 a1 a2 a3 a4 a5 a6 a7 a8:D} {r:List D} {Q:D->Prop}:dIx (.lst (a0::a1::a2::a3::a4::a5::a6::a7::a8::r)) (.int 8) Q=Q a8:=fW (k:=8) rfl
theorem iT {a0 a1 a2 a3 a4 a5 a6 a7 a8 a9:D} {r:List D} {Q:D->Prop}:dIx (.lst (a0::a1::a2::a3::a4::a5::a6::a7::a8::a9::r)) (.int 9) Q=Q a9:=fW (k:=9) rfl
theorem gG {a0 a1 a2 a3 a4 a5 a6 a7 a8 a9 a10:D} {r:List D} {Q:D->Prop}:dIx (.lst (a0::a1::a2::a3::a4::a5::a6::a7::a8::a9::a10::r)) (.int 10) Q=Q a10:=fW (k:=10) rfl
theorem gH {a0 a1 a2 a3 a4 a5 a6 a7 a8 a9 a10 a11:D} {r:List D} {Q:D->Prop}:dIx (.lst (a0::a1::a2::a3::a4::a5::a6::a7::a8::a9::a10::a11::r)) (.int 11) Q=Q a11:=fW (k:=11) rfl
noncomputable def cX (n:Nat) (ds:List D):En:=ds.map (λd=>some (.d d))++List.replicate n none
theorem aS {N:List Str} {ds:List D} (n:Nat) (h:N.length=ds.length+n):aM N ds=cX n ds:=by
 unfold aM cX;rw[h,Nat.add_sub_cancel_left]
theorem oK {i:Int}:AQ "int" (.int i)=some true:=rfl
theorem oI {i:Int}:AQ "bool" (.int i)=some false:=rfl
theorem oJ {i:Bool}:AQ "int" (.bl i)=some true:=rfl
theorem oH {i:Bool}:AQ "bool" (.bl i)=some true:=rfl
theorem oM {xs:List D}:AQ "tuple" (.tup xs)=some true:=rfl
theorem FY {α:Type} {x:α}:List.replicate 0 x=[]:=rfl
theorem zD {α:Type} {x:α}:List.replicate 1 x=[x]:=rfl
theorem tT {α:Type} {x:α}:List.replicate 2 x=[x,x]:=rfl
theorem BJ {α:Type} {x:α}:List.replicate 3 x=[x,x,x]:=rfl
theorem FZ {α:Type} {x:α}:List.replicate 4 x=[x,x,x,x]:=rfl
theorem GA {α:Type} {x:α}:List.replicate 5 x=[x,x,x,x,x]:=rfl
theorem GB {α:Type} {x:α}:List.replicate 6 x=[x,x,x,x,x,x]:=rfl
theorem GC {α:Type} {x:α}:List.replicate 7 x=[x,x,x,x,x,x,x]:=rfl
theorem zE {α:Type} {x:α}:List.replicate 8 x=[x,x,x,x,x,x,x,x]:=rfl
theorem GD {α:Type} {x:α}:List.replicate 9 x=[x,x,x,x,x,x,x,x,x]:=rfl
theorem sQ {α:Type} {x:α}:List.replicate 10 x=[x,x,x,x,x,x,x,x,x,x]:=rfl
theorem uV {α:Type} {x:α}:List.replicate 11 x=[x,x,x,x,x,x,x,x,x,x,x]:=rfl
theorem uW {α:Type} {x:α}:List.replicate 12 x=[x,x,x,x,x,x,x,x,x,x,x,x]:=rfl
theorem sz2:Sz (0+1+1):=⟨by decide⟩
theorem sz3:Sz (0+1+1+1):=⟨by decide⟩
theorem sz4:Sz (0+1+1+1+1):=⟨by decide⟩
theorem sz1:Sz (0+1):=⟨by decide⟩
theorem sz0:Sz 0:=⟨by decide⟩
local macro_rules | `(tactic| walk_at "rd")=>do
 let a <- ("aX cP bO uR fY bH cQ zC FV aP fR bP fQ aN aD rC r2 r1 bL FU rOr oZ nS FW pN rIf aH aB iF gM aV rCB cZ gZ uT cH GE riL riT kK GF pA eJ fK jO rG dJ gA uS iE FX tU nU gW fE oE EL dNe oY uX gN eL jQ dY eF eO mC tI gT jP EJ oD pK fM fN iU iK iL iM iN iO iP iQ iR iS iT gG gH pY EI mZ jW iC mY oK oI oJ oH oM S.val cX FY zD tT BJ FZ GA GB GC zE GD sQ uV uW List.map_cons List.map_nil List.cons_append List.nil_append List.length_cons List.length_nil List.getElem?_cons_zero List.getElem?_cons_succ List.set_cons_zero List.set_cons_succ List.append_nil Bool.or_false Bool.or_true Bool.false_or Bool.true_or Bool.not_true Bool.not_false if_true if_false Bool.false_eq_true sz0 sz1 sz2 sz3 sz4 true_and decide_eq_true_eq Int.reduceToNat Int.reducePow Int.reduceMul Int.reduceSub Int.reduceAdd Int.reduceNeg".splitOn " ").toArray.mapM λx=>`(Lean.Parser.Tactic.simpLemma| $(Lean.mkIdent x.toName):term)
 `(tactic| simp only[$a,*])
local macro_rules | `(tactic| walk_at "side")=>`(tactic| first | exact JR | exact oQ | exact (BL.const (n:=9000) (by decide)).divOk (by decide) | exact (BL.const (n:=300) (by decide)).mulOk (BL.const (n:=300) (by decide)))
local macro_rules | `(tactic| walk_at "sides")=>`(tactic| repeat (refine And.intro (by walk_at "side") ?_))
theorem mU (i:Int):(if i<0 then -i else i)=((i.natAbs:Nat):Int):=by split <;> omega
theorem uL (x y:Nat):((x:Nat):Int).fmod (y:Nat)=((x % y:Nat):Int):=by
 rw[Int.fmod_eq_emod_of_nonneg _ (Int.natCast_nonneg y)];exact (Int.natCast_emod x y).symm
noncomputable def lJ:FD:=λds Q=>∃a b:Int,ds=[.int a,.int b]/\Q (.int (Int.gcd a b:Nat))
theorem CV:∀ds Q,lJ ds Q->ds.length=2:=by rintro ds Q ⟨a,b,rfl,_⟩;rfl
theorem oO (E:DEnds):∀(y x:Nat),E.nx [some (.d (.int (Nat.gcd x y:Nat))),some (.d (.int (0:Nat)))] ->
  sP (bL (r2 (gT λi j=>decide (j<i)) (aD 1) (rC (.int 0)))) eC E [some (.d (.int (x:Nat))),some (.d (.int (y:Nat)))]:=by
 intro y
 induction y using Nat.strongRecOn with
 | ind y ih =>
  intro x h
  cases Nat.eq_zero_or_pos y with
  | inl hy =>
   subst hy
   refine⟨1,?_⟩
   unfold jI
   walk_at "rd"
   rw[if_neg (by decide)]
   rw[Nat.gcd_zero_right] at h
   exact h
  | inr hy =>
   have h2:=ih (x % y) (Nat.mod_lt x hy) y (by
    rw[Nat.gcd_comm y,<-Nat.gcd_rec,Nat.gcd_comm];exact h)
   obtain⟨n,hn⟩:=h2
   refine⟨n+1,?_⟩
   unfold jI eC
   walk_at "rd"
   rw[if_pos (by omega)]
   refine⟨⟨by omega⟩,?_⟩
   rw[uL]
   exact hn
theorem oV:∀ds Q,lJ ds Q->dU { nx:=λ_=>Q .non,rt:=Q } (aM ["_law_one","_law_other"] ds):=by
 rintro ds Q ⟨a,b,rfl,q⟩
 rw[aS 0 rfl]
 unfold dU
 walk_at "rd"
 rw[mU,mU]
 refine oO _ _ _ ?_
 walk_at "rd"
 exact q
theorem lG (E:DEnds) (u v:Option S):∀(y x:Nat) (r:Option S),(∀r,E.nx [u,v,some (.d (.int (Nat.gcd x y:Nat))),some (.d (.int (0:Nat))),r]) ->
  sP (bL (r2 (jP true) (aD 3) (rC (.int 0)))) dH E [u,v,some (.d (.int (x:Nat))),some (.d (.int (y:Nat))),r]:=by
 intro y
 induction y using Nat.strongRecOn with
 | ind y ih =>
  intro x r h
  cases Nat.eq_zero_or_pos y with
  | inl hy =>
   subst hy
   refine⟨1,?_⟩
   unfold jI
   walk_at "rd"
   rw[if_neg (by simp)]
   rw[Nat.gcd_zero_right] at h
   exact h r
  | inr hy =>
   obtain⟨n,hn⟩:=ih (x % y) (Nat.mod_lt x hy) y (some (.d (.int ((x % y:Nat))))) (by
    rw[Nat.gcd_comm y,<-Nat.gcd_rec,Nat.gcd_comm];exact h)
   refine⟨n+1,?_⟩
   unfold jI dH
   walk_at "rd"
   rw[if_pos (by simp;omega)]
   refine⟨⟨by omega⟩,?_⟩
   rw[uL]
   exact hn
theorem lI:∀ds Q,lJ ds Q->dB { nx:=λ_=>Q .non,rt:=Q } (aM ["one","other","larger","smaller","rest"] ds):=by
 rintro ds Q ⟨a,b,rfl,q⟩
 rw[aS 3 rfl]
 unfold dB
 walk_at "rd"
 rw[mU,mU]
 refine lG _ _ _ _ _ _ λr=>?_
 walk_at "rd"
 exact q
noncomputable abbrev fr (a b:Int):D:=.tup [.int a,.int b]
theorem qS {a b:Int} (h:b≠0):0<(Int.gcd a b:Int):=by
 have:0<Int.gcd a b:=Int.gcd_pos_of_ne_zero_right a h
 omega
theorem BL.gcd {n:Nat} {a b:Int} (hb:b≠0) (h:BL n b):BL n (Int.gcd a b:Int):=by
 refine h.le ?_
 rw[Int.natAbs_natCast]
 exact Nat.le_of_dvd (by omega) (Int.gcd_dvd_natAbs_right a b)
structure Low (a b p q:Int):Prop where
 pos:0<q
 cop:Int.gcd p q=1
 worth:p*b=a*q
 lea:p.natAbs<=a.natAbs
 leb:q.natAbs<=b.natAbs
theorem dR {a b:Int} (hb:0<b):Low a b (a.fdiv (Int.gcd a b:Nat)) (b.fdiv (Int.gcd a b:Nat)):=by
 have hg:0<(Int.gcd a b:Int):=qS (by omega)
 have ea:((Int.gcd a b:Nat):Int)∣a:=Int.gcd_dvd_left ..
 have eb:((Int.gcd a b:Nat):Int)∣b:=Int.gcd_dvd_right ..
 rw[Int.fdiv_eq_ediv_of_nonneg _ (by omega),Int.fdiv_eq_ediv_of_nonneg _ (by omega)]
 have e1:a / (Int.gcd a b:Int)*(Int.gcd a b:Int)=a:=Int.ediv_mul_cancel ea
 have e2:b / (Int.gcd a b:Int)*(Int.gcd a b:Int)=b:=Int.ediv_mul_cancel eb
 have hc:Int.gcd (a / (Int.gcd a b:Int)) (b / (Int.gcd a b:Int))=1:=Int.gcd_ediv_gcd_ediv_gcd (by omega)
 generalize (Int.gcd a b:Int)=g at *
 generalize a / g=p at *
 generalize b / g=q at *
 subst e1 e2
 refine⟨?_,hc,by rw[Int.mul_assoc,Int.mul_comm q g],?_,?_⟩
 ·exact Int.pos_of_mul_pos_left hb (by omega)
 ·rw[Int.natAbs_mul];exact Nat.le_mul_of_pos_right _ (by omega)
 ·rw[Int.natAbs_mul];exact Nat.le_mul_of_pos_right _ (by omega)
theorem MM {a b:Int} (hb:b<0):Low a b (a.fdiv (-(Int.gcd a b:Nat))) (b.fdiv (-(Int.gcd a b:Nat))):=by
 have h:=dR (a:=-a) (b:=-b) (by omega)
 have e:Int.gcd (-a) (-b)=Int.gcd a b:=by rw[Int.neg_gcd,Int.gcd_neg]
 rw[e] at h
 have f:∀x g:Int,(-x).fdiv g=x.fdiv (-g):=λx g=>by
  have:=Int.neg_fdiv_neg (-x) g
  rw[Int.neg_neg] at this
  exact this.symm
 rw[f,f] at h
 refine⟨h.pos,h.cop,?_,by have:=h.lea;omega,by have:=h.leb;omega⟩
 have w:=h.worth
 rw[Int.mul_neg,Int.neg_mul] at w
 exact Int.neg_inj.mp w
noncomputable def bE:FD:=λds Q=>∃a b:Int,ds=[.int a,.int b]/\(b≠0/\BL 9000 b)/\∀p q,Low a b p q->Q (fr p q)
theorem FG:∀ds Q,bE ds Q->ds.length=2:=by rintro ds Q ⟨a,b,rfl,_⟩;rfl
theorem BD:∀ds Q,bE ds Q->nX lJ { nx:=λ_=>Q .non,rt:=Q } (aM ["top","bottom","divisor"] ds):=by
 rintro ds Q ⟨a,b,rfl,⟨h0,hb⟩,q⟩
 rw[aS 1 rfl]
 unfold nX
 walk_at "rd"
 rw[if_neg h0]
 refine⟨a,b,rfl,?_⟩
 have hg:=qS (a:=a) h0
 have bg:=BL.gcd (a:=a) h0 hb
 walk_at "rd"
 split
 ·rename_i hlt
  refine⟨bg.neg.divOk (by omega),bg.neg.divOk (by omega),q _ _ (MM hlt)⟩
 ·rename_i hlt
  refine⟨bg.divOk (by omega),bg.divOk (by omega),q _ _ (dR (by omega))⟩
structure Fr (n:Nat) (a b:Int):Prop where
 pos:0<b
 top:BL n a
 bot:BL n b
 cop:Int.gcd a b=1
noncomputable def NM (f:Int->Int->Int->Int->Int):FD:=λds Q=>∃a b c d:Int,ds=[fr a b,fr c d]/\(0<b/\0<d)/\(BL 4000 a/\BL 4000 b/\BL 4000 c/\BL 4000 d)/\∀p q,Low (f a b c d) (b*d) p q->Q (fr p q)
theorem IV {f:Int->Int->Int->Int->Int}:∀ds Q,NM f ds Q->ds.length=2:=by rintro ds Q ⟨a,b,c,d,rfl,_⟩;rfl
noncomputable abbrev bQ:FD:=NM λa b c d=>a*d-c*b
theorem BC:∀ds Q,bQ ds Q->nW bE { nx:=λ_=>Q .non,rt:=Q } (aM ["one","other"] ds):=by
 rintro ds Q ⟨a,b,c,d,rfl,⟨h1,h2⟩,⟨ba,bb,bc,bd⟩,q⟩
 rw[aS 0 rfl]
 unfold nW
 walk_at "rd"
 refine⟨ba.mulOk bd,bc.mulOk bb,bb.mulOk bd,_,_,rfl,⟨Int.ne_of_gt (Int.mul_pos h1 h2),(bb.mul bd).mono (by decide)⟩,q⟩
noncomputable def qM:FD:=λds Q=>∃a:Int,ds=[.int a]/\Q (.bl true)
theorem FI:∀ds Q,qM ds Q->ds.length=1:=by rintro ds Q ⟨a,rfl,_⟩;rfl
theorem sM:∀ds Q,qM ds Q->fJ { nx:=λ_=>Q .non,rt:=Q } (aM ["_law_found"] ds):=by
 rintro ds Q ⟨a,rfl,q⟩
 rw[aS 0 rfl]
 unfold fJ
 walk_at "rd"
 exact q
theorem bR {a b:Int} (h:0<b):0<=a.fmod b/\a.fmod b<b:=⟨Int.fmod_nonneg_of_pos a h,Int.fmod_lt_of_pos a h⟩
theorem ME:∀ds Q,DX 63 ds Q->ds.length=1:=by rintro ds Q ⟨a,rfl,_⟩;rfl
theorem cB {g:RG} {t:RS} {E:DEnds} (J:List D->En->Prop)
  (step:∀x xs ρ,J (x::xs) ρ->∀F:DEnds,F.rt=E.rt->F.bk=E.nx->(∀ρ',J xs ρ'->F.nx ρ')->(∀ρ',J xs ρ'->F.ct ρ')->g x ρ λρ1=>t F ρ1) (last:∀ρ,J [] ρ->E.nx ρ):∀xs ρ,J xs ρ->tJ g t xs E ρ
 | [],ρ,h=>last ρ h
 | x::xs,ρ,h=>step x xs ρ h _ rfl rfl (λρ' h'=>cB J step last xs ρ' h') λρ' h'=>cB J step last xs ρ' h'
theorem xJ {α:Type} {g:RG} {te:RE} (R:En->Prop) (enc f:α->D):∀(src:List α) {Q:List D->Prop},(∀a∈src,∀ρ,R ρ->∀K:En->D->Prop,(∀ρ1,R ρ1->K ρ1 (f a))->g (enc a) ρ λρ1=>te ρ1 λd=>K ρ1 d) ->
  ∀(ρ:En) (acc:List D),R ρ->Q (acc++src.map f)->fK g te (src.map enc) ρ acc Q
 | [],Q,_,ρ,acc,_,q=>by
  show Q acc
  simpa using q
 | a::src,Q,step,ρ,acc,h,q=>by
  show g (enc a) ρ λρ'=>te ρ' λd=>fK g te (src.map enc) ρ' (acc++[d]) Q
  refine step a List.mem_cons_self ρ h (λρ1 d=>fK g te (src.map enc) ρ1 (acc++[d]) Q) λρ1 h1=>?_
  exact xJ R enc f src (λb hb=>step b (List.mem_cons_of_mem _ hb)) ρ1 _ h1 (by simpa using q)
theorem eN {α:Type} {g:RG} {te:RE} (R:En->Prop) (enc f:α->D) (src:List α) {Q:List D->Prop} {ρ:En} (step:∀a∈src,∀ρ,R ρ->∀K:En->D->Prop,(∀ρ1,R ρ1->K ρ1 (f a))->g (enc a) ρ λρ1=>te ρ1 λd=>K ρ1 d)
  (h:R ρ) (q:Q (src.map f)):fK g te (src.map enc) ρ [] Q:=xJ R enc f src step ρ [] h (by simpa using q)
noncomputable abbrev il (ns:List Int):D:=.lst (ns.map .int)
noncomputable abbrev pt (p:Int × Int):D:=.tup [.int p.1,.int p.2]
noncomputable abbrev pts (ps:List (Int × Int)):D:=.lst (ps.map pt)
theorem HK {ns:List Int} {i:Int} {Q:D->Prop} (h0:0<=i) (h1:i<ns.length) (q:∀n∈ns,Q (.int n)):dIx (il ns) (.int i) Q:=by
 refine vQ h0 (by simpa using h1) λx hx=>?_
 obtain⟨n,hn,rfl⟩:=List.mem_map.mp hx
 exact q n hn
theorem bY {n:Nat} (h:n<=100000):Sz n:=⟨Nat.le_trans h (by decide)⟩
theorem PJ {n:Nat} {i:Int} (h0:0<=i) (h1:i<n):ixN n i=some i.toNat:=by
 unfold ixN
 rw[if_pos h0,if_pos (by omega)]
noncomputable abbrev big:Int:=1000000000000000000000000000000000000000000000000000000000007
structure Drawn (m:Nat) (xs:List Int):Prop where
 len:xs.length=m
 lo:∀x∈xs,0<=x
 hi:∀x∈xs,x<big
theorem Drawn.bl {m:Nat} {xs:List Int} (h:Drawn m xs) {x:Int} (hx:x∈xs):BL 200 x:=by
 have h0:=h.lo x hx
 have h1:=h.hi x hx
 have e:big<((2 ^ 200:Nat):Int):=by decide
 exact BL.of_lt (by omega) (by omega)
noncomputable def kP:FD:=λds Q=>∃(ns:List Int) (m:Nat),ds=[il ns,.int m]/\(ns.length<=100/\1<=m/\m<=100)/\∀xs,Drawn m xs->Q (il xs)
theorem yG:∀ds Q,kP ds Q->ds.length=2:=by rintro ds Q ⟨a,b,rfl,_⟩;rfl
noncomputable def jG:RS:=aX (bH 5 (r2 eO (aD 3) (aD 1)))
 (iE 2 (r2 eO (r2 eL (r2 eL (r2 dY (r2 dIx (aD 2) (aD 5)) (rC (.int 48271))) (aD 4)) (r2 dY (aD 3) (aD 3))) (r2 eL (r2 mC (rC (.int 10)) (rC (.int 60))) (rC (.int 7)))) (aN 5))
theorem AZ:eD=aX (bH 4 (rC (.int 0)))
 (aX (fY (bL (r2 (gT λi j=>decide (j<i)) (r1 iC (aD 0)) (rC (.int 0)))) (bH 4 (r2 eO (r2 dIx (aD 0) (r2 eO (aD 3) (rCB jW (aB (r1 iC (aD 0)) (aB (rC (.int 63)) (aH)))))) (r2 eL (r2 mC (rC (.int 10)) (rC (.int 60))) (rC (.int 7))))) (cP)) jG):=rfl
theorem wA {ns:List Int} {m:Nat} (hm:1<=m/\m<=100) {E:DEnds} (q:∀xs a b c,Drawn m xs->E.nx [some (.d (il ns)),some (.d (.int m)),some (.own (xs.map .int)),a,b,c]) (xs:List D) (ρ:En)
  (hx:∀x∈xs,∃j:Int,x = .int j/\0<=j/\j<=1000) (hρ:∃ys a b c,ρ=[some (.d (il ns)),some (.d (.int m)),some (.own (ys.map .int)),a,b,c]/\Drawn m ys):tJ (aP 3) eD xs E ρ:=by
 refine cB (λxs ρ=>(∀x∈xs,∃j:Int,x = .int j/\0<=j/\j<=1000)/\∃ys a b c,ρ=[some (.d (il ns)),some (.d (.int m)),some (.own (ys.map .int)),a,b,c]/\Drawn m ys) ?_ ?_ xs ρ ⟨hx,hρ⟩
 ·rintro x xs ρ ⟨hx,ys,a,b,c,rfl,hd⟩ F _ _ hn _
  obtain⟨j,rfl,j0,j1⟩:=hx x List.mem_cons_self
  have hx':∀x∈xs,∃j:Int,x = .int j/\0<=j/\j<=1000:=λx h=>hx x (List.mem_cons_of_mem _ h)
  have done:∀cell:Int,jG F [some (.d (il ns)),some (.d (.int m)),some (.own (ys.map .int)),some (.d (.int j)),some (.d (.int cell)),c]:=λcell=>by
   unfold jG
   walk_at "rd"
   have hm':(0:Int)<m:=by omega
   obtain⟨a0,a1⟩:=bR (a:=j) hm'
   refine⟨⟨by omega⟩,?_⟩
   refine HK a0 (by rw[hd.len];exact a1) λy hy=>?_
   have by':=hd.bl hy
   refine⟨by'.mulOk (BL.const (n:=20)),(BL.of_lt (m:=20) (by omega) (by omega)).mulOk (BL.of_lt (m:=20) (by omega) (by omega)),?_⟩
   walk_at "sides"
   obtain⟨e0,e1⟩:=bR (a:=y*48271+cell+j*j) (b:=big) (by decide)
   generalize (y*48271+cell+j*j).fmod big=z at *
   generalize j.fmod m=i at *
   rw[PJ a0 (by simpa [hd.len] using a1)]
   refine hn _ ⟨hx',ys.set i.toNat z,_,_,_,by rw[<-List.map_set],⟨by simpa using hd.len,λx hx=>?_,λx hx=>?_⟩⟩
   ·rcases List.mem_or_eq_of_mem_set hx with h | rfl
    ·exact hd.lo x h
    ·exact e0
   ·rcases List.mem_or_eq_of_mem_set hx with h | rfl
    ·exact hd.hi x h
    ·exact e1
  rw[AZ]
  walk_at "rd"
  split
  ·rename_i hl
   have hl':0<ns.length:=by simpa using hl
   have hpos:(0:Int)<(if (63:Int)<((ns.map D.int).length:Int) then 63 else ((ns.map D.int).length:Int)):=by split <;> simp <;> omega
   obtain⟨a0,a1⟩:=bR (a:=j) hpos
   have a2:(if (63:Int)<((ns.map D.int).length:Int) then 63 else ((ns.map D.int).length:Int))<=ns.length:=by split <;> simp at * <;> omega
   exact⟨⟨Int.ne_of_gt hpos⟩,HK a0 (Int.lt_of_lt_of_le a1 a2) λy _=>⟨JR,oQ,done _⟩⟩
  ·exact done 0
 ·rintro ρ ⟨_,ys,a,b,c,rfl,hd⟩
  exact q ys a b c hd
theorem sA {lo:Int} {n:Nat} {x:D} (h:x∈cA lo n):∃j:Int,x = .int j/\lo<=j/\j<lo+n:=by
 unfold cA at h
 obtain⟨k,hk,rfl⟩:=List.mem_map.mp h
 have:=List.mem_range.mp hk
 exact⟨_,rfl,by omega,by omega⟩
theorem fD {lo:Int} {n:Nat}:(cA lo n).length=n:=by simp[cA]
theorem oW:∀ds Q,kP ds Q->dW { nx:=λ_=>Q .non,rt:=Q } (aM ["_law_script","_law_many","_law_found","_law_k","_law_cell","_law_at"] ds):=by
 rintro ds Q ⟨ns,m,rfl,⟨hn,hm⟩,q⟩
 rw[aS 4 rfl]
 unfold dW
 walk_at "rd"
 refine⟨⟨by omega,by omega⟩,bY (by rw[fD];omega),?_⟩
 unfold cA
 refine eN (λρ=>∃a,ρ=[a]) (λk:Nat=>D.int (0+(k:Int))) (λ_=>D.int 0) _ ?_ ⟨_,rfl⟩ ?_
 ·rintro a _ ρ ⟨b,rfl⟩ K hK
  exact hK _ ⟨_,rfl⟩
 ·have len:(ns.map D.int).length=ns.length:=by simp
  have e0:∃M:Int,(if (m:Int)<(if (63:Int)<((ns.map D.int).length:Int) then 63 else ((ns.map D.int).length:Int)) then (if (63:Int)<((ns.map D.int).length:Int) then 63 else ((ns.map D.int).length:Int)) else (m:Int))=M/\0<=M/\M<=100:=⟨_,rfl,by rw[len];split <;> (try split) <;> omega,by rw[len];split <;> (try split) <;> omega⟩
  obtain⟨M,eM,M0,M1⟩:=e0
  rw[eM]
  refine⟨⟨by omega,by omega⟩,?_⟩
  refine wA (ns:=ns) hm (λxs a b c hd=>?_) _ _ (λx hx=>?_) ⟨List.replicate m 0,none,none,none,?_,⟨by simp,λx hx=>?_,λx hx=>?_⟩⟩
  ·walk_at "rd"
   exact q xs hd
  ·obtain⟨j,rfl,j0,j1⟩:=sA hx
   exact⟨j,rfl,j0,by omega⟩
  ·congr 5
   apply List.ext_getElem
   ·simp
   ·intro i h1 h2;simp
  ·rw[(List.mem_replicate.mp hx).2];decide
  ·rw[(List.mem_replicate.mp hx).2];decide
theorem aO {t u:RS} {E:DEnds} {ρ:En} (I:En->Prop) (h1:∀K:En->Prop,(∀ρ',I ρ'->K ρ')->t { E with nx:=K } ρ) (h2:∀ρ',I ρ'->u E ρ'):aX t u E ρ:=h1 (u E) h2
theorem kU {xs:List D} {j:Nat} (h:j<=xs.length):iJ xs (some (j:Int)) none=xs.drop j:=by
 unfold iJ
 rw[HT.sIx_nat,HT.sIx_none,Nat.min_eq_left h,List.take_of_length_le (by simp)]
theorem LH {xs:List D} {j:Nat} (h:j<=xs.length):iJ xs none (some (j:Int))=xs.take j:=by
 unfold iJ
 rw[HT.sIx_nat,HT.sIx_none,Nat.min_eq_left h];simp
noncomputable abbrev scl (k:Int) (z:Pt):Pt:=(k*z.1,k*z.2)
noncomputable def qW:FD:=λds Q=>∃a b:Int,ds=[.int a,.int b]/\(0<a/\0<b)/\(BL 8000 a/\BL 8000 b)/\∀l,0<l->a∣l->b∣l->l<=a*b->Q (.int l)
theorem MF:∀ds Q,qW ds Q->ds.length=2:=by rintro ds Q ⟨_,_,rfl,_⟩;rfl
theorem kE:∀ds Q,qW ds Q->cM lJ { nx:=λ_=>Q .non,rt:=Q } (aM ["one","other"] ds):=by
 rintro ds Q ⟨a,b,rfl,⟨ha,hb⟩,⟨ba,bb⟩,q⟩
 rw[aS 0 rfl]
 unfold cM
 walk_at "rd"
 refine⟨a,b,rfl,?_⟩
 have hg:=qS (a:=a) (b:=b) (by omega)
 have bg:=BL.gcd (a:=a) (b:=b) (by omega) bb
 walk_at "rd"
 have b2:BL 8000 (b.fdiv (Int.gcd a b:Nat)):=bb.fdiv
 refine⟨(bg.mono (by decide)).divOk (by omega),ba.mulOk b2,?_⟩
 obtain⟨c,ec⟩:((Int.gcd a b:Nat):Int)∣b:=Int.gcd_dvd_right ..
 obtain⟨d,ed⟩:((Int.gcd a b:Nat):Int)∣a:=Int.gcd_dvd_left ..
 have e1:b.fdiv (Int.gcd a b:Nat)=c:=by
  rw[Int.fdiv_eq_ediv_of_nonneg _ (by omega)]
  have:b / ((Int.gcd a b:Nat):Int)=(((Int.gcd a b:Nat):Int)*c) / ((Int.gcd a b:Nat):Int):=congrArg (· / ((Int.gcd a b:Nat):Int)) ec
  rw[this,Int.mul_ediv_cancel_left _ (by omega)]
 rw[e1]
 generalize hG:((Int.gcd a b:Nat):Int)=g at *
 have pc:0<c:=by
  apply Int.not_le.mp
  intro hn
  have:g*c<=0:=Int.mul_nonpos_of_nonneg_of_nonpos (by omega) hn
  omega
 refine q _ (Int.mul_pos ha pc) (Int.dvd_mul_right ..) ⟨d,by rw[ed,ec];grind⟩ ?_
 rw[ec]
 have:0<=a*((g-1)*c):=Int.mul_nonneg (by omega) (Int.mul_nonneg (by omega) (by omega))
 have e:a*(g*c)=a*c+a*((g-1)*c):=by grind
 omega
local macro_rules | `(tactic| walk_at "rd")=>do
 let a <- ("S.fz zB sN HL aX cP bO uR fY bH cQ zC FV aP fR bP fQ aN aD rC r2 r1 bL FU rOr oZ nS FW pN rIf aH aB iF gM aV rCB cZ gZ uT cH GE riL riT kK GF pA eJ fK jO rG dJ gA uS iE FX tU nU gW fE oE EL dNe oY uX gN eL jQ dY eF eO mC tI gT jP EJ oD pK fM fN iU iK iL iM iN iO iP iQ iR iS iT gG gH pY EI mZ jW iC mY oK oI oJ oH oM S.val cX FY zD tT BJ FZ GA GB GC zE GD sQ uV uW List.map_cons List.map_nil List.cons_append List.nil_append List.length_cons List.length_nil List.getElem?_cons_zero List.getElem?_cons_succ List.set_cons_zero List.set_cons_succ List.append_nil Bool.or_false Bool.or_true Bool.false_or Bool.true_or Bool.not_true Bool.not_false if_true if_false Bool.false_eq_true sz0 sz1 sz2 sz3 sz4 true_and decide_eq_true_eq Int.reduceToNat Int.reducePow Int.reduceMul Int.reduceSub Int.reduceAdd Int.reduceNeg".splitOn " ").toArray.mapM λx=>`(Lean.Parser.Tactic.simpLemma| $(Lean.mkIdent x.toName):term)
 `(tactic| simp only[$a,*])
noncomputable abbrev sdD (s:bN):D:=.tup [pt s.1,pt s.2]
noncomputable abbrev fT (S:List bN):D:=.lst (S.map sdD)
noncomputable abbrev fS (R:List (List Pt)):D:=.lst (R.map pts)
noncomputable def sB:Pt->List Pt->List (Pt × Pt)
 | _,[]=>[]
 | a,b::r=>(a,b)::sB b r
theorem vH:∀(a:Pt) (l:List Pt),bV a l=((sB a l).map λp=>sd p.1 p.2).flatten
 | _,[]=>rfl
 | a,b::r=>by rw[bV,sB,List.map_cons,List.flatten_cons,vH b r]
theorem zZ:∀(a z:Pt) (r:List Pt),List.zipWith (λu v=>D.tup [u,v]) ((a::r).map pt) ((r++[z]).map pt)=(sB a (r++[z])).map λp=>D.tup [pt p.1,pt p.2]
 | a,z,[]=>rfl
 | a,z,b::r=>by
  have ih:=zZ b z r
  show D.tup [pt a,pt b]::List.zipWith (λu v=>D.tup [u,v]) ((b::r).map pt) ((r++[z]).map pt)=_
  rw[ih];rfl
theorem yR:∀(a:Pt) (l:List Pt),(sB a l).length=l.length
 | _,[]=>rfl
 | a,b::r=>by rw[sB,List.length_cons,yR b r,List.length_cons]
theorem KJ (a b:Pt):(sd a b).length<=1:=by unfold sd;split <;> (try split) <;> simp
theorem zV:∀(l:List Pt) (a:Pt),(bV a l).length<=l.length
 | [],_=>Nat.le_refl _
 | b::r,a=>by
  have h1:=KJ a b
  have h2:=zV r b
  rw[bV,List.length_append,List.length_cons];omega
theorem uZ:∀g:List Pt,(cF g).length<=g.length
 | []=>Nat.le_refl _
 | a::r=>by have:=zV (r++[a]) a;rw[cF];simpa using this
noncomputable def iH:FD:=λds Q=>∃g:List Pt,ds=[pts g]/\g.length<=100/\Q (fT (cF g))
theorem yI:∀ds Q,iH ds Q->ds.length=1:=by rintro ds Q ⟨_,rfl,_⟩;rfl
theorem tR:∀ds Q,iH ds Q->hZ { nx:=λ_=>Q .non,rt:=Q } (aM ["ring","sides","one","other"] ds):=by
 rintro ds Q ⟨g,rfl,hl,q⟩
 rw[aS 3 rfl]
 unfold hZ
 refine aO (λρ=>ρ=[some (.d (pts g)),some (.own []),none,none]) (λK hK=>?_) ?_
 ·walk_at "rd"
  exact hK _ rfl
 rintro ρ rfl
 refine aO (λρ=>∃u v,ρ=[some (.d (pts g)),some (.own ((cF g).map sdD)),u,v]) (λK hK=>?_) ?_
 ·have zz:∃ps:List (Pt × Pt),List.zipWith (λu v=>D.tup [u,v]) (g.map pt) (iJ (g.map pt) (some 1) none++iJ (g.map pt) none (some 1))=ps.map (λp=>D.tup [pt p.1,pt p.2])/\(ps.map λp=>sd p.1 p.2).flatten=cF g/\ps.length<=100:=by
   cases g with
   | nil=>exact⟨[],rfl,rfl,Nat.zero_le _⟩
   | cons a r =>
    refine⟨sB a (r++[a]),?_,(vH a (r++[a])).symm,by rw[yR];simpa using hl⟩
    have c1:iJ ((a::r).map pt) (some 1) none=r.map pt:=kU (j:=1) (by simp)
    have c2:iJ ((a::r).map pt) none (some 1)=[pt a]:=LH (j:=1) (by simp)
    rw[c1,c2,<-zZ a a r]
    simp
  obtain⟨ps,e1,e2,e3⟩:=zz
  simp only[cH,gN,aN,aD,r2,nU,gZ,cZ,rC,gW,List.getElem?_cons_zero]
  have cl:∀l u:Option Int,(iJ (g.map pt) l u).length<=100:=λl u=>by unfold iJ;rw[List.length_take,List.length_drop,List.length_map];omega
  refine⟨bY (by have:=cl (some 1) none;have:=cl none (some 1);omega),?_⟩
  rw[e1]
  refine cB (λxs ρ=>∃done todo:List (Pt × Pt),ps=done++todo/\xs=todo.map (λp=>D.tup [pt p.1,pt p.2])/\∃u v,ρ=[some (.d (pts g)),some (.own (((done.map λp=>sd p.1 p.2).flatten).map sdD)),u,v]) ?_ ?_ _ _ ⟨[],ps,rfl,rfl,_,_,rfl⟩
  ·rintro x xs ρ ⟨done,todo,eps,exs,u,v,rfl⟩ F hr hb hn hc
   cases todo with
   | nil=>cases exs
   | cons p todo =>
    rw[List.map_cons] at exs
    injection exs with ex exs
    subst ex exs
    have dl:((done.map λp=>sd p.1 p.2).flatten).length+1<=101:=by
     have h1:done.length<=100:=by rw[eps] at e3;simp at e3;omega
     have:((done.map λp=>sd p.1 p.2).flatten).length<=done.length:=by
      clear eps h1
      induction done with
      | nil=>exact Nat.le_refl _
      | cons z done ih=>have:=KJ z.1 z.2;rw[List.map_cons,List.flatten_cons,List.length_append,List.length_cons];omega
     omega
    have go:∀w,w=sd p.1 p.2->F.nx [some (.d (pts g)),some (.own (((done.map λp=>sd p.1 p.2).flatten).map sdD++w.map sdD)),some (.d (pt p.1)),some (.d (pt p.2))]:=λw hw=>by
     refine hn _ ⟨done++[p],todo,by rw[eps];simp,rfl,some (.d (pt p.1)),some (.d (pt p.2)),?_⟩
     rw[hw,<-List.map_append]
     congr 4
     simp
    unfold kH
    walk_at "rd"
    by_cases h1:p.1.1<p.2.1
    ·have h2:¬p.2.1<p.1.1:=by omega
     simp only[h1,h2,decide_true,decide_false,if_true,if_false,Bool.false_eq_true]
     refine⟨bY (by rw[List.length_map];omega),?_⟩
     exact go [p] (by unfold sd;rw[if_pos h1])
    ·by_cases h2:p.2.1<p.1.1
     ·simp only[h1,h2,decide_true,decide_false,if_true,if_false,Bool.false_eq_true]
      refine⟨bY (by rw[List.length_map];omega),?_⟩
      exact go [(p.2,p.1)] (by unfold sd;rw[if_neg h1,if_pos h2])
     ·simp only[h1,h2,decide_false,if_false,Bool.false_eq_true]
      have:=go [] (by unfold sd;rw[if_neg h1,if_neg h2])
      simpa using this
  ·rintro ρ ⟨done,todo,eps,exs,u,v,rfl⟩
   have:todo=[]:=by cases todo with | nil=>rfl | cons _ _=>cases exs
   subst this
   rw[List.append_nil] at eps
   refine hK _ ⟨u,v,?_⟩
   rw[<-eps,e2]
 rintro ρ ⟨u,v,rfl⟩
 walk_at "rd"
 exact q
noncomputable def jZ:List (Int × List D)->Int->List D
 | [],_=>[]
 | (k',ds)::r,k=>if k'=k then ds else jZ r k
theorem yN:∀(kvs:List (Int × List D)) (k:Int) (d:D) (c:Int),jZ (fO kvs k d) c=if k=c then jZ kvs c++[d] else jZ kvs c
 | [],k,d,c=>by simp only[fO,jZ];split <;> rfl
 | (k',ds)::r,k,d,c=>by
  have ih:=yN r k d c
  unfold fO
  by_cases h:k'=k
  ·rw[if_pos h];subst h
   simp only[jZ]
   by_cases hc:k'=c
   ·rw[if_pos hc,if_pos hc,if_pos hc]
   ·rw[if_neg hc,if_neg hc,if_neg hc]
  ·rw[if_neg h]
   simp only[jZ]
   by_cases hc:k=c
   ·have:¬k'=c:=λe=>h (e.trans hc.symm)
    rw[if_neg this,if_pos hc,ih,if_pos hc,if_neg this]
   ·rw[if_neg hc,ih,if_neg hc]
theorem rX:∀(kvs:List (Int × List D)) (k:Int) (d:D),(fO kvs k d).map (·.1)=if k∈kvs.map (·.1) then kvs.map (·.1) else kvs.map (·.1)++[k]
 | [],k,d=>by simp[fO]
 | (k',ds)::r,k,d=>by
  have ih:=rX r k d
  unfold fO
  by_cases h:k'=k
  ·rw[if_pos h];subst h;simp
  ·rw[if_neg h,List.map_cons,ih]
   have h':¬k=k':=λe=>h e.symm
   by_cases hm:k∈r.map (·.1)
   ·rw[if_pos hm,if_pos (by rw[List.map_cons];exact .tail _ hm)];rfl
   ·rw[if_neg hm,if_neg (by rw[List.map_cons,List.mem_cons];exact λz=>z.elim h' hm)];rfl
theorem xP:∀(kvs:List (Int × List D)) (c:Int),c∈kvs.map (·.1)->lK (kvs.map (·.1)) (kvs.map λp=>.lst p.2) c=some (.lst (jZ kvs c))
 | [],_,h=>by cases h
 | (k',ds)::r,c,h=>by
  simp only[List.map_cons,lK,jZ]
  by_cases hc:k'=c
  ·rw[if_pos hc,if_pos hc]
  ·rw[if_neg hc,if_neg hc]
   rw[List.map_cons,List.mem_cons] at h
   exact xP r c (h.resolve_left λe=>hc e.symm)
theorem DD:∀(kvs:List (Int × List D)) (k:Int) (d:D) (n:Nat),kvs.length<=n->(∀p∈kvs,p.2.length<=n)->(fO kvs k d).length<=n+1/\∀p∈fO kvs k d,p.2.length<=n+1
 | [],k,d,n,_,_=>⟨by simp[fO],λp hp=>by simp[fO] at hp;subst hp;simp⟩
 | (k',ds)::r,k,d,n,hl,hp=>by
  unfold fO
  have hds:=hp (k',ds) (.head _)
  by_cases h:k'=k
  ·rw[if_pos h]
   refine⟨by simpa using Nat.le_succ_of_le hl,λp h'=>?_⟩
   rcases List.mem_cons.mp h' with rfl | h'
   ·simp;exact hds
   ·exact Nat.le_succ_of_le (hp p (.tail _ h'))
  ·rw[if_neg h]
   rw[List.length_cons] at hl
   have n1:n=(n-1)+1:=by omega
   obtain⟨i1,i2⟩:=DD r k d n (by omega) λp h'=>hp p (.tail _ h')
   have i3:(fO r k d).length<=r.length+1:=by
    clear i1 i2 hp hds hl
    induction r with
    | nil=>simp[fO]
    | cons z r ih=>unfold fO;split <;> simp <;> omega
   refine⟨by rw[List.length_cons];omega,λp h'=>?_⟩
   rcases List.mem_cons.mp h' with rfl | h'
   ·exact Nat.le_succ_of_le hds
   ·exact i2 p h'
noncomputable abbrev Ev:=Int × bN
noncomputable def evs (s:bN):List Ev:=(List.range (wid s).toNat).map λk:Nat=>(s.1.1+(k:Int),s)
noncomputable def cO (E:List Ev):List (Int × List D):=E.foldl (λm e=>fO m e.1 (sdD e.2)) []
theorem rY (E:List Ev) (e:Ev):cO (E++[e])=fO (cO E) e.1 (sdD e.2):=by unfold cO;rw[List.foldl_append];rfl
theorem AU (E:List Ev):((cO E).length<=E.length/\∀p∈cO E,p.2.length<=E.length)/\((cO E).map (·.1)).Nodup/\(∀c,c∈(cO E).map (·.1)↔∃e∈E,e.1=c)/\∀c,jZ (cO E) c=(E.filter λe=>decide (e.1=c)).map λe=>sdD e.2:=by
 refine snoc_ind (P:=λE=>((cO E).length<=E.length/\∀p∈cO E,p.2.length<=E.length)/\((cO E).map (·.1)).Nodup/\(∀c,c∈(cO E).map (·.1)↔∃e∈E,e.1=c)/\∀c,jZ (cO E) c=(E.filter λe=>decide (e.1=c)).map λe=>sdD e.2) ?_ ?_ E
 ·exact⟨⟨Nat.le_refl _,λp h=>by cases h⟩,List.nodup_nil,λc=>⟨λh=>(by cases h),λ⟨e,h,_⟩=>(by cases h)⟩,λc=>rfl⟩
 ·rintro E e ⟨⟨h1,h2⟩,h3,h4,h5⟩
  rw[rY]
  refine⟨by rw[List.length_append];exact DD _ _ _ _ h1 h2,?_,λc=>?_,λc=>?_⟩
  ·rw[rX]
   split
   ·exact h3
   ·rename_i n
    exact List.nodup_append.mpr ⟨h3,List.pairwise_singleton _ _,λa ha b hb e'=>n (by rw[List.mem_singleton.mp hb] at e';exact e' ▸ ha)⟩
  ·rw[rX]
   split
   ·rename_i m
    rw[h4 c]
    constructor
    ·rintro⟨x,hx,rfl⟩;exact⟨x,List.mem_append_left _ hx,rfl⟩
    ·rintro⟨x,hx,rfl⟩
     rcases List.mem_append.mp hx with hx | hx
     ·exact⟨x,hx,rfl⟩
     ·rw[List.mem_singleton.mp hx];exact (h4 _).mp m
   ·rw[List.mem_append,h4 c,List.mem_singleton]
    constructor
    ·rintro (⟨x,hx,rfl⟩ | rfl)
     ·exact⟨x,List.mem_append_left _ hx,rfl⟩
     ·exact⟨e,List.mem_append_right _ (.head _),rfl⟩
    ·rintro⟨x,hx,rfl⟩
     rcases List.mem_append.mp hx with hx | hx
     ·exact .inl ⟨x,hx,rfl⟩
     ·rw[List.mem_singleton.mp hx];exact .inr rfl
  ·rw[yN,h5 c,List.filter_append,List.map_append]
   by_cases hc:e.1=c
   ·rw[if_pos hc];simp[hc]
   ·rw[if_neg hc];simp[hc]
where
 snoc_ind {α:Type} {P:List α->Prop} (h0:P []) (hs:∀E e,P E->P (E++[e])) (E:List α):P E:=by
  have:∀(n:Nat) (E:List α),E.length=n->P E:=by
   intro n
   induction n with
   | zero=>intro E h;rw[List.length_eq_zero_iff.mp h];exact h0
   | succ n ih =>
    intro E h
    rcases List.eq_nil_or_concat E with rfl | ⟨E',e,rfl⟩
    ·cases h
    ·rw[List.concat_eq_append] at h ⊢
     exact hs E' e (ih E' (by simpa using h))
  exact this _ E rfl
theorem LS (c:Int) (s:bN) (hw:0<wid s):((evs s).filter λe=>decide (e.1=c)).map (·.2)=if cov c s=true then [s] else []:=by
 have key:∀n:Nat,(((List.range n).map λk:Nat=>((s.1.1+(k:Int),s):Ev)).filter λe=>decide (e.1=c)).map (·.2)=if s.1.1<=c/\c<s.1.1+n then [s] else []:=by
  intro n
  induction n with
  | zero=>rw[if_neg (by omega)];rfl
  | succ n ih =>
   rw[List.range_succ,List.map_append,List.filter_append,List.map_append,ih]
   by_cases h1:s.1.1<=c/\c<s.1.1+n
   ·rw[if_pos h1,if_pos (by omega)]
    have:¬s.1.1+(n:Int)=c:=by omega
    simp[this]
   ·by_cases h2:s.1.1+(n:Int)=c
    ·rw[if_neg h1,if_pos (by omega)];simp[h2]
    ·rw[if_neg h1,if_neg (by omega)];simp[h2]
 unfold evs
 rw[key]
 by_cases h:cov c s=true
 ·have:=kR.mp h
  rw[if_pos h,if_pos (by unfold wid at *;omega)]
 ·rw[if_neg h,if_neg λk=>h (kR.mpr (by unfold wid at *;omega))]
theorem vV (c:Int):∀(S:List bN),(∀s∈S,0<wid s)->(((S.map evs).flatten).filter λe=>decide (e.1=c)).map (·.2)=S.filter (cov c)
 | [],_=>rfl
 | s::S,h=>by
  rw[List.map_cons,List.flatten_cons,List.filter_append,List.map_append,vV c S λx hx=>h x (.tail _ hx),LS c s (h s (.head _)),List.filter_cons]
  split <;> rfl
structure ColOf (S:List bN) (ks:List Int) (xs:List D):Prop where
 len:ks.length=xs.length
 nodup:ks.Nodup
 mem:∀c,c∈ks↔∃s∈S,cov c s=true
 here:∀c∈ks,lK ks xs c=some (fT (S.filter (cov c)))
theorem NQ (S:List bN) (h:∀s∈S,0<wid s):ColOf S ((cO (S.map evs).flatten).map (·.1)) ((cO (S.map evs).flatten).map λp=>.lst p.2):=by
 obtain⟨_,h3,h4,h5⟩:=AU (S.map evs).flatten
 refine⟨by simp,h3,λc=>?_,λc hc=>?_⟩
 ·rw[h4 c]
  have e:=vV c S h
  constructor
  ·rintro⟨x,hx,rfl⟩
   have:x.2∈(((S.map evs).flatten).filter λe=>decide (e.1=x.1)).map (·.2):=List.mem_map_of_mem (f:=(·.2)) (List.mem_filter.mpr ⟨hx,decide_eq_true rfl⟩)
   rw[e] at this
   exact⟨x.2,(List.mem_filter.mp this).1,(List.mem_filter.mp this).2⟩
  ·rintro⟨s,hs,k⟩
   have:s∈S.filter (cov c):=List.mem_filter.mpr ⟨hs,k⟩
   rw[<-e] at this
   obtain⟨x,hx,_⟩:=List.mem_map.mp this
   exact⟨x,(List.mem_filter.mp hx).1,by simpa using (List.mem_filter.mp hx).2⟩
 ·rw[xP _ c hc,h5 c]
  congr 2
  rw[<-vV c S h,List.map_map];rfl
local macro_rules | `(tactic| walk_at "rd")=>do
 let a <- ("aX cP bO uR fY bH cQ zC FV aP fR bP fQ aN aD rC r2 r1 bL FU rOr oZ nS FW pN rIf aH aB iF gM aV rCB cZ gZ uT cH GE riL riT kK GF pA eJ fK jO rG dJ gA uS iE FX tU nU gW fE oE EL dNe oY uX gN eL jQ dY eF eO mC tI gT jP EJ oD pK fM fN iU iK iL iM iN iO iP iQ iR iS iT gG gH pY EI mZ jW iC mY oK oI oJ oH oM S.val cX FY zD tT BJ FZ GA GB GC zE GD sQ uV uW List.map_cons List.map_nil List.cons_append List.nil_append List.length_cons List.length_nil List.getElem?_cons_zero List.getElem?_cons_succ List.set_cons_zero List.set_cons_succ List.append_nil Bool.or_false Bool.or_true Bool.false_or Bool.true_or Bool.not_true Bool.not_false if_true if_false Bool.false_eq_true sz0 sz1 sz2 sz3 sz4 true_and decide_eq_true_eq Int.reduceToNat Int.reducePow Int.reduceMul Int.reduceSub Int.reduceAdd Int.reduceNeg".splitOn " ").toArray.mapM λx=>`(Lean.Parser.Tactic.simpLemma| $(Lean.mkIdent x.toName):term)
 `(tactic| simp only[$a,*])
namespace K12
theorem CO {q p r:Int} (h:Int.gcd q p=1) (d:q∣p*r):q∣r:=by
 have h1:q.natAbs∣p.natAbs*r.natAbs:=by rw[<-Int.natAbs_mul];exact Int.natAbs_dvd_natAbs.mpr d
 exact Int.natAbs_dvd_natAbs.mp (Nat.Coprime.dvd_of_dvd_mul_left h h1)
theorem low_eq {a b p q p' q':Int} (hb:0<b) (h:Low a b p q) (h':Low a b p' q'):p=p'/\q=q':=by
 have e:p*q'=p'*q:=by
  have h1:=h.worth
  have h2:=h'.worth
  have:(p*q')*b=(p'*q)*b:=by grind
  exact Int.eq_of_mul_eq_mul_right (by omega) this
 have d1:q∣q':=by
  have:q∣p*q':=by rw[e];exact Int.dvd_mul_left ..
  exact CO (by rw[Int.gcd_comm];exact h.cop) this
 have d2:q'∣q:=by
  have:q'∣p'*q:=by rw[<-e];exact Int.dvd_mul_left ..
  exact CO (by rw[Int.gcd_comm];exact h'.cop) this
 have l1:=Int.le_of_dvd h'.pos d1
 have l2:=Int.le_of_dvd h.pos d2
 have eq:q=q':=by omega
 subst eq
 exact⟨Int.eq_of_mul_eq_mul_right (by have:=h.pos;omega) e,rfl⟩
end K12
structure Line where
 a:Int
 b:Int
 c:Int
noncomputable abbrev ln (l:Line):D:=.tup [.int l.a,.int l.b,.int l.c]
noncomputable abbrev exc (l:Line) (p:Int × Int) (s:Int):Int:=l.a*p.1+l.b*p.2-l.c*s
noncomputable def qJ:FD:=λds Q=>∃n b p:Int,ds=[.int n,.int b,.int p]/\(0<b/\BL 9000 b)/\(0<=p/\p<=1000)/\∀x,0<=x->x<b->Q (.int x)
theorem FE:∀ds Q,qJ ds Q->ds.length=3:=by rintro ds Q ⟨_,_,_,rfl,_⟩;rfl
theorem sK:∀ds Q,qJ ds Q->fH { nx:=λ_=>Q .non,rt:=Q } (aM ["_law_number","_law_base","_law_place","_law_k"] ds):=by
 rintro ds Q ⟨n,b,p,rfl,⟨b0,b1⟩,⟨p0,p1⟩,q⟩
 rw[aS 1 rfl]
 unfold fH
 simp only[cX,zD,List.map_cons,List.map_nil,List.cons_append,List.nil_append]
 refine aO (λρ=>∃(m:Int) (o:Option S),ρ=[some (.d (.int m)),some (.d (.int b)),some (.d (.int p)),o]) (λK hK=>?_) ?_
 ·walk_at "rd"
  refine⟨⟨by omega,by omega⟩,?_⟩
  refine cB (λ_ ρ=>∃(m:Int) (o:Option S),ρ=[some (.d (.int m)),some (.d (.int b)),some (.d (.int p)),o]) ?_ ?_ _ _ ⟨n,none,rfl⟩
  ·rintro x xs ρ ⟨m,o,rfl⟩ F _ _ hn _
   unfold iV
   walk_at "rd"
   exact⟨b1.divOk (by omega),hn _ ⟨m.fdiv b,some (.d x),rfl⟩⟩
  ·rintro ρ ⟨m,o,rfl⟩
   exact hK _ ⟨m,o,rfl⟩
 rintro ρ ⟨m,o,rfl⟩
 walk_at "rd"
 obtain⟨a0,a1⟩:=bR (a:=m) b0
 exact⟨⟨by omega⟩,q _ a0 a1⟩
theorem jX {g:RG} {t:RS} {E:DEnds} (xs:List D) (J:Nat->En->Prop) (step:∀i x ρ,xs[i]? = some x->J i ρ->∀F:DEnds,F.rt=E.rt->F.bk=E.nx->(∀ρ',J (i+1) ρ'->F.nx ρ')->(∀ρ',J (i+1) ρ'->F.ct ρ')->g x ρ λρ1=>t F ρ1)
  (last:∀ρ,J xs.length ρ->E.nx ρ) (ρ:En) (h:J 0 ρ):tJ g t xs E ρ:=by
 refine cB (λys ρ=>∃i,i<=xs.length/\ys=xs.drop i/\J i ρ) ?_ ?_ xs ρ ⟨0,Nat.zero_le _,rfl,h⟩
 ·rintro x ys ρ ⟨i,hi,e,hJ⟩ F f1 f2 f3 f4
  have hlt:i<xs.length:=by
   apply Nat.not_le.mp
   intro hn
   rw[List.drop_of_length_le hn] at e;cases e
  rw[List.drop_eq_getElem_cons hlt] at e
  cases e
  exact step i _ ρ (List.getElem?_eq_getElem hlt) hJ F f1 f2 (λρ' h=>f3 ρ' ⟨i+1,by omega,rfl,h⟩) λρ' h=>f4 ρ' ⟨i+1,by omega,rfl,h⟩
 ·rintro ρ ⟨i,hi,e,hJ⟩
  have:i=xs.length:=by
   have:=congrArg List.length e
   simp at this;omega
  subst this
  exact last ρ hJ
theorem BH {lo:Int} {n i:Nat} {x:D} (h:(cA lo n)[i]? = some x):x = .int (lo+i)/\i<n:=by
 unfold cA at h
 rw[List.getElem?_map] at h
 by_cases hi:i<n
 ·rw[List.getElem?_range hi] at h;cases h;exact⟨rfl,hi⟩
 ·rw[List.getElem?_eq_none (by simpa using hi)] at h;cases h
theorem lA {g:RG} {t:RS} {E:DEnds} (lo:Int) (n:Nat) (J:Nat->En->Prop) (step:∀i ρ,i<n->J i ρ->∀F:DEnds,F.rt=E.rt->F.bk=E.nx->(∀ρ',J (i+1) ρ'->F.nx ρ')->(∀ρ',J (i+1) ρ'->F.ct ρ')->g (.int (lo+i)) ρ λρ1=>t F ρ1)
  (last:∀ρ,J n ρ->E.nx ρ) (ρ:En) (h:J 0 ρ):tJ g t (cA lo n) E ρ:=by
 refine jX _ J (λi x ρ e hJ=>?_) (λρ h=>last ρ (by rwa [fD] at h)) ρ h
 obtain⟨rfl,hi⟩:=BH e
 exact step i ρ hi hJ
theorem PF {ns:List Int} (hne:ns≠[]) {Q:D->Prop} (q:∀v l,ns=l++[v]->Q (.int v)):dIx (.lst (ns.map D.int)) (.int (-1)) Q:=by
 rcases List.eq_nil_or_concat ns with h | ⟨l,v,h⟩
 ·exact absurd h hne
 ·have e:ns=l++[v]:=by simpa using h
  have:ns.map D.int=l.map D.int++[D.int v]:=by rw[e];simp
  rw[this]
  refine kW ?_ (q v l e)
  unfold atI ixN
  rw[if_neg (by decide),if_pos (by simp;omega)]
  have:((-1:Int)+((l.map D.int++[D.int v]).length:Nat)).toNat=l.length:=by simp;omega
  simp only[this,Option.bind_some]
  simp
structure Thr (ts:List Int):Prop where
 len:2<=ts.length/\ts.length<=5
 bl:∀x∈ts,BL 200 x
 step:∀(i:Nat) a b,ts[i]? = some a->ts[i+1]? = some b->1<=b-a/\b-a<=40
 wide:∀x∈ts,∀y∈ts,y-x<=60
structure Curves (ts:List Int) (hss:List (List Int)) (n:Nat):Prop where
 thr:Thr ts
 len:hss.length=ts.length
 n1:1<=n/\n<=3
 each:∀hs∈hss,hs.length=2*n
 bl:∀hs∈hss,∀x∈hs,BL 210 x
 up:∀hs∈hss,hs.Pairwise (·<=·)
noncomputable abbrev ill (hss:List (List Int)):D:=.lst (hss.map il)
theorem xK {g:RG} {te:RE} {R:En->Prop} {P:D->Prop}:∀(src:List D) {Q:List D->Prop} (ρ:En) (acc:List D),R ρ->(∀a∈src,∀ρ,R ρ->∀K:En->D->Prop,(∀ρ1 d,R ρ1->P d->K ρ1 d)->g a ρ λρ1=>te ρ1 λd=>K ρ1 d) ->
  (∀out:List D,out.length=src.length->(∀d∈out,P d)->Q (acc++out))->fK g te src ρ acc Q
 | [],Q,ρ,acc,_,_,q=>by
  show Q acc
  simpa using q [] rfl (by simp)
 | a::src,Q,ρ,acc,h,step,q=>by
  show g a ρ λρ'=>te ρ' λd=>fK g te src ρ' (acc++[d]) Q
  refine step a List.mem_cons_self ρ h (λρ1 d=>fK g te src ρ1 (acc++[d]) Q) λρ1 d h1 hd=>?_
  refine xK src ρ1 _ h1 (λb hb=>step b (List.mem_cons_of_mem _ hb)) λout hl hp=>?_
  have:=q (d::out) (by simp[hl]) λx hx=>by
   rcases List.mem_cons.mp hx with rfl | hx
   ·exact hd
   ·exact hp x hx
  simpa using this
noncomputable abbrev lin (w k a b:Int):Int:=a*(w-k)+b*k
theorem CQ {ns:List Int} {i:Nat} {v:Int} {Q:D->Prop} (e:ns[i]? = some v) (q:Q (.int v)):dIx (il ns) (.int (i:Int)) Q:=kW (gC (by rw[List.getElem?_map,e];rfl)) q
theorem PH {hss:List (List Int)} {i:Nat} {hs:List Int} {Q:D->Prop} (e:hss[i]? = some hs) (q:Q (il hs)):dIx (ill hss) (.int (i:Int)) Q:=kW (gC (by rw[List.getElem?_map,e];rfl)) q
local macro_rules | `(tactic| walk_at "rd")=>do
 let a <- ("S.fz zB sN HL aX cP bO uR fY bH cQ zC FV aP fR bP fQ aN aD rC r2 r1 bL FU rOr oZ nS FW pN rIf aH aB iF gM aV rCB cZ gZ uT cH GE riL riT kK GF pA eJ fK jO rG dJ gA uS iE FX tU nU gW fE oE EL dNe oY uX gN eL jQ dY eF eO mC tI gT jP EJ oD pK fM fN iU iK iL iM iN iO iP iQ iR iS iT gG gH pY EI mZ jW iC mY oK oI oJ oH oM S.val cX FY zD tT BJ FZ GA GB GC zE GD sQ uV uW List.map_cons List.map_nil List.cons_append List.nil_append List.length_cons List.length_nil List.getElem?_cons_zero List.getElem?_cons_succ List.set_cons_zero List.set_cons_succ List.append_nil Bool.or_false Bool.or_true Bool.false_or Bool.true_or Bool.not_true Bool.not_false if_true if_false Bool.false_eq_true sz0 sz1 sz2 sz3 sz4 true_and decide_eq_true_eq Int.reduceToNat Int.reducePow Int.reduceMul Int.reduceSub Int.reduceAdd Int.reduceNeg".splitOn " ").toArray.mapM λx=>`(Lean.Parser.Tactic.simpLemma| $(Lean.mkIdent x.toName):term)
 `(tactic| simp only[$a,*])
noncomputable abbrev bC (R:List (List Pt)):List bN:=(R.map cF).flatten
structure RgsOk (R:List (List Pt)):Prop where
 len:R.length<=3
 each:∀g∈R,g.length<=5
 wide:∀s∈bC R,wid s<=5
theorem RgsOk.pos {R:List (List Pt)}:∀s∈bC R,0<wid s:=λs hs=>by
 obtain⟨l,hl,hs⟩:=List.mem_flatten.mp hs
 obtain⟨g,hg,rfl⟩:=List.mem_map.mp hl
 exact (vA hs).2
theorem flat_len {α β:Type} (f:α->List β) (n:Nat):∀(l:List α),(∀x∈l,(f x).length<=n)->((l.map f).flatten).length<=n*l.length
 | [],_=>Nat.zero_le _
 | x::l,h=>by
  have h1:=h x (.head _)
  have h2:=flat_len f n l λy hy=>h y (.tail _ hy)
  rw[List.map_cons,List.flatten_cons,List.length_append,List.length_cons,Nat.mul_succ];omega
theorem RgsOk.slen {R:List (List Pt)} (o:RgsOk R):(bC R).length<=15:=by
 have:=flat_len cF 5 R λg hg=>Nat.le_trans (uZ g) (o.each g hg)
 have:=o.len
 show ((R.map cF).flatten).length<=15
 omega
theorem vW {s:bN} (h:wid s<=5):(evs s).length<=5:=by unfold evs;rw[List.length_map,List.length_range];omega
noncomputable def F_byCol:FD:=λds Q=>∃R:List (List Pt),ds=[fS R]/\RgsOk R/\∀ks xs,ColOf (bC R) ks xs->Q (.dct ks xs)
theorem len_byCol:∀ds Q,F_byCol ds Q->ds.length=1:=by rintro ds Q ⟨_,rfl,_⟩;rfl
theorem pure_sides_by_column:∀ds Q,F_byCol ds Q->bK iH { nx:=λ_=>Q .non,rt:=Q } (aM ["rings","columns","ring","side","column"] ds):=by
 rintro ds Q ⟨R,rfl,ok,q⟩
 rw[aS 4 rfl]
 unfold bK
 have fits:∀E:List Ev,(∃E',(((bC R).map evs).flatten)=E++E')->E.length<=75:=λE ⟨E',e⟩=>by
  have h1:=flat_len evs 5 (bC R) λs hs=>vW (ok.wide s hs)
  have h2:=ok.slen
  have h3:=Nat.mul_le_mul_left 5 h2
  rw[e,List.length_append] at h1;omega
 refine aO (λρ=>ρ=[some (.d (fS R)),some (.dcl (cO [])),none,none,none]) (λK hK=>?_) ?_
 ·walk_at "rd"
  exact hK _ rfl
 rintro ρ rfl
 refine aO (λρ=>∃u v w,ρ=[some (.d (fS R)),some (.dcl (cO (((bC R).map evs).flatten))),u,v,w]) (λK hK=>?_) ?_
 ·simp only[cH,riL,aN,List.getElem?_cons_zero]
  refine cB (λxs ρ=>∃done todo:List (List Pt),R=done++todo/\xs=todo.map pts/\∃u v w,ρ=[some (.d (fS R)),some (.dcl (cO (((bC done).map evs).flatten))),u,v,w]) ?_ ?_ _ _ ⟨[],R,rfl,rfl,_,_,_,rfl⟩
  ·rintro x xs ρ ⟨done,todo,eR,exs,u,v,w,rfl⟩ F hr hb hn hc
   cases todo with
   | nil=>cases exs
   | cons g todo =>
    rw[List.map_cons] at exs
    injection exs with ex exs
    subst ex exs
    have hg:g∈R:=by rw[eR];exact List.mem_append_right _ (.head _)
    unfold cW
    simp only[aP,cH,riL,aV,aB,aH,aN,List.getElem?_cons_zero,List.getElem?_cons_succ,List.set_cons_zero,List.set_cons_succ]
    refine⟨g,rfl,Nat.le_trans (ok.each g hg) (by decide),?_⟩
    dsimp only
    have eA:bC R=(bC done++cF g)++bC todo:=by rw[eR];simp[bC]
    refine cB (λxs ρ=>∃d2 t2:List bN,cF g=d2++t2/\xs=t2.map sdD/\∃v w,ρ=[some (.d (fS R)),some (.dcl (cO (((bC done++d2).map evs).flatten))),some (.d (pts g)),v,w]) ?_ ?_ _ _ ⟨[],cF g,rfl,rfl,v,w,by rw[List.append_nil]⟩
    ·rintro x xs ρ ⟨d2,t2,eS,exs,v,w,rfl⟩ F2 hr2 hb2 hn2 hc2
     cases t2 with
     | nil=>cases exs
     | cons s t2 =>
      rw[List.map_cons] at exs
      injection exs with ex exs
      subst ex exs
      unfold cV
      simp only[aP,cH,DH,aB,aH,r2,aD,rC,fM,fN,List.getElem?_cons_zero,List.getElem?_cons_succ,List.set_cons_zero,List.set_cons_succ]
      have eW:(s.2.1-s.1.1).toNat=(wid s).toNat:=rfl
      rw[eW]
      refine lA s.1.1 (wid s).toNat (λi ρ=>∃w,ρ=[some (.d (fS R)),some (.dcl (cO (((bC done++d2).map evs).flatten++(evs s).take i))),some (.d (pts g)),some (.d (sdD s)),w]) ?_ ?_ _ ⟨w,by rw[List.take_zero,List.append_nil]⟩
      ·rintro i ρ hi ⟨w,rfl⟩ F3 hr3 hb3 hn3 hc3
       have ei:(evs s)[i]? = some (s.1.1+(i:Int),s):=by unfold evs;rw[List.getElem?_map,List.getElem?_range hi];rfl
       have et:(evs s).take (i+1)=(evs s).take i++[(s.1.1+(i:Int),s)]:=by rw[List.take_succ,ei];rfl
       obtain⟨⟨k1,k2⟩,_⟩:=AU (((bC done++d2).map evs).flatten++(evs s).take i)
       have fit:=fits (((bC done++d2).map evs).flatten++(evs s).take i) ⟨(evs s).drop i++(t2.map evs).flatten++((bC todo).map evs).flatten,by
        rw[eA,eS];simp only[List.map_append,List.map_cons,List.flatten_append,List.flatten_cons,List.append_assoc]
        rw[<-List.append_assoc ((evs s).take i),List.take_append_drop]⟩
       unfold cU
       simp only[aP,zA,aN,List.getElem?_cons_zero,List.getElem?_cons_succ,List.set_cons_zero,List.set_cons_succ]
       refine⟨bY (by omega),λp hp=>bY (by have:=k2 p hp;omega),?_⟩
       refine hn3 _ ⟨some (.d (.int (s.1.1+(i:Int)))),?_⟩
       rw[et,<-List.append_assoc,rY]
      ·rintro ρ ⟨w,rfl⟩
       refine hn2 _ ⟨d2++[s],t2,by rw[eS];simp,rfl,some (.d (sdD s)),w,?_⟩
       have:(evs s).take (wid s).toNat=evs s:=List.take_of_length_le (by unfold evs;simp)
       rw[this,<-List.append_assoc,List.map_append,List.flatten_append]
       simp
    ·rintro ρ ⟨d2,t2,eS,exs,v,w,rfl⟩
     have:t2=[]:=by cases t2 with | nil=>rfl | cons _ _=>cases exs
     subst this
     rw[List.append_nil] at eS
     refine hn _ ⟨done++[g],todo,by rw[eR];simp,rfl,some (.d (pts g)),v,w,?_⟩
     rw[<-eS];simp[bC]
  ·rintro ρ ⟨done,todo,eR,exs,u,v,w,rfl⟩
   have:todo=[]:=by cases todo with | nil=>rfl | cons _ _=>cases exs
   subst this
   rw[List.append_nil] at eR
   rw[<-eR]
   exact hK _ ⟨u,v,w,rfl⟩
 rintro ρ ⟨u,v,w,rfl⟩
 simp only[dJ,S.fz,bO,aN,List.getElem?_cons_zero,List.getElem?_cons_succ,List.set_cons_zero,List.set_cons_succ]
 exact q _ _ (NQ (bC R) RgsOk.pos)
noncomputable def F_lowm:FD:=λds Q=>∃ws:List Int,ds=[il ws]/\ws.length<=15/\(∀w∈ws,0<w/\w<=5)/\∀B,0<B->(∀w∈ws,w∣B)->BL 50 B->Q (.int B)
theorem len_lowm:∀ds Q,F_lowm ds Q->ds.length=1:=by rintro ds Q ⟨_,rfl,_⟩;rfl
theorem pure_lowest_multiple:∀ds Q,F_lowm ds Q->bA qW { nx:=λ_=>Q .non,rt:=Q } (aM ["numbers","multiple","number"] ds):=by
 rintro ds Q ⟨ws,rfl,hl,hw,q⟩
 rw[aS 2 rfl]
 unfold bA
 refine aO (λρ=>ρ=[some (.d (il ws)),some (.d (.int 1)),none]) (λK hK=>?_) ?_
 ·walk_at "rd"
  exact hK _ rfl
 rintro ρ rfl
 refine aO (λρ=>∃(B:Int) (u:Option S),(0<B/\(∀w∈ws,w∣B)/\B<=((5 ^ 15:Nat):Int))/\ρ=[some (.d (il ws)),some (.d (.int B)),u]) (λK hK=>?_) ?_
 ·simp only[cH,riL,aN,List.getElem?_cons_zero]
  refine cB (λxs ρ=>∃done todo:List Int,ws=done++todo/\xs=todo.map .int/\∃(B:Int) (u:Option S),(0<B/\(∀w∈done,w∣B)/\B<=((5 ^ done.length:Nat):Int))/\ρ=[some (.d (il ws)),some (.d (.int B)),u]) ?_ ?_ _ _ ⟨[],ws,rfl,rfl,1,none,⟨by decide,(λw h=>by cases h),by decide⟩,rfl⟩
  ·rintro x xs ρ ⟨done,todo,e,exs,B,u,⟨h1,h2,h3⟩,rfl⟩ F hr hb hn hc
   cases todo with
   | nil=>cases exs
   | cons w todo =>
    rw[List.map_cons] at exs
    injection exs with ex exs
    subst ex exs
    obtain⟨w0,w5⟩:=hw w (by rw[e];exact List.mem_append_right _ (.head _))
    have dl:done.length<=14:=by rw[e] at hl;simp at hl;omega
    have pw:((5 ^ done.length:Nat):Int)<=((5 ^ 14:Nat):Int):=Int.ofNat_le.mpr (Nat.pow_le_pow_right (by decide) dl)
    have bB:BL 50 B:=BL.of_lt (by omega) (Int.lt_of_le_of_lt (Int.le_trans h3 pw) (by decide))
    have bw:BL 50 w:=BL.of_lt (by omega) (Int.lt_of_le_of_lt w5 (by decide))
    unfold cD
    simp only[aP,bH,aV,aB,aH,aN,List.getElem?_cons_zero,List.getElem?_cons_succ,List.set_cons_zero,List.set_cons_succ]
    refine⟨B,w,rfl,⟨h1,w0⟩,⟨bB.mono (by decide),bw.mono (by decide)⟩,λl l0 d1 d2 le=>?_⟩
    refine hn _ ⟨done++[w],todo,by rw[e];simp,rfl,l,some (.d (.int w)),⟨l0,λv hv=>?_,?_⟩,rfl⟩
    ·rcases List.mem_append.mp hv with hv | hv
     ·exact Int.dvd_trans (h2 v hv) d1
     ·rw[List.mem_singleton.mp hv];exact d2
    ·rw[List.length_append,List.length_singleton,Nat.pow_succ,Int.natCast_mul]
     have k1:=Int.mul_le_mul_of_nonneg_right h3 (Int.le_of_lt w0)
     have k2:=Int.mul_le_mul_of_nonneg_left w5 (Int.natCast_nonneg (5 ^ done.length))
     exact Int.le_trans le (Int.le_trans k1 k2)
  ·rintro ρ ⟨done,todo,e,exs,B,u,⟨h1,h2,h3⟩,rfl⟩
   have:todo=[]:=by cases todo with | nil=>rfl | cons _ _=>cases exs
   subst this
   rw[List.append_nil] at e
   subst e
   exact hK _ ⟨B,u,⟨h1,h2,Int.le_trans h3 (Int.ofNat_le.mpr (Nat.pow_le_pow_right (by decide) hl))⟩,rfl⟩
 rintro ρ ⟨B,u,⟨h1,h2,h3⟩,rfl⟩
 walk_at "rd"
 exact q B h1 h2 (BL.of_lt (by omega) (Int.lt_of_le_of_lt h3 (by decide)))
noncomputable def pD:FD:=λds Q=>∃s:bN,ds=[sdD s]/\Q (.int (wid s))
theorem MH:∀ds Q,pD ds Q->ds.length=1:=by rintro ds Q ⟨_,rfl,_⟩;rfl
theorem tS:∀ds Q,pD ds Q->iA { nx:=λ_=>Q .non,rt:=Q } (aM ["side"] ds):=by
 rintro ds Q ⟨s,rfl,q⟩
 rw[aS 0 rfl]
 unfold iA
 walk_at "rd"
 exact q
structure SdB (s:bN):Prop where
 x1:BL 200 s.1.1
 y1:BL 200 s.1.2
 x2:BL 200 s.2.1
 y2:BL 200 s.2.2
noncomputable def F_hgt:FD:=λds Q=>∃(s:bN) (t B:Int),ds=[sdD s,.int t,.int B]/\(SdB s/\wid s≠0/\BL 202 t/\BL 50 B)/\Q (.int (hB B s t))
theorem len_hgt:∀ds Q,F_hgt ds Q->ds.length=3:=by rintro ds Q ⟨_,_,_,rfl,_⟩;rfl
theorem pure_height_at:∀ds Q,F_hgt ds Q->dL pD { nx:=λ_=>Q .non,rt:=Q } (aM ["side","thread","bottom","left","width","climb"] ds):=by
 rintro ds Q ⟨s,t,B,rfl,⟨b,w0,bt,bB⟩,q⟩
 rw[aS 3 rfl]
 unfold dL
 have bw:BL 201 (wid s):=b.x2.sub b.x1
 refine aO (λρ=>ρ=[some (.d (sdD s)),some (.d (.int t)),some (.d (.int B)),some (.d (pt s.1)),none,none]) (λK hK=>?_) ?_
 ·walk_at "rd"
  exact hK _ rfl
 rintro ρ rfl
 refine aO (λρ=>ρ=[some (.d (sdD s)),some (.d (.int t)),some (.d (.int B)),some (.d (pt s.1)),some (.d (.int (wid s))),none]) (λK hK=>?_) ?_
 ·simp only[bH,aV,aB,aH,aN,List.getElem?_cons_zero,List.getElem?_cons_succ,List.set_cons_zero,List.set_cons_succ]
  exact⟨s,rfl,hK _ rfl⟩
 rintro ρ rfl
 walk_at "rd"
 refine⟨(b.y2.sub b.y1).mulOk (bt.sub b.x1),b.y1.mulOk bw,(bw.mono (by decide)).divOk w0,?_,q⟩
 exact ((b.y1.mul bw).add ((b.y2.sub b.y1).mul (bt.sub b.x1))).mulOk (bB.fdiv)
theorem MI (z w:Pt):dN [z.1,z.2] [w.1,w.2]=decide (ltP z w):=by
 unfold ltP
 simp only[dN]
 by_cases h:z.1=w.1
 ·rw[if_pos h]
  by_cases h2:z.2=w.2
  ·rw[if_pos h2];simp[h,h2]
  ·rw[if_neg h2];simp[h]
 ·rw[if_neg h];simp[h]
structure SdsOk (S:List bN) (c B:Int):Prop where
 len:S.length<=15
 bd:∀s∈S,SdB s
 ok:∀s∈S,SdOk s
 cb:BL 200 c
 pos:0<B
 dv:∀s∈S,wid s∣B
 bB:BL 50 B
noncomputable def F_ordH:FD:=λds Q=>∃(S:List bN) (c B:Int),ds=[fT S,.int c,.int B]/\SdsOk S c B/\(∀x∈S.map (prB B c),∀y∈S.map (prB B c),x.1<y.1->x.2<=y.2)/\∀M:List IP,M.Perm (S.map (prB B c))->dO M->Q (pts M)
theorem len_ordH:∀ds Q,F_ordH ds Q->ds.length=3:=by rintro ds Q ⟨_,_,_,rfl,_⟩;rfl
theorem zN {L:List IP} {mss:List (List Int)} (p:mss.Perm (L.map λz=>[z.1,z.2])) (h:mss.Pairwise λx y=>dN y x=false):∃M:List IP,M.Perm L/\mss.map cR=M.map pt/\M.Pairwise λx y=>¬ltP y x:=by
 have e1:∀ms∈mss,[ms.getD 0 0,ms.getD 1 0]=ms:=λms hm=>by
  obtain⟨z,_,rfl⟩:=List.mem_map.mp (p.mem_iff.mp hm);rfl
 refine⟨mss.map λl=>(l.getD 0 0,l.getD 1 0),?_,?_,?_⟩
 ·have:=p.map λl:List Int=>(l.getD 0 0,l.getD 1 0)
  rw[List.map_map] at this
  have e:((λl:List Int=>((l.getD 0 0,l.getD 1 0):IP)) ∘ λz:IP=>[z.1,z.2])=id:=by funext z;rfl
  rw[e,List.map_id] at this
  exact this
 ·rw[List.map_map]
  refine List.map_congr_left λms hm=>?_
  show D.tup (ms.map .int)=D.tup [.int (ms.getD 0 0),.int (ms.getD 1 0)]
  conv=>lhs;rw[<-e1 ms hm]
  rfl
 ·rw[List.pairwise_map]
  refine h.imp_of_mem λ{x y} hx hy k=>?_
  rw[<-e1 x hx,<-e1 y hy] at k
  have:=MI (y.getD 0 0,y.getD 1 0) (x.getD 0 0,x.getD 1 0)
  rw[k] at this
  exact of_decide_eq_false this.symm
theorem pure_ordered_heights:∀ds Q,F_ordH ds Q->bJ F_hgt { nx:=λ_=>Q .non,rt:=Q } (aM ["sides","column","bottom","heights","lower","upper"] ds):=by
 rintro ds Q ⟨Sd,c,B,rfl,ok,unc,q⟩
 rw[aS 3 rfl]
 unfold bJ
 refine aO (λρ=>ρ=[some (.d (fT Sd)),some (.d (.int c)),some (.d (.int B)),some (.own ((Sd.map (prB B c)).map pt)),none,none]) (λK hK=>?_) ?_
 ·walk_at "rd"
  refine⟨bY (by rw[List.length_map];have:=ok.len;omega),?_⟩
  refine eN (λρ=>∃a,ρ=[a,some (.d (.int c)),some (.d (.int B))]) sdD (λs=>pt (prB B c s)) Sd ?_ ⟨_,rfl⟩ ?_
  ·rintro s hs ρ ⟨a,rfl⟩ K' hK'
   walk_at "rd"
   have w0:=(ok.ok s hs).pos
   refine⟨s,c,B,rfl,⟨ok.bd s hs,by omega,ok.cb.mono (by decide),ok.bB⟩,s,c+1,B,rfl,⟨ok.bd s hs,by omega,((ok.cb.add (BL.const (n:=1) (i:=1))).mono (by decide)),ok.bB⟩,?_⟩
   walk_at "rd"
   exact hK' _ ⟨_,rfl⟩
  ·have e:Sd.map (λs=>pt (prB B c s))=(Sd.map (prB B c)).map pt:=by rw[List.map_map];rfl
   rw[e]
   exact hK _ rfl
 rintro ρ rfl
 refine aO (λρ=>∃M:List IP,(M.Perm (Sd.map (prB B c))/\dO M)/\ρ=[some (.d (fT Sd)),some (.d (.int c)),some (.d (.int B)),some (.own (M.map pt)),none,none]) (λK hK=>?_) ?_
 ·simp only[cQ,wO,aD,List.getElem?_cons_zero,List.getElem?_cons_succ,List.set_cons_zero,List.set_cons_succ]
  refine⟨(Sd.map (prB B c)).map λz=>[z.1,z.2],by rw[List.map_map (g:=cR)];rfl,by rw[List.length_map,List.length_map];have:=ok.len;omega,λns h=>?_,λmss pm ps=>?_⟩
  ·obtain⟨z,_,rfl⟩:=List.mem_map.mp h
   exact λe=>by cases e
  ·obtain⟨M,h1,h2,h3⟩:=zN pm ps
   rw[h2]
   exact hK _ ⟨M,⟨h1,zG h3 λx hx y hy=>unc x (h1.mem_iff.mp hx) y (h1.mem_iff.mp hy)⟩,rfl⟩
 rintro ρ ⟨M,⟨pm,up⟩,rfl⟩
 refine aO (λρ=>∃u v,ρ=[some (.d (fT Sd)),some (.d (.int c)),some (.d (.int B)),some (.d (pts M)),u,v]) (λK hK=>?_) ?_
 ·simp only[dJ,L2.R2.S.fz,cH,gN,aN,aD,nU,gZ,cZ,rC,List.getElem?_cons_zero,List.getElem?_cons_succ,List.set_cons_zero,List.set_cons_succ]
  have zz:∃ps:List (IP × IP),List.zipWith (λa b=>D.tup [a,b]) (M.map pt) (iJ (M.map pt) (some 1) none)=ps.map (λp=>D.tup [pt p.1,pt p.2])/\∀p∈ps,p.1.2<=p.2.2:=by
   have c1:iJ (M.map pt) (some 1) none=(M.drop 1).map pt:=by
    cases M with
    | nil=>rfl
    | cons a r=>exact kU (j:=1) (by simp)
   rw[c1]
   clear c1 pm hK
   induction M with
   | nil=>exact⟨[],rfl,λp h=>(by cases h)⟩
   | cons a r ih =>
    cases r with
    | nil=>exact⟨[],rfl,λp h=>(by cases h)⟩
    | cons b r =>
     obtain⟨ps,h1,h2⟩:=ih (List.pairwise_cons.mp up).2
     refine⟨(a,b)::ps,?_,λp hp=>?_⟩
     ·show D.tup [pt a,pt b]::List.zipWith (λa b=>D.tup [a,b]) ((b::r).map pt) (((b::r).drop 1).map pt)=_
      rw[h1];rfl
     ·rcases List.mem_cons.mp hp with rfl | hp
      ·exact ((List.pairwise_cons.mp up).1 b (.head _)).2
      ·exact h2 p hp
  obtain⟨ps,e1,e2⟩:=zz
  rw[e1]
  refine cB (λxs ρ=>∃todo:List (IP × IP),(∀p∈todo,p.1.2<=p.2.2)/\xs=todo.map (λp=>D.tup [pt p.1,pt p.2])/\∃u v,ρ=[some (.d (fT Sd)),some (.d (.int c)),some (.d (.int B)),some (.d (pts M)),u,v]) ?_ ?_ _ _ ⟨ps,e2,rfl,_,_,rfl⟩
  ·rintro x xs ρ ⟨todo,ht,exs,u,v,rfl⟩ F hr hb hn hc
   cases todo with
   | nil=>cases exs
   | cons p todo =>
    rw[List.map_cons] at exs
    injection exs with ex exs
    subst ex exs
    have le:=ht p (.head _)
    unfold cT
    walk_at "rd"
    have:¬p.2.2<p.1.2:=by omega
    simp only[this,decide_false,if_false,Bool.false_eq_true]
    exact hn _ ⟨todo,λz hz=>ht z (.tail _ hz),rfl,_,_,rfl⟩
  ·rintro ρ ⟨todo,ht,exs,u,v,rfl⟩
   exact hK _ ⟨u,v,rfl⟩
 rintro ρ ⟨u,v,rfl⟩
 simp only[dJ,L2.R2.S.fz,bO,aN,List.getElem?_cons_zero,List.getElem?_cons_succ,List.set_cons_zero,List.set_cons_succ]
 exact q M pm up
theorem wV:∀(M:List IP),List.zipWith (λa b=>D.tup [a,b]) (alt ((M.map pt).drop 0)) (alt ((M.map pt).drop 1))=(fA M).map λz=>D.tup [pt z.1,pt z.2]
 | []=>by simp[alt,fA]
 | [x]=>by simp[alt,fA]
 | x::y::r=>by
  have ih:=wV r
  simp only[List.drop_zero] at ih ⊢
  have e:alt (((x::y::r).map pt).drop 1)=pt y::alt ((r.map pt).drop 1):=by
   cases r with
   | nil=>simp[alt]
   | cons w r=>simp[alt]
  have e0:alt ((x::y::r).map pt)=pt x::alt (r.map pt):=by simp[alt]
  rw[e,e0,List.zipWith_cons_cons,ih];rfl
theorem IG (n:Nat) (z w:IP):eqL (eqF (n+1)) [.int z.1,.int z.2] [.int w.1,.int w.2]=some (decide (z=w)):=by
 obtain⟨a,b⟩:=z
 obtain⟨c,d⟩:=w
 simp only[eqF,eqL]
 congr 1
 by_cases h1:a=c <;> by_cases h2:b=d <;> simp[h1,h2]
noncomputable def GT (B c:Int) (z:IP × IP) (d:D):Prop:=∃p1 q1 p2 q2 p3 q3 p4 q4,(Low z.1.1 B p1 q1/\Low z.1.2 B p2 q2/\Low z.2.1 B p3 q3/\Low z.2.2 B p4 q4)/\d = .tup [.int c,fr p1 q1,fr p2 q2,fr p3 q3,fr p4 q4]
inductive RowsOf (B c:Int):List (IP × IP)->List D->Prop
 | nil:RowsOf B c [] []
 | cons {z:IP × IP} {d:D} {zs:List (IP × IP)} {ds:List D} (h:GT B c z d) (t:RowsOf B c zs ds):RowsOf B c (z::zs) (d::ds)
theorem RowsOf.snoc {B c:Int} {zs:List (IP × IP)} {ds:List D} (t:RowsOf B c zs ds) {z:IP × IP} {d:D} (h:GT B c z d):RowsOf B c (zs++[z]) (ds++[d]):=by
 induction t with
 | nil=>exact .cons h .nil
 | cons h' _ ih=>exact .cons h' ih
theorem RowsOf.length {B c:Int} {zs:List (IP × IP)} {ds:List D} (t:RowsOf B c zs ds):zs.length=ds.length:=by
 induction t with
 | nil=>rfl
 | cons _ _ ih=>rw[List.length_cons,List.length_cons,ih]
noncomputable abbrev kept (M:List IP):List (IP × IP):=(fA M).filter λz=>decide (z.1≠z.2)
theorem oA {α:Type}:∀L:List α,(fA L).length<=L.length
 | []=>Nat.le_refl _
 | [x]=>Nat.zero_le _
 | x::y::r=>by have:=oA r;rw[fA,List.length_cons,List.length_cons,List.length_cons];omega
structure ColIn (S:List bN) (c:Int):Prop where
 len:S.length<=15
 bd:∀s∈S,SdB s
 ok:∀s∈S,SdOk s
 five:∀s∈S,wid s<=5
 cb:BL 200 c
 cv:∀s∈S,cov c s=true
 unc:jT S c
structure ColB (S:List bN) (c:Int) (B:Int) (M:List IP) (rows:List D):Prop where
 pos:0<B
 dv:∀s∈S,wid s∣B
 bB:BL 50 B
 perm:M.Perm (S.map (prB B c))
 up:dO M
 rows:RowsOf B c (kept M) rows
noncomputable def F_colB:FD:=λds Q=>∃(S:List bN) (c:Int),ds=[fT S,.int c]/\ColIn S c/\∀B M rows,ColB S c B M rows->Q (.lst rows)
theorem len_colB:∀ds Q,F_colB ds Q->ds.length=2:=by rintro ds Q ⟨_,_,rfl,_⟩;rfl
theorem pure_column_bands_G {G:FD} (hG:∀ds Q,F_ordH ds Q->G ds Q):∀ds Q,F_colB ds Q->bS F_lowm G bE pD { nx:=λ_=>Q .non,rt:=Q } (aM ["sides","column","bottom","heights","rows","low","up","edges"] ds):=by
 rintro ds Q ⟨Sd,c,rfl,ok,q⟩
 rw[aS 6 rfl]
 unfold bS
 refine aO (λρ=>∃B,(0<B/\(∀s∈Sd,wid s∣B)/\BL 50 B)/\ρ=[some (.d (fT Sd)),some (.d (.int c)),some (.d (.int B)),none,none,none,none,none]) (λK hK=>?_) ?_
 ·walk_at "rd"
  refine⟨bY (by rw[List.length_map];have:=ok.len;omega),?_⟩
  refine eN (λρ=>∃a,ρ=[a]) sdD (λs=>.int (wid s)) Sd ?_ ⟨_,rfl⟩ ?_
  ·rintro s hs ρ ⟨a,rfl⟩ K' hK'
   simp only[aP,aV,aB,aH,aN,List.getElem?_cons_zero,List.set_cons_zero]
   exact⟨s,rfl,hK' _ ⟨_,rfl⟩⟩
  ·refine⟨Sd.map wid,by show _=[D.lst ((Sd.map wid).map .int)];rw[List.map_map];rfl,by rw[List.length_map];exact ok.len,λw hw=>?_,λB h1 h2 h3=>?_⟩
   ·obtain⟨s,hs,rfl⟩:=List.mem_map.mp hw
    exact⟨(ok.ok s hs).pos,ok.five s hs⟩
   ·exact hK _ ⟨B,⟨h1,λs hs=>h2 _ (List.mem_map_of_mem hs),h3⟩,rfl⟩
 rintro ρ ⟨B,⟨hB0,hdv,bB⟩,rfl⟩
 refine aO (λρ=>∃M:List IP,(M.Perm (Sd.map (prB B c))/\dO M)/\ρ=[some (.d (fT Sd)),some (.d (.int c)),some (.d (.int B)),some (.d (pts M)),none,none,none,none]) (λK hK=>?_) ?_
 ·simp only[bH,aV,aB,aH,aN,List.getElem?_cons_zero,List.getElem?_cons_succ,List.set_cons_zero,List.set_cons_succ]
  exact hG _ _ ⟨Sd,c,B,rfl,⟨ok.len,ok.bd,ok.ok,ok.cb,hB0,hdv,bB⟩,LD hB0 ok.ok hdv ok.cv ok.unc,λM pm up=>hK _ ⟨M,⟨pm,up⟩,rfl⟩⟩
 rintro ρ ⟨M,⟨pm,up⟩,rfl⟩
 have ml:M.length<=15:=by rw[pm.length_eq,List.length_map];exact ok.len
 refine aO (λρ=>ρ=[some (.d (fT Sd)),some (.d (.int c)),some (.d (.int B)),some (.d (pts M)),some (.own []),none,none,none]) (λK hK=>?_) ?_
 ·walk_at "rd"
  exact hK _ rfl
 rintro ρ rfl
 refine aO (λρ=>∃rows u v w,RowsOf B c (kept M) rows/\ρ=[some (.d (fT Sd)),some (.d (.int c)),some (.d (.int B)),some (.d (pts M)),some (.own rows),u,v,w]) (λK hK=>?_) ?_
 ·simp only[cH,gN,BF,aD,List.getElem?_cons_zero,List.getElem?_cons_succ]
  rw[wV M]
  have tl:(fA M).length<=15:=Nat.le_trans (oA M) ml
  generalize hT:fA M=T at tl
  refine cB (λxs ρ=>∃done todo:List (IP × IP),T=done++todo/\xs=todo.map (λz=>D.tup [pt z.1,pt z.2])/\∃rows u v w,RowsOf B c (done.filter λz=>decide (z.1≠z.2)) rows/\ρ=[some (.d (fT Sd)),some (.d (.int c)),some (.d (.int B)),some (.d (pts M)),some (.own rows),u,v,w]) ?_ ?_ _ _ ⟨[],T,rfl,rfl,[],none,none,none,.nil,rfl⟩
  ·rintro x xs ρ ⟨done,todo,eT,exs,rows,u,v,w,hR,rfl⟩ F hr hb hn hc
   cases todo with
   | nil=>cases exs
   | cons z todo =>
    rw[List.map_cons] at exs
    injection exs with ex exs
    subst ex exs
    have rl:rows.length<=15:=by
     rw[<-hR.length]
     have h1:=List.length_filter_le (λz:IP × IP=>decide (z.1≠z.2)) done
     rw[eT] at tl;simp at tl;omega
    unfold eE
    simp only[fR,bP,aP,fQ,tU,List.set_cons_zero,List.set_cons_succ,List.length_cons,List.length_nil,true_and]
    simp only[fY,bL,r2,aD,dNe,List.getElem?_cons_zero,List.getElem?_cons_succ,IG,true_and]
    by_cases hz:z.1=z.2
    ·simp only[hz,decide_true,Bool.not_true,Bool.false_eq_true,if_false,cP]
     refine hn _ ⟨done++[z],todo,by rw[eT];simp,rfl,rows,some (.d (pt z.2)),some (.d (pt z.2)),w,?_,rfl⟩
     rw[List.filter_append]
     simpa [hz] using hR
    ·simp only[hz,decide_false,Bool.not_false,if_true]
     refine aO (λρ=>∃p1 q1 p2 q2 p3 q3 p4 q4,(Low z.1.1 B p1 q1/\Low z.1.2 B p2 q2/\Low z.2.1 B p3 q3/\Low z.2.2 B p4 q4)/\ρ=[some (.d (fT Sd)),some (.d (.int c)),some (.d (.int B)),some (.d (pts M)),some (.own rows),some (.d (pt z.1)),some (.d (pt z.2)),some (.own [fr p1 q1,fr p2 q2,fr p3 q3,fr p4 q4])]) (λK' hK'=>?_) ?_
     ·have bb:B≠0/\BL 9000 B:=⟨by omega,bB.mono (by decide)⟩
      walk_at "rd"
      refine⟨by simp,?_⟩
      refine⟨_,_,rfl,bb,λp1 q1 l1=>⟨_,_,rfl,bb,λp2 q2 l2=>⟨_,_,rfl,bb,λp3 q3 l3=>⟨_,_,rfl,bb,λp4 q4 l4=>?_⟩⟩⟩⟩
      exact hK' _ ⟨p1,q1,p2,q2,p3,q3,p4,q4,⟨l1,l2,l3,l4⟩,rfl⟩
     rintro ρ ⟨p1,q1,p2,q2,p3,q3,p4,q4,⟨l1,l2,l3,l4⟩,rfl⟩
     walk_at "rd"
     refine⟨bY (by decide),bY (by omega),?_⟩
     refine hn _ ⟨done++[z],todo,by rw[eT];simp,rfl,rows++[.tup [.int c,fr p1 q1,fr p2 q2,fr p3 q3,fr p4 q4]],some (.d (pt z.1)),some (.d (pt z.2)),some (.own [fr p1 q1,fr p2 q2,fr p3 q3,fr p4 q4]),?_,rfl⟩
     rw[List.filter_append]
     have e:[z].filter (λz:IP × IP=>decide (z.1≠z.2))=[z]:=by simp[hz]
     rw[e]
     exact hR.snoc ⟨p1,q1,p2,q2,p3,q3,p4,q4,⟨l1,l2,l3,l4⟩,rfl⟩
  ·rintro ρ ⟨done,todo,eT,exs,rows,u,v,w,hR,rfl⟩
   have:todo=[]:=by cases todo with | nil=>rfl | cons _ _=>cases exs
   subst this
   rw[List.append_nil] at eT
   refine hK _ ⟨rows,u,v,w,?_,rfl⟩
   show RowsOf B c ((fA M).filter λz=>decide (z.1≠z.2)) rows
   rw[hT,eT];exact hR
 rintro ρ ⟨rows,u,v,w,hR,rfl⟩
 simp only[dJ,L2.R2.S.fz,bO,aN,List.getElem?_cons_zero,List.getElem?_cons_succ,List.set_cons_zero,List.set_cons_succ]
 exact q B M rows ⟨hB0,hdv,bB,pm,up,hR⟩
structure BandsIn (R:List (List Pt)) (o:Int):Prop where
 len:R.length<=3
 each:∀g∈R,g.length<=5
 near:∀s∈bC R,o<=s.1.1/\s.2.1<=o+5
 bd:∀s∈bC R,SdB s
 unc:∀c,jT (bC R) c
theorem BandsIn.five {R:List (List Pt)} {o:Int} (h:BandsIn R o):∀s∈bC R,wid s<=5:=λs hs=>by
 have:=h.near s hs;unfold wid;omega
theorem SD {w:Int} (h0:0<w) (h5:w<=5):w∣60:=by
 have:w=1\/w=2\/w=3\/w=4\/w=5:=by omega
 rcases this with rfl | rfl | rfl | rfl | rfl <;> decide
theorem BandsIn.ok {R:List (List Pt)} {o:Int} (h:BandsIn R o):∀s∈bC R,SdOk s:=λs hs=>⟨RgsOk.pos s hs,SD (RgsOk.pos s hs) (h.five s hs)⟩
inductive AllB (Sd:List bN):List Int->List D->Prop
 | nil:AllB Sd [] []
 | cons {c B:Int} {M:List IP} {r rows:List D} {cs:List Int} (h:ColB (Sd.filter (cov c)) c B M r) (t:AllB Sd cs rows):AllB Sd (c::cs) (r++rows)
theorem AllB.snoc {Sd:List bN} {cs:List Int} {rows:List D} (t:AllB Sd cs rows) {c B:Int} {M:List IP} {r:List D} (h:ColB (Sd.filter (cov c)) c B M r):AllB Sd (cs++[c]) (rows++r):=by
 induction t with
 | nil=>have:=AllB.cons h .nil;simpa using this
 | cons h' _ ih=>rw[List.append_assoc];exact .cons h' ih
theorem ColB.rlen {Sd:List bN} {c B:Int} {M:List IP} {r:List D} (h:ColB Sd c B M r):r.length<=Sd.length:=by
 rw[<-h.rows.length]
 have h1:=List.length_filter_le (λz:IP × IP=>decide (z.1≠z.2)) (fA M)
 have h2:=oA M
 have h3:=h.perm.length_eq
 rw[List.length_map] at h3
 show ((fA M).filter λz=>decide (z.1≠z.2)).length<=_
 omega
theorem AllB.rlen {Sd:List bN} {cs:List Int} {rows:List D} (t:AllB Sd cs rows):rows.length<=cs.length*Sd.length:=by
 induction t with
 | nil=>exact Nat.zero_le _
 | @cons c B M r rows cs h t ih =>
  have h1:=h.rlen
  have h2:=List.length_filter_le (cov c) Sd
  rw[List.length_append,List.length_cons,Nat.succ_mul];omega
noncomputable def F_bands:FD:=λds Q=>∃(R:List (List Pt)) (o:Int),ds=[fS R]/\BandsIn R o/\∀cs rows,cs.Pairwise (· < ·)->(∀c,c∈cs↔∃s∈bC R,cov c s=true)->AllB (bC R) cs rows->cs.length<=5->Q (.lst rows)
theorem len_bands:∀ds Q,F_bands ds Q->ds.length=1:=by rintro ds Q ⟨_,_,rfl,_⟩;rfl
local macro_rules | `(tactic| walk_at "rd")=>do
 let a <- ("aX cP bO uR fY bH cQ zC FV aP fR bP fQ aN aD rC r2 r1 bL FU rOr oZ nS FW pN rIf aH aB iF gM aV rCB cZ gZ uT cH GE riL riT kK GF pA eJ fK jO rG dJ gA uS iE FX tU nU gW fE oE EL dNe oY uX gN eL jQ dY eF eO mC tI gT jP EJ oD pK fM fN iU iK iL iM iN iO iP iQ iR iS iT gG gH pY EI mZ jW iC mY oK oI oJ oH oM S.val cX FY zD tT BJ FZ GA GB GC zE GD sQ uV uW List.map_cons List.map_nil List.cons_append List.nil_append List.length_cons List.length_nil List.getElem?_cons_zero List.getElem?_cons_succ List.set_cons_zero List.set_cons_succ List.append_nil Bool.or_false Bool.or_true Bool.false_or Bool.true_or Bool.not_true Bool.not_false if_true if_false Bool.false_eq_true sz0 sz1 sz2 sz3 sz4 true_and decide_eq_true_eq Int.reduceToNat Int.reducePow Int.reduceMul Int.reduceSub Int.reduceAdd Int.reduceNeg".splitOn " ").toArray.mapM λx=>`(Lean.Parser.Tactic.simpLemma| $(Lean.mkIdent x.toName):term)
 `(tactic| simp only[$a,*])
theorem wB {v M p q:Int} (hM:0<M) (hq:0<q) (cop:Int.gcd p q=1) (w:p*M=v*q):Low v M p q:=by
 have dq:q∣M:=by
  have d:q.natAbs∣p.natAbs*M.natAbs:=by
   rw[<-Int.natAbs_mul,w,Int.natAbs_mul];exact Nat.dvd_mul_left ..
  exact Int.natAbs_dvd_natAbs.mp (Nat.Coprime.dvd_of_dvd_mul_left (show Nat.Coprime q.natAbs p.natAbs from by
   have:Nat.gcd p.natAbs q.natAbs=1:=cop
   rw[Nat.Coprime,Nat.gcd_comm];exact this) d)
 have lq:q<=M:=Int.le_of_dvd hM dq
 refine⟨hq,cop,w,?_,by omega⟩
 have e:p.natAbs*M.natAbs=v.natAbs*q.natAbs:=by rw[<-Int.natAbs_mul,w,Int.natAbs_mul]
 have lq':q.natAbs<=M.natAbs:=by omega
 have M0:0<M.natAbs:=by omega
 apply Nat.le_of_mul_le_mul_right (c:=M.natAbs) ?_ M0
 rw[e]
 exact Nat.mul_le_mul_left _ lq'
theorem Low.scale {a b p q:Int} (h:Low a b p q) {k:Int} (hk:0<k) (hb:0<b):Low (a*k) (b*k) p q :=
 wB (Int.mul_pos hb hk) h.pos h.cop (by rw[<-Int.mul_assoc,h.worth];grind)
theorem Low.minus {M v w a b c d p q:Int} (hM:0<M) (h1:Low v M a b) (h2:Low w M c d) (h:Low (a*d-c*b) (b*d) p q):Low (v-w) M p q:=by
 refine wB hM h.pos h.cop ?_
 have bd:0<b*d:=Int.mul_pos h1.pos h2.pos
 refine Int.eq_of_mul_eq_mul_right (a:=b*d) (by omega) ?_
 have e1:=h1.worth
 have e2:=h2.worth
 have e3:=h.worth
 grind
theorem Low.bl {v M p q:Int} {n:Nat} (h:Low v M p q) (hv:BL n v) (hM:BL n M):BL n p/\BL n q:=⟨hv.le h.lea,hM.le h.leb⟩
structure Row where
 x:Int
 l0:Int × Int
 l1:Int × Int
 u0:Int × Int
 u1:Int × Int
noncomputable abbrev KF (r:Row):D:=.tup [.int r.x,fr r.l0.1 r.l0.2,fr r.l1.1 r.l1.2,fr r.u0.1 r.u0.2,fr r.u1.1 r.u1.2]
structure RowV (M:Int) (r:Row) (a b c d:Int):Prop where
 l0:Low a M r.l0.1 r.l0.2
 l1:Low b M r.l1.1 r.l1.2
 u0:Low c M r.u0.1 r.u0.2
 u1:Low d M r.u1.1 r.u1.2
 ba:BL 400 a
 bb:BL 400 b
 bc:BL 400 c
 bd:BL 400 d
inductive Tot (M:Int):List Row->Int->Prop
 | nil:Tot M [] 0
 | snoc {rs:List Row} {r:Row} {N a b c d:Int} (t:Tot M rs N) (h:RowV M r a b c d):Tot M (rs++[r]) (N+(c-a+(d-b)))
theorem Tot.mono {M N N':Int} {rs:List Row} (h:Tot M rs N) (e:N=N'):Tot M rs N':=e ▸ h
local macro_rules | `(tactic| walk_at "rd")=>do
 let a <- ("S.fz zB sN HL aX cP bO uR fY bH cQ zC FV aP fR bP fQ aN aD rC r2 r1 bL FU rOr oZ nS FW pN rIf aH aB iF gM aV rCB cZ gZ uT cH GE riL riT kK GF pA eJ fK jO rG dJ gA uS iE FX tU nU gW fE oE EL dNe oY uX gN eL jQ dY eF eO mC tI gT jP EJ oD pK fM fN iU iK iL iM iN iO iP iQ iR iS iT gG gH pY EI mZ jW iC mY oK oI oJ oH oM S.val cX FY zD tT BJ FZ GA GB GC zE GD sQ uV uW List.map_cons List.map_nil List.cons_append List.nil_append List.length_cons List.length_nil List.getElem?_cons_zero List.getElem?_cons_succ List.set_cons_zero List.set_cons_succ List.append_nil Bool.or_false Bool.or_true Bool.false_or Bool.true_or Bool.not_true Bool.not_false if_true if_false Bool.false_eq_true sz0 sz1 sz2 sz3 sz4 true_and decide_eq_true_eq Int.reduceToNat Int.reducePow Int.reduceMul Int.reduceSub Int.reduceAdd Int.reduceNeg".splitOn " ").toArray.mapM λx=>`(Lean.Parser.Tactic.simpLemma| $(Lean.mkIdent x.toName):term)
 `(tactic| simp only[$a,*])
namespace K23
structure RgsOk (R:List (List Pt)):Prop where
 len:R.length<=4
 each:∀g∈R,g.length<=10
 wide:∀s∈bC R,wid s<=40
theorem RgsOk.pos {R:List (List Pt)}:∀s∈bC R,0<wid s:=λs hs=>by
 obtain⟨l,hl,hs⟩:=List.mem_flatten.mp hs
 obtain⟨g,hg,rfl⟩:=List.mem_map.mp hl
 exact (vA hs).2
theorem RgsOk.slen {R:List (List Pt)} (o:RgsOk R):(bC R).length<=40:=by
 have:=flat_len cF 10 R λg hg=>Nat.le_trans (uZ g) (o.each g hg)
 have:=o.len
 show ((R.map cF).flatten).length<=40
 omega
theorem vW {s:bN} (h:wid s<=40):(evs s).length<=40:=by unfold evs;rw[List.length_map,List.length_range];omega
noncomputable def F_byCol:FD:=λds Q=>∃R:List (List Pt),ds=[fS R]/\RgsOk R/\∀ks xs,ColOf (bC R) ks xs->Q (.dct ks xs)
theorem len_byCol:∀ds Q,F_byCol ds Q->ds.length=1:=by rintro ds Q ⟨_,rfl,_⟩;rfl
theorem pure_sides_by_column:∀ds Q,F_byCol ds Q->bK iH { nx:=λ_=>Q .non,rt:=Q } (aM ["rings","columns","ring","side","column"] ds):=by
 rintro ds Q ⟨R,rfl,ok,q⟩
 rw[aS 4 rfl]
 unfold bK
 have fits:∀E:List Ev,(∃E',(((bC R).map evs).flatten)=E++E')->E.length<=1600:=λE ⟨E',e⟩=>by
  have h1:=flat_len evs 40 (bC R) λs hs=>vW (ok.wide s hs)
  have h2:=ok.slen
  have h3:=Nat.mul_le_mul_left 40 h2
  rw[e,List.length_append] at h1;omega
 refine aO (λρ=>ρ=[some (.d (fS R)),some (.dcl (cO [])),none,none,none]) (λK hK=>?_) ?_
 ·walk_at "rd"
  exact hK _ rfl
 rintro ρ rfl
 refine aO (λρ=>∃u v w,ρ=[some (.d (fS R)),some (.dcl (cO (((bC R).map evs).flatten))),u,v,w]) (λK hK=>?_) ?_
 ·simp only[cH,riL,aN,List.getElem?_cons_zero]
  refine cB (λxs ρ=>∃done todo:List (List Pt),R=done++todo/\xs=todo.map pts/\∃u v w,ρ=[some (.d (fS R)),some (.dcl (cO (((bC done).map evs).flatten))),u,v,w]) ?_ ?_ _ _ ⟨[],R,rfl,rfl,_,_,_,rfl⟩
  ·rintro x xs ρ ⟨done,todo,eR,exs,u,v,w,rfl⟩ F hr hb hn hc
   cases todo with
   | nil=>cases exs
   | cons g todo =>
    rw[List.map_cons] at exs
    injection exs with ex exs
    subst ex exs
    have hg:g∈R:=by rw[eR];exact List.mem_append_right _ (.head _)
    unfold cW
    simp only[aP,cH,riL,aV,aB,aH,aN,List.getElem?_cons_zero,List.getElem?_cons_succ,List.set_cons_zero,List.set_cons_succ]
    refine⟨g,rfl,Nat.le_trans (ok.each g hg) (by decide),?_⟩
    dsimp only
    have eA:bC R=(bC done++cF g)++bC todo:=by rw[eR];simp[bC]
    refine cB (λxs ρ=>∃d2 t2:List bN,cF g=d2++t2/\xs=t2.map sdD/\∃v w,ρ=[some (.d (fS R)),some (.dcl (cO (((bC done++d2).map evs).flatten))),some (.d (pts g)),v,w]) ?_ ?_ _ _ ⟨[],cF g,rfl,rfl,v,w,by rw[List.append_nil]⟩
    ·rintro x xs ρ ⟨d2,t2,eS,exs,v,w,rfl⟩ F2 hr2 hb2 hn2 hc2
     cases t2 with
     | nil=>cases exs
     | cons s t2 =>
      rw[List.map_cons] at exs
      injection exs with ex exs
      subst ex exs
      unfold cV
      simp only[aP,cH,DH,aB,aH,r2,aD,rC,fM,fN,List.getElem?_cons_zero,List.getElem?_cons_succ,List.set_cons_zero,List.set_cons_succ]
      have eW:(s.2.1-s.1.1).toNat=(wid s).toNat:=rfl
      rw[eW]
      refine lA s.1.1 (wid s).toNat (λi ρ=>∃w,ρ=[some (.d (fS R)),some (.dcl (cO (((bC done++d2).map evs).flatten++(evs s).take i))),some (.d (pts g)),some (.d (sdD s)),w]) ?_ ?_ _ ⟨w,by rw[List.take_zero,List.append_nil]⟩
      ·rintro i ρ hi ⟨w,rfl⟩ F3 hr3 hb3 hn3 hc3
       have ei:(evs s)[i]? = some (s.1.1+(i:Int),s):=by unfold evs;rw[List.getElem?_map,List.getElem?_range hi];rfl
       have et:(evs s).take (i+1)=(evs s).take i++[(s.1.1+(i:Int),s)]:=by rw[List.take_succ,ei];rfl
       obtain⟨⟨k1,k2⟩,_⟩:=AU (((bC done++d2).map evs).flatten++(evs s).take i)
       have fit:=fits (((bC done++d2).map evs).flatten++(evs s).take i) ⟨(evs s).drop i++(t2.map evs).flatten++((bC todo).map evs).flatten,by
        rw[eA,eS];simp only[List.map_append,List.map_cons,List.flatten_append,List.flatten_cons,List.append_assoc]
        rw[<-List.append_assoc ((evs s).take i),List.take_append_drop]⟩
       unfold cU
       simp only[aP,zA,aN,List.getElem?_cons_zero,List.getElem?_cons_succ,List.set_cons_zero,List.set_cons_succ]
       refine⟨bY (by omega),λp hp=>bY (by have:=k2 p hp;omega),?_⟩
       refine hn3 _ ⟨some (.d (.int (s.1.1+(i:Int)))),?_⟩
       rw[et,<-List.append_assoc,rY]
      ·rintro ρ ⟨w,rfl⟩
       refine hn2 _ ⟨d2++[s],t2,by rw[eS];simp,rfl,some (.d (sdD s)),w,?_⟩
       have:(evs s).take (wid s).toNat=evs s:=List.take_of_length_le (by unfold evs;simp)
       rw[this,<-List.append_assoc,List.map_append,List.flatten_append]
       simp
    ·rintro ρ ⟨d2,t2,eS,exs,v,w,rfl⟩
     have:t2=[]:=by cases t2 with | nil=>rfl | cons _ _=>cases exs
     subst this
     rw[List.append_nil] at eS
     refine hn _ ⟨done++[g],todo,by rw[eR];simp,rfl,some (.d (pts g)),v,w,?_⟩
     rw[<-eS];simp[bC]
  ·rintro ρ ⟨done,todo,eR,exs,u,v,w,rfl⟩
   have:todo=[]:=by cases todo with | nil=>rfl | cons _ _=>cases exs
   subst this
   rw[List.append_nil] at eR
   rw[<-eR]
   exact hK _ ⟨u,v,w,rfl⟩
 rintro ρ ⟨u,v,w,rfl⟩
 simp only[dJ,S.fz,bO,aN,List.getElem?_cons_zero,List.getElem?_cons_succ,List.set_cons_zero,List.set_cons_succ]
 exact q _ _ (NQ (bC R) RgsOk.pos)
noncomputable def F_lowm:FD:=λds Q=>∃ws:List Int,ds=[il ws]/\ws.length<=8/\(∀w∈ws,0<w/\w<=40)/\∀B,0<B->(∀w∈ws,w∣B)->BL 50 B->Q (.int B)
theorem len_lowm:∀ds Q,F_lowm ds Q->ds.length=1:=by rintro ds Q ⟨_,rfl,_⟩;rfl
theorem pure_lowest_multiple:∀ds Q,F_lowm ds Q->bA qW { nx:=λ_=>Q .non,rt:=Q } (aM ["numbers","multiple","number"] ds):=by
 rintro ds Q ⟨ws,rfl,hl,hw,q⟩
 rw[aS 2 rfl]
 unfold bA
 refine aO (λρ=>ρ=[some (.d (il ws)),some (.d (.int 1)),none]) (λK hK=>?_) ?_
 ·walk_at "rd"
  exact hK _ rfl
 rintro ρ rfl
 refine aO (λρ=>∃(B:Int) (u:Option S),(0<B/\(∀w∈ws,w∣B)/\B<=((40 ^ 8:Nat):Int))/\ρ=[some (.d (il ws)),some (.d (.int B)),u]) (λK hK=>?_) ?_
 ·simp only[cH,riL,aN,List.getElem?_cons_zero]
  refine cB (λxs ρ=>∃done todo:List Int,ws=done++todo/\xs=todo.map .int/\∃(B:Int) (u:Option S),(0<B/\(∀w∈done,w∣B)/\B<=((40 ^ done.length:Nat):Int))/\ρ=[some (.d (il ws)),some (.d (.int B)),u]) ?_ ?_ _ _ ⟨[],ws,rfl,rfl,1,none,⟨by decide,(λw h=>by cases h),by decide⟩,rfl⟩
  ·rintro x xs ρ ⟨done,todo,e,exs,B,u,⟨h1,h2,h3⟩,rfl⟩ F hr hb hn hc
   cases todo with
   | nil=>cases exs
   | cons w todo =>
    rw[List.map_cons] at exs
    injection exs with ex exs
    subst ex exs
    obtain⟨w0,w5⟩:=hw w (by rw[e];exact List.mem_append_right _ (.head _))
    have dl:done.length<=7:=by rw[e] at hl;simp at hl;omega
    have pw:((40 ^ done.length:Nat):Int)<=((40 ^ 7:Nat):Int):=Int.ofNat_le.mpr (Nat.pow_le_pow_right (by decide) dl)
    have bB:BL 50 B:=BL.of_lt (by omega) (Int.lt_of_le_of_lt (Int.le_trans h3 pw) (by decide))
    have bw:BL 50 w:=BL.of_lt (by omega) (Int.lt_of_le_of_lt w5 (by decide))
    unfold cD
    simp only[aP,bH,aV,aB,aH,aN,List.getElem?_cons_zero,List.getElem?_cons_succ,List.set_cons_zero,List.set_cons_succ]
    refine⟨B,w,rfl,⟨h1,w0⟩,⟨bB.mono (by decide),bw.mono (by decide)⟩,λl l0 d1 d2 le=>?_⟩
    refine hn _ ⟨done++[w],todo,by rw[e];simp,rfl,l,some (.d (.int w)),⟨l0,λv hv=>?_,?_⟩,rfl⟩
    ·rcases List.mem_append.mp hv with hv | hv
     ·exact Int.dvd_trans (h2 v hv) d1
     ·rw[List.mem_singleton.mp hv];exact d2
    ·rw[List.length_append,List.length_singleton,Nat.pow_succ,Int.natCast_mul]
     have k1:=Int.mul_le_mul_of_nonneg_right h3 (Int.le_of_lt w0)
     have k2:=Int.mul_le_mul_of_nonneg_left w5 (Int.natCast_nonneg (40 ^ done.length))
     exact Int.le_trans le (Int.le_trans k1 k2)
  ·rintro ρ ⟨done,todo,e,exs,B,u,⟨h1,h2,h3⟩,rfl⟩
   have:todo=[]:=by cases todo with | nil=>rfl | cons _ _=>cases exs
   subst this
   rw[List.append_nil] at e
   subst e
   exact hK _ ⟨B,u,⟨h1,h2,Int.le_trans h3 (Int.ofNat_le.mpr (Nat.pow_le_pow_right (by decide) hl))⟩,rfl⟩
 rintro ρ ⟨B,u,⟨h1,h2,h3⟩,rfl⟩
 walk_at "rd"
 exact q B h1 h2 (BL.of_lt (by omega) (Int.lt_of_le_of_lt h3 (by decide)))
structure SdB (s:bN):Prop where
 x1:BL 210 s.1.1
 y1:BL 210 s.1.2
 x2:BL 210 s.2.1
 y2:BL 210 s.2.2
noncomputable def F_hgt:FD:=λds Q=>∃(s:bN) (t B:Int),ds=[sdD s,.int t,.int B]/\(SdB s/\wid s≠0/\BL 212 t/\BL 50 B)/\Q (.int (hB B s t))
theorem len_hgt:∀ds Q,F_hgt ds Q->ds.length=3:=by rintro ds Q ⟨_,_,_,rfl,_⟩;rfl
theorem pure_height_at:∀ds Q,F_hgt ds Q->dL pD { nx:=λ_=>Q .non,rt:=Q } (aM ["side","thread","bottom","left","width","climb"] ds):=by
 rintro ds Q ⟨s,t,B,rfl,⟨b,w0,bt,bB⟩,q⟩
 rw[aS 3 rfl]
 unfold dL
 have bw:BL 211 (wid s):=b.x2.sub b.x1
 refine aO (λρ=>ρ=[some (.d (sdD s)),some (.d (.int t)),some (.d (.int B)),some (.d (pt s.1)),none,none]) (λK hK=>?_) ?_
 ·walk_at "rd"
  exact hK _ rfl
 rintro ρ rfl
 refine aO (λρ=>ρ=[some (.d (sdD s)),some (.d (.int t)),some (.d (.int B)),some (.d (pt s.1)),some (.d (.int (wid s))),none]) (λK hK=>?_) ?_
 ·simp only[bH,aV,aB,aH,aN,List.getElem?_cons_zero,List.getElem?_cons_succ,List.set_cons_zero,List.set_cons_succ]
  exact⟨s,rfl,hK _ rfl⟩
 rintro ρ rfl
 walk_at "rd"
 refine⟨(b.y2.sub b.y1).mulOk (bt.sub b.x1),b.y1.mulOk bw,(bw.mono (by decide)).divOk w0,?_,q⟩
 exact ((b.y1.mul bw).add ((b.y2.sub b.y1).mul (bt.sub b.x1))).mulOk (bB.fdiv)
structure SdsOk (S:List bN) (c B:Int):Prop where
 len:S.length<=8
 bd:∀s∈S,SdB s
 ok:∀s∈S,0<wid s
 cb:BL 210 c
 pos:0<B
 dv:∀s∈S,wid s∣B
 bB:BL 50 B
noncomputable def F_ordH:FD:=λds Q=>∃(S:List bN) (c B:Int),ds=[fT S,.int c,.int B]/\SdsOk S c B/\(∀x∈S.map (prB B c),∀y∈S.map (prB B c),x.1<y.1->x.2<=y.2)/\∀M:List IP,M.Perm (S.map (prB B c))->dO M->Q (pts M)
theorem len_ordH:∀ds Q,F_ordH ds Q->ds.length=3:=by rintro ds Q ⟨_,_,_,rfl,_⟩;rfl
theorem pure_ordered_heights:∀ds Q,F_ordH ds Q->bJ F_hgt { nx:=λ_=>Q .non,rt:=Q } (aM ["sides","column","bottom","heights","lower","upper"] ds):=by
 rintro ds Q ⟨Sd,c,B,rfl,ok,unc,q⟩
 rw[aS 3 rfl]
 unfold bJ
 refine aO (λρ=>ρ=[some (.d (fT Sd)),some (.d (.int c)),some (.d (.int B)),some (.own ((Sd.map (prB B c)).map pt)),none,none]) (λK hK=>?_) ?_
 ·walk_at "rd"
  refine⟨bY (by rw[List.length_map];have:=ok.len;omega),?_⟩
  refine eN (λρ=>∃a,ρ=[a,some (.d (.int c)),some (.d (.int B))]) sdD (λs=>pt (prB B c s)) Sd ?_ ⟨_,rfl⟩ ?_
  ·rintro s hs ρ ⟨a,rfl⟩ K' hK'
   walk_at "rd"
   have w0:=ok.ok s hs
   refine⟨s,c,B,rfl,⟨ok.bd s hs,by omega,ok.cb.mono (by decide),ok.bB⟩,s,c+1,B,rfl,⟨ok.bd s hs,by omega,((ok.cb.add (BL.const (n:=1) (i:=1))).mono (by decide)),ok.bB⟩,?_⟩
   walk_at "rd"
   exact hK' _ ⟨_,rfl⟩
  ·have e:Sd.map (λs=>pt (prB B c s))=(Sd.map (prB B c)).map pt:=by rw[List.map_map];rfl
   rw[e]
   exact hK _ rfl
 rintro ρ rfl
 refine aO (λρ=>∃M:List IP,(M.Perm (Sd.map (prB B c))/\dO M)/\ρ=[some (.d (fT Sd)),some (.d (.int c)),some (.d (.int B)),some (.own (M.map pt)),none,none]) (λK hK=>?_) ?_
 ·simp only[cQ,wO,aD,List.getElem?_cons_zero,List.getElem?_cons_succ,List.set_cons_zero,List.set_cons_succ]
  refine⟨(Sd.map (prB B c)).map λz=>[z.1,z.2],by rw[List.map_map (g:=cR)];rfl,by rw[List.length_map,List.length_map];have:=ok.len;omega,λns h=>?_,λmss pm ps=>?_⟩
  ·obtain⟨z,_,rfl⟩:=List.mem_map.mp h
   exact λe=>by cases e
  ·obtain⟨M,h1,h2,h3⟩:=zN pm ps
   rw[h2]
   exact hK _ ⟨M,⟨h1,zG h3 λx hx y hy=>unc x (h1.mem_iff.mp hx) y (h1.mem_iff.mp hy)⟩,rfl⟩
 rintro ρ ⟨M,⟨pm,up⟩,rfl⟩
 refine aO (λρ=>∃u v,ρ=[some (.d (fT Sd)),some (.d (.int c)),some (.d (.int B)),some (.d (pts M)),u,v]) (λK hK=>?_) ?_
 ·simp only[dJ,L2.R2.S.fz,cH,gN,aN,aD,nU,gZ,cZ,rC,List.getElem?_cons_zero,List.getElem?_cons_succ,List.set_cons_zero,List.set_cons_succ]
  have zz:∃ps:List (IP × IP),List.zipWith (λa b=>D.tup [a,b]) (M.map pt) (iJ (M.map pt) (some 1) none)=ps.map (λp=>D.tup [pt p.1,pt p.2])/\∀p∈ps,p.1.2<=p.2.2:=by
   have c1:iJ (M.map pt) (some 1) none=(M.drop 1).map pt:=by
    cases M with
    | nil=>rfl
    | cons a r=>exact kU (j:=1) (by simp)
   rw[c1]
   clear c1 pm hK
   induction M with
   | nil=>exact⟨[],rfl,λp h=>(by cases h)⟩
   | cons a r ih =>
    cases r with
    | nil=>exact⟨[],rfl,λp h=>(by cases h)⟩
    | cons b r =>
     obtain⟨ps,h1,h2⟩:=ih (List.pairwise_cons.mp up).2
     refine⟨(a,b)::ps,?_,λp hp=>?_⟩
     ·show D.tup [pt a,pt b]::List.zipWith (λa b=>D.tup [a,b]) ((b::r).map pt) (((b::r).drop 1).map pt)=_
      rw[h1];rfl
     ·rcases List.mem_cons.mp hp with rfl | hp
      ·exact ((List.pairwise_cons.mp up).1 b (.head _)).2
      ·exact h2 p hp
  obtain⟨ps,e1,e2⟩:=zz
  rw[e1]
  refine cB (λxs ρ=>∃todo:List (IP × IP),(∀p∈todo,p.1.2<=p.2.2)/\xs=todo.map (λp=>D.tup [pt p.1,pt p.2])/\∃u v,ρ=[some (.d (fT Sd)),some (.d (.int c)),some (.d (.int B)),some (.d (pts M)),u,v]) ?_ ?_ _ _ ⟨ps,e2,rfl,_,_,rfl⟩
  ·rintro x xs ρ ⟨todo,ht,exs,u,v,rfl⟩ F hr hb hn hc
   cases todo with
   | nil=>cases exs
   | cons p todo =>
    rw[List.map_cons] at exs
    injection exs with ex exs
    subst ex exs
    have le:=ht p (.head _)
    unfold cT
    walk_at "rd"
    have:¬p.2.2<p.1.2:=by omega
    simp only[this,decide_false,if_false,Bool.false_eq_true]
    exact hn _ ⟨todo,λz hz=>ht z (.tail _ hz),rfl,_,_,rfl⟩
  ·rintro ρ ⟨todo,ht,exs,u,v,rfl⟩
   exact hK _ ⟨u,v,rfl⟩
 rintro ρ ⟨u,v,rfl⟩
 simp only[dJ,L2.R2.S.fz,bO,aN,List.getElem?_cons_zero,List.getElem?_cons_succ,List.set_cons_zero,List.set_cons_succ]
 exact q M pm up
structure ColIn (S:List bN) (c:Int):Prop where
 len:S.length<=8
 bd:∀s∈S,SdB s
 ok:∀s∈S,0<wid s
 wide:∀s∈S,wid s<=40
 cb:BL 210 c
 unc:∀B,0<B->(∀s∈S,wid s∣B)->∀x∈S.map (prB B c),∀y∈S.map (prB B c),x.1<y.1->x.2<=y.2
noncomputable def F_colB:FD:=λds Q=>∃(S:List bN) (c:Int),ds=[fT S,.int c]/\ColIn S c/\∀B M rows,ColB S c B M rows->Q (.lst rows)
theorem len_colB:∀ds Q,F_colB ds Q->ds.length=2:=by rintro ds Q ⟨_,_,rfl,_⟩;rfl
theorem pure_column_bands_G {G:FD} (hG:∀ds Q,F_lowm ds Q->G ds Q):∀ds Q,F_colB ds Q->bS G F_ordH bE pD { nx:=λ_=>Q .non,rt:=Q } (aM ["sides","column","bottom","heights","rows","low","up","edges"] ds):=by
 rintro ds Q ⟨Sd,c,rfl,ok,q⟩
 rw[aS 6 rfl]
 unfold bS
 refine aO (λρ=>∃B,(0<B/\(∀s∈Sd,wid s∣B)/\BL 50 B)/\ρ=[some (.d (fT Sd)),some (.d (.int c)),some (.d (.int B)),none,none,none,none,none]) (λK hK=>?_) ?_
 ·walk_at "rd"
  refine⟨bY (by rw[List.length_map];have:=ok.len;omega),?_⟩
  refine eN (λρ=>∃a,ρ=[a]) sdD (λs=>.int (wid s)) Sd ?_ ⟨_,rfl⟩ ?_
  ·rintro s hs ρ ⟨a,rfl⟩ K' hK'
   simp only[aP,aV,aB,aH,aN,List.getElem?_cons_zero,List.set_cons_zero]
   exact⟨s,rfl,hK' _ ⟨_,rfl⟩⟩
  ·refine hG _ _ ⟨Sd.map wid,by show _=[D.lst ((Sd.map wid).map .int)];rw[List.map_map];rfl,by rw[List.length_map];exact ok.len,λw hw=>?_,λB h1 h2 h3=>?_⟩
   ·obtain⟨s,hs,rfl⟩:=List.mem_map.mp hw
    exact⟨ok.ok s hs,ok.wide s hs⟩
   ·exact hK _ ⟨B,⟨h1,λs hs=>h2 _ (List.mem_map_of_mem hs),h3⟩,rfl⟩
 rintro ρ ⟨B,⟨hB0,hdv,bB⟩,rfl⟩
 refine aO (λρ=>∃M:List IP,(M.Perm (Sd.map (prB B c))/\dO M)/\ρ=[some (.d (fT Sd)),some (.d (.int c)),some (.d (.int B)),some (.d (pts M)),none,none,none,none]) (λK hK=>?_) ?_
 ·simp only[bH,aV,aB,aH,aN,List.getElem?_cons_zero,List.getElem?_cons_succ,List.set_cons_zero,List.set_cons_succ]
  exact⟨Sd,c,B,rfl,⟨ok.len,ok.bd,ok.ok,ok.cb,hB0,hdv,bB⟩,ok.unc B hB0 hdv,λM pm up=>hK _ ⟨M,⟨pm,up⟩,rfl⟩⟩
 rintro ρ ⟨M,⟨pm,up⟩,rfl⟩
 have ml:M.length<=8:=by rw[pm.length_eq,List.length_map];exact ok.len
 refine aO (λρ=>ρ=[some (.d (fT Sd)),some (.d (.int c)),some (.d (.int B)),some (.d (pts M)),some (.own []),none,none,none]) (λK hK=>?_) ?_
 ·walk_at "rd"
  exact hK _ rfl
 rintro ρ rfl
 refine aO (λρ=>∃rows u v w,RowsOf B c (kept M) rows/\ρ=[some (.d (fT Sd)),some (.d (.int c)),some (.d (.int B)),some (.d (pts M)),some (.own rows),u,v,w]) (λK hK=>?_) ?_
 ·simp only[cH,gN,BF,aD,List.getElem?_cons_zero,List.getElem?_cons_succ]
  rw[wV M]
  have tl:(fA M).length<=8:=Nat.le_trans (oA M) ml
  generalize hT:fA M=T at tl
  refine cB (λxs ρ=>∃done todo:List (IP × IP),T=done++todo/\xs=todo.map (λz=>D.tup [pt z.1,pt z.2])/\∃rows u v w,RowsOf B c (done.filter λz=>decide (z.1≠z.2)) rows/\ρ=[some (.d (fT Sd)),some (.d (.int c)),some (.d (.int B)),some (.d (pts M)),some (.own rows),u,v,w]) ?_ ?_ _ _ ⟨[],T,rfl,rfl,[],none,none,none,.nil,rfl⟩
  ·rintro x xs ρ ⟨done,todo,eT,exs,rows,u,v,w,hR,rfl⟩ F hr hb hn hc
   cases todo with
   | nil=>cases exs
   | cons z todo =>
    rw[List.map_cons] at exs
    injection exs with ex exs
    subst ex exs
    have rl:rows.length<=8:=by
     rw[<-hR.length]
     have h1:=List.length_filter_le (λz:IP × IP=>decide (z.1≠z.2)) done
     rw[eT] at tl;simp at tl;omega
    unfold eE
    simp only[fR,bP,aP,fQ,tU,List.set_cons_zero,List.set_cons_succ,List.length_cons,List.length_nil,true_and]
    simp only[fY,bL,r2,aD,dNe,List.getElem?_cons_zero,List.getElem?_cons_succ,IG,true_and]
    by_cases hz:z.1=z.2
    ·simp only[hz,decide_true,Bool.not_true,Bool.false_eq_true,if_false,cP]
     refine hn _ ⟨done++[z],todo,by rw[eT];simp,rfl,rows,some (.d (pt z.2)),some (.d (pt z.2)),w,?_,rfl⟩
     rw[List.filter_append]
     simpa [hz] using hR
    ·simp only[hz,decide_false,Bool.not_false,if_true]
     refine aO (λρ=>∃p1 q1 p2 q2 p3 q3 p4 q4,(Low z.1.1 B p1 q1/\Low z.1.2 B p2 q2/\Low z.2.1 B p3 q3/\Low z.2.2 B p4 q4)/\ρ=[some (.d (fT Sd)),some (.d (.int c)),some (.d (.int B)),some (.d (pts M)),some (.own rows),some (.d (pt z.1)),some (.d (pt z.2)),some (.own [fr p1 q1,fr p2 q2,fr p3 q3,fr p4 q4])]) (λK' hK'=>?_) ?_
     ·have bb:B≠0/\BL 9000 B:=⟨by omega,bB.mono (by decide)⟩
      walk_at "rd"
      refine⟨by simp,?_⟩
      refine⟨_,_,rfl,bb,λp1 q1 l1=>⟨_,_,rfl,bb,λp2 q2 l2=>⟨_,_,rfl,bb,λp3 q3 l3=>⟨_,_,rfl,bb,λp4 q4 l4=>?_⟩⟩⟩⟩
      exact hK' _ ⟨p1,q1,p2,q2,p3,q3,p4,q4,⟨l1,l2,l3,l4⟩,rfl⟩
     rintro ρ ⟨p1,q1,p2,q2,p3,q3,p4,q4,⟨l1,l2,l3,l4⟩,rfl⟩
     walk_at "rd"
     refine⟨bY (by decide),bY (by omega),?_⟩
     refine hn _ ⟨done++[z],todo,by rw[eT];simp,rfl,rows++[.tup [.int c,fr p1 q1,fr p2 q2,fr p3 q3,fr p4 q4]],some (.d (pt z.1)),some (.d (pt z.2)),some (.own [fr p1 q1,fr p2 q2,fr p3 q3,fr p4 q4]),?_,rfl⟩
     rw[List.filter_append]
     have e:[z].filter (λz:IP × IP=>decide (z.1≠z.2))=[z]:=by simp[hz]
     rw[e]
     exact hR.snoc ⟨p1,q1,p2,q2,p3,q3,p4,q4,⟨l1,l2,l3,l4⟩,rfl⟩
  ·rintro ρ ⟨done,todo,eT,exs,rows,u,v,w,hR,rfl⟩
   have:todo=[]:=by cases todo with | nil=>rfl | cons _ _=>cases exs
   subst this
   rw[List.append_nil] at eT
   refine hK _ ⟨rows,u,v,w,?_,rfl⟩
   show RowsOf B c ((fA M).filter λz=>decide (z.1≠z.2)) rows
   rw[hT,eT];exact hR
 rintro ρ ⟨rows,u,v,w,hR,rfl⟩
 simp only[dJ,L2.R2.S.fz,bO,aN,List.getElem?_cons_zero,List.getElem?_cons_succ,List.set_cons_zero,List.set_cons_succ]
 exact q B M rows ⟨hB0,hdv,bB,pm,up,hR⟩
end K23
namespace K23
theorem jA:∀(x y:List Pt) (a:Pt),bV a (x++y)=bV a x++bV (nE a x) y
 | [],y,a=>rfl
 | b::x,y,a=>by
  show sd a b++bV b (x++y)=(sd a b++bV b x)++bV (nE b x) y
  rw[jA x y b,List.append_assoc]
theorem DL (a b:Pt):sd a b=sd b a:=by
 unfold sd
 rcases Int.lt_trichotomy a.1 b.1 with h | h | h
 ·rw[if_pos h,if_neg (by omega),if_pos h]
 ·rw[if_neg (by omega),if_neg (by omega),if_neg (by omega),if_neg (by omega)]
 ·rw[if_neg (by omega),if_pos h,if_pos h]
theorem DM {a b:Pt} (h:a.1=b.1):sd a b=[]:=by unfold sd;rw[if_neg (by omega),if_neg (by omega)]
theorem zY:∀(r:List Pt) (a z:Pt),(bV a (r++[z])).Perm (bV z (r.reverse++[a]))
 | [],a,z=>by
  show (sd a z++[]).Perm (sd z a++[])
  rw[DL]
 | b::r,a,z=>by
  rw[List.reverse_cons,jA (r.reverse++[b]) [a],kY]
  show (sd a b++bV b (r++[z])).Perm (_++(sd b a++[]))
  rw[List.append_nil,DL b a]
  exact (List.Perm.append_left _ (zY r b z)).trans List.perm_append_comm
theorem BO {u d:Pt} {us ds:List Pt} (h0:u.1=d.1) (h1:(nE u us).1=(nE d ds).1):(cF ((u::us)++(d::ds).reverse)).Perm (bV u us++bV d ds):=by
 have e:cF ((u::us)++(d::ds).reverse)=bV u us++(bV (nE u us) (ds.reverse++[d])++bV d [u]):=by
  show bV u ((us++(d::ds).reverse)++[u])=_
  rw[List.reverse_cons,List.append_assoc,jA us,jA (ds.reverse++[d]) [u],kY]
 rw[e,show bV d [u]=sd d u++[] from rfl,DM h0.symm,List.append_nil,List.append_nil]
 refine List.Perm.append_left _ ((zY ds d (nE u us)).symm.trans ?_)
 rw[jA ds [nE u us],show bV (nE d ds) [nE u us]=sd (nE d ds) (nE u us)++[] from rfl,DM h1.symm,List.append_nil,List.append_nil]
noncomputable def T (ts:List Int) (i:Nat):Int:=ts.getD i 0
noncomputable def Hh (hss:List (List Int)) (z j:Nat):Int:=(hss.getD z []).getD j 0
noncomputable def fZ (ts:List Int) (hss:List (List Int)) (j z:Nat):Pt:=(T ts z,Hh hss z j)
noncomputable def crv (ts:List Int) (hss:List (List Int)) (j:Nat):List Pt:=(List.range ts.length).map (fZ ts hss j)
noncomputable def sdz (ts:List Int) (hss:List (List Int)) (z j:Nat):bN:=(fZ ts hss j z,fZ ts hss j (z+1))
noncomputable def csd (ts:List Int) (hss:List (List Int)) (j:Nat):List bN:=(List.range (ts.length-1)).map λz=>sdz ts hss z j
theorem rM (f:Nat->Pt):∀m:Nat,nE (f 0) ((List.range m).map λk=>f (k+1))=f m
 | 0=>rfl
 | m+1=>by rw[List.range_succ,List.map_append];exact kY _ _ _
theorem zW (f:Nat->Pt):∀m:Nat,(∀k,k<m->(f k).1<(f (k+1)).1)->bV (f 0) ((List.range m).map λk=>f (k+1))=(List.range m).map λk=>(f k,f (k+1))
 | 0,_=>rfl
 | m+1,h=>by
  rw[List.range_succ,List.map_append,List.map_append,jA,zW f m (λk hk=>h k (by omega)),rM]
  show _++(sd (f m) (f (m+1))++[])=_
  unfold sd
  rw[if_pos (h m (by omega))];rfl
theorem UJ {ts:List Int} {i:Nat} {a:Int} (h:ts[i]? = some a):T ts i=a:=by unfold T;rw[List.getD_eq_getElem?_getD,h];rfl
theorem mT {ts:List Int} {i:Nat} (h:i<ts.length):ts[i]? = some (T ts i):=by unfold T;rw[List.getD_eq_getElem?_getD,List.getElem?_eq_getElem h];rfl
theorem BR {ts:List Int} (h:Thr ts) {i:Nat} (hi:i+1<ts.length):1<=T ts (i+1)-T ts i/\T ts (i+1)-T ts i<=40 :=
 h.step i _ _ (mT (by omega)) (mT hi)
theorem kB {ts:List Int} (h:Thr ts) {i:Nat}:∀{j:Nat},i<=j->j<ts.length->T ts i<=T ts j
 | 0,h1,_=>by rw[show i=0 by omega];exact Int.le_refl _
 | j+1,h1,h2=>by
  by_cases e:i=j+1
  ·rw[e];exact Int.le_refl _
  ·have:=kB h (i:=i) (j:=j) (by omega) (by omega)
   have:=BR h h2
   omega
theorem xL {ts:List Int} {hss:List (List Int)} {j:Nat} (h:2<=ts.length):crv ts hss j=fZ ts hss j 0::(List.range (ts.length-1)).map λk=>fZ ts hss j (k+1):=by
 unfold crv
 obtain⟨m,hm⟩:∃m,ts.length=m+1:=⟨ts.length-1,by omega⟩
 rw[hm,List.range_succ_eq_map,List.map_cons,List.map_map];rfl
theorem BM {ts:List Int} {hss:List (List Int)} (h:Thr ts) (a b:Nat):(cF (crv ts hss a++(crv ts hss b).reverse)).Perm (csd ts hss a++csd ts hss b):=by
 have hl:=h.len
 rw[xL (j:=a) hl.1,xL (j:=b) hl.1]
 refine (BO (u:=fZ ts hss a 0) (d:=fZ ts hss b 0) (show T ts 0=T ts 0 from rfl) ?_).trans ?_
 ·rw[rM (fZ ts hss a),rM (fZ ts hss b)];rfl
 ·have k:∀j,bV (fZ ts hss j 0) ((List.range (ts.length-1)).map λk=>fZ ts hss j (k+1))=csd ts hss j:=λj =>
   zW (fZ ts hss j) _ λk hk=>by have:=BR h (i:=k) (by omega);show T ts k<T ts (k+1);omega
  rw[k a,k b]
theorem rP (z:Nat):∀m:Nat,z<m->(List.range m).filter (λk=>decide (k=z))=[z]
 | 0,h=>by omega
 | m+1,h=>by
  rw[List.range_succ,List.filter_append]
  by_cases e:z<m
  ·rw[rP z m e]
   have:¬m=z:=by omega
   simp[this]
  ·have e2:m=z:=by omega
   have e3:(List.range m).filter (λk=>decide (k=z))=[]:=List.filter_eq_nil_iff.mpr λk hk=>by
    have:=List.mem_range.mp hk
    simp;omega
   rw[e3];simp[e2]
structure Zn (ts:List Int) (c:Int) (z:Nat):Prop where
 z1:z+1<ts.length
 lo:T ts z<=c
 hi:c<T ts (z+1)
theorem LF {ts:List Int} {hss:List (List Int)} {c:Int} {z:Nat} (h:Thr ts) (Z:Zn ts c z) (j:Nat):(csd ts hss j).filter (cov c)=[sdz ts hss z j]:=by
 unfold csd
 rw[List.filter_map]
 have e:∀k∈List.range (ts.length-1),((cov c) ∘ λz=>sdz ts hss z j) k=decide (k=z):=λk hk=>by
  have hk:=List.mem_range.mp hk
  have hz:=Z.z1
  have z2:=Z.lo
  have z3:=Z.hi
  show (decide (T ts k<=c) && decide (c<T ts (k+1)))=_
  by_cases e:k=z
  ·subst e;rw[decide_eq_true z2,decide_eq_true z3,decide_eq_true rfl];rfl
  ·rw[decide_eq_false e]
   by_cases l:k<z
   ·have:=kB h (i:=k+1) (j:=z) (by omega) (by omega)
    rw[decide_eq_false (show ¬c<T ts (k+1) by omega),Bool.and_false]
   ·have:=kB h (i:=z+1) (j:=k) (by omega) (by omega)
    rw[decide_eq_false (show ¬T ts k<=c by omega),Bool.false_and]
 rw[List.filter_congr e,rP z _ (by have:=Z.z1;omega)];rfl
theorem pH {α:Type} (p:α->Bool):∀L:List (List α),(L.flatten).filter p=(L.map λl=>l.filter p).flatten
 | []=>rfl
 | l::L=>by rw[List.flatten_cons,List.filter_append,pH p L];rfl
theorem pI {α β:Type} (f:α->β):∀L:List α,(L.map λx=>[f x]).flatten=L.map f
 | []=>rfl
 | x::L=>by rw[List.map_cons,List.flatten_cons,pI f L];rfl
theorem HH {ts:List Int} {hss:List (List Int)} {c:Int} {z:Nat} (h:Thr ts) (Z:Zn ts c z) (L:List Nat):((L.map (csd ts hss)).flatten).filter (cov c)=L.map λj=>sdz ts hss z j:=by
 rw[pH,List.map_map]
 have:((λl:List bN=>l.filter (cov c)) ∘ csd ts hss)=λj=>[sdz ts hss z j]:=funext λj=>LF h Z j
 rw[this,pI]
end K23
namespace K23
noncomputable def Wd (ts:List Int) (z:Nat):Int:=T ts (z+1)-T ts z
noncomputable def hp (ts:List Int) (hss:List (List Int)) (z:Nat) (k:Int) (j:Nat):IP:=(lin (Wd ts z) k (Hh hss z j) (Hh hss (z+1) j),lin (Wd ts z) (k+1) (Hh hss z j) (Hh hss (z+1) j))
noncomputable def LL (ts:List Int) (hss:List (List Int)) (n z:Nat) (k:Int):List IP:=(List.range (2*n)).map (hp ts hss z k)
noncomputable def scl (f:Int) (z:IP):IP:=(z.1*f,z.2*f)
theorem MX {ts:List Int} {hss:List (List Int)} (B c:Int) (z j:Nat):prB B c (sdz ts hss z j)=scl (B.fdiv (Wd ts z)) (hp ts hss z (c-T ts z) j):=by
 unfold prB hB scl hp sdz wid fZ Wd lin
 dsimp only
 congr 1
 ·congr 1;grind
 ·congr 1;grind
theorem CB {ts:List Int} {hss:List (List Int)} {n:Nat} (C:Curves ts hss n) {z i j:Nat} (hz:z<ts.length) (hij:i<j) (hj:j<2*n):Hh hss z i<=Hh hss z j:=by
 have hl:=C.len
 have e:hss[z]? = some (hss.getD z []):=by rw[List.getD_eq_getElem?_getD,List.getElem?_eq_getElem (by omega)];rfl
 unfold Hh
 obtain⟨A,eA⟩:∃A,hss.getD z []=A:=⟨_,rfl⟩
 rw[eA] at e ⊢
 have hm:=List.mem_of_getElem? e
 have l:=C.each _ hm
 have:=List.pairwise_iff_getElem.mp (C.up _ hm) i j (by omega) (by omega) hij
 rw[List.getD_eq_getElem?_getD,List.getElem?_eq_getElem (show i<A.length by omega),List.getD_eq_getElem?_getD,List.getElem?_eq_getElem (show j<A.length by omega)]
 exact this
theorem yK {W k a b a' b':Int} (h0:0<=k) (h1:k<=W) (ha:a<=a') (hb:b<=b'):lin W k a b<=lin W k a' b':=by
 unfold lin
 have k1:=Int.mul_le_mul_of_nonneg_right ha (show 0<=W-k by omega)
 have k2:=Int.mul_le_mul_of_nonneg_right hb h0
 omega
theorem RU {ts:List Int} {hss:List (List Int)} {n z:Nat} {k:Int} (C:Curves ts hss n) (hz:z+1<ts.length) (k0:0<=k) (k1:k+1<=Wd ts z):dO (LL ts hss n z k):=by
 unfold LL dO
 rw[List.pairwise_map]
 refine (List.pairwise_lt_range (n:=2*n)).imp_of_mem λ{i j} hi hj hij=>?_
 have hj:=List.mem_range.mp hj
 have m0:=CB C (show z<ts.length by omega) hij hj
 have m1:=CB C hz hij hj
 exact⟨yK k0 (by omega) m0 m1,yK (by omega) k1 m0 m1⟩
theorem QY {L:List IP} {f:Int} (hf:0<=f) (h:dO L):dO (L.map (scl f)):=by
 unfold dO
 rw[List.pairwise_map]
 exact h.imp λ{x y} e=>⟨Int.mul_le_mul_of_nonneg_right e.1 hf,Int.mul_le_mul_of_nonneg_right e.2 hf⟩
theorem DJ {M X:List IP} (p:M.Perm X) (h1:dO M) (h2:dO X):M=X :=
 List.Perm.eq_of_pairwise (λa b _ _ h h'=>Prod.ext (Int.le_antisymm h.1 h'.1) (Int.le_antisymm h.2 h'.2)) h1 h2 p
theorem KD {L:List IP} (h:dO L):∀x∈L,∀y∈L,x.1<y.1->x.2<=y.2:=by
 induction L with
 | nil=>intro x hx;cases hx
 | cons a L ih =>
  obtain⟨h1,h2⟩:=List.pairwise_cons.mp h
  intro x hx y hy l
  rcases List.mem_cons.mp hx with rfl | _
  ·rcases List.mem_cons.mp hy with rfl | hy
   ·omega
   ·exact (h1 y hy).2
  ·rename_i hx'
   rcases List.mem_cons.mp hy with e | hy'
   ·have:=(h1 x hx').1;rw[e] at l;omega
   ·exact ih h2 x hx' y hy' l
theorem uN (x:IP) (Y:List IP):∀X:List IP,kept (X++x::x::x::Y)=kept (X++x::Y)
 | []=>by
  unfold kept
  cases Y with
  | nil=>simp[fA]
  | cons y Y=>simp[fA]
 | [a]=>by
  unfold kept
  simp only[List.cons_append,List.nil_append,fA,List.filter_cons]
  simp
 | a::b::X=>by
  have ih:=uN x Y X
  unfold kept at *
  simp only[List.cons_append,fA,List.filter_cons]
  rw[ih]
theorem GG {x:IP} {X Y:List IP} (h:dO (X++x::Y)):dO (X++x::x::x::Y):=by
 obtain⟨h1,h2,h3⟩:=List.pairwise_append.mp h
 obtain⟨h4,h5⟩:=List.pairwise_cons.mp h2
 have r:x.1<=x.1/\x.2<=x.2:=⟨Int.le_refl _,Int.le_refl _⟩
 refine List.pairwise_append.mpr ⟨h1,?_,λa ha b hb=>?_⟩
 ·refine List.pairwise_cons.mpr ⟨λb hb=>?_,List.pairwise_cons.mpr ⟨λb hb=>?_,h2⟩⟩
  ·rcases List.mem_cons.mp hb with rfl | hb
   ·exact r
   ·rcases List.mem_cons.mp hb with rfl | hb
    ·exact r
    ·exact h4 b hb
  ·rcases List.mem_cons.mp hb with rfl | hb
   ·exact r
   ·exact h4 b hb
 ·refine h3 a ha b ?_
  rcases List.mem_cons.mp hb with rfl | hb
  ·exact .head _
  ·rcases List.mem_cons.mp hb with rfl | hb
   ·exact .head _
   ·exact hb
theorem EX {M L:List IP} (h1:dO M) (h2:dO L) (p:M.Perm L\/∃x∈L,M.Perm (L++[x,x])):kept M=kept L:=by
 rcases p with p | ⟨x,hx,p⟩
 ·rw[DJ p h1 h2]
 ·obtain⟨X,Y,e⟩:=List.append_of_mem hx
  subst e
  have q:((X++x::Y)++[x,x]).Perm (X++x::x::x::Y):=by
   rw[List.append_assoc]
   refine List.Perm.append_left _ ?_
   show (x::(Y++[x,x])).Perm (x::x::x::Y)
   exact .cons _ (List.perm_append_comm (l₁:=Y) (l₂:=[x,x]))
  rw[DJ (p.trans q) h1 (GG h2),uN]
theorem zT {α β:Type} (f:α->β):∀L:List α,fA (L.map f)=(fA L).map λz=>(f z.1,f z.2)
 | []=>rfl
 | [x]=>rfl
 | x::y::r=>by rw[List.map_cons,List.map_cons,fA,fA,zT f r];rfl
theorem IQ {f:Int} (hf:0<f) (L:List IP):kept (L.map (scl f))=(kept L).map λz=>(scl f z.1,scl f z.2):=by
 unfold kept
 rw[zT,List.filter_map]
 congr 1
 refine List.filter_congr λz _=>?_
 show decide (scl f z.1≠scl f z.2)=decide (z.1≠z.2)
 have:scl f z.1=scl f z.2↔z.1=z.2:=by
  constructor
  ·intro e
   have e1:=congrArg Prod.fst e
   have e2:=congrArg Prod.snd e
   exact Prod.ext (Int.eq_of_mul_eq_mul_right (by omega) e1) (Int.eq_of_mul_eq_mul_right (by omega) e2)
  ·intro e;rw[e]
 simp[this]
theorem qT {a W f p q p' q':Int} (hW:0<W) (hf:0<f) (h:Low a W p q) (h':Low (a*f) (W*f) p' q'):p'=p/\q'=q :=
 K12.low_eq (Int.mul_pos hW hf) h' (h.scale hf hW)
theorem DK {W f c:Int} (hW:0<W) (hf:0<f):∀{zs:List (IP × IP)} {r r':List D},RowsOf W c zs r->RowsOf (W*f) c (zs.map λz=>(scl f z.1,scl f z.2)) r'->r'=r
 | [],_,_,h,h'=>by cases h;cases h';rfl
 | z::zs,_,_,h,h'=>by
  cases h with
  | cons h t =>
   cases h' with
   | cons h' t' =>
    obtain⟨p1,q1,p2,q2,p3,q3,p4,q4,⟨l1,l2,l3,l4⟩,rfl⟩:=h
    obtain⟨p1',q1',p2',q2',p3',q3',p4',q4',⟨m1,m2,m3,m4⟩,rfl⟩:=h'
    obtain⟨rfl,rfl⟩:=qT hW hf l1 m1
    obtain⟨rfl,rfl⟩:=qT hW hf l2 m2
    obtain⟨rfl,rfl⟩:=qT hW hf l3 m3
    obtain⟨rfl,rfl⟩:=qT hW hf l4 m4
    rw[DK hW hf t t']
end K23
namespace K23
structure BandsIn (R:List (List Pt)) (o:Int):Prop where
 rgs:RgsOk R
 near:∀s∈bC R,o<=s.1.1/\s.2.1<=o+60
 col:∀c,(∃s∈bC R,cov c s=true)->ColIn ((bC R).filter (cov c)) c
noncomputable def F_bands:FD:=λds Q=>∃(R:List (List Pt)) (o:Int),ds=[fS R]/\BandsIn R o/\∀cs rows,cs.Pairwise (· < ·)->(∀c,c∈cs↔∃s∈bC R,cov c s=true)->AllB (bC R) cs rows->Q (.lst rows)
theorem len_bands:∀ds Q,F_bands ds Q->ds.length=1:=by rintro ds Q ⟨_,_,rfl,_⟩;rfl
theorem yT:∀(l m:List Int),l.Nodup->(∀x∈l,x∈m)->l.length<=m.length
 | [],m,_,_=>Nat.zero_le _
 | x::l,m,hn,hs=>by
  have hx:=hs x (.head _)
  have hn':=List.nodup_cons.mp hn
  have:=yT l (m.erase x) hn'.2 λy hy=>(List.mem_erase_of_ne λ(e:y=x)=>hn'.1 (e ▸ hy)).mpr (hs y (.tail _ hy))
  rw[List.length_erase_of_mem hx] at this
  exact Nat.le_trans (Nat.succ_le_succ this) (Nat.le_of_eq (Nat.succ_pred_eq_of_pos (List.length_pos_of_mem hx)))
theorem JC {ks:List Int} {o:Int} (hn:ks.Nodup) (h:∀c∈ks,o<=c/\c<o+60):ks.length<=60:=by
 have:=yT ks ((List.range 60).map λk:Nat=>o+(k:Int)) hn λx hx=>by
  have:=h x hx
  exact List.mem_map.mpr ⟨(x-o).toNat,List.mem_range.mpr (by omega),by omega⟩
 rw[List.length_map,List.length_range] at this
 exact this
end K23
namespace K23
structure Cloth (ts:List Int) (hss:List (List Int)) (n:Nat) (R:List (List Pt)):Prop where
 len:R.length<=4
 each:∀g∈R,g.length<=10
 sides:∃I:List bN,(bC R).Perm (((List.range (2*n)).map (csd ts hss)).flatten++I)/\(I=[]\/∃z j,(z+1<ts.length/\j<2*n)/\I=[sdz ts hss z j,sdz ts hss z j])
section
variable {ts:List Int} {hss:List (List Int)} {n:Nat} {R:List (List Pt)}
theorem LG {j:Nat} {s:bN} (h:s∈csd ts hss j):∃z,z+1<ts.length/\s=sdz ts hss z j:=by
 obtain⟨z,hz,rfl⟩:=List.mem_map.mp h
 have:=List.mem_range.mp hz
 exact⟨z,by omega,rfl⟩
theorem Cloth.mem (K:Cloth ts hss n R) {s:bN} (hs:s∈bC R):∃z j,(z+1<ts.length/\j<2*n)/\s=sdz ts hss z j:=by
 obtain⟨I,p,hI⟩:=K.sides
 rcases List.mem_append.mp (p.mem_iff.mp hs) with h | h
 ·obtain⟨l,hl,h⟩:=List.mem_flatten.mp h
  obtain⟨j,hj,rfl⟩:=List.mem_map.mp hl
  obtain⟨z,hz,rfl⟩:=LG h
  exact⟨z,j,⟨hz,List.mem_range.mp hj⟩,rfl⟩
 ·rcases hI with rfl | ⟨z,j,hzj,rfl⟩
  ·cases h
  ·refine⟨z,j,hzj,?_⟩
   rcases List.mem_cons.mp h with rfl | h
   ·rfl
   ·exact List.mem_singleton.mp h
theorem Cloth.has (K:Cloth ts hss n R) {z j:Nat} (hz:z+1<ts.length) (hj:j<2*n):sdz ts hss z j∈bC R:=by
 obtain⟨I,p,hI⟩:=K.sides
 refine p.mem_iff.mpr (List.mem_append_left _ (List.mem_flatten.mpr ⟨csd ts hss j,List.mem_map_of_mem (List.mem_range.mpr hj),?_⟩))
 exact List.mem_map.mpr ⟨z,List.mem_range.mpr (by omega),rfl⟩
theorem KZ (C:Curves ts hss n) {z:Nat} (hz:z<ts.length):BL 210 (T ts z):=(C.thr.bl _ (List.mem_of_getElem? (mT hz))).mono (by decide)
theorem SA (C:Curves ts hss n) {z j:Nat} (hz:z<ts.length) (hj:j<2*n):BL 210 (Hh hss z j):=by
 have hl:=C.len
 have e:hss[z]? = some (hss.getD z []):=by rw[List.getD_eq_getElem?_getD,List.getElem?_eq_getElem (by omega)];rfl
 have hm:=List.mem_of_getElem? e
 refine C.bl _ hm _ ?_
 have:=C.each _ hm
 unfold Hh
 rw[List.getD_eq_getElem?_getD (l:=hss.getD z []),List.getElem?_eq_getElem (by omega)]
 exact List.getElem_mem _
theorem RC (C:Curves ts hss n) {z j:Nat} (hz:z+1<ts.length) (hj:j<2*n):SdB (sdz ts hss z j) :=
 ⟨KZ C (by omega),SA C (by omega) hj,KZ C hz,SA C hz hj⟩
theorem jC (C:Curves ts hss n) {z:Nat} (hz:z+1<ts.length):0<Wd ts z/\Wd ts z<=40:=by
 have:=BR C.thr hz
 unfold Wd
 omega
theorem Zn.uniq {c:Int} {z z':Nat} (h:Thr ts) (a:Zn ts c z) (b:Zn ts c z'):z=z':=by
 have a1:=a.z1;have a2:=a.lo;have a3:=a.hi
 have b1:=b.z1;have b2:=b.lo;have b3:=b.hi
 apply Nat.le_antisymm
 ·apply Nat.not_lt.mp
  intro l
  have:=kB h (i:=z'+1) (j:=z) (by omega) (by omega)
  omega
 ·apply Nat.not_lt.mp
  intro l
  have:=kB h (i:=z+1) (j:=z') (by omega) (by omega)
  omega
theorem Zn.of {c:Int} {z j:Nat} (hz:z+1<ts.length) (k:cov c (sdz ts hss z j)=true):Zn ts c z:=⟨hz,(kR.mp k).1,(kR.mp k).2⟩
theorem Zn.cov {c:Int} {z:Nat} (Z:Zn ts c z) (j:Nat):cov c (sdz ts hss z j)=true:=kR.mpr ⟨Z.lo,Z.hi⟩
theorem Cloth.col (C:Curves ts hss n) (K:Cloth ts hss n R) {c:Int} {z:Nat} (Z:Zn ts c z):∃I:List bN,((bC R).filter (cov c)).Perm ((List.range (2*n)).map (λj=>sdz ts hss z j)++I)/\(I=[]\/∃j,j<2*n/\I=[sdz ts hss z j,sdz ts hss z j]):=by
 obtain⟨I,p,hI⟩:=K.sides
 have q:=p.filter (cov c)
 rw[List.filter_append,HH C.thr Z] at q
 refine⟨I.filter (cov c),q,?_⟩
 rcases hI with rfl | ⟨z',j,⟨hz',hj⟩,rfl⟩
 ·exact .inl rfl
 ·by_cases k:L2.R2.cov c (sdz ts hss z' j)=true
  ·have e:=(Zn.of hz' k).uniq C.thr Z
   subst e
   exact .inr ⟨j,hj,by simp[k]⟩
  ·exact .inl (by simp[k])
noncomputable def Hs (ts:List Int) (hss:List (List Int)) (n:Nat) (B c:Int) (z:Nat):List IP:=(LL ts hss n z (c-T ts z)).map (scl (B.fdiv (Wd ts z)))
theorem Cloth.heights (C:Curves ts hss n) (K:Cloth ts hss n R) {c:Int} {z:Nat} (Z:Zn ts c z) (B:Int):(((bC R).filter (cov c)).map (prB B c)).Perm (Hs ts hss n B c z)\/∃x∈Hs ts hss n B c z,(((bC R).filter (cov c)).map (prB B c)).Perm (Hs ts hss n B c z++[x,x]):=by
 obtain⟨I,p,hI⟩:=K.col C Z
 have q:=p.map (prB B c)
 have e:((List.range (2*n)).map λj=>sdz ts hss z j).map (prB B c)=Hs ts hss n B c z:=by
  unfold Hs LL
  rw[List.map_map,List.map_map]
  exact List.map_congr_left λj _=>MX B c z j
 rw[List.map_append,e] at q
 rcases hI with rfl | ⟨j,hj,rfl⟩
 ·rw[List.map_nil,List.append_nil] at q;exact .inl q
 ·refine .inr ⟨prB B c (sdz ts hss z j),?_,q⟩
  rw[<-e]
  exact List.mem_map_of_mem (List.mem_map.mpr ⟨j,List.mem_range.mpr hj,rfl⟩)
theorem NN (C:Curves ts hss n) {c:Int} {z:Nat} (Z:Zn ts c z) {B:Int} (hf:0<=B.fdiv (Wd ts z)):dO (Hs ts hss n B c z):=by
 have z1:=Z.z1;have z2:=Z.lo;have z3:=Z.hi
 exact QY hf (RU C z1 (by omega) (by unfold Wd;omega))
theorem bottom (C:Curves ts hss n) {z:Nat} (hz:z+1<ts.length) {B:Int} (h0:0<B) (hd:Wd ts z∣B):∃f,B.fdiv (Wd ts z)=f/\0<f/\B=Wd ts z*f:=by
 obtain⟨w0,_⟩:=jC C hz
 obtain⟨q,e1,e2⟩:=vY w0 hd
 refine⟨q,e2,?_,e1⟩
 apply Int.not_le.mp
 intro l
 have:=Int.mul_nonpos_of_nonneg_of_nonpos (Int.le_of_lt w0) l
 omega
theorem Cloth.bands (C:Curves ts hss n) (K:Cloth ts hss n R):BandsIn R (T ts 0):=by
 have tl:=C.thr.len
 have nn:=C.n1
 refine⟨⟨K.len,K.each,λs hs=>?_⟩,λs hs=>?_,λc hc=>?_⟩
 ·obtain⟨z,j,⟨hz,hj⟩,rfl⟩:=K.mem hs
  exact (jC C hz).2
 ·obtain⟨z,j,⟨hz,hj⟩,rfl⟩:=K.mem hs
  refine⟨kB C.thr (Nat.zero_le z) (by omega),?_⟩
  have:=C.thr.wide _ (List.mem_of_getElem? (mT (show 0<ts.length by omega))) _ (List.mem_of_getElem? (mT hz))
  show T ts (z+1)<=_
  omega
 ·obtain⟨s,hs,k⟩:=hc
  obtain⟨z,j,⟨hz,hj⟩,rfl⟩:=K.mem hs
  have Z:=Zn.of hz k
  obtain⟨I,p,hI⟩:=K.col C Z
  refine⟨?_,λs hs=>?_,λs hs=>?_,λs hs=>?_,?_,λB h0 hd=>?_⟩
  ·rw[p.length_eq,List.length_append,List.length_map,List.length_range]
   rcases hI with rfl | ⟨j,_,rfl⟩
   ·simp;omega
   ·simp;omega
  ·obtain⟨z,j,⟨hz,hj⟩,rfl⟩:=K.mem (List.mem_filter.mp hs).1
   exact RC C hz hj
  ·obtain⟨z,j,⟨hz,hj⟩,rfl⟩:=K.mem (List.mem_filter.mp hs).1
   exact (jC C hz).1
  ·obtain⟨z,j,⟨hz,hj⟩,rfl⟩:=K.mem (List.mem_filter.mp hs).1
   exact (jC C hz).2
  ·have b1:=KZ C (show z<ts.length by omega)
   have b2:=KZ C hz
   have z2:=Z.lo
   have z3:=Z.hi
   unfold BL at *
   omega
  ·obtain⟨f,e,f0,_⟩:=bottom C hz h0 (hd _ (List.mem_filter.mpr ⟨K.has hz hj,k⟩))
   have up:=NN (hss:=hss) (n:=n) C Z (B:=B) (by rw[e];omega)
   have sub:∀x∈((bC R).filter (cov c)).map (prB B c),x∈Hs ts hss n B c z:=λx hx=>by
    rcases K.heights C Z B with q | ⟨y,hy,q⟩
    ·exact q.mem_iff.mp hx
    ·rcases List.mem_append.mp (q.mem_iff.mp hx) with h | h
     ·exact h
     ·have:x=y:=by simpa using h
      rw[this];exact hy
   exact λx hx y hy=>KD up x (sub x hx) y (sub y hy)
inductive LB (ts:List Int) (hss:List (List Int)) (n:Nat):List (Int × Nat)->List D->Prop
 | nil:LB ts hss n [] []
 | cons {c:Int} {z:Nat} {r rows:List D} {cs:List (Int × Nat)} (h:RowsOf (Wd ts z) c (kept (LL ts hss n z (c-T ts z))) r) (t:LB ts hss n cs rows):LB ts hss n ((c,z)::cs) (r++rows)
theorem LB.snoc {cs:List (Int × Nat)} {rows:List D} (t:LB ts hss n cs rows) {c:Int} {z:Nat} {r:List D} (h:RowsOf (Wd ts z) c (kept (LL ts hss n z (c-T ts z))) r):LB ts hss n (cs++[(c,z)]) (rows++r):=by
 induction t with
 | nil=>have:=LB.cons h .nil;simpa using this
 | cons h' _ ih=>rw[List.append_assoc];exact .cons h' ih
theorem GH (C:Curves ts hss n) (K:Cloth ts hss n R) {cols:List (Int × Nat)} {rows:List D} (h:LB ts hss n cols rows):∀{rows':List D},(∀p∈cols,Zn ts p.1 p.2)->AllB (bC R) (cols.map (·.1)) rows'->rows'=rows:=by
 have nn:=C.n1
 induction h with
 | nil=>intro rows' _ h';cases h';rfl
 | @cons c z r rows cs h t ih =>
  intro rows' hz h'
  rw[List.map_cons] at h'
  cases h' with
  | @cons _ B M r' rows2 _ hB t' =>
   have Z:=hz (c,z) (.head _)
   have e2:=ih (λp hp=>hz p (.tail _ hp)) t'
   obtain⟨f,e,f0,eB⟩:=bottom C Z.z1 hB.pos (hB.dv (sdz ts hss z 0) (List.mem_filter.mpr ⟨K.has Z.z1 (by omega),Z.cov 0⟩))
   have up:=NN (hss:=hss) (n:=n) C Z (B:=B) (by rw[e];omega)
   have ek:kept M=kept (Hs ts hss n B c z):=EX hB.up up (by
    rcases K.heights C Z B with q | ⟨y,hy,q⟩
    ·exact .inl (hB.perm.trans q)
    ·exact .inr ⟨y,hy,hB.perm.trans q⟩)
   have hr:=hB.rows
   rw[ek] at hr
   unfold Hs at hr
   rw[e,IQ f0,eB] at hr
   have e1:=DK (jC C Z.z1).1 f0 h hr
   rw[e1,e2]
noncomputable def rH (ts:List Int) (z m:Nat):List (Int × Nat):=(List.range m).map λk:Nat=>(T ts z+(k:Int),z)
noncomputable def fV (ts:List Int) (m:Nat):List (Int × Nat):=((List.range m).map λz=>rH ts z (Wd ts z).toNat).flatten
theorem AI (z m:Nat):rH ts z (m+1)=rH ts z m++[(T ts z+(m:Int),z)]:=by unfold rH;rw[List.range_succ,List.map_append];rfl
theorem pE (m:Nat):fV ts (m+1)=fV ts m++rH ts m (Wd ts m).toNat:=by unfold fV;rw[List.range_succ,List.map_append,List.flatten_append];simp
theorem rJ {m:Nat} {p:Int × Nat}:p∈fV ts m↔p.2<m/\T ts p.2<=p.1/\p.1<T ts (p.2+1):=by
 obtain⟨c,z⟩:=p
 unfold fV
 rw[List.mem_flatten]
 constructor
 ·rintro⟨l,hl,h⟩
  obtain⟨z',hz',rfl⟩:=List.mem_map.mp hl
  obtain⟨k,hk,e⟩:=List.mem_map.mp h
  have hk:=List.mem_range.mp hk
  cases e
  unfold Wd at hk
  exact⟨List.mem_range.mp hz',(by show T ts z<=T ts z+(k:Int);omega),(by show T ts z+(k:Int)<T ts (z+1);omega)⟩
 ·rintro⟨h1,h2,h3⟩
  dsimp only at h1 h2 h3
  refine⟨_,List.mem_map_of_mem (List.mem_range.mpr h1),List.mem_map.mpr ⟨(c-T ts z).toNat,List.mem_range.mpr (by unfold Wd;omega),?_⟩⟩
  exact Prod.ext (by show T ts z+(((c-T ts z).toNat:Nat):Int)=c;omega) rfl
theorem CI (h:Thr ts):∀m:Nat,m<ts.length->(fV ts m).Pairwise λp q=>p.1<q.1
 | 0,_=>List.Pairwise.nil
 | m+1,hm=>by
  rw[pE]
  refine List.pairwise_append.mpr ⟨CI h m (by omega),?_,λp hp q hq=>?_⟩
  ·unfold rH
   rw[List.pairwise_map]
   exact (List.pairwise_lt_range (n:=(Wd ts m).toNat)).imp λ{a b} (hab:a<b)=>by show T ts m+(a:Int)<T ts m+(b:Int);omega
  ·have h1:=rJ.mp hp
   obtain⟨k,_,rfl⟩:=List.mem_map.mp hq
   have:=kB h (i:=p.2+1) (j:=m) (by omega) (by omega)
   show p.1<T ts m+(k:Int)
   omega
theorem GV (C:Curves ts hss n) (K:Cloth ts hss n R) {cs:List Int} {rows rows':List D} (h1:cs.Pairwise (· < ·)) (h2:∀c,c∈cs↔∃s∈bC R,cov c s=true) (h3:AllB (bC R) cs rows') (h4:LB ts hss n (fV ts (ts.length-1)) rows):rows'=rows:=by
 have tl:=C.thr.len
 have nn:=C.n1
 have hz:∀p∈fV ts (ts.length-1),Zn ts p.1 p.2:=λp hp=>by
  have:=rJ.mp hp
  exact⟨by omega,this.2.1,this.2.2⟩
 have up:((fV ts (ts.length-1)).map (·.1)).Pairwise (· < ·):=by
  rw[List.pairwise_map];exact CI C.thr _ (by omega)
 have hm:∀c,c∈cs↔c∈(fV ts (ts.length-1)).map (·.1):=λc=>by
  rw[h2 c,List.mem_map]
  constructor
  ·rintro⟨s,hs,k⟩
   obtain⟨z,j,⟨hz,hj⟩,rfl⟩:=K.mem hs
   have Z:=Zn.of hz k
   exact⟨(c,z),rJ.mpr ⟨by have:=Z.z1;show z<_;omega,Z.lo,Z.hi⟩,rfl⟩
  ·rintro⟨p,hp,rfl⟩
   have Z:=hz p hp
   exact⟨sdz ts hss p.2 0,K.has Z.z1 (by omega),Z.cov 0⟩
 have nd:∀{l:List Int},l.Pairwise (· < ·)->l.Nodup:=λh=>h.imp λ{a b} (l:a<b)=>Int.ne_of_lt l
 have e:cs=(fV ts (ts.length-1)).map (·.1) :=
  List.Perm.eq_of_pairwise (le:=(· < ·)) (λa b _ _ (l:a<b) (l':b<a)=>by omega) h1 up ((List.perm_ext_iff_of_nodup (nd h1) (nd up)).mpr hm)
 rw[e] at h3
 exact GH C K h4 hz h3
end
end K23
namespace K23
theorem vE {α:Type} (a b:α):∀L:List α,L.length % 2=0->fA (L++[a,b])=fA L++[(a,b)]
 | [],_=>rfl
 | [x],h=>by simp at h
 | x::y::r,h=>by
  show (x,y)::fA (r++[a,b])=(x,y)::(fA r++[(a,b)])
  rw[vE a b r (by simp at h;omega)]
theorem sW {α:Type} (f:Nat->α):∀n:Nat,fA ((List.range (2*n)).map f)=(List.range n).map λi=>(f (2*i),f (2*i+1))
 | 0=>rfl
 | n+1=>by
  rw[show 2*(n+1)=(2*n+1)+1 by omega,List.range_succ,List.range_succ,List.range_succ,List.map_append,List.map_append,List.map_append,List.append_assoc]
  show fA ((List.range (2*n)).map f++[f (2*n),f (2*n+1)])=_
  rw[vE _ _ _ (by simp),sW f n];rfl
theorem GS {hss:List (List Int)} {z:Nat} (h:z<hss.length):hss[z]? = some (hss.getD z []):=by rw[List.getD_eq_getElem?_getD,List.getElem?_eq_getElem h];rfl
theorem CA {ts:List Int} {hss:List (List Int)} {n:Nat} (C:Curves ts hss n) {z j:Nat} (hz:z<ts.length) (hj:j<2*n):(hss.getD z [])[j]? = some (Hh hss z j):=by
 have hl:=C.len
 have:=C.each _ (List.mem_of_getElem? (GS (hss:=hss) (z:=z) (by omega)))
 unfold Hh
 rw[List.getD_eq_getElem?_getD (l:=hss.getD z []),List.getElem?_eq_getElem (by omega)];rfl
noncomputable def pr2 (ts:List Int) (hss:List (List Int)) (z:Nat) (k:Int) (i:Nat):IP × IP:=(hp ts hss z k (2*i),hp ts hss z k (2*i+1))
noncomputable def kp (ts:List Int) (hss:List (List Int)) (z:Nat) (k:Int) (i:Nat):List (IP × IP):=((List.range i).map (pr2 ts hss z k)).filter λz=>decide (z.1≠z.2)
theorem PU (ts:List Int) (hss:List (List Int)) (z:Nat) (k:Int) (n:Nat):kept (LL ts hss n z k)=kp ts hss z k n:=by
 unfold kept LL kp
 rw[sW];rfl
theorem LZ (ts:List Int) (hss:List (List Int)) (z:Nat) (k:Int) (i:Nat):kp ts hss z k (i+1)=kp ts hss z k i++[pr2 ts hss z k i].filter λz=>decide (z.1≠z.2):=by
 unfold kp
 rw[List.range_succ,List.map_append,List.filter_append];rfl
end K23
namespace K23
theorem xM {ts:List Int} {hss:List (List Int)} {n j k:Nat} (C:Curves ts hss n) (hj:j<2*n) (hk:k<ts.length) {Q:D->Prop} (q:Q (pt (fZ ts hss j k))) :
  dIx (il ts) (.int (0+(k:Int))) λd=>dIx (ill hss) (.int (0+(k:Int))) λd1=>dIx d1 (.int (j:Int)) λd2=>Q (.tup [d,d2]):=by
 have e:(0:Int)+(k:Int)=(k:Int):=by omega
 have hl:=C.len
 rw[e]
 exact CQ (mT hk) (PH (GS (by omega)) (CQ (CA C hk hj) q))
end K23
namespace K23
noncomputable def idx (nb:Bool) (n k:Nat):List Nat:=((List.range k).map λi=>if nb then [i,2*n-1-i] else [2*i,2*i+1]).flatten
theorem IK (nb:Bool) (n k:Nat):idx nb n (k+1)=idx nb n k++(if nb then [k,2*n-1-k] else [2*k,2*k+1]):=by
 unfold idx
 rw[List.range_succ,List.map_append,List.flatten_append];simp
theorem LT (nb:Bool) {n:Nat} (h:1<=n/\n<=3):(idx nb n n).Perm (List.range (2*n)):=by
 have:n=1\/n=2\/n=3:=by omega
 cases nb <;> rcases this with rfl | rfl | rfl <;> decide
end K23
namespace K23
theorem oG {f:D->D->Option Bool}:∀(xs:List D),(∀x∈xs,f x x=some true)->eqL f xs xs=some true
 | [],_=>rfl
 | x::xs,h=>by
  simp only[eqL,h x (by simp),oG xs λy hy=>h y (by simp[hy])]
  rfl
theorem NV (n:Nat) (i:Int):eqF (n+1) (.int i) (.int i)=some true:=by simp[eqF]
theorem yQ {xs:List D} {Q:D->Prop} (h:eqL (eqF 5) xs xs=some true) (q:Q (.bl false)):EK (.lst xs) (.lst xs) Q:=by
 unfold EK
 simp only[h]
 exact⟨trivial,q⟩
theorem wZ:BandsIn [] 0:=⟨⟨by decide,(λg h=>by cases h),(λs h=>by cases h)⟩,(λs h=>by cases h),λc hc=>by obtain⟨s,h,_⟩:=hc;cases h⟩
theorem EA {cs:List Int} {rows:List D} (h2:∀c,c∈cs↔∃s∈bC [],cov c s=true) (h3:AllB (bC []) cs rows):rows=[]:=by
 cases h3 with
 | nil=>rfl
 | @cons c B M r rows cs h t =>
  obtain⟨s,hs,_⟩:=(h2 c).mp (.head _)
  cases hs
end K23
namespace K22
noncomputable abbrev ck (p:IP):List Int:=[p.1,p.2]
noncomputable abbrev frP (p:IP):D:=.tup [.int p.1,.int p.2]
noncomputable def one (u p:IP):Int:=if u=p then 1 else 0
theorem HF {p q:IP} (h:ck p=ck q):p=q:=by
 injection h with h1 h2
 injection h2 with h2 _
 exact Prod.ext h1 h2
theorem AH {p:IP} {kl:List IP}:ck p∈kl.map ck↔p∈kl:=by
 constructor
 ·intro h
  obtain⟨q,hq,e⟩:=List.mem_map.mp h
  rw[<-HF e];exact hq
 ·exact λh=>List.mem_map.mpr ⟨p,h,rfl⟩
structure Cts (L:List IP) (ks:List (List Int)) (xs:List D) (c:IP->Int):Prop where
 ex:∃kl:List IP,ks=kl.map ck/\xs=kl.map (λp=>D.int (c p))/\kl.Nodup/\(∀p∈kl,p∈L)/\∀p,p ∉ kl->c p=0
variable {L:List IP} {ks:List (List Int)} {xs:List D} {c c':IP->Int}
theorem Cts.mono (h:Cts L ks xs c) (e:∀p,c p=c' p):Cts L ks xs c':=by rw[<-funext e];exact h
structure LOk (L:List IP):Prop where
 len:L.length<=24
 each:∀p∈L,0<p.2/\p.2<=40/\Int.gcd p.1 p.2=1/\BL 250 p.1
noncomputable def ltR (p q:IP):Prop:=p.1*q.2<q.1*p.2
theorem ltR.ne {p q:IP} (h:ltR p q):p≠q:=λe=>by subst e;exact absurd h (Int.lt_irrefl _)
noncomputable def F_lowm:FD:=λds Q=>∃ws:List Int,ds=[il ws]/\ws.length<=24/\(∀w∈ws,0<w/\w<=40)/\∀B,0<B->(∀w∈ws,w∣B)->BL 140 B->Q (.int B)
theorem len_lowm:∀ds Q,F_lowm ds Q->ds.length=1:=by rintro ds Q ⟨_,rfl,_⟩;rfl
theorem pure_lowest_multiple:∀ds Q,F_lowm ds Q->bA qW { nx:=λ_=>Q .non,rt:=Q } (aM ["numbers","multiple","number"] ds):=by
 rintro ds Q ⟨ws,rfl,hl,hw,q⟩
 rw[aS 2 rfl]
 unfold bA
 refine aO (λρ=>ρ=[some (.d (il ws)),some (.d (.int 1)),none]) (λK hK=>?_) ?_
 ·walk_at "rd"
  exact hK _ rfl
 rintro ρ rfl
 refine aO (λρ=>∃(B:Int) (u:Option S),(0<B/\(∀w∈ws,w∣B)/\B<=((40 ^ 24:Nat):Int))/\ρ=[some (.d (il ws)),some (.d (.int B)),u]) (λK hK=>?_) ?_
 ·simp only[cH,riL,aN,List.getElem?_cons_zero]
  refine cB (λxs ρ=>∃done todo:List Int,ws=done++todo/\xs=todo.map .int/\∃(B:Int) (u:Option S),(0<B/\(∀w∈done,w∣B)/\B<=((40 ^ done.length:Nat):Int))/\ρ=[some (.d (il ws)),some (.d (.int B)),u]) ?_ ?_ _ _ ⟨[],ws,rfl,rfl,1,none,⟨by decide,(λw h=>by cases h),by decide⟩,rfl⟩
  ·rintro x xs ρ ⟨done,todo,e,exs,B,u,⟨h1,h2,h3⟩,rfl⟩ F hr hb hn hc
   cases todo with
   | nil=>cases exs
   | cons w todo =>
    rw[List.map_cons] at exs
    injection exs with ex exs
    subst ex exs
    obtain⟨w0,w5⟩:=hw w (by rw[e];exact List.mem_append_right _ (.head _))
    have dl:done.length<=23:=by rw[e] at hl;simp at hl;omega
    have pw:((40 ^ done.length:Nat):Int)<=((40 ^ 23:Nat):Int):=Int.ofNat_le.mpr (Nat.pow_le_pow_right (by decide) dl)
    have bB:BL 140 B:=BL.of_lt (by omega) (Int.lt_of_le_of_lt (Int.le_trans h3 pw) (by decide))
    have bw:BL 140 w:=BL.of_lt (by omega) (Int.lt_of_le_of_lt w5 (by decide))
    unfold cD
    simp only[aP,bH,aV,aB,aH,aN,List.getElem?_cons_zero,List.getElem?_cons_succ,List.set_cons_zero,List.set_cons_succ]
    refine⟨B,w,rfl,⟨h1,w0⟩,⟨bB.mono (by decide),bw.mono (by decide)⟩,λl l0 d1 d2 le=>?_⟩
    refine hn _ ⟨done++[w],todo,by rw[e];simp,rfl,l,some (.d (.int w)),⟨l0,λv hv=>?_,?_⟩,rfl⟩
    ·rcases List.mem_append.mp hv with hv | hv
     ·exact Int.dvd_trans (h2 v hv) d1
     ·rw[List.mem_singleton.mp hv];exact d2
    ·rw[List.length_append,List.length_singleton,Nat.pow_succ,Int.natCast_mul]
     have k1:=Int.mul_le_mul_of_nonneg_right h3 (Int.le_of_lt w0)
     have k2:=Int.mul_le_mul_of_nonneg_left w5 (Int.natCast_nonneg (40 ^ done.length))
     exact Int.le_trans le (Int.le_trans k1 k2)
  ·rintro ρ ⟨done,todo,e,exs,B,u,⟨h1,h2,h3⟩,rfl⟩
   have:todo=[]:=by cases todo with | nil=>rfl | cons _ _=>cases exs
   subst this
   rw[List.append_nil] at e
   subst e
   exact hK _ ⟨B,u,⟨h1,h2,Int.le_trans h3 (Int.ofNat_le.mpr (Nat.pow_le_pow_right (by decide) hl))⟩,rfl⟩
 rintro ρ ⟨B,u,⟨h1,h2,h3⟩,rfl⟩
 walk_at "rd"
 exact q B h1 h2 (BL.of_lt (by omega) (Int.lt_of_le_of_lt h3 (by decide)))
theorem AW {B:Int} {p q:IP} (B0:0<B) (hp:0<p.2) (hq:0<q.2) (gp:Int.gcd p.1 p.2=1) (gq:Int.gcd q.1 q.2=1) (dp:p.2∣B) (dq:q.2∣B) (ne:p≠q) (h:p.1*B.fdiv p.2<=q.1*B.fdiv q.2):ltR p q:=by
 obtain⟨m,em⟩:=dp
 obtain⟨n,en⟩:=dq
 have e1:B.fdiv p.2=m:=by rw[em,Int.mul_fdiv_cancel_left _ (by omega)]
 have e2:B.fdiv q.2=n:=by rw[en,Int.mul_fdiv_cancel_left _ (by omega)]
 rw[e1,e2] at h
 have h2:=Int.mul_le_mul_of_nonneg_right h (Int.le_of_lt (Int.mul_pos hp hq))
 have h3:p.1*m*(p.2*q.2)=p.1*q.2*B:=by rw[em];grind
 have h4:q.1*n*(p.2*q.2)=q.1*p.2*B:=by rw[en];grind
 rw[h3,h4] at h2
 have h5:=Int.le_of_mul_le_mul_right h2 B0
 refine Int.lt_iff_le_and_ne.mpr ⟨h5,λe=>ne ?_⟩
 have l1:Low p.1 p.2 p.1 p.2:=wB hp hp gp rfl
 have l2:Low p.1 p.2 q.1 q.2:=wB hp hq gq e.symm
 obtain⟨a,b⟩:=K12.low_eq hp l1 l2
 exact Prod.ext a b
noncomputable def F_rising:FD:=λds Q=>∃(L kl:List IP),ds=[.lst (kl.map frP)]/\(LOk L/\kl.Nodup/\∀p∈kl,p∈L)/\∀gs:List IP,gs.Perm kl->gs.Pairwise ltR->Q (.lst (gs.map frP))
theorem len_rising:∀ds Q,F_rising ds Q->ds.length=1:=by rintro ds Q ⟨_,_,rfl,_⟩;rfl
theorem tQ {G:FD} (hG:∀ds Q,F_lowm ds Q->G ds Q):∀ds Q,F_rising ds Q->iY G { nx:=λ_=>Q .non,rt:=Q } (aM ["ones","bottom"] ds):=by
 rintro ds Q ⟨L,kl,rfl,⟨lok,nd,sub⟩,q⟩
 rw[aS 1 rfl]
 unfold iY
 simp only[cX,zD,List.map_cons,List.map_nil,List.cons_append,List.nil_append]
 have kl24:kl.length<=24:=Nat.le_trans (lB kl L nd sub) lok.len
 refine aO (λρ=>∃B:Int,(0<B/\(∀p∈kl,p.2∣B)/\BL 140 B)/\ρ=[some (.d (.lst (kl.map frP))),some (.d (.int B))]) (λK hK=>?_) ?_
 ·walk_at "rd"
  refine⟨bY (by rw[List.length_map];omega),?_⟩
  refine eN (λρ=>∃u,ρ=[u]) frP (λp=>D.int p.2) kl ?_ ⟨_,rfl⟩ ?_
  ·rintro p hp ρ ⟨u,rfl⟩ K' hK'
   walk_at "rd"
   exact hK' _ ⟨_,rfl⟩
  ·refine hG _ _ ⟨kl.map (·.2),by show _=[D.lst (List.map D.int (List.map (·.2) kl))];rw[List.map_map];rfl,by rw[List.length_map];exact kl24,λw hw=>?_,λB B0 dv bB=>?_⟩
   ·obtain⟨p,hp,rfl⟩:=List.mem_map.mp hw
    have:=lok.each p (sub p hp)
    exact⟨this.1,this.2.1⟩
   ·exact hK _ ⟨B,⟨B0,λp hp=>dv _ (List.mem_map_of_mem hp),bB⟩,rfl⟩
 rintro ρ ⟨B,⟨B0,dv,bB⟩,rfl⟩
 simp only[bO,wN,aD,List.getElem?_cons_zero,List.getElem?_cons_succ,L2.R2.S.val]
 refine⟨B,kl,rfl,rfl,by omega,λf hf=>?_,λgs pm pw=>q gs pm ?_⟩
 ·obtain⟨f0,f1,f2,f3⟩:=lok.each f (sub f hf)
  exact⟨((BL.of_lt (m:=10) (by omega) (Int.lt_of_le_of_lt f1 (by decide))).mono (by decide)).divOk (by omega),f3.mulOk (bB.fdiv)⟩
 ·have ndg:gs.Nodup:=pm.nodup_iff.mpr nd
  refine List.Pairwise.imp_of_mem (λ{a b} ha hb h=>?_) (List.pairwise_and_iff.mpr ⟨ndg,pw⟩)
  have ka:=pm.mem_iff.mp ha
  have kb:=pm.mem_iff.mp hb
  have xa:=lok.each a (sub a ka)
  have xb:=lok.each b (sub b kb)
  exact AW B0 xa.1 xb.1 xa.2.2.1 xb.2.2.1 (dv a ka) (dv b kb) h.1 h.2
end K22
namespace K22
variable {L:List IP} {ks:List (List Int)} {xs:List D} {c c':IP->Int}
structure RowS (r:D) (u l:IP):Prop where
 ex:∃(row:Row) (W a b c d:Int),r=KF row/\(0<W/\BL 400 W)/\RowV W row a b c d/\Low (d-c) W u.1 u.2/\Low (b-a) W l.1 l.2
noncomputable def F_lslope:FD:=λds Q=>∃(r:D) (u l:IP),ds=[r]/\RowS r u l/\Q (frP l)
noncomputable def F_uslope:FD:=λds Q=>∃(r:D) (u l:IP),ds=[r]/\RowS r u l/\Q (frP u)
theorem len_lslope:∀ds Q,F_lslope ds Q->ds.length=1:=by rintro ds Q ⟨_,_,_,rfl,_⟩;rfl
theorem len_uslope:∀ds Q,F_uslope ds Q->ds.length=1:=by rintro ds Q ⟨_,_,_,rfl,_⟩;rfl
theorem pure_lower_slope:∀ds Q,F_lslope ds Q->eX bQ { nx:=λ_=>Q .non,rt:=Q } (aM ["row"] ds):=by
 rintro ds Q ⟨r,u,l,rfl,⟨row,M,a,b,c,d,rfl,⟨hM,bM⟩,V,lu,ll⟩,q⟩
 rw[aS 0 rfl]
 unfold eX
 walk_at "rd"
 have x1:=V.l1.bl V.bb bM
 have x2:=V.l0.bl V.ba bM
 refine⟨_,_,_,_,rfl,⟨V.l1.pos,V.l0.pos⟩,⟨x1.1.mono (by decide),x1.2.mono (by decide),x2.1.mono (by decide),x2.2.mono (by decide)⟩,λp q' L=>?_⟩
 obtain⟨e1,e2⟩:=K12.low_eq hM (V.l1.minus hM V.l0 L) ll
 rw[e1,e2];exact q
theorem pure_upper_slope:∀ds Q,F_uslope ds Q->eY bQ { nx:=λ_=>Q .non,rt:=Q } (aM ["row"] ds):=by
 rintro ds Q ⟨r,u,l,rfl,⟨row,M,a,b,c,d,rfl,⟨hM,bM⟩,V,lu,ll⟩,q⟩
 rw[aS 0 rfl]
 unfold eY
 walk_at "rd"
 refine CJ (gC (j:=4) rfl) (CJ (gC (j:=3) rfl) ?_)
 have x1:=V.u1.bl V.bd bM
 have x2:=V.u0.bl V.bc bM
 refine⟨_,_,_,_,rfl,⟨V.u1.pos,V.u0.pos⟩,⟨x1.1.mono (by decide),x1.2.mono (by decide),x2.1.mono (by decide),x2.2.mono (by decide)⟩,λp q' L=>?_⟩
 obtain⟨e1,e2⟩:=K12.low_eq hM (V.u1.minus hM V.u0 L) lu
 rw[e1,e2];exact q
noncomputable abbrev jB:=D × IP × IP
noncomputable def EsOk (L:List IP) (es:List jB):Prop:=∀e∈es,RowS e.1 e.2.1 e.2.2/\e.2.1∈L/\e.2.2∈L
noncomputable def cOf (p:IP):List jB->Int
 | []=>0
 | e::es=>(one e.2.1 p-one e.2.2 p)+cOf p es
theorem xF (p:IP) (e:jB):∀es,cOf p (es++[e])=cOf p es+(one e.2.1 p-one e.2.2 p)
 | []=>by show _+0=0+_;omega
 | x::es=>by show _+cOf p (es++[e])=_+cOf p es+_;rw[xF p e es];omega
end K22
namespace K22
open K23
noncomputable def nO (a b:Int):IP:=(a.fdiv (Int.gcd a b:Nat),b.fdiv (Int.gcd a b:Nat))
noncomputable def slp (ts:List Int) (hss:List (List Int)) (z j:Nat):IP:=nO (Hh hss (z+1) j-Hh hss z j) (Wd ts z)
theorem wS {ts:List Int} (hss:List (List Int)) {z:Nat} (w:0<Wd ts z) (j:Nat):Low (Hh hss (z+1) j-Hh hss z j) (Wd ts z) (slp ts hss z j).1 (slp ts hss z j).2:=dR w
noncomputable def SL (ts:List Int) (hss:List (List Int)) (n:Nat):List IP:=(List.range (ts.length-1)).flatMap λz=>(List.range (2*n)).map (slp ts hss z)
theorem DN {ts:List Int} {hss:List (List Int)} {n:Nat} (C:Curves ts hss n) {z j:Nat} (hz:z+1<ts.length) (hj:j<2*n):slp ts hss z j∈SL ts hss n :=
 List.mem_flatMap.mpr ⟨z,List.mem_range.mpr (by omega),List.mem_map.mpr ⟨j,List.mem_range.mpr hj,rfl⟩⟩
theorem DY {ts:List Int} {hss:List (List Int)} {n:Nat} (C:Curves ts hss n) {z j:Nat} (hz:z<ts.length) (hj:j<2*n):BL 210 (Hh hss z j):=by
 have hl:=C.len
 exact C.bl _ (List.mem_of_getElem? (GS (hss:=hss) (z:=z) (by omega))) _ (List.mem_of_getElem? (CA C hz hj))
theorem flat_len {α β:Type} (f:α->List β) (m:Nat):∀l:List α,(∀x∈l,(f x).length=m)->(l.flatMap f).length=l.length*m
 | [],_=>by simp
 | x::l,h=>by
  rw[List.flatMap_cons,List.length_append,flat_len f m l λy hy=>h y (.tail _ hy),h x (.head _),List.length_cons,Nat.add_mul,Nat.one_mul,Nat.add_comm]
theorem RW {ts:List Int} {hss:List (List Int)} {n:Nat} (C:Curves ts hss n):LOk (SL ts hss n):=by
 have tl:=C.thr.len
 have nn:=C.n1
 refine⟨?_,λp hp=>?_⟩
 ·unfold SL
  rw[flat_len _ (2*n) _ λx _=>by rw[List.length_map,List.length_range],List.length_range]
  exact Nat.le_trans (Nat.mul_le_mul (show ts.length-1<=4 by omega) (show 2*n<=6 by omega)) (by decide)
 ·obtain⟨z,hz,hp⟩:=List.mem_flatMap.mp hp
  obtain⟨j,hj,rfl⟩:=List.mem_map.mp hp
  have hz:=List.mem_range.mp hz
  have hj:=List.mem_range.mp hj
  obtain⟨w0,w1⟩:=jC C (z:=z) (by omega)
  have l:=wS hss w0 j
  have b1:=DY C (z:=z+1) (j:=j) (by omega) hj
  have b0:=DY C (z:=z) (j:=j) (by omega) hj
  have:=l.leb
  have:=l.pos
  exact⟨l.pos,by omega,l.cop,((b1.sub b0).le l.lea).mono (by decide)⟩
noncomputable def IM (ts:List Int) (hss:List (List Int)) (z:Nat):Nat->IP->Int
 | 0,_=>0
 | i+1,p=>IM ts hss z i p+(one (slp ts hss z (2*i+1)) p-one (slp ts hss z (2*i)) p)
noncomputable def zs (ts:List Int) (hss:List (List Int)) (n:Nat):Nat->IP->Int
 | 0,_=>0
 | z+1,p=>zs ts hss n z p+Wd ts z*IM ts hss z n p
end K22
namespace K22
open K23
variable {L:List IP} {ks:List (List Int)} {xs:List D} {c c':IP->Int}
theorem KH {α:Type} [DecidableEq α] {l m:List α} (hl:l.Nodup) (hm:m.Nodup) (h:∀x,x∈l↔x∈m):l.length=m.length :=
 Nat.le_antisymm (lB l m hl λx hx=>(h x).mp hx) (lB m l hm λx hx=>(h x).mpr hx)
end K22
namespace K22
open K23
theorem IF (n:Nat) (p q:Int):eqF (n+2) (fr p q) (fr p q)=some true:=by
 show eqL (eqF (n+1)) _ _=_
 refine oG _ λx hx=>?_
 simp only[List.mem_cons,List.not_mem_nil,or_false] at hx
 rcases hx with rfl | rfl <;> exact NV n _
theorem LR (n:Nat) (r:Row):eqF (n+3) (KF r) (KF r)=some true:=by
 show eqL (eqF (n+2)) _ _=_
 refine oG _ λx hx=>?_
 simp only[List.mem_cons,List.not_mem_nil,or_false] at hx
 rcases hx with rfl | rfl | rfl | rfl | rfl
 ·exact NV _ _
 all_goals exact IF n _ _
end K22
namespace K23
theorem pure_bandsN:∀ds Q,F_bands ds Q->nV F_colB F_byCol { nx:=λ_=>Q .non,rt:=Q } (aM ["rings","columns","rows","column"] ds):=by
 rintro ds Q ⟨R,o,rfl,ok,q⟩
 rw[aS 3 rfl]
 unfold nV
 refine aO (λρ=>∃ks xs,ColOf (bC R) ks xs/\ρ=[some (.d (fS R)),some (.d (.dct ks xs)),none,none]) (λK hK=>?_) ?_
 ·simp only[bH,aV,aB,aH,aN,cX,BJ,List.map_cons,List.map_nil,List.cons_append,List.nil_append,List.getElem?_cons_zero,List.getElem?_cons_succ,List.set_cons_zero,List.set_cons_succ]
  exact⟨R,rfl,ok.rgs,λks xs h=>hK _ ⟨ks,xs,h,rfl⟩⟩
 rintro ρ ⟨ks,xs,co,rfl⟩
 have kl:ks.length<=60:=JC (o:=o) co.nodup λc hc=>by
  obtain⟨s,hs,k⟩:=(co.mem c).mp hc
  have:=ok.near s hs
  have:=kR.mp k
  omega
 refine aO (λρ=>ρ=[some (.d (fS R)),some (.d (.dct ks xs)),some (.own []),none]) (λK hK=>?_) ?_
 ·walk_at "rd"
  exact hK _ rfl
 rintro ρ rfl
 refine aO (λρ=>∃cs rows u,(cs.Perm ks/\cs.Pairwise (·<=·))/\AllB (bC R) cs rows/\ρ=[some (.d (fS R)),some (.d (.dct ks xs)),some (.own rows),u]) (λK hK=>?_) ?_
 ·simp only[cH,riL,sO,BG,aN,List.getElem?_cons_zero,List.getElem?_cons_succ]
  refine⟨ks,xs,rfl,co.len,ks,rfl,by omega,λcs pm srt=>?_⟩
  refine cB (λys ρ=>∃done todo:List Int,cs=done++todo/\ys=todo.map .int/\∃rows u,AllB (bC R) done rows/\ρ=[some (.d (fS R)),some (.d (.dct ks xs)),some (.own rows),u]) ?_ ?_ _ _ ⟨[],cs,rfl,rfl,[],none,.nil,rfl⟩
  ·rintro x ys ρ ⟨done,todo,ec,exs,rows,u,hR,rfl⟩ F hr hb hn hc
   cases todo with
   | nil=>cases exs
   | cons c todo =>
    rw[List.map_cons] at exs
    injection exs with ex exs
    subst ex exs
    have hc:c∈ks:=pm.mem_iff.mp (by rw[ec];exact List.mem_append_right _ (.head _))
    have dl:done.length<=59:=by have:=pm.length_eq;rw[ec] at this;simp at this;omega
    have sl:=ok.rgs.slen
    have rl:=hR.rlen
    have rl2:done.length*(bC R).length<=59*40:=Nat.mul_le_mul dl sl
    unfold pO
    simp only[aP,sN,aV,aB,aH,r2,LI,aN,List.getElem?_cons_zero,List.getElem?_cons_succ,List.set_cons_zero,List.set_cons_succ]
    refine⟨_,co.here c hc,_,c,rfl,ok.col c ((co.mem c).mp hc),λB M r hB=>?_⟩
    have fl:=hB.rlen
    have f2:=List.length_filter_le (cov c) (bC R)
    dsimp only
    exact⟨bY (by omega),hn _ ⟨done++[c],todo,by rw[ec];simp,rfl,rows++r,some (.d (.int c)),hR.snoc hB,rfl⟩⟩
  ·rintro ρ ⟨done,todo,ec,exs,rows,u,hR,rfl⟩
   have:todo=[]:=by cases todo with | nil=>rfl | cons _ _=>cases exs
   subst this
   rw[List.append_nil] at ec
   subst ec
   exact hK _ ⟨cs,rows,u,⟨pm,srt⟩,hR,rfl⟩
 rintro ρ ⟨cs,rows,u,⟨pm,srt⟩,hR,rfl⟩
 simp only[dJ,S.fz,bO,aN,List.getElem?_cons_zero,List.getElem?_cons_succ,List.set_cons_zero,List.set_cons_succ]
 have nd:cs.Nodup:=pm.nodup_iff.mpr co.nodup
 refine q cs rows ?_ (λc=>pm.mem_iff.trans (co.mem c)) hR
 exact (srt.and nd).imp λh=>Int.lt_iff_le_and_ne.mpr h
end K23
namespace K22
open K23
variable {ts:List Int} {hss:List (List Int)} {n:Nat}
theorem QV {W c:Int} (hW:0<W) (z:IP × IP):GT W c z (KF ⟨c,nO z.1.1 W,nO z.1.2 W,nO z.2.1 W,nO z.2.2 W⟩):=⟨_,_,_,_,_,_,_,_,⟨dR hW,dR hW,dR hW,dR hW⟩,rfl⟩
noncomputable def enT (ts:List Int) (hss:List (List Int)) (z:Nat) (k:Int) (i:Nat):jB :=
 (KF ⟨T ts z+k,nO (K23.pr2 ts hss z k i).1.1 (Wd ts z),nO (K23.pr2 ts hss z k i).1.2 (Wd ts z),nO (K23.pr2 ts hss z k i).2.1 (Wd ts z),nO (K23.pr2 ts hss z k i).2.2 (Wd ts z)⟩,slp ts hss z (2*i+1),slp ts hss z (2*i))
noncomputable def ez (ts:List Int) (hss:List (List Int)) (z:Nat) (k:Int):Nat->List jB
 | 0=>[]
 | i+1=>ez ts hss z k i++if (K23.pr2 ts hss z k i).1=(K23.pr2 ts hss z k i).2 then [] else [enT ts hss z k i]
theorem nN (W k a b:Int):lin W (k+1) a b-lin W k a b=b-a:=by unfold lin;grind
theorem OZ (C:Curves ts hss n) {z i:Nat} {k:Int} (hz:z+1<ts.length) (hi:i<n) (k0:0<=k) (k1:k+1<=Wd ts z):RowS (enT ts hss z k i).1 (slp ts hss z (2*i+1)) (slp ts hss z (2*i)):=by
 obtain⟨w0,w1⟩:=jC C hz
 have ba0:=DY C (z:=z) (j:=2*i) (by omega) (by omega)
 have ba1:=DY C (z:=z) (j:=2*i+1) (by omega) (by omega)
 have bb0:=DY C (z:=z+1) (j:=2*i) (by omega) (by omega)
 have bb1:=DY C (z:=z+1) (j:=2*i+1) (by omega) (by omega)
 have kl:∀{j:Int} {a b:Int},0<=j->j<=40->BL 210 a->BL 210 b->BL 400 (lin (Wd ts z) j a b):=λ{j a b} j0 j1 ha hb =>
  ((ha.mul (n:=10) (BL.of_lt (by omega) (by omega))).add (hb.mul (n:=10) (BL.of_lt (by omega) (by omega)))).mono (by decide)
 refine⟨_,Wd ts z,_,_,_,_,rfl,⟨w0,(BL.of_lt (m:=10) (by omega) (by omega)).mono (by decide)⟩,⟨dR w0,dR w0,dR w0,dR w0,?_,?_,?_,?_⟩,?_,?_⟩
 ·exact kl k0 (by omega) ba0 bb0
 ·exact kl (by omega) (by omega) ba0 bb0
 ·exact kl k0 (by omega) ba1 bb1
 ·exact kl (by omega) (by omega) ba1 bb1
 ·have:=wS hss w0 (2*i+1)
  rw[<-nN (Wd ts z) k] at this
  exact this
 ·have:=wS hss w0 (2*i)
  rw[<-nN (Wd ts z) k] at this
  exact this
theorem NW (C:Curves ts hss n) {z:Nat} {k:Int} (hz:z+1<ts.length) (k0:0<=k) (k1:k+1<=Wd ts z):∀i,i<=n->RowsOf (Wd ts z) (T ts z+k) (kp ts hss z k i) ((ez ts hss z k i).map (·.1))/\EsOk (SL ts hss n) (ez ts hss z k i)/\(∀p,cOf p (ez ts hss z k i)=IM ts hss z i p)/\(ez ts hss z k i).length<=i
 | 0,_=>⟨.nil,(λe h=>by cases h),λ_=>rfl,Nat.le_refl _⟩
 | i+1,hi=>by
  obtain⟨h1,h2,h3,h4⟩:=NW C hz k0 k1 i (by omega)
  obtain⟨w0,_⟩:=jC C hz
  rw[LZ]
  unfold ez
  by_cases e:(K23.pr2 ts hss z k i).1=(K23.pr2 ts hss z k i).2
  ·rw[if_pos e,List.append_nil]
   refine⟨by rw[show [K23.pr2 ts hss z k i].filter (λz=>decide (z.1≠z.2))=[] by simp[e],List.append_nil];exact h1,h2,λp=>?_,by omega⟩
   have q0:lin (Wd ts z) k (Hh hss z (2*i)) (Hh hss (z+1) (2*i))=lin (Wd ts z) k (Hh hss z (2*i+1)) (Hh hss (z+1) (2*i+1)):=congrArg Prod.fst e
   have q1:lin (Wd ts z) (k+1) (Hh hss z (2*i)) (Hh hss (z+1) (2*i))=lin (Wd ts z) (k+1) (Hh hss z (2*i+1)) (Hh hss (z+1) (2*i+1)):=congrArg Prod.snd e
   have l1:=nN (Wd ts z) k (Hh hss z (2*i)) (Hh hss (z+1) (2*i))
   have l2:=nN (Wd ts z) k (Hh hss z (2*i+1)) (Hh hss (z+1) (2*i+1))
   have e2:slp ts hss z (2*i)=slp ts hss z (2*i+1):=by
    unfold slp
    rw[show Hh hss (z+1) (2*i)-Hh hss z (2*i)=Hh hss (z+1) (2*i+1)-Hh hss z (2*i+1) by omega]
   show _=IM ts hss z i p+(one (slp ts hss z (2*i+1)) p-one (slp ts hss z (2*i)) p)
   rw[h3,e2];omega
  ·rw[if_neg e]
   refine⟨?_,λx hx=>?_,λp=>?_,by rw[List.length_append,List.length_singleton];omega⟩
   ·rw[show [K23.pr2 ts hss z k i].filter (λz=>decide (z.1≠z.2))=[K23.pr2 ts hss z k i] by simp[e],List.map_append]
    exact h1.snoc (QV w0 _)
   ·rcases List.mem_append.mp hx with h | h
    ·exact h2 x h
    ·rw[List.mem_singleton.mp h]
     exact⟨OZ C hz (by omega) k0 k1,DN C hz (by omega),DN C hz (by omega)⟩
   ·rw[xF,h3];rfl
theorem vL (p:IP):∀a b:List jB,cOf p (a++b)=cOf p a+cOf p b
 | [],b=>by show cOf p b=0+cOf p b;omega
 | x::a,b=>by show _+cOf p (a++b)=_+cOf p a+_;rw[vL p a b];omega
theorem EsOk.app {L:List IP} {a b:List jB} (h1:EsOk L a) (h2:EsOk L b):EsOk L (a++b):=λe h=>by
 rcases List.mem_append.mp h with h | h
 ·exact h1 e h
 ·exact h2 e h
theorem DV (C:Curves ts hss n) {z:Nat} (hz:z+1<ts.length):∀m:Nat,(m:Int)<=Wd ts z->∃es,LB ts hss n (rH ts z m) (es.map (·.1))/\EsOk (SL ts hss n) es/\(∀p,cOf p es=m*IM ts hss z n p)/\es.length<=n*m
 | 0,_=>⟨[],.nil,(λe h=>by cases h),λp=>by show 0=0*_;omega,Nat.zero_le _⟩
 | m+1,hm=>by
  obtain⟨es,h1,h2,h3,h4⟩:=DV C hz m (by omega)
  obtain⟨g1,g2,g3,g4⟩:=NW C (k:=(m:Int)) hz (by omega) (by omega) n (Nat.le_refl _)
  refine⟨es++ez ts hss z m n,?_,h2.app g2,λp=>?_,by rw[List.length_append,Nat.mul_add,Nat.mul_one];omega⟩
  ·rw[AI,List.map_append]
   refine h1.snoc ?_
   rw[show T ts z+(m:Int)-T ts z=(m:Int) by omega,PU]
   exact g1
  ·rw[vL,h3,g3,show ((m+1:Nat):Int)=(m:Int)+1 by omega,Int.add_mul,Int.one_mul]
theorem LB.app {cs cs':List (Int × Nat)} {r r':List D} (h:LB ts hss n cs r) (h':LB ts hss n cs' r'):LB ts hss n (cs++cs') (r++r'):=by
 induction h with
 | nil=>exact h'
 | cons a _ ih=>rw[List.append_assoc];exact .cons a ih
theorem GU (C:Curves ts hss n):∀m:Nat,m<ts.length->∃es,LB ts hss n (fV ts m) (es.map (·.1))/\EsOk (SL ts hss n) es/\(∀p,cOf p es=zs ts hss n m p)/\(es.length:Int)<=n*(T ts m-T ts 0)
 | 0,_=>⟨[],.nil,(λe h=>by cases h),λ_=>rfl,by simp⟩
 | m+1,hm=>by
  obtain⟨es,h1,h2,h3,h4⟩:=GU C m (by omega)
  obtain⟨w0,w1⟩:=jC C (z:=m) hm
  have hW:(((Wd ts m).toNat:Nat):Int)=Wd ts m:=by omega
  obtain⟨fs,g1,g2,g3,g4⟩:=DV C hm (Wd ts m).toNat (by omega)
  refine⟨es++fs,by rw[pE,List.map_append];exact LB.app h1 g1,h2.app g2,λp=>by rw[vL,h3,g3,hW];rfl,?_⟩
  have g5:(fs.length:Int)<=n*Wd ts m:=by
   have:((n*(Wd ts m).toNat:Nat):Int)=n*Wd ts m:=by rw[Int.natCast_mul,hW]
   omega
  have e:(n:Int)*(T ts (m+1)-T ts 0)=n*(T ts m-T ts 0)+n*Wd ts m:=by unfold Wd;grind
  rw[List.length_append,e]
  omega
theorem GW {R:List (List Pt)} (C:Curves ts hss n) (K:Cloth ts hss n R):∃es:List jB,(EsOk (SL ts hss n) es/\(∀p,cOf p es=zs ts hss n (ts.length-1) p)/\(es.length:Int)<=n*(T ts (ts.length-1)-T ts 0)) /\
  ∀cs rows',cs.Pairwise (· < ·)->(∀c,c∈cs↔∃s∈bC R,cov c s=true)->AllB (bC R) cs rows'->rows'=es.map (·.1):=by
 have tl:=C.thr.len
 obtain⟨es,h1,h2,h3,h4⟩:=GU C (ts.length-1) (by omega)
 exact⟨es,⟨h2,h3,h4⟩,λcs rows' a b c=>GV C K a b c h1⟩
noncomputable def F_lowmU:FD:=λds Q=>K23.F_lowm ds Q\/K22.F_lowm ds Q
theorem len_lowmU:∀ds Q,F_lowmU ds Q->ds.length=1:=λds Q h=>h.elim (K23.len_lowm ds Q) (K22.len_lowm ds Q)
theorem pure_lowmU:∀ds Q,F_lowmU ds Q->bA qW { nx:=λ_=>Q .non,rt:=Q } (aM ["numbers","multiple","number"] ds):=λds Q h=>h.elim (K23.pure_lowest_multiple ds Q) (K22.pure_lowest_multiple ds Q)
theorem pure_column_bandsU:∀ds Q,K23.F_colB ds Q->bS F_lowmU K23.F_ordH bE pD { nx:=λ_=>Q .non,rt:=Q } (aM ["sides","column","bottom","heights","rows","low","up","edges"] ds):=K23.pure_column_bands_G λ_ _ h=>.inl h
theorem pure_risingU:∀ds Q,F_rising ds Q->iY F_lowmU { nx:=λ_=>Q .non,rt:=Q } (aM ["ones","bottom"] ds):=tQ λ_ _ h=>.inr h
end K22
namespace K31
open K22 K23
noncomputable def sls (es:List jB):List IP:=es.flatMap λe=>[e.2.2,e.2.1]
theorem zM (es:List jB) (e:jB):sls (es++[e])=sls es++[e.2.2,e.2.1]:=by unfold sls;rw[List.flatMap_append];simp
theorem NF (a b:List jB):sls (a++b)=sls a++sls b:=by unfold sls;rw[List.flatMap_append]
theorem qV:∀es:List jB,(sls es).length=2*es.length
 | []=>rfl
 | e::es=>by
  have:=qV es
  unfold sls at *
  rw[List.flatMap_cons,List.length_append,this]
  show 2+2*es.length=2*(es.length+1);omega
theorem wT {L:List IP} {es:List jB} (h:K22.EsOk L es):∀p∈sls es,p∈L:=λp hp=>by
 obtain⟨e,he,hp⟩:=List.mem_flatMap.mp hp
 obtain⟨_,h1,h2⟩:=h e he
 simp only[List.mem_cons,List.not_mem_nil,or_false] at hp
 rcases hp with rfl | rfl
 ·exact h2
 ·exact h1
noncomputable def qX (kl:List IP) (p:IP):List IP:=if p∈kl then kl else kl++[p]
theorem CC (kl:List IP) (p:IP):sY (kl.map ck) (ck p)=(qX kl p).map ck:=by
 unfold sY qX
 by_cases h:p∈kl
 ·rw[if_pos (AH.mpr h),if_pos h]
 ·rw[if_neg λz=>h (AH.mp z),if_neg h,List.map_append];rfl
theorem wW {kl:List IP} {p q:IP}:q∈qX kl p↔q∈kl\/q=p:=by
 unfold qX
 split
 ·rename_i h
  exact⟨.inl,λz=>z.elim id λe=>e ▸ h⟩
 ·rw[List.mem_append,List.mem_singleton]
theorem qY {kl:List IP} {p:IP} (h:kl.Nodup):(qX kl p).Nodup:=by
 unfold qX
 split
 ·exact h
 ·rename_i n
  exact List.nodup_append.mpr ⟨h,by simp,λa ha b hb e=>n (by rw[List.mem_singleton.mp hb] at e;exact e ▸ ha)⟩
structure KsT (es:List jB) (ks:List (List Int)):Prop where
 ex:∃kl:List IP,ks=kl.map ck/\kl.Nodup/\∀p,p∈kl↔p∈sls es
noncomputable def qK:FD:=λds Q=>∃(L:List IP) (a b:List jB),ds=[.lst (a.map (·.1)),.lst (b.map (·.1))]/\(LOk L/\K22.EsOk L a/\K22.EsOk L b/\a.length<=1000/\b.length<=1000)/\∀gs:List IP,gs.Pairwise ltR->(∀p,p∈gs↔p∈sls a\/p∈sls b)->Q (.lst (gs.map frP))
theorem FF:∀ds Q,qK ds Q->ds.length=2:=by rintro ds Q ⟨_,_,_,rfl,_⟩;rfl
theorem tP:∀ds Q,qK ds Q->hX F_lslope F_rising F_uslope { nx:=λ_=>Q .non,rt:=Q } (aM ["ones","others","slopes","row"] ds):=by
 rintro ds Q ⟨L,ea,eb,rfl,⟨lok,oa,ob,la,lb⟩,q⟩
 rw[aS 2 rfl]
 unfold hX
 simp only[cX,tT,List.map_cons,List.map_nil,List.cons_append,List.nil_append]
 have ok:K22.EsOk L (ea++eb):=oa.app ob
 generalize hes:ea++eb=es at ok
 have hsl:∀p,p∈sls es↔p∈sls ea\/p∈sls eb:=λp=>by rw[<-hes,NF,List.mem_append]
 refine aO (λρ=>ρ=[some (.d (.lst (ea.map (·.1)))),some (.d (.lst (eb.map (·.1)))),some (.dt [] []),none]) (λK hK=>hK _ rfl) ?_
 rintro ρ rfl
 refine aO (λρ=>∃(ks:List (List Int)) (xs:List D) (u:Option S),KsT es ks/\ρ=[some (.d (.lst (ea.map (·.1)))),some (.d (.lst (eb.map (·.1)))),some (.dt ks xs),u]) (λK hK=>?_) ?_
 ·walk_at "rd"
  refine⟨bY (by rw[List.length_map,List.length_map];omega),?_⟩
  rw[<-List.map_append,hes]
  refine jX _ (λi ρ=>∃(ks:List (List Int)) (xs:List D) (u:Option S),KsT (es.take i) ks/\ρ=[some (.d (.lst (ea.map (·.1)))),some (.d (.lst (eb.map (·.1)))),some (.dt ks xs),u]) ?_ ?_ _ ⟨[],[],none,⟨[],rfl,.nil,λp=>Iff.rfl⟩,rfl⟩
  ·rintro i x ρ e ⟨ks,xs,u,⟨kl,rfl,nd,mem⟩,rfl⟩ F _ _ hn _
   rw[List.getElem?_map] at e
   cases er:es[i]? with
   | none=>rw[er] at e;cases e
   | some en =>
    rw[er] at e
    cases e
    obtain⟨rs,hu,hl⟩:=ok en (List.mem_of_getElem? er)
    have et:es.take (i+1)=es.take i++[en]:=by rw[List.take_succ,er];rfl
    have l24:=lok.len
    have kl24:kl.length<=L.length:=lB kl L nd λp hp=>wT (λe he=>ok e (List.mem_of_mem_take he)) p ((mem p).mp hp)
    have nd1:=qY (p:=en.2.2) nd
    unfold kG
    simp only[aP,List.set_cons_zero,List.set_cons_succ]
    refine aO (λρ=>∃xs,ρ=[some (.d (.lst (ea.map (·.1)))),some (.d (.lst (eb.map (·.1)))),some (.dt ((qX kl en.2.2).map ck) xs),some (.d en.1)]) (λK hK=>?_) ?_
    ·simp only[uU,aV,aB,aH,aN,rC,List.getElem?_cons_zero,List.getElem?_cons_succ,List.set_cons_zero,List.set_cons_succ]
     refine⟨en.1,_,_,rfl,rs,ck en.2.2,rfl,bY (by rw[List.length_map];omega),?_⟩
     rw[CC]
     exact hK _ ⟨_,rfl⟩
    rintro ρ ⟨xs1,rfl⟩
    have kl25:(qX kl en.2.2).length<=kl.length+1:=by unfold qX;split <;> simp
    simp only[uU,aV,aB,aH,aN,rC,List.getElem?_cons_zero,List.getElem?_cons_succ,List.set_cons_zero,List.set_cons_succ]
    refine⟨en.1,_,_,rfl,rs,ck en.2.1,rfl,bY (by rw[List.length_map];omega),hn _ ⟨_,_,_,⟨qX (qX kl en.2.2) en.2.1,CC _ _,qY nd1,λp=>?_⟩,rfl⟩⟩
    rw[wW,wW,et,zM,List.mem_append,mem]
    simp only[List.mem_cons,List.not_mem_nil,or_false,or_assoc]
  ·rintro ρ ⟨ks,xs,u,k,rfl⟩
   rw[List.length_map,List.take_length] at k
   exact hK _ ⟨ks,xs,u,k,rfl⟩
 rintro ρ ⟨ks,xs,u,⟨kl,rfl,nd,mem⟩,rfl⟩
 simp only[bO,aV,aB,aH,wP,List.getElem?_cons_zero,List.getElem?_cons_succ]
 refine⟨L,kl,by rw[List.map_map];rfl,⟨lok,nd,λp hp=>wT ok p ((mem p).mp hp)⟩,λgs pm pw=>q gs pw λp=>?_⟩
 rw[pm.mem_iff,mem,hsl]
noncomputable def mS:FD:=λds Q=>∃(L:List IP) (es:List jB),ds=[.lst (es.map (·.1))]/\(K22.EsOk L es/\es.length<=1000)/\Q (.lst ((sls es).map frP))
theorem AV:∀ds Q,mS ds Q->ds.length=1:=by rintro ds Q ⟨_,_,rfl,_⟩;rfl
theorem sU {M v w a b c d:Int} {l:IP} (hM:0<M) (bM:BL 400 M) (bv:BL 400 v) (bw:BL 400 w) (h1:Low v M a b) (h2:Low w M c d) (hl:Low (w-v) M l.1 l.2) {x0 x2 x3 x4 x5 x6 x7 x8:Option S} {E:DEnds} (gs:List IP) (hg:gs.length<=5000)
  (q:∀u1 u2,E.nx [x0,some (.own ((gs++[l]).map frP)),x2,x3,x4,x5,x6,some (.d (fr a b)),some (.d (fr c d)),u1,u2]):eV lJ E [x0,some (.own (gs.map frP)),x2,x3,x4,x5,x6,some (.d (fr a b)),some (.d (fr c d)),x7,x8]:=by
 have y1:=h1.bl bv bM
 have y2:=h2.bl bw bM
 have bd:0<b*d:=Int.mul_pos h1.pos h2.pos
 unfold eV
 refine aO (λρ=>ρ=[x0,some (.own (gs.map frP)),x2,x3,x4,x5,x6,some (.d (fr a b)),some (.d (fr c d)),some (.d (.int (c*b-a*d))),x8]) (λK hK=>?_) ?_
 ·walk_at "rd"
  exact⟨y2.1.mulOk y1.2,y1.1.mulOk y2.2,hK _ rfl⟩
 rintro ρ rfl
 refine aO (λρ=>ρ=[x0,some (.own (gs.map frP)),x2,x3,x4,x5,x6,some (.d (fr a b)),some (.d (fr c d)),some (.d (.int (c*b-a*d))),some (.d (.int (Int.gcd (c*b-a*d) (b*d):Nat)))]) (λK hK=>?_) ?_
 ·walk_at "rd"
  exact⟨y1.2.mulOk y2.2,_,_,rfl,hK _ rfl⟩
 rintro ρ rfl
 walk_at "rd"
 have g9:BL 9000 (Int.gcd (c*b-a*d) (b*d):Nat):=((y1.2.mul y2.2).gcd (by omega)).mono (by decide)
 have gp:=qS (a:=c*b-a*d) (b:=b*d) (by omega)
 refine⟨g9.divOk (by omega),y1.2.mulOk y2.2,g9.divOk (by omega),bY (by rw[List.length_map];omega),?_⟩
 have lo:Low (c*b-a*d) (b*d) ((c*b-a*d).fdiv (Int.gcd (c*b-a*d) (b*d):Nat)) ((b*d).fdiv (Int.gcd (c*b-a*d) (b*d):Nat)):=dR bd
 have lo':Low (c*b-a*d) (d*b) ((c*b-a*d).fdiv (Int.gcd (c*b-a*d) (b*d):Nat)) ((b*d).fdiv (Int.gcd (c*b-a*d) (b*d):Nat)):=by rw[Int.mul_comm d b];exact lo
 obtain⟨e1,e2⟩:=K12.low_eq hM (h2.minus hM h1 lo') hl
 rw[e1,e2]
 have:=q (some (.d (.int (c*b-a*d)))) (some (.d (.int (Int.gcd (c*b-a*d) (b*d):Nat))))
 rw[List.map_append] at this
 exact this
theorem qG:∀ds Q,mS ds Q->eU lJ { nx:=λ_=>Q .non,rt:=Q } (aM ["_law_rows","_law_found","_law_x","_law_low0","_law_low1","_law_up0","_law_up1","_law_one","_law_other","_law_top","_law_most"] ds):=by
 rintro ds Q ⟨L,es,rfl,⟨ok,le⟩,q⟩
 rw[aS 10 rfl]
 unfold eU
 simp only[cX,sQ,List.map_cons,List.map_nil,List.cons_append,List.nil_append]
 refine aO (λρ=>ρ=[some (.d (.lst (es.map (·.1)))),some (.own []),none,none,none,none,none,none,none,none,none]) (λK hK=>?_) ?_
 ·walk_at "rd"
  exact hK _ rfl
 rintro ρ rfl
 refine aO (λρ=>∃x2 x3 x4 x5 x6 x7 x8 x9 xa,ρ=[some (.d (.lst (es.map (·.1)))),some (.own ((sls es).map frP)),x2,x3,x4,x5,x6,x7,x8,x9,xa]) (λK hK=>?_) ?_
 ·simp only[cH,riL,aN,List.getElem?_cons_zero]
  refine jX _ (λi ρ=>∃x2 x3 x4 x5 x6 x7 x8 x9 xa,ρ=[some (.d (.lst (es.map (·.1)))),some (.own ((sls (es.take i)).map frP)),x2,x3,x4,x5,x6,x7,x8,x9,xa]) ?_ ?_ _ ⟨none,none,none,none,none,none,none,none,none,rfl⟩
  ·rintro i x ρ e ⟨x2,x3,x4,x5,x6,x7,x8,x9,xa,rfl⟩ F _ _ hn _
   rw[List.getElem?_map] at e
   cases er:es[i]? with
   | none=>rw[er] at e;cases e
   | some en =>
    rw[er] at e
    cases e
    obtain⟨⟨row,W,a,b,c,d,rr,⟨hW,bW⟩,V,lu,ll⟩,hu,hl⟩:=ok en (List.mem_of_getElem? er)
    have et:es.take (i+1)=es.take i++[en]:=by rw[List.take_succ,er];rfl
    have sl:=qV (es.take i)
    have tl:=List.length_take_le i es
    dsimp only
    rw[rr]
    simp only[fR,bP,fQ,aP,List.length_cons,List.length_nil,List.set_cons_zero,List.set_cons_succ]
    unfold hV
    simp only[cH,riL,gM,iF,aB,aH,aN,List.getElem?_cons_zero,List.getElem?_cons_succ]
    walk_at "rd"
    have le1:(sls (es.take i)).length<=4000:=by
     have:(es.take i).length<=es.length:=by rw[List.length_take];exact Nat.min_le_right ..
     omega
    simp only[tJ,fR,bP,fQ,aP,List.set_cons_zero,List.set_cons_succ,List.length_cons,List.length_nil]
    refine⟨trivial,sU hW bW V.ba V.bb V.l0 V.l1 ll (sls (es.take i)) (by omega) λu1 u2=>⟨trivial,?_⟩⟩
    simp only[List.set_cons_zero,List.set_cons_succ]
    refine sU hW bW V.bc V.bd V.u0 V.u1 lu (sls (es.take i)++[en.2.2]) (by rw[List.length_append,List.length_singleton];omega) λu3 u4=>?_
    rw[show sls (es.take i)++[en.2.2]++[en.2.1]=sls (es.take (i+1)) by rw[et,zM,List.append_assoc];rfl]
    exact hn _ ⟨_,_,_,_,_,_,_,_,_,rfl⟩
  ·rintro ρ ⟨x2,x3,x4,x5,x6,x7,x8,x9,xa,rfl⟩
   rw[List.length_map,List.take_length]
   exact hK _ ⟨x2,x3,x4,x5,x6,x7,x8,x9,xa,rfl⟩
 rintro ρ ⟨x2,x3,x4,x5,x6,x7,x8,x9,xa,rfl⟩
 simp only[dJ,S.fz,bO,aN,List.getElem?_cons_zero,List.getElem?_cons_succ,List.set_cons_zero,List.set_cons_succ]
 exact q
end K31
namespace K31
open K22 K23
noncomputable def BX:FD:=λds Q=>∃(x:Int) (m:Nat),ds=[.int x,.int m,.int 6]/\m<=20/\∀hs:List Int,hs.length=m->(∀h∈hs,0<=h/\h<=6)->hs.Pairwise (·<=·)->Q (il hs)
theorem MC:∀ds Q,BX ds Q->ds.length=3:=by rintro ds Q ⟨_,_,rfl,_⟩;rfl
theorem wJ:∀ds Q,BX ds Q->dA qJ { nx:=λ_=>Q .non,rt:=Q } (aM ["_law_number","_law_many","_law_wide","_law_found","_law_k"] ds):=by
 rintro ds Q ⟨x,m,rfl,hm,q⟩
 rw[aS 2 rfl]
 unfold dA
 simp only[cX,tT,List.map_cons,List.map_nil,List.cons_append,List.nil_append]
 refine aO (λρ=>ρ=[some (.d (.int x)),some (.d (.int m)),some (.d (.int 6)),some (.own []),none]) (λK hK=>?_) ?_
 ·walk_at "rd"
  exact hK _ rfl
 rintro ρ rfl
 refine aO (λρ=>∃(hs:List Int) (u:Option S),(hs.length=m/\∀h∈hs,0<=h/\h<=6)/\ρ=[some (.d (.int x)),some (.d (.int m)),some (.d (.int 6)),some (.own (hs.map .int)),u]) (λK hK=>?_) ?_
 ·walk_at "rd"
  refine⟨⟨by omega,by omega⟩,?_⟩
  rw[Int.toNat_natCast]
  refine lA 0 m (λi ρ=>∃(hs:List Int) (u:Option S),(hs.length=i/\∀h∈hs,0<=h/\h<=6)/\ρ=[some (.d (.int x)),some (.d (.int m)),some (.d (.int 6)),some (.own (hs.map .int)),u]) ?_ ?_ _ ⟨[],none,⟨rfl,by simp⟩,rfl⟩
  ·rintro i ρ hi ⟨hs,u,⟨h1,h2⟩,rfl⟩ F _ _ hn _
   unfold fP
   simp only[aP,List.set_cons_zero,List.set_cons_succ]
   walk_at "rd"
   refine⟨x,7,0+(i:Int),rfl,⟨by decide,BL.const (n:=9000) (by decide)⟩,⟨by omega,by omega⟩,λd d0 d1=>?_⟩
   refine⟨bY (by rw[List.length_map];omega),hn _ ⟨hs++[d],_,⟨by simp[h1],λh hh=>?_⟩,by rw[List.map_append];rfl⟩⟩
   rcases List.mem_append.mp hh with hh | hh
   ·exact h2 h hh
   ·rw[List.mem_singleton.mp hh];omega
  ·rintro ρ ⟨hs,u,h,rfl⟩
   exact hK _ ⟨hs,u,h,rfl⟩
 rintro ρ ⟨hs,u,⟨h1,h2⟩,rfl⟩
 simp only[bO,sO,aD,L2.R2.S.val,List.getElem?_cons_zero,List.getElem?_cons_succ]
 refine⟨hs,rfl,by omega,λms pm srt=>q ms (by rw[pm.length_eq,h1]) (λh hh=>h2 h (pm.mem_iff.mp hh)) srt⟩
structure Sht (ts:List Int) (hss:List (List Int)) (n:Nat) (R:List (List Pt)):Prop where
 cur:Curves ts hss n
 tl:ts.length<=3
 n2:n<=2
 lo:∀t∈ts,0<=t/\t<=6
 hi:∀hs∈hss,∀h∈hs,0<=h/\h<=6
 len:R.length=n
 each:∀g∈R,g.length<=10
 pts:∀g∈R,∀p∈g,0<=p.2/\p.2<=6
 sides:(bC R).Perm (((List.range (2*n)).map (csd ts hss)).flatten)
noncomputable def qL:FD:=λds Q=>∃xs:List Int,ds=[il xs,.int 3,.int 6]/\10<=xs.length/\∀ts hss n R,Sht ts hss n R->Q (fS R)
theorem FH:∀ds Q,qL ds Q->ds.length=3:=by rintro ds Q ⟨_,rfl,_⟩;rfl
theorem fF {xs:List Int} (h:10<=xs.length) {j:Nat} (hj:j<10) {Q:D->Prop} (q:∀v,Q (.int v)):dIx (il xs) (.int (j:Int)) Q:=CQ (List.getElem?_eq_getElem (show j<xs.length by omega)) (q _)
structure Ths (ts:List Int) (i:Nat):Prop where
 len:ts.length=i+1
 step:∀(k:Nat) a b,ts[k]? = some a->ts[k+1]? = some b->1<=b-a/\b-a<=3
 lo:∀t∈ts,0<=t/\t<=3*i
theorem Ths.thr {ts:List Int} {i:Nat} (h:Ths ts i) (hi:1<=i/\i<=2):Thr ts:=by
 refine⟨by rw[h.len];omega,λx hx=>?_,λk a b e1 e2=>by have:=h.step k a b e1 e2;omega,λx hx y hy=>by have:=h.lo x hx;have:=h.lo y hy;omega⟩
 have:=h.lo x hx
 exact (BL.of_lt (m:=10) (by omega) (by omega)).mono (by decide)
theorem sL:∀ds Q,qL ds Q->fI BX { nx:=λ_=>Q .non,rt:=Q } (aM ["_law_head","_law_most","_law_wide","_law_many","_law_xs","_law_k","_law_lines","_law_rings_here","_law_low","_law_up","_law_ring"] ds):=by
 rintro ds Q ⟨xs,rfl,hx,q⟩
 rw[aS 8 rfl]
 unfold fI
 simp only[cX,zE,List.map_cons,List.map_nil,List.cons_append,List.nil_append]
 refine aO (λρ=>∃n:Nat,(1<=n/\n<=2)/\ρ=[some (.d (il xs)),some (.d (.int 3)),some (.d (.int 6)),some (.d (.int ((2*n:Nat):Int))),none,none,none,none,none,none,none]) (λK hK=>?_) ?_
 ·walk_at "rd"
  refine fF hx (j:=0) (by decide) λv=>?_
  walk_at "rd"
  obtain⟨a0,a1⟩:=bR (a:=v) (b:=2) (by decide)
  refine⟨oQ,(BL.const (n:=20) (by decide)).mulOk (n:=20) (BL.of_lt (by omega) (by omega)),?_⟩
  have:=hK [some (.d (il xs)),some (.d (.int 3)),some (.d (.int 6)),some (.d (.int ((2*(1+v.fmod 2).toNat:Nat):Int))),none,none,none,none,none,none,none] ⟨_,⟨by omega,by omega⟩,rfl⟩
  rw[show ((2*(1+v.fmod 2).toNat:Nat):Int)=2*(1+v.fmod 2) by omega] at this
  exact this
 rintro ρ ⟨n,nn,rfl⟩
 refine aO (λρ=>ρ=[some (.d (il xs)),some (.d (.int 3)),some (.d (.int 6)),some (.d (.int ((2*n:Nat):Int))),some (.own ([0].map D.int)),none,none,none,none,none,none]) (λK hK=>?_) ?_
 ·walk_at "rd"
  exact hK _ rfl
 rintro ρ rfl
 refine aO (λρ=>∃(ts:List Int) (m:Nat) (u:Option S),(Ths ts m/\1<=m/\m<=2)/\ρ=[some (.d (il xs)),some (.d (.int 3)),some (.d (.int 6)),some (.d (.int ((2*n:Nat):Int))),some (.own (ts.map D.int)),u,none,none,none,none,none]) (λK hK=>?_) ?_
 ·walk_at "rd"
  refine fF hx (j:=1) (by decide) λv=>?_
  walk_at "rd"
  obtain⟨a0,a1⟩:=bR (a:=v) (b:=2) (by decide)
  refine⟨oQ,⟨by omega,by omega⟩,?_⟩
  have hm:((1+v.fmod 2).toNat:Int)=1+v.fmod 2:=by omega
  generalize (1+v.fmod 2).toNat=m at hm
  refine lA 0 m (λi ρ=>∃(ts:List Int) (u:Option S),Ths ts i/\ρ=[some (.d (il xs)),some (.d (.int 3)),some (.d (.int 6)),some (.d (.int ((2*n:Nat):Int))),some (.own (ts.map D.int)),u,none,none,none,none,none]) ?_ ?_ _ ⟨[0],none,⟨rfl,(λk a b e1 e2=>by simp at e2),by simp⟩,rfl⟩
  ·rintro i ρ hi ⟨ts,u,h,rfl⟩ F _ _ hn _
   unfold iX
   simp only[aP,List.set_cons_zero,List.set_cons_succ]
   walk_at "rd"
   refine PF (by intro e;have:=h.len;rw[e] at this;simp at this) λw l e=>?_
   walk_at "rd"
   refine fF hx (j:=1) (by decide) λv=>?_
   walk_at "rd"
   obtain⟨c0,c1⟩:=bR (a:=v.fdiv (2+3*(0+(i:Int)))) (b:=3) (by decide)
   generalize (v.fdiv (2+3*(0+(i:Int)))).fmod 3=y at c0 c1 ⊢
   refine⟨(BL.const (n:=20) (by decide)).mulOk (n:=20) (BL.of_lt (by omega) (by omega)),((BL.of_lt (m:=20) (by omega) (by omega)).mono (by decide)).divOk (by omega),⟨by decide⟩,bY (by have:=h.len;simp;omega),hn _ ⟨ts++[w+1+y],_,⟨by simp[h.len],λk a b e1 e2=>?_,λt ht=>?_⟩,by rw[List.map_append];rfl⟩⟩
   ·by_cases hj:k+1<ts.length
    ·rw[List.getElem?_append_left (by omega)] at e1
     rw[List.getElem?_append_left hj] at e2
     exact h.step k a b e1 e2
    ·have h2:=(List.getElem?_eq_some_iff.mp e2).1
     rw[List.length_append,List.length_singleton] at h2
     have hjl:k+1=ts.length:=by omega
     rw[List.getElem?_append_right (by omega),hjl,Nat.sub_self] at e2
     have e2:w+1+y=b:=Option.some.inj e2
     rw[List.getElem?_append_left (by omega),e] at e1
     have:k=l.length:=by have:=congrArg List.length e;simp at this;omega
     rw[this,List.getElem?_append_right (Nat.le_refl _),Nat.sub_self] at e1
     have e1:w=a:=Option.some.inj e1
     omega
   ·rcases List.mem_append.mp ht with ht | ht
    ·have:=h.lo t ht;omega
    ·have:=h.lo w (by rw[e];simp)
     rw[List.mem_singleton.mp ht];omega
  ·rintro ρ ⟨ts,u,h,rfl⟩
   exact hK _ ⟨ts,m,u,⟨h,by omega,by omega⟩,rfl⟩
 rintro ρ ⟨ts,m,u,⟨th,m1,m2⟩,rfl⟩
 have tl:=th.len
 refine aO (λρ=>∃hss:List (List Int),(hss.length=ts.length/\∀hs∈hss,hs.length=2*n/\(∀h∈hs,0<=h/\h<=6)/\hs.Pairwise (·<=·))/\ρ=[some (.d (il xs)),some (.d (.int 3)),some (.d (.int 6)),some (.d (.int ((2*n:Nat):Int))),some (.own (ts.map D.int)),u,some (.d (ill hss)),none,none,none,none]) (λK hK=>?_) ?_
 ·walk_at "rd"
  refine⟨⟨by rw[List.length_map];omega,by rw[List.length_map];omega⟩,bY (by rw[fD];simp;omega),?_⟩
  refine xK (R:=λρ=>∃a,ρ=[a,some (.d (il xs)),some (.d (.int ((2*n:Nat):Int))),some (.d (.int 6))]) (P:=λd=>∃hs:List Int,d=il hs/\hs.length=2*n/\(∀h∈hs,0<=h/\h<=6)/\hs.Pairwise (·<=·)) _ _ _ ⟨_,rfl⟩ ?_ ?_
  ·rintro a ha ρ ⟨b,rfl⟩ K hK
   obtain⟨j,rfl,j0,j1⟩:=sA ha
   rw[List.length_map,tl] at j1
   walk_at "rd"
   have ej:(2+j)=((2+j.toNat:Nat):Int):=by omega
   rw[ej]
   refine fF hx (j:=2+j.toNat) (by omega) λv=>?_
   exact⟨v,2*n,rfl,by omega,λhs l1 l2 l3=>hK _ _ ⟨_,rfl⟩ ⟨hs,rfl,l1,l2,l3⟩⟩
  ·intro out hl hp
   obtain⟨hss,e,h1⟩:∃hss:List (List Int),out=hss.map il/\∀hs∈hss,hs.length=2*n/\(∀h∈hs,0<=h/\h<=6)/\hs.Pairwise (·<=·):=by
    clear hl
    induction out with
    | nil=>exact⟨[],rfl,by simp⟩
    | cons d out ih =>
     obtain⟨hss,e,h1⟩:=ih λd hd=>hp d (by simp[hd])
     obtain⟨hs,rfl,h2⟩:=hp d (by simp)
     refine⟨hs::hss,by rw[e];rfl,λx hx=>?_⟩
     rcases List.mem_cons.mp hx with rfl | hx
     ·exact h2
     ·exact h1 x hx
   rw[fD,List.length_map,Int.toNat_natCast,e,List.length_map] at hl
   rw[List.nil_append,e]
   exact hK _ ⟨hss,⟨hl,h1⟩,rfl⟩
 rintro ρ ⟨hss,⟨hl,hh⟩,rfl⟩
 have C:Curves ts hss n:=⟨th.thr ⟨m1,m2⟩,hl,⟨nn.1,by omega⟩,λhs h=>(hh hs h).1,λhs h x hx=>by
  have:=(hh hs h).2.1 x hx
  exact (BL.of_lt (m:=10) (by omega) (by omega)).mono (by decide),λhs h=>(hh hs h).2.2⟩
 have spot_in:∀{j k:Nat},j<2*n->k<ts.length->0<=(fZ ts hss j k).2/\(fZ ts hss j k).2<=6:=λ{j k} hj hk =>
  (hh _ (List.mem_of_getElem? (GS (hss:=hss) (z:=k) (by omega)))).2.1 _ (List.mem_of_getElem? (CA C hk hj))
 refine aO (λρ=>ρ=[some (.d (il xs)),some (.d (.int 3)),some (.d (.int 6)),some (.d (.int ((2*n:Nat):Int))),some (.own (ts.map D.int)),u,some (.d (ill hss)),some (.own []),none,none,none]) (λK hK=>?_) ?_
 ·walk_at "rd"
  exact hK _ rfl
 rintro ρ rfl
 refine aO (λρ=>∃(R:List (List Pt)) (a b c d e:Option S),Sht ts hss n R/\ρ=[some (.d (il xs)),some (.d (.int 3)),some (.d (.int 6)),some (.d (.int ((2*n:Nat):Int))),a,b,some (.d (ill hss)),some (.own (R.map pts)),c,d,e]) (λK hK=>?_) ?_
 ·walk_at "rd"
  walk_at "sides"
  have e2:(((2*n:Nat):Int)).fdiv 2=(n:Int):=by
   rw[show ((2*n:Nat):Int)=(n:Int)*2 by omega];exact Int.mul_fdiv_cancel _ (by decide)
  rw[e2]
  refine⟨⟨by omega,by omega⟩,?_⟩
  rw[Int.toNat_natCast]
  have hx0:xs[0]? = some (xs[0]'(by omega)):=List.getElem?_eq_getElem _
  generalize xs[0]'(by omega)=h0 at hx0
  generalize hnb:decide ((h0.fdiv 2).fmod 3=1)=nb
  refine lA 0 n (λk ρ=>∃(R:List (List Pt)) (s:S) (b c d e:Option S),(R.length=k/\(∀g∈R,g.length<=10/\∀p∈g,0<=p.2/\p.2<=6)/\(bC R).Perm (((idx nb n k).map (csd ts hss)).flatten))/\(s = .own (ts.map D.int)\/s = .d (il ts))/\ρ=[some (.d (il xs)),some (.d (.int 3)),some (.d (.int 6)),some (.d (.int ((2*n:Nat):Int))),some s,b,some (.d (ill hss)),some (.own (R.map pts)),c,d,e]) ?_ ?_ _ ⟨[],_,u,none,none,none,⟨rfl,(λg h=>by cases h),.refl _⟩,.inl rfl,rfl⟩
  ·rintro k ρ hk ⟨R,s,b,c,d,e,⟨w1,w2,w3⟩,hs,rfl⟩ F _ _ hn _
   have e0:(0:Int)+(k:Int)=(k:Int):=by omega
   have mo:∀{P:Prop},P->(MulOk 2 (k:Int)/\P):=λp=>⟨(BL.const (n:=20) (by decide)).mulOk (n:=20) (BL.of_lt (by omega) (by omega)),p⟩
   unfold iW
   simp only[aP,List.set_cons_zero,List.set_cons_succ]
   rw[e0]
   refine aO (λρ=>ρ=[some (.d (il xs)),some (.d (.int 3)),some (.d (.int 6)),some (.d (.int ((2*n:Nat):Int))),some s,some (.d (.int k)),some (.d (ill hss)),some (.own (R.map pts)),some (.d (.int (2*(k:Int)))),d,e]) (λK hK=>?_) ?_
   ·walk_at "rd"
    exact mo (hK _ rfl)
   rintro ρ rfl
   refine aO (λρ=>ρ=[some (.d (il xs)),some (.d (.int 3)),some (.d (.int 6)),some (.d (.int ((2*n:Nat):Int))),some s,some (.d (.int k)),some (.d (ill hss)),some (.own (R.map pts)),some (.d (.int (2*(k:Int)))),some (.d (.int (2*(k:Int)+1))),e]) (λK hK=>?_) ?_
   ·walk_at "rd"
    exact mo (hK _ rfl)
   rintro ρ rfl
   refine aO (λρ=>∃lo up:Nat,((lo<2*n/\up<2*n)/\(if nb then [k,2*n-1-k] else [2*k,2*k+1])=[lo,up])/\ρ=[some (.d (il xs)),some (.d (.int 3)),some (.d (.int 6)),some (.d (.int ((2*n:Nat):Int))),some s,some (.d (.int k)),some (.d (ill hss)),some (.own (R.map pts)),some (.d (.int (lo:Nat))),some (.d (.int (up:Nat))),e]) (λK hK=>?_) ?_
   ·walk_at "rd"
    refine CQ (i:=0) hx0 ?_
    walk_at "rd"
    walk_at "sides"
    by_cases hb:(h0.fdiv 2).fmod 3=1
    ·have en:nb=true:=by rw[<-hnb];exact decide_eq_true hb
     rw[if_pos hb]
     have:=hK [some (.d (il xs)),some (.d (.int 3)),some (.d (.int 6)),some (.d (.int ((2*n:Nat):Int))),some s,some (.d (.int k)),some (.d (ill hss)),some (.own (R.map pts)),some (.d (.int ((k:Nat):Int))),some (.d (.int ((2*n-1-k:Nat):Int))),e] ⟨k,2*n-1-k,⟨⟨by omega,by omega⟩,by rw[en];rfl⟩,rfl⟩
     rw[show ((2*n-1-k:Nat):Int)=((2*n:Nat):Int)-1-(k:Int) by omega] at this
     exact this
    ·have en:nb=false:=by rw[<-hnb];exact decide_eq_false hb
     rw[if_neg hb]
     have:=hK [some (.d (il xs)),some (.d (.int 3)),some (.d (.int 6)),some (.d (.int ((2*n:Nat):Int))),some s,some (.d (.int k)),some (.d (ill hss)),some (.own (R.map pts)),some (.d (.int ((2*k:Nat):Int))),some (.d (.int ((2*k+1:Nat):Int))),e] ⟨2*k,2*k+1,⟨⟨by omega,by omega⟩,by rw[en];rfl⟩,rfl⟩
     rw[show ((2*k:Nat):Int)=2*(k:Int) by omega,show ((2*k+1:Nat):Int)=2*(k:Int)+1 by omega] at this
     exact this
   rintro ρ ⟨lo,up,⟨⟨hlo,hup⟩,eab⟩,rfl⟩
   refine aO (λρ=>ρ=[some (.d (il xs)),some (.d (.int 3)),some (.d (.int 6)),some (.d (.int ((2*n:Nat):Int))),some (.d (il ts)),some (.d (.int k)),some (.d (ill hss)),some (.own (R.map pts)),some (.d (.int (lo:Nat))),some (.d (.int (up:Nat))),some (.own ((crv ts hss lo).map pt))]) (λK hK=>?_) ?_
   ·have go:∀ρ:En,ρ=[some (.d (il xs)),some (.d (.int 3)),some (.d (.int 6)),some (.d (.int ((2*n:Nat):Int))),some (.d (il ts)),some (.d (.int k)),some (.d (ill hss)),some (.own (R.map pts)),some (.d (.int (lo:Nat))),some (.d (.int (up:Nat))),e]->(cQ 10 (eJ (kK (aB (r1 iC (aD 4)) (aH))) 1 [4,6,8] (aP 0) (iF (aB (r2 dIx (aD 1) (aD 0)) (aB (r2 dIx (r2 dIx (aD 2) (aD 0)) (aD 3)) (aH)))))) { nx:=K,rt:=F.rt,bk:=F.bk,ct:=F.ct } ρ:=by
     rintro ρ rfl
     walk_at "rd"
     refine⟨⟨by rw[List.length_map];omega,by rw[List.length_map];omega⟩,bY (by rw[fD,List.length_map];omega),?_⟩
     rw[List.length_map,Int.toNat_natCast]
     unfold cA
     refine eN (λρ=>∃u,ρ=[u,some (.d (il ts)),some (.d (ill hss)),some (.d (.int lo))]) (λk:Nat=>D.int (0+(k:Int))) (λk=>pt (fZ ts hss lo k)) (List.range ts.length) ?_ ⟨_,rfl⟩ ?_
     ·rintro k hk ρ ⟨u,rfl⟩ K' hK'
      walk_at "rd"
      exact xM C hlo (List.mem_range.mp hk) (Q:=λd=>K' _ d) (hK' _ ⟨_,rfl⟩)
     ·have e:(List.range ts.length).map (λk=>pt (fZ ts hss lo k))=(crv ts hss lo).map pt:=by unfold crv;rw[List.map_map];rfl
      rw[e]
      exact hK _ rfl
    rcases hs with rfl | rfl
    ·exact go _ rfl
    ·exact go _ rfl
   rintro ρ rfl
   simp only[dJ,S.fz,List.getElem?_cons_zero,List.getElem?_cons_succ,List.set_cons_zero,List.set_cons_succ]
   walk_at "rd"
   simp only[BK]
   walk_at "rd"
   refine⟨⟨by omega,by rw[List.length_map];omega⟩,bY (by rw[List.length_reverse,fD,List.length_map];omega),?_⟩
   rw[List.length_map,Int.toNat_natCast]
   unfold cA
   rw[<-List.map_reverse]
   refine eN (λρ=>∃u,ρ=[u,some (.d (il ts)),some (.d (ill hss)),some (.d (.int up))]) (λk:Nat=>D.int (0+(k:Int))) (λk=>pt (fZ ts hss up k)) (List.range ts.length).reverse ?_ ⟨_,rfl⟩ ?_
   ·rintro k hk ρ ⟨u,rfl⟩ K' hK'
    walk_at "rd"
    exact xM C hup (List.mem_range.mp (List.mem_reverse.mp hk)) (Q:=λd=>K' _ d) (hK' _ ⟨_,rfl⟩)
   ·have e:(List.range ts.length).reverse.map (λk=>pt (fZ ts hss up k))=((crv ts hss up).reverse).map pt:=by unfold crv;rw[<-List.map_reverse,List.map_map];rfl
    rw[e]
    have gl:(crv ts hss lo++(crv ts hss up).reverse).length=2*ts.length:=by simp[crv];omega
    refine⟨bY (by simp[crv];omega),bY (by rw[List.length_map];omega),?_⟩
    rw[show D.lst ((crv ts hss lo).map pt++((crv ts hss up).reverse).map pt)=pts (crv ts hss lo++(crv ts hss up).reverse) by show _=D.lst ((crv ts hss lo++(crv ts hss up).reverse).map pt);rw[List.map_append]]
    refine hn _ ⟨R++[crv ts hss lo++(crv ts hss up).reverse],.d (il ts),some (.d (.int k)),some (.d (.int lo)),some (.d (.int up)),some (.own ((crv ts hss lo).map pt)),⟨by simp[w1],λg hg=>?_,?_⟩,.inr rfl,by rw[List.map_append];rfl⟩
    ·rcases List.mem_append.mp hg with hg | hg
     ·exact w2 g hg
     ·rw[List.mem_singleton.mp hg]
      refine⟨by omega,λp hp=>?_⟩
      rcases List.mem_append.mp hp with hp | hp
      ·obtain⟨j,hj,rfl⟩:=List.mem_map.mp hp
       exact spot_in hlo (List.mem_range.mp hj)
      ·obtain⟨j,hj,rfl⟩:=List.mem_map.mp (List.mem_reverse.mp hp)
       exact spot_in hup (List.mem_range.mp hj)
    ·rw[IK,eab]
     simp only[bC,List.map_append,List.flatten_append,List.map_cons,List.map_nil,List.flatten_cons,List.flatten_nil,List.append_nil]
     exact List.Perm.append w3 (BM (hss:=hss) C.thr lo up)
  ·rintro ρ ⟨R,s,b,c,d,e,⟨r1,r2,r3⟩,_,rfl⟩
   exact hK _ ⟨R,some s,b,c,d,e,⟨C,by omega,nn.2,λt ht=>by have:=th.lo t ht;omega,λhs h=>(hh hs h).2.1,r1,λg hg=>(r2 g hg).1,λg hg=>(r2 g hg).2,r3.trans ((LT nb C.n1).map (csd ts hss)).flatten⟩,rfl⟩
 rintro ρ ⟨R,a,b,c,d,e,h,rfl⟩
 simp only[dJ,S.fz,bO,aN,List.getElem?_cons_zero,List.getElem?_cons_succ,List.set_cons_zero,List.set_cons_succ]
 exact q ts hss n R h
end K31
namespace K31
open K22 K23
noncomputable def mvP (fx fy k:Int) (p:Pt):Pt:=(p.1+fx,p.2*k+fy)
section
variable {f:Pt->Pt}
theorem QZ (hm:∀a b:Pt,(f a).1<(f b).1↔a.1<b.1) (a b:Pt):sd (f a) (f b)=(sd a b).map λs=>(f s.1,f s.2):=by
 unfold sd
 by_cases h1:a.1<b.1
 ·rw[if_pos h1,if_pos ((hm a b).mpr h1)];rfl
 ·rw[if_neg h1,if_neg λz=>h1 ((hm a b).mp z)]
  by_cases h2:b.1<a.1
  ·rw[if_pos h2,if_pos ((hm b a).mpr h2)];rfl
  ·rw[if_neg h2,if_neg λz=>h2 ((hm b a).mp z)];rfl
theorem vG (hm:∀a b:Pt,(f a).1<(f b).1↔a.1<b.1):∀(r:List Pt) (a:Pt),bV (f a) (r.map f)=(bV a r).map λs=>(f s.1,f s.2)
 | [],_=>rfl
 | b::r,a=>by
  show sd (f a) (f b)++bV (f b) (r.map f)=List.map _ (sd a b++bV b r)
  rw[QZ hm,vG hm r b,List.map_append]
theorem GJ (hm:∀a b:Pt,(f a).1<(f b).1↔a.1<b.1) (g:List Pt):cF (g.map f)=(cF g).map λs=>(f s.1,f s.2):=by
 cases g with
 | nil=>rfl
 | cons a r =>
  show bV (f a) (r.map f++[f a])=(bV a (r++[a])).map _
  rw[<-vG hm,List.map_append];rfl
theorem all_map (hm:∀a b:Pt,(f a).1<(f b).1↔a.1<b.1) (R:List (List Pt)):bC (R.map λg=>g.map f)=(bC R).map λs=>(f s.1,f s.2):=by
 unfold bC
 rw[List.map_map,List.map_flatten,List.map_map]
 congr 1
 exact List.map_congr_left λg _=>GJ hm g
end
theorem Sht.put {ts:List Int} {hss:List (List Int)} {n:Nat} {R:List (List Pt)} (h:Sht ts hss n R) {fx fy k:Int} (bx:-200<=fx/\fx<=200) (bf:BL 110 fy) (k0:0<k) (bk:BL 70 k) :
  Curves (ts.map (· + fx)) (hss.map λhs=>hs.map λy=>y*k+fy) n/\Cloth (ts.map (· + fx)) (hss.map λhs=>hs.map λy=>y*k+fy) n (R.map λg=>g.map (mvP fx fy k))/\T (ts.map (· + fx)) ((ts.map (· + fx)).length-1)-T (ts.map (· + fx)) 0<=6:=by
 have C:=h.cur
 have tl:=C.thr.len
 have hT:∀z,z<ts.length->T (ts.map (· + fx)) z=T ts z+fx:=λz hz=>UJ (by rw[List.getElem?_map,mT hz];rfl)
 have hH:∀z j,z<ts.length->j<2*n->Hh (hss.map λhs=>hs.map λy=>y*k+fy) z j=Hh hss z j*k+fy:=λz j hz hj=>by
  have hl:=C.len
  have e1:(hss.map λhs=>hs.map λy=>y*k+fy).getD z []=(hss.getD z []).map λy=>y*k+fy:=by
   rw[List.getD_eq_getElem?_getD,List.getElem?_map,GS (hss:=hss) (z:=z) (by omega)];rfl
  unfold Hh
  rw[e1,List.getD_eq_getElem?_getD,List.getElem?_map,CA C hz hj];rfl
 have C':Curves (ts.map (· + fx)) (hss.map λhs=>hs.map λy=>y*k+fy) n:=by
  refine⟨⟨by rw[List.length_map];exact tl,λx hx=>?_,λi a b e1 e2=>?_,λx hx y hy=>?_⟩,by rw[List.length_map,List.length_map];exact C.len,C.n1,λhs hh=>?_,λhs hh x hx=>?_,λhs hh=>?_⟩
  ·obtain⟨t,ht,rfl⟩:=List.mem_map.mp hx
   have:=h.lo t ht
   exact (BL.of_lt (m:=10) (by omega) (by omega)).mono (by decide)
  ·rw[List.getElem?_map] at e1 e2
   obtain⟨a',g1,rfl⟩:=Option.map_eq_some_iff.mp e1
   obtain⟨b',g2,rfl⟩:=Option.map_eq_some_iff.mp e2
   have:=C.thr.step i a' b' g1 g2
   omega
  ·obtain⟨t,ht,rfl⟩:=List.mem_map.mp hx
   obtain⟨u,hu,rfl⟩:=List.mem_map.mp hy
   have:=C.thr.wide t ht u hu
   omega
  ·obtain⟨g,hg,rfl⟩:=List.mem_map.mp hh
   rw[List.length_map];exact C.each g hg
  ·obtain⟨g,hg,rfl⟩:=List.mem_map.mp hh
   obtain⟨y,hy,rfl⟩:=List.mem_map.mp hx
   have:=h.hi g hg y hy
   exact (((BL.of_lt (m:=10) (by omega) (by omega)).mul bk).add bf).mono (by decide)
  ·obtain⟨g,hg,rfl⟩:=List.mem_map.mp hh
   refine List.pairwise_map.mpr ((C.up g hg).imp λ{a b} hab=>?_)
   have:=Int.mul_le_mul_of_nonneg_right hab (Int.le_of_lt k0)
   omega
 refine⟨C',⟨by rw[List.length_map,h.len];have:=h.n2;omega,λg hg=>?_,[],?_,.inl rfl⟩,?_⟩
 ·obtain⟨g',hg',rfl⟩:=List.mem_map.mp hg
  rw[List.length_map];exact h.each g' hg'
 ·rw[List.append_nil,all_map (f:=mvP fx fy k) λa b=>by unfold mvP;dsimp only;omega]
  refine (h.sides.map _).trans ?_
  rw[List.map_flatten,List.map_map]
  refine List.Perm.of_eq ?_
  congr 1
  refine List.map_congr_left λj hj=>?_
  have hj:=List.mem_range.mp hj
  show (csd ts hss j).map _=csd _ _ j
  unfold csd
  rw[List.map_map,List.length_map]
  refine List.map_congr_left λz hz=>?_
  have hz:=List.mem_range.mp hz
  show (mvP fx fy k (fZ ts hss j z),mvP fx fy k (fZ ts hss j (z+1)))=(fZ _ _ j z,fZ _ _ j (z+1))
  unfold fZ mvP
  dsimp only
  rw[hT z (by omega),hT (z+1) (by omega),hH z j (by omega) hj,hH (z+1) j (by omega) hj]
 ·rw[List.length_map,hT _ (by omega),hT _ (by omega)]
  have a1:=h.lo _ (List.mem_of_getElem? (mT (ts:=ts) (i:=ts.length-1) (by omega)))
  have a2:=h.lo _ (List.mem_of_getElem? (mT (ts:=ts) (i:=0) (by omega)))
  omega
noncomputable def BZ:FD:=λds Q=>∃(R:List (List Pt)) (fx fy k:Int),ds=[fS R,.tup [.int fx,.int fy],.int k]/\(R.length<=4/\(∀g∈R,g.length<=10)/\(∀g∈R,∀p∈g,0<=p.2/\p.2<=6)/\BL 70 k)/\Q (fS (R.map λg=>g.map (mvP fx fy k)))
theorem MG:∀ds Q,BZ ds Q->ds.length=3:=by rintro ds Q ⟨_,_,_,_,rfl,_⟩;rfl
theorem wK:∀ds Q,BZ ds Q->hU { nx:=λ_=>Q .non,rt:=Q } (aM ["_law_rings_here","_law_far","_law_by","_law_found","_law_ring"] ds):=by
 rintro ds Q ⟨R,fx,fy,k,rfl,⟨rl,gl,gp,bk⟩,q⟩
 rw[aS 2 rfl]
 unfold hU
 simp only[cX,tT,List.map_cons,List.map_nil,List.cons_append,List.nil_append]
 refine aO (λρ=>ρ=[some (.d (fS R)),some (.d (.tup [.int fx,.int fy])),some (.d (.int k)),some (.own []),none]) (λK hK=>?_) ?_
 ·walk_at "rd"
  exact hK _ rfl
 rintro ρ rfl
 refine aO (λρ=>∃u,ρ=[some (.d (fS R)),some (.d (.tup [.int fx,.int fy])),some (.d (.int k)),some (.own ((R.map λg=>g.map (mvP fx fy k)).map pts)),u]) (λK hK=>?_) ?_
 ·simp only[cH,riL,aN,List.getElem?_cons_zero]
  refine jX _ (λi ρ=>∃u,ρ=[some (.d (fS R)),some (.d (.tup [.int fx,.int fy])),some (.d (.int k)),some (.own (((R.take i).map λg=>g.map (mvP fx fy k)).map pts)),u]) ?_ ?_ _ ⟨none,rfl⟩
  ·rintro i x ρ e ⟨u,rfl⟩ F _ _ hn _
   rw[List.getElem?_map] at e
   cases er:R[i]? with
   | none=>rw[er] at e;cases e
   | some g =>
    rw[er] at e
    cases e
    have hg:=List.mem_of_getElem? er
    have et:R.take (i+1)=R.take i++[g]:=by rw[List.take_succ,er];rfl
    have tl:(R.take i).length<=R.length:=by rw[List.length_take];exact Nat.min_le_right ..
    unfold kF
    simp only[aP,List.set_cons_zero,List.set_cons_succ]
    walk_at "rd"
    refine⟨bY (by rw[List.length_map];have:=gl g hg;omega),?_⟩
    refine eN (λρ=>∃u v,ρ=[u,v,some (.d (.tup [.int fx,.int fy])),some (.d (.int k))]) pt (λp=>pt (mvP fx fy k p)) g ?_ ⟨_,_,rfl⟩ ?_
    ·rintro p hp ρ ⟨u,v,rfl⟩ K' hK'
     walk_at "rd"
     have:=gp g hg p hp
     exact⟨(BL.of_lt (m:=10) (by omega) (by omega)).mulOk bk,hK' _ ⟨_,_,rfl⟩⟩
    ·refine⟨bY (by rw[List.length_map,List.length_map];omega),?_⟩
     rw[show ((R.take i).map λg=>g.map (mvP fx fy k)).map pts++[D.lst (g.map λp=>pt (mvP fx fy k p))]=((R.take (i+1)).map λg=>g.map (mvP fx fy k)).map pts by
      rw[et,List.map_append,List.map_append,List.map_cons,List.map_nil,List.map_cons,List.map_nil]
      show _=_++[D.lst ((g.map (mvP fx fy k)).map pt)]
      rw[List.map_map (l:=g)];rfl]
     exact hn _ ⟨_,rfl⟩
  ·rintro ρ ⟨u,rfl⟩
   rw[List.length_map,List.take_length]
   exact hK _ ⟨u,rfl⟩
 rintro ρ ⟨u,rfl⟩
 simp only[dJ,S.fz,bO,aN,List.getElem?_cons_zero,List.getElem?_cons_succ,List.set_cons_zero,List.set_cons_succ]
 exact q
noncomputable def iG:FD:=λds Q=>∃xs:List Int,ds=[il xs]/\10<=xs.length/\Q (fS [])/\∀ts hss n R,Curves ts hss n->Cloth ts hss n R->(ts.length<=3/\n<=2/\T ts (ts.length-1)-T ts 0<=6)->Q (fS R)
theorem yH:∀ds Q,iG ds Q->ds.length=1:=by rintro ds Q ⟨_,rfl,_⟩;rfl
theorem oX:∀ds Q,iG ds Q->dX BZ qL { nx:=λ_=>Q .non,rt:=Q } (aM ["_law_head","_law_by","_law_far"] ds):=by
 rintro ds Q ⟨xs,rfl,hx,q0,q⟩
 rw[aS 2 rfl]
 unfold dX
 simp only[cX,tT,List.map_cons,List.map_nil,List.cons_append,List.nil_append]
 refine aO (λρ=>ρ=[some (.d (il xs)),none,none]) (λK hK=>?_) ?_
 ·walk_at "rd"
  refine fF hx (j:=0) (by decide) λv=>?_
  walk_at "rd"
  walk_at "sides"
  split
  ·exact q0
  ·exact hK _ rfl
 rintro ρ rfl
 refine aO (λρ=>∃k:Int,(0<k/\BL 70 k)/\ρ=[some (.d (il xs)),some (.d (.int k)),none]) (λK hK=>?_) ?_
 ·walk_at "rd"
  refine fF hx (j:=7) (by decide) λv=>?_
  walk_at "rd"
  walk_at "sides"
  refine fF hx (j:=6) (by decide) λw=>?_
  walk_at "rd"
  obtain⟨a0,a1⟩:=bR (a:=v) (b:=1000000000000000000) (by decide)
  obtain⟨b0,b1⟩:=bR (a:=w) (b:=2) (by decide)
  refine⟨oQ,?_⟩
  refine vQ b0 (by simpa using b1) λx hx=>?_
  simp only[List.mem_cons,List.not_mem_nil,or_false] at hx
  rcases hx with rfl | rfl
  ·exact hK _ ⟨1,⟨by decide,BL.const (n:=70) (by decide)⟩,rfl⟩
  ·exact hK _ ⟨_,⟨by omega,BL.of_lt (by omega) (Int.lt_of_le_of_lt (show 1+v.fmod 1000000000000000000<=1000000000000000000 by omega) (by decide))⟩,rfl⟩
 rintro ρ ⟨k,⟨k0,bk⟩,rfl⟩
 refine aO (λρ=>∃fx fy:Int,((-200<=fx/\fx<=200)/\BL 110 fy)/\ρ=[some (.d (il xs)),some (.d (.int k)),some (.d (.tup [.int fx,.int fy]))]) (λK hK=>?_) ?_
 ·walk_at "rd"
  refine fF hx (j:=8) (by decide) λv=>?_
  walk_at "rd"
  refine⟨oQ,?_⟩
  refine fF hx (j:=9) (by decide) λy=>?_
  walk_at "rd"
  walk_at "sides"
  refine fF hx (j:=6) (by decide) λw=>?_
  walk_at "rd"
  walk_at "sides"
  obtain⟨a0,a1⟩:=bR (a:=v) (b:=201) (by decide)
  obtain⟨c0,c1⟩:=bR (a:=y) (b:=2000000000000000000000000000001) (by decide)
  obtain⟨b0,b1⟩:=bR (a:=w.fdiv 2) (b:=2) (by decide)
  refine vQ b0 (by simpa using b1) λx hx=>?_
  simp only[List.mem_cons,List.not_mem_nil,or_false] at hx
  rcases hx with rfl | rfl
  ·exact hK _ ⟨_,_,⟨⟨by omega,by omega⟩,BL.const (n:=110) (by decide)⟩,rfl⟩
  ·refine hK _ ⟨_,_,⟨⟨by omega,by omega⟩,BL.of_lt (Int.lt_of_lt_of_le (by decide) (show -1000000000000000000000000000000<=y.fmod 2000000000000000000000000000001-1000000000000000000000000000000 by omega)) (Int.lt_of_le_of_lt (show y.fmod 2000000000000000000000000000001-1000000000000000000000000000000<=1000000000000000000000000000000 by omega) (by decide))⟩,rfl⟩
 rintro ρ ⟨fx,fy,⟨bx,bf⟩,rfl⟩
 walk_at "rd"
 refine⟨xs,rfl,hx,λts hss n R h=>?_⟩
 have n2:=h.n2
 refine⟨R,fx,fy,k,rfl,⟨by rw[h.len];omega,h.each,h.pts,bk⟩,?_⟩
 obtain⟨c1,c2,c3⟩:=h.put bx bf k0 bk
 exact q _ _ n _ c1 c2 ⟨by rw[List.length_map];exact h.tl,h.n2,c3⟩
noncomputable def BY:FD:=λds Q=>∃p:IP,ds=[frP p]/\(0<p.2/\Int.gcd p.1 p.2=1)/\Q (.bl true)
theorem MD:∀ds Q,BY ds Q->ds.length=1:=by rintro ds Q ⟨_,rfl,_⟩;rfl
theorem kD:∀ds Q,BY ds Q->cI lJ qM { nx:=λ_=>Q .non,rt:=Q } (aM ["_law_found"] ds):=by
 rintro ds Q ⟨p,rfl,⟨h1,h2⟩,q⟩
 rw[aS 0 rfl]
 unfold cI
 walk_at "rd"
 refine⟨p.1,rfl,?_⟩
 walk_at "rd"
 refine⟨p.2,rfl,?_⟩
 walk_at "rd"
 simp only[h1,decide_true,if_true]
 refine⟨p.1,p.2,rfl,?_⟩
 walk_at "rd"
 rw[h2]
 exact q
end K31
namespace K31
open K22 K23
theorem PY {p q:IP} (h:ltR p q) (h':ltR q p):False:=by unfold ltR at *;omega
theorem IL:∀{a b:List IP},a.Pairwise ltR->b.Pairwise ltR->(∀p,p∈a↔p∈b)->a=b
 | [],[],_,_,_=>rfl
 | [],q::b,_,_,h=>by cases (h q).mpr (.head _)
 | p::a,[],_,_,h=>by cases (h p).mp (.head _)
 | p::a,q::b,ha,hb,h=>by
  obtain⟨a1,a2⟩:=List.pairwise_cons.mp ha
  obtain⟨b1,b2⟩:=List.pairwise_cons.mp hb
  have e:p=q:=by
   rcases List.mem_cons.mp ((h p).mp (.head _)) with e | h1
   ·exact e
   ·rcases List.mem_cons.mp ((h q).mpr (.head _)) with e | h2
    ·exact e.symm
    ·exact (PY (b1 p h1) (a1 q h2)).elim
  subst e
  rw[IL a2 b2 λr=>?_]
  have hr:=h r
  constructor
  ·intro k
   rcases List.mem_cons.mp (hr.mp (.tail _ k)) with e | k'
   ·exact absurd e.symm (a1 r k).ne
   ·exact k'
  ·intro k
   rcases List.mem_cons.mp (hr.mpr (.tail _ k)) with e | k'
   ·exact absurd e.symm (b1 r k).ne
   ·exact k'
structure ShtR (L:List IP) (es:List jB):Prop where
 len:L.length<=8
 each:∀p∈L,0<p.2/\p.2<=40/\Int.gcd p.1 p.2=1/\BL 250 p.1
 ok:K22.EsOk L es
 few:es.length<=12
theorem pP {xs:List Int} {Q:D->Prop} (hx:10<=xs.length) (q:∀L es,ShtR L es->Q (.lst (es.map (·.1)))):iG [il xs] λd=>K23.F_bands [d] Q:=by
 refine⟨xs,rfl,hx,⟨[],0,rfl,wZ,λcs rows h1 h2 h3=>?_⟩,λts hss n R C K0 ⟨t3,n2,w6⟩=>⟨R,_,rfl,K0.bands C,λcs rows h1 h2 h3=>?_⟩⟩
 ·rw[EA h2 h3]
  exact q [] [] ⟨by decide,(λp h=>by cases h),(λe h=>by cases h),by decide⟩
 ·obtain⟨es,⟨e1,e2,e3⟩,e4⟩:=GW C K0
  rw[e4 cs rows h1 h2 h3]
  have lok:=RW C
  refine q (SL ts hss n) es ⟨?_,lok.each,e1,?_⟩
  ·unfold SL
   rw[K22.flat_len _ (2*n) _ λx _=>by rw[List.length_map,List.length_range],List.length_range]
   exact Nat.le_trans (Nat.mul_le_mul (show ts.length-1<=2 by omega) (show 2*n<=4 by omega)) (by decide)
  ·have tl:=C.thr.len
   have w0:0<=T ts (ts.length-1)-T ts 0:=by have:=kB C.thr (i:=0) (j:=ts.length-1) (by omega) (by omega);omega
   have:(n:Int)*(T ts (ts.length-1)-T ts 0)<=2*6:=Int.mul_le_mul (by omega) w6 w0 (by decide)
   omega
theorem ShtR.eq {L:List IP} {es:List jB} (h:ShtR L es):eqF 5 (.lst (es.map (·.1))) (.lst (es.map (·.1)))=some true:=by
 show eqL (eqF 4) _ _=_
 refine oG _ λd hd=>?_
 obtain⟨e,he,rfl⟩:=List.mem_map.mp hd
 obtain⟨⟨row,W,a,b,c,d,er,_⟩,_⟩:=h.ok e he
 rw[er]
 exact LR 1 row
theorem JV:∀ds Q,DX 63 ds Q->jH BY kP iG mS K23.F_bands qK { nx:=λ_=>Q .non,rt:=Q } (aM ["_law_script","_law_head","_law_ones","_law_others","_law_handed","_law_found","_law_due","_law_k","_law_one"] ds):=by
 rintro ds Q ⟨ns,rfl,hn,Qt⟩
 rw[aS 8 rfl]
 unfold jH
 simp only[cX,zE,List.map_cons,List.map_nil,List.cons_append,List.nil_append]
 refine aO (λρ=>∃xs:List Int,xs.length=20/\ρ=[some (.d (il ns)),some (.d (il xs)),none,none,none,none,none,none,none]) (λK hK=>?_) ?_
 ·walk_at "rd"
  exact⟨ns,20,rfl,⟨by omega,by decide,by decide⟩,λxs h=>hK _ ⟨xs,h.len,rfl⟩⟩
 rintro ρ ⟨xs,hx,rfl⟩
 refine aO (λρ=>∃L ea,ShtR L ea/\ρ=[some (.d (il ns)),some (.d (il xs)),some (.d (.lst (ea.map (·.1)))),none,none,none,none,none,none]) (λK hK=>?_) ?_
 ·simp only[bH,aV,aB,aH,aN,List.getElem?_cons_zero,List.getElem?_cons_succ,List.set_cons_zero,List.set_cons_succ]
  exact pP (by omega) λL es h=>hK _ ⟨L,es,h,rfl⟩
 rintro ρ ⟨La,ea,ha,rfl⟩
 refine aO (λρ=>∃L eb,ShtR L eb/\ρ=[some (.d (il ns)),some (.d (il xs)),some (.d (.lst (ea.map (·.1)))),some (.d (.lst (eb.map (·.1)))),none,none,none,none,none]) (λK hK=>?_) ?_
 ·walk_at "rd"
  have c:iJ (xs.map .int) (some (10:Int)) none=(xs.drop 10).map .int:=by
   have:=kU (xs:=xs.map .int) (j:=10) (by rw[List.length_map];omega)
   rw[List.map_drop];exact this
  rw[c]
  exact pP (by rw[List.length_drop];omega) λL es h=>hK _ ⟨L,es,h,rfl⟩
 rintro ρ ⟨Lb,eb,hb,rfl⟩
 have lok:LOk (La++Lb):=⟨by rw[List.length_append];have:=ha.len;have:=hb.len;omega,λp hp=>by
  rcases List.mem_append.mp hp with h | h
  ·exact ha.each p h
  ·exact hb.each p h⟩
 have oa:K22.EsOk (La++Lb) ea:=λe he=>by
  obtain⟨h1,h2,h3⟩:=ha.ok e he
  exact⟨h1,List.mem_append_left _ h2,List.mem_append_left _ h3⟩
 have ob:K22.EsOk (La++Lb) eb:=λe he=>by
  obtain⟨h1,h2,h3⟩:=hb.ok e he
  exact⟨h1,List.mem_append_right _ h2,List.mem_append_right _ h3⟩
 have fa:=ha.few
 have fb:=hb.few
 refine aO (λρ=>ρ=[some (.d (il ns)),some (.d (il xs)),some (.d (.lst (ea.map (·.1)))),some (.d (.lst (eb.map (·.1)))),some (.d (.lst [.lst (ea.map (·.1)),.lst (eb.map (·.1))])),none,none,none,none]) (λK hK=>?_) ?_
 ·walk_at "rd"
  exact hK _ rfl
 rintro ρ rfl
 refine aO (λρ=>∃gs:List IP,(gs.Pairwise ltR/\∀p,p∈gs↔p∈sls ea\/p∈sls eb)/\ρ=[some (.d (il ns)),some (.d (il xs)),some (.d (.lst (ea.map (·.1)))),some (.d (.lst (eb.map (·.1)))),some (.d (.lst [.lst (ea.map (·.1)),.lst (eb.map (·.1))])),some (.d (.lst (gs.map frP))),none,none,none]) (λK hK=>?_) ?_
 ·walk_at "rd"
  exact⟨_,ea,eb,rfl,⟨lok,oa,ob,by omega,by omega⟩,λgs g1 g2=>hK _ ⟨gs,⟨g1,g2⟩,rfl⟩⟩
 rintro ρ ⟨gs,⟨g1,g2⟩,rfl⟩
 have gsub:∀p∈gs,p∈La++Lb:=λp hp=>by
  rcases (g2 p).mp hp with h | h
  ·exact wT oa p h
  ·exact wT ob p h
 have gnd:gs.Nodup:=g1.imp ltR.ne
 have glen:=lB gs _ gnd gsub
 have l24:=lok.len
 have sla:=qV ea
 have slb:=qV eb
 refine aO (λρ=>ρ=[some (.d (il ns)),some (.d (il xs)),some (.d (.lst (ea.map (·.1)))),some (.d (.lst (eb.map (·.1)))),some (.d (.lst [.lst (ea.map (·.1)),.lst (eb.map (·.1))])),some (.d (.lst (gs.map frP))),some (.d (.lst ((sls ea++sls eb).map frP))),none,none]) (λK hK=>?_) ?_
 ·walk_at "rd"
  refine⟨_,ea,rfl,⟨oa,by omega⟩,?_⟩
  refine⟨_,eb,rfl,⟨ob,by omega⟩,?_⟩
  walk_at "rd"
  refine⟨bY (by rw[List.length_map,List.length_map];omega),?_⟩
  rw[<-List.map_append]
  exact hK _ rfl
 rintro ρ rfl
 refine aO (λρ=>ρ=[some (.d (il ns)),some (.d (il xs)),some (.d (.lst (ea.map (·.1)))),some (.d (.lst (eb.map (·.1)))),some (.d (.lst [.lst (ea.map (·.1)),.lst (eb.map (·.1))])),some (.d (.lst (gs.map frP))),some (.d (.lst ((sls ea++sls eb).map frP))),none,none]) (λK hK=>?_) ?_
 ·have isl:AQ "list" (.lst (gs.map frP))=some true:=rfl
  simp only[fY,rOr,oZ,bL,aV,gM,aB,aH,aN,aD,r2,r1,mY,isl,cP,bO,rC,L2.R2.S.val,List.getElem?_cons_zero,List.getElem?_cons_succ,Bool.not_true,Bool.false_eq_true,if_false]
  refine⟨sz2,?_⟩
  refine yQ (oG _ λd hd=>?_) ?_
  ·simp only[List.mem_cons,List.not_mem_nil,or_false] at hd
   rcases hd with rfl | rfl
   ·exact ha.eq
   ·exact hb.eq
  simp only[Bool.false_eq_true,if_false]
  refine⟨_,eb,ea,rfl,⟨lok,ob,oa,by omega,by omega⟩,λgs' k1 k2=>?_⟩
  have eg:gs'=gs:=IL k1 g1 λp=>by rw[k2,g2];exact Or.comm
  rw[eg]
  refine yQ (oG _ λd hd=>?_) ?_
  ·obtain⟨p,_,rfl⟩:=List.mem_map.mp hd
   exact IF 3 p.1 p.2
  simp only[Bool.false_eq_true,if_false]
  exact hK _ rfl
 rintro ρ rfl
 refine aO (λρ=>∃a b,ρ=[some (.d (il ns)),some (.d (il xs)),some (.d (.lst (ea.map (·.1)))),some (.d (.lst (eb.map (·.1)))),some (.d (.lst [.lst (ea.map (·.1)),.lst (eb.map (·.1))])),some (.d (.lst (gs.map frP))),some (.d (.lst ((sls ea++sls eb).map frP))),a,b]) (λK hK=>?_) ?_
 ·walk_at "rd"
  refine⟨⟨by rw[List.length_map];omega,by rw[List.length_map];omega⟩,?_⟩
  rw[List.length_map,Int.toNat_natCast]
  refine lA 0 gs.length (λk ρ=>∃a b,ρ=[some (.d (il ns)),some (.d (il xs)),some (.d (.lst (ea.map (·.1)))),some (.d (.lst (eb.map (·.1)))),some (.d (.lst [.lst (ea.map (·.1)),.lst (eb.map (·.1))])),some (.d (.lst (gs.map frP))),some (.d (.lst ((sls ea++sls eb).map frP))),a,b]) ?_ (λρ h=>hK ρ h) _ ⟨none,none,rfl⟩
  rintro k ρ hk ⟨a,b,rfl⟩ F _ _ hn' _
  have ek:gs[k]? = some gs[k]:=List.getElem?_eq_getElem hk
  have hp:=List.getElem_mem hk
  have e5:gs[k]=gs[k]:=rfl
  generalize hgk:gs[k]=p at ek hp
  obtain⟨p0,p1,p2,p3⟩:=lok.each p (gsub p hp)
  have dk:∀{Q:D->Prop},Q (frP p)->dIx (.lst (gs.map frP)) (.int (k:Int)) Q:=λh=>kW (gC (by rw[List.getElem?_map,ek];rfl)) h
  unfold lP
  simp only[aP,List.set_cons_zero,List.set_cons_succ]
  rw[show ((0:Int)+(k:Int))=(k:Int) by omega]
  refine aO (λρ=>ρ=[some (.d (il ns)),some (.d (il xs)),some (.d (.lst (ea.map (·.1)))),some (.d (.lst (eb.map (·.1)))),some (.d (.lst [.lst (ea.map (·.1)),.lst (eb.map (·.1))])),some (.d (.lst (gs.map frP))),some (.d (.lst ((sls ea++sls eb).map frP))),some (.d (.int k)),b]) (λK hK=>?_) ?_
  ·walk_at "rd"
   refine dk ?_
   refine⟨p,rfl,⟨p0,p2⟩,?_⟩
   simp only[Bool.not_true,Bool.false_eq_true,if_false]
   refine dk ?_
   refine⟨ck p,(sls ea++sls eb).map ck,rfl,by rw[List.map_map];rfl,?_⟩
   rw[decide_eq_true (AH.mpr (List.mem_append.mpr ((g2 p).mp hp)))]
   simp only[Bool.not_true,Bool.false_eq_true,if_false]
   exact hK _ rfl
  rintro ρ rfl
  walk_at "rd"
  split
  ·rename_i k0
   have hk1:k-1<gs.length:=by omega
   have eq':gs[k-1]? = some gs[k-1]:=List.getElem?_eq_getElem hk1
   have hr:=List.pairwise_iff_getElem.mp g1 (k-1) k hk1 hk (by omega)
   have hq:=List.getElem_mem hk1
   rw[hgk] at hr
   generalize gs[k-1]=r at eq' hr hq
   obtain⟨r0,r1',_,r3⟩:=lok.each r (gsub r hq)
   rw[show ((k:Int)-1)=((k-1:Nat):Int) by omega]
   refine kW (x:=frP r) (gC (by rw[List.getElem?_map,eq'];rfl)) ?_
   walk_at "rd"
   refine dk ?_
   walk_at "rd"
   refine⟨r3.mulOk (n:=10) (BL.of_lt (by omega) (by omega)),dk ?_⟩
   walk_at "rd"
   refine⟨p3.mulOk (n:=10) (BL.of_lt (by omega) (by omega)),?_⟩
   rw[if_neg (Int.not_le.mpr hr)]
   exact hn' _ ⟨_,_,rfl⟩
  ·exact hn' _ ⟨_,_,rfl⟩
 rintro ρ ⟨a,b,rfl⟩
 simp only[bO,r2,r1,iC,wM,aD,L2.R2.S.val,List.getElem?_cons_zero,List.getElem?_cons_succ]
 refine⟨(sls ea++sls eb).map ck,by rw[List.map_map];rfl,by rw[List.length_map,List.length_append];omega,λmss nd mem=>?_⟩
 walk_at "rd"
 have nd2:(gs.map ck).Nodup:=List.pairwise_map.mpr (gnd.imp λh e=>h (HF e))
 have:(gs.map ck).length=mss.length:=KH nd2 nd λks=>by
  rw[mem,List.mem_map,List.mem_map]
  constructor
  ·rintro⟨p,hp,rfl⟩
   exact⟨p,List.mem_append.mpr ((g2 p).mp hp),rfl⟩
  ·rintro⟨p,hp,rfl⟩
   exact⟨p,(g2 p).mpr (List.mem_append.mp hp),rfl⟩
 rw[List.length_map] at this ⊢
 rw[this,decide_eq_true rfl]
 exact Qt
end K31
namespace K31
set_option maxHeartbeats 4000000
noncomputable def top (i:Nat):Stmt:=PySem.Challenge.pw_recut_k31_all_leans.main.body.getD i (.Pass ⟨0,0,0,0⟩)
noncomputable abbrev s__law_divisor:Stmt:=top 27
noncomputable abbrev s__law_whole:Stmt:=top 25
noncomputable abbrev s__law_is_fraction:Stmt:=top 28
noncomputable abbrev s__law_numbers:Stmt:=top 26
noncomputable abbrev s__law_put:Stmt:=top 31
noncomputable abbrev s__law_digit:Stmt:=top 24
noncomputable abbrev s__law_heights:Stmt:=top 29
noncomputable abbrev s__law_sheet:Stmt:=top 30
noncomputable abbrev s__law_rings:Stmt:=top 32
noncomputable abbrev s__law_slopes:Stmt:=top 33
noncomputable abbrev s_shared_divisor:Stmt:=top 5
noncomputable abbrev s_shared_multiple:Stmt:=top 6
noncomputable abbrev s_lowest_multiple:Stmt:=top 9
noncomputable abbrev s_width_of:Stmt:=top 14
noncomputable abbrev s_height_at:Stmt:=top 15
noncomputable abbrev s_ordered_heights:Stmt:=top 16
noncomputable abbrev s_ratio:Stmt:=top 7
noncomputable abbrev s_column_bands:Stmt:=top 17
noncomputable abbrev s_sides_of:Stmt:=top 12
noncomputable abbrev s_sides_by_column:Stmt:=top 13
noncomputable abbrev s_bands:Stmt:=top 18
noncomputable abbrev s_minus:Stmt:=top 8
noncomputable abbrev s_lower_slope:Stmt:=top 19
noncomputable abbrev s_rising:Stmt:=top 10
noncomputable abbrev s_upper_slope:Stmt:=top 20
noncomputable abbrev s_leans_of:Stmt:=top 22
noncomputable abbrev s_law:Stmt:=top 34
section
variable {P:Program} {w:World} {K:PySem.W.Frag} {mg:Str->Option Value} {base:Heap}
theorem jK:FnScope ["_law_one","_law_other"] ["_law_one","_law_other"] (aA s__law_divisor):=⟨rfl,rfl,rfl,by decide +kernel,rfl,by decide +kernel,by decide +kernel⟩
theorem pU {f:Addr} {cdv:Value} {A:Around} {outer:List Env} {s:Shared} {H:Hp} {E:XK} (m_abs:mg "abs" = none) (hr:Room 0 (A.deeper (envOfC "_law_divisor" (aA s__law_divisor) s.heap.objs.size f cdv))) :
  DSs (cN CX0 P w K mg base ["_law_one","_law_other"] "_law_divisor" (aA s__law_divisor) f cdv A outer s H E).nox (aJ s__law_divisor) (dU) :=
 have nd:=jK.nd
 aF (aZ nd (gJ vP m_abs kQ (aC (dv 0) (aI))))
 (aF (aZ nd (gJ vP m_abs kQ (aC (dv 1) (aI))))
 (aF (xV PassesOwn.never (dE CW (dvb 1) (DE.bor (aE))) (aL (OY rfl nd (aC (dv 1) (aC (aQ dG (dvb 0) (dvb 1)) (aI))))))
 (aL (bD (dv 0)))))
theorem qB (Z:DefAt K mg "_law_divisor" s__law_divisor ["_law_one","_law_other"]) (m_abs:mg "abs" = none) {F:FD} (len:∀ds Q,F ds Q->ds.length=2) (pure:∀ds Q,F ds Q->dU { nx:=λ_=>Q .non,rt:=Q } (aM ["_law_one","_law_other"] ds)):FnAt P w K mg base "_law_divisor" ["_law_one","_law_other"] 1 F :=
 Z.ok jK (λcdv A outer s H E hr=>pU m_abs hr) len pure
theorem lT:FnScope ["_law_found"] ["_law_found"] (aA s__law_whole):=⟨rfl,rfl,rfl,by decide +kernel,rfl,by decide +kernel,by decide +kernel⟩
theorem tF {f:Addr} {cdv:Value} {A:Around} {outer:List Env} {s:Shared} {H:Hp} {E:XK} (m_isinstance:mg "isinstance" = none) (m_bool:mg "bool" = none) (m_int:mg "int" = none) (hr:Room 0 (A.deeper (envOfC "_law_whole" (aA s__law_whole) s.heap.objs.size f cdv))) :
  DSs (cN CX0 P w K mg base ["_law_found"] "_law_whole" (aA s__law_whole) f cdv A outer s H E).nox (aJ s__law_whole) (fJ) :=
 have nd:=lT.nd
 aL (bD (HN (vT (NK _) m_isinstance m_int EC (dv 0)) (HP (OV (vT (KP _) m_isinstance m_bool AF (dv 0))))))
theorem tO (Z:DefAt K mg "_law_whole" s__law_whole ["_law_found"]) (m_isinstance:mg "isinstance" = none) (m_bool:mg "bool" = none) (m_int:mg "int" = none) {F:FD} (len:∀ds Q,F ds Q->ds.length=1) (pure:∀ds Q,F ds Q->fJ { nx:=λ_=>Q .non,rt:=Q } (aM ["_law_found"] ds)):FnAt P w K mg base "_law_whole" ["_law_found"] 1 F :=
 Z.ok lT (λcdv A outer s H E hr=>tF m_isinstance m_bool m_int hr) len pure
theorem gB:FnScope ["_law_found"] ["_law_found"] (aA s__law_is_fraction):=⟨rfl,rfl,rfl,by decide +kernel,rfl,by decide +kernel,by decide +kernel⟩
theorem lD {f:Addr} {cdv:Value} {A:Around} {outer:List Env} {s:Shared} {H:Hp} {E:XK} {VL:FD} (VP:FnAt P w K mg base "_law_divisor" ["_law_one","_law_other"] 1 VL) {WA:FD} (WI:FnAt P w K mg base "_law_whole" ["_law_found"] 1 WA) (m_len:mg "len" = none) (m_isinstance:mg "isinstance" = none) (m_tuple:mg "tuple" = none) (hr:Room 1 (A.deeper (envOfC "_law_is_fraction" (aA s__law_is_fraction) s.heap.objs.size f cdv))) :
  DSs (cN CX0 P w K mg base ["_law_found"] "_law_is_fraction" (aA s__law_is_fraction) f cdv A outer s H E).nox (aJ s__law_is_fraction) (cI VL WA) :=
 have nd:=gB.nd
 aF (gX (DW.tst (uK (rK (rL (vT (GN _) m_isinstance m_tuple xE (dv 0)))) (uK (dE JG (DE.bor (jE m_len (dvb 0))) (DE.bor (aE))) (uK (rK (rL (aT WI (hr.mono (by decide)) (aC (aR (dvb 0) (DE.bor (aE))) (aI))))) (AM (rK (rL (aT WI (hr.mono (by decide)) (aC (aR (dvb 0) (DE.bor (aE))) (aI)))))))))) (aL (bD (uI))) (cY))
 (aL (bD (HN (AJ CW (DE.bor (aR (dvb 0) (DE.bor (aE)))) (DE.bor (aE))) (HP (AJ sC (DE.bor (aT VP (hr.mono (by decide)) (aC (aR (dvb 0) (DE.bor (aE))) (aC (aR (dvb 0) (DE.bor (aE))) (aI))))) (DE.bor (aE)))))))
theorem lH (Z:DefAt K mg "_law_is_fraction" s__law_is_fraction ["_law_found"]) {VL:FD} (VP:FnAt P w K mg base "_law_divisor" ["_law_one","_law_other"] 1 VL) {WA:FD} (WI:FnAt P w K mg base "_law_whole" ["_law_found"] 1 WA) (m_len:mg "len" = none) (m_isinstance:mg "isinstance" = none) (m_tuple:mg "tuple" = none) {F:FD} (len:∀ds Q,F ds Q->ds.length=1) (pure:∀ds Q,F ds Q->cI VL WA { nx:=λ_=>Q .non,rt:=Q } (aM ["_law_found"] ds)):FnAt P w K mg base "_law_is_fraction" ["_law_found"] 2 F :=
 Z.ok gB (λcdv A outer s H E hr=>lD VP WI m_len m_isinstance m_tuple hr) len pure
theorem jM:FnScope ["_law_script","_law_many","_law_found","_law_k","_law_cell","_law_at"] ["_law_script","_law_many"] (aA s__law_numbers):=⟨rfl,rfl,rfl,by decide +kernel,rfl,by decide +kernel,by decide +kernel⟩
theorem mH:List.Nodup (["_law_k"]:List Str):=by decide +kernel
theorem pW {f:Addr} {cdv:Value} {A:Around} {outer:List Env} {s:Shared} {H:Hp} {E:XK} (m_len:mg "len" = none) (m_min:mg "min" = none) (m_max:mg "max" = none) (m_range:mg "range" = none) (hr:Room 0 (A.deeper (envOfC "_law_numbers" (aA s__law_numbers) s.heap.objs.size f cdv))) :
  DSs (cN CX0 P w K mg base ["_law_script","_law_many","_law_found","_law_k","_law_cell","_law_at"] "_law_numbers" (aA s__law_numbers) f cdv A outer s H E).nox (aJ s__law_numbers) (dW) :=
 have nd:=jM.nd
 aF (qR ["_law_k"] 1 [] nd (dI m_range (aC (dv 1) (aI))) (λcl C s H fp=>aW mH) (λcl C s H fp=>aE))
 (aF (cS PassesOwn.never rfl (dI m_range (aC (gJ (LA rfl) m_max ED (aC (dv 1) (aC (gJ (CG rfl) m_min uE (aC (jE m_len (dvb 0)) (aC (aE) (aI)))) (aI)))) (aI))) (aW nd) (aF (aZ nd (aE))
 (aF (gX (dE CW (DE.bor (jE m_len (dvb 0))) (DE.bor (aE))) (aL (aZ nd (aQ dG (DE.bor (aR (dvb 0) (DE.bor (aQ dG (dvb 3) (DE.bor (gJ (CG rfl) m_min uE (aC (jE m_len (dvb 0)) (aC (aE) (aI))))))))) (DE.bor (aQ cL (DE.bor (aQ sD (DE.bor (aE)) (DE.bor (aE)))) (DE.bor (aE))))))) (cY))
 (aF (aZ nd (aQ dG (dvb 3) (dvb 1)))
 (aL (IC 2 (aQ dG (DE.bor (aQ cL (DE.bor (aQ cL (DE.bor (aQ cG (DE.bor (aR (dvb 2) (dvb 5))) (DE.bor (aE)))) (dvb 4))) (DE.bor (aQ cG (dvb 3) (dvb 3))))) (DE.bor (aQ cL (DE.bor (aQ sD (DE.bor (aE)) (DE.bor (aE)))) (DE.bor (aE))))) (dv 5)))))))
 (aL (jJ 2 (bD (dv 2)))))
theorem qD (Z:DefAt K mg "_law_numbers" s__law_numbers ["_law_script","_law_many"]) (m_len:mg "len" = none) (m_min:mg "min" = none) (m_max:mg "max" = none) (m_range:mg "range" = none) {F:FD} (len:∀ds Q,F ds Q->ds.length=2) (pure:∀ds Q,F ds Q->dW { nx:=λ_=>Q .non,rt:=Q } (aM ["_law_script","_law_many","_law_found","_law_k","_law_cell","_law_at"] ds)):FnAt P w K mg base "_law_numbers" ["_law_script","_law_many"] 1 F :=
 Z.ok jM (λcdv A outer s H E hr=>pW m_len m_min m_max m_range hr) len pure
theorem pQ:FnScope ["_law_rings_here","_law_far","_law_by","_law_found","_law_ring"] ["_law_rings_here","_law_far","_law_by"] (aA s__law_put):=⟨rfl,rfl,rfl,by decide +kernel,rfl,by decide +kernel,by decide +kernel⟩
theorem kC:List.Nodup (["_law_x","_law_y","_law_far","_law_by"]:List Str):=by decide +kernel
theorem xA {f:Addr} {cdv:Value} {A:Around} {outer:List Env} {s:Shared} {H:Hp} {E:XK} (hr:Room 0 (A.deeper (envOfC "_law_put" (aA s__law_put) s.heap.objs.size f cdv))) :
  DSs (cN CX0 P w K mg base ["_law_rings_here","_law_far","_law_by","_law_found","_law_ring"] "_law_put" (aA s__law_put) f cdv A outer s H E).nox (aJ s__law_put) (hU) :=
 have nd:=pQ.nd
 aF (gD nd (eP (aI)))
 (aF (cS PassesOwn.never rfl (dQ (dv 0)) (aW nd) (aL (eG 3 (DO.val (nB ["_law_x","_law_y","_law_far","_law_by"] 2 [1,2] (dQ (dv 4)) (λcl C s H fp=>oF rfl (bZ (aW kC) (bZ (aW kC) (kX)))) (λcl C s H fp=>fX (aC (aQ cL (dvb 0) (DE.bor (aR (dvb 2) (DE.bor (aE))))) (aC (aQ cL (DE.bor (aQ cG (dvb 1) (dvb 3))) (DE.bor (aR (dvb 2) (DE.bor (aE))))) (aI)))))))))
 (aL (jJ 3 (bD (dv 3)))))
theorem yU (Z:DefAt K mg "_law_put" s__law_put ["_law_rings_here","_law_far","_law_by"]) {F:FD} (len:∀ds Q,F ds Q->ds.length=3) (pure:∀ds Q,F ds Q->hU { nx:=λ_=>Q .non,rt:=Q } (aM ["_law_rings_here","_law_far","_law_by","_law_found","_law_ring"] ds)):FnAt P w K mg base "_law_put" ["_law_rings_here","_law_far","_law_by"] 1 F :=
 Z.ok pQ (λcdv A outer s H E hr=>xA hr) len pure
theorem lQ:FnScope ["_law_number","_law_base","_law_place","_law_k"] ["_law_number","_law_base","_law_place"] (aA s__law_digit):=⟨rfl,rfl,rfl,by decide +kernel,rfl,by decide +kernel,by decide +kernel⟩
theorem sZ {f:Addr} {cdv:Value} {A:Around} {outer:List Env} {s:Shared} {H:Hp} {E:XK} (m_range:mg "range" = none) (hr:Room 0 (A.deeper (envOfC "_law_digit" (aA s__law_digit) s.heap.objs.size f cdv))) :
  DSs (cN CX0 P w K mg base ["_law_number","_law_base","_law_place","_law_k"] "_law_digit" (aA s__law_digit) f cdv A outer s H E).nox (aJ s__law_digit) (fH) :=
 have nd:=lQ.nd
 aF (cS PassesOwn.never rfl (dI m_range (aC (dv 2) (aI))) (aW nd) (aL (aZ nd (aQ dS (dvb 0) (dvb 1)))))
 (aL (bD (aQ dG (dvb 0) (dvb 1))))
theorem tL (Z:DefAt K mg "_law_digit" s__law_digit ["_law_number","_law_base","_law_place"]) (m_range:mg "range" = none) {F:FD} (len:∀ds Q,F ds Q->ds.length=3) (pure:∀ds Q,F ds Q->fH { nx:=λ_=>Q .non,rt:=Q } (aM ["_law_number","_law_base","_law_place","_law_k"] ds)):FnAt P w K mg base "_law_digit" ["_law_number","_law_base","_law_place"] 1 F :=
 Z.ok lQ (λcdv A outer s H E hr=>sZ m_range hr) len pure
theorem jL:FnScope ["_law_number","_law_many","_law_wide","_law_found","_law_k"] ["_law_number","_law_many","_law_wide"] (aA s__law_heights):=⟨rfl,rfl,rfl,by decide +kernel,rfl,by decide +kernel,by decide +kernel⟩
theorem pV {f:Addr} {cdv:Value} {A:Around} {outer:List Env} {s:Shared} {H:Hp} {E:XK} {VR:FD} (WN:FnAt P w K mg base "_law_digit" ["_law_number","_law_base","_law_place"] 1 VR) (m_sorted:mg "sorted" = none) (m_range:mg "range" = none) (hr:Room 1 (A.deeper (envOfC "_law_heights" (aA s__law_heights) s.heap.objs.size f cdv))) :
  DSs (cN CX0 P w K mg base ["_law_number","_law_many","_law_wide","_law_found","_law_k"] "_law_heights" (aA s__law_heights) f cdv A outer s H E).nox (aJ s__law_heights) (dA VR) :=
 have nd:=jL.nd
 aF (gD nd (eP (aI)))
 (aF (cS PassesOwn.never rfl (dI m_range (aC (dv 1) (aI))) (aW nd) (aL (eG 3 (aT WN (hr.mono (by decide)) (aC (dv 0) (aC (aQ cL (dvb 2) (DE.bor (aE))) (aC (dv 4) (aI))))))))
 (aL (bD (DO.val (xT m_sorted (dvb 3))))))
theorem qC (Z:DefAt K mg "_law_heights" s__law_heights ["_law_number","_law_many","_law_wide"]) {VR:FD} (WN:FnAt P w K mg base "_law_digit" ["_law_number","_law_base","_law_place"] 1 VR) (m_sorted:mg "sorted" = none) (m_range:mg "range" = none) {F:FD} (len:∀ds Q,F ds Q->ds.length=3) (pure:∀ds Q,F ds Q->dA VR { nx:=λ_=>Q .non,rt:=Q } (aM ["_law_number","_law_many","_law_wide","_law_found","_law_k"] ds)):FnAt P w K mg base "_law_heights" ["_law_number","_law_many","_law_wide"] 2 F :=
 Z.ok jL (λcdv A outer s H E hr=>pV WN m_sorted m_range hr) len pure
theorem lS:FnScope ["_law_head","_law_most","_law_wide","_law_many","_law_xs","_law_k","_law_lines","_law_rings_here","_law_low","_law_up","_law_ring"] ["_law_head","_law_most","_law_wide"] (aA s__law_sheet):=⟨rfl,rfl,rfl,by decide +kernel,rfl,by decide +kernel,by decide +kernel⟩
theorem oR:List.Nodup (["_law_j","_law_xs","_law_lines","_law_up"]:List Str):=by decide +kernel
theorem oS:List.Nodup (["_law_j","_law_xs","_law_lines","_law_low"]:List Str):=by decide +kernel
theorem oT:List.Nodup (["_law_k","_law_head","_law_many","_law_wide"]:List Str):=by decide +kernel
theorem tE {f:Addr} {cdv:Value} {A:Around} {outer:List Env} {s:Shared} {H:Hp} {E:XK} {VT:FD} (WE:FnAt P w K mg base "_law_heights" ["_law_number","_law_many","_law_wide"] 2 VT) (m_range:mg "range" = none) (m_len:mg "len" = none) (m_reversed:mg "reversed" = none) (hr:Room 2 (A.deeper (envOfC "_law_sheet" (aA s__law_sheet) s.heap.objs.size f cdv))) :
  DSs (cN CX0 P w K mg base ["_law_head","_law_most","_law_wide","_law_many","_law_xs","_law_k","_law_lines","_law_rings_here","_law_low","_law_up","_law_ring"] "_law_sheet" (aA s__law_sheet) f cdv A outer s H E).nox (aJ s__law_sheet) (fI VT) :=
 have nd:=lS.nd
 aF (aZ nd (aQ cG (DE.bor (aE)) (DE.bor (aQ cL (DE.bor (aE)) (DE.bor (aQ dG (DE.bor (aR (dvb 0) (DE.bor (aE)))) (DE.bor (aE))))))))
 (aF (gD nd (eP (aC (aE) (aI))))
 (aF (cS PassesOwn.never rfl (dI m_range (aC (aQ cL (DE.bor (aE)) (DE.bor (aQ dG (DE.bor (aR (dvb 0) (DE.bor (aE)))) (DE.bor (aE))))) (aI))) (aW nd) (aL (eG 4 (aQ cL (DE.bor (aQ cL (DE.bor (aR (dvb 4) (DE.bor (NR KS (DE.bor (aE)))))) (DE.bor (aE)))) (DE.bor (aQ dG (DE.bor (aQ dS (DE.bor (aR (dvb 0) (DE.bor (aE)))) (DE.bor (aQ cL (DE.bor (aE)) (DE.bor (aQ cG (DE.bor (aE)) (dvb 5))))))) (dvb 1)))))))
 (aF (aZ nd (DO.val (nB ["_law_k","_law_head","_law_many","_law_wide"] 1 [0,3,2] (dI m_range (aC (jE m_len (dvb 4)) (aI))) (λcl C s H fp=>aW oT) (λcl C s H fp=>aT WE (hr.mono (by decide)) (aC (aR (dvb 1) (DE.bor (aQ cL (DE.bor (aE)) (dvb 0)))) (aC (dv 2) (aC (dv 3) (aI))))))))
 (aF (gD nd (eP (aI)))
 (aF (cS PassesOwn.never rfl (dI m_range (aC (aQ dS (dvb 3) (DE.bor (aE))) (aI))) (aW nd) (aF (aZ nd (aQ cG (DE.bor (aE)) (dvb 5)))
 (aF (aZ nd (aQ cL (DE.bor (aQ cG (DE.bor (aE)) (dvb 5))) (DE.bor (aE))))
 (aF (gX (dE sC (DE.bor (aQ dG (DE.bor (aQ dS (DE.bor (aR (dvb 0) (DE.bor (aE)))) (DE.bor (aE)))) (DE.bor (aE)))) (DE.bor (aE))) (aF (aZ nd (dv 5))
 (aL (aZ nd (aQ iD (DE.bor (aQ iD (dvb 3) (DE.bor (aE)))) (dvb 5))))) (cY))
 (aF (jJ 4 (qR ["_law_j","_law_xs","_law_lines","_law_low"] 1 [4,6,8] nd (dI m_range (aC (jE m_len (dvb 4)) (aI))) (λcl C s H fp=>aW oS) (λcl C s H fp=>fX (aC (aR (dvb 1) (dvb 0)) (aC (aR (DE.bor (aR (dvb 2) (dvb 0))) (dvb 3)) (aI))))))
 (aL (jJ 4 (eG 7 (aQ nP (dvb 10) (DE.bor (DO.val (nB ["_law_j","_law_xs","_law_lines","_law_up"] 1 [4,6,9] (LK m_reversed m_range (aC (jE m_len (dvb 4)) (aI))) (λcl C s H fp=>aW oR) (λcl C s H fp=>fX (aC (aR (dvb 1) (dvb 0)) (aC (aR (DE.bor (aR (dvb 2) (dvb 0))) (dvb 3)) (aI))))))))))))))))
 (aL (jJ 7 (bD (dv 7)))))))))
theorem tN (Z:DefAt K mg "_law_sheet" s__law_sheet ["_law_head","_law_most","_law_wide"]) {VT:FD} (WE:FnAt P w K mg base "_law_heights" ["_law_number","_law_many","_law_wide"] 2 VT) (m_range:mg "range" = none) (m_len:mg "len" = none) (m_reversed:mg "reversed" = none) {F:FD} (len:∀ds Q,F ds Q->ds.length=3) (pure:∀ds Q,F ds Q->fI VT { nx:=λ_=>Q .non,rt:=Q } (aM ["_law_head","_law_most","_law_wide","_law_many","_law_xs","_law_k","_law_lines","_law_rings_here","_law_low","_law_up","_law_ring"] ds)):FnAt P w K mg base "_law_sheet" ["_law_head","_law_most","_law_wide"] 3 F :=
 Z.ok lS (λcdv A outer s H E hr=>tE WE m_range m_len m_reversed hr) len pure
theorem lR:FnScope ["_law_head","_law_by","_law_far"] ["_law_head"] (aA s__law_rings):=⟨rfl,rfl,rfl,by decide +kernel,rfl,by decide +kernel,by decide +kernel⟩
theorem tD {f:Addr} {cdv:Value} {A:Around} {outer:List Env} {s:Shared} {H:Hp} {E:XK} {WM:FD} (WS:FnAt P w K mg base "_law_put" ["_law_rings_here","_law_far","_law_by"] 1 WM) {WC:FD} (WO:FnAt P w K mg base "_law_sheet" ["_law_head","_law_most","_law_wide"] 3 WC) (hr:Room 3 (A.deeper (envOfC "_law_rings" (aA s__law_rings) s.heap.objs.size f cdv))) :
  DSs (cN CX0 P w K mg base ["_law_head","_law_by","_law_far"] "_law_rings" (aA s__law_rings) f cdv A outer s H E).nox (aJ s__law_rings) (dX WM WC) :=
 have nd:=lR.nd
 aF (gX (dE sC (DE.bor (aQ dG (DE.bor (aQ dS (DE.bor (aR (dvb 0) (DE.bor (aE)))) (DE.bor (aE)))) (DE.bor (aE)))) (DE.bor (aE))) (aL (bD (DO.val (eP (aI))))) (cY))
 (aF (aZ nd (aR (DE.bor (DO.val (eP (aC (aE) (aC (aQ cL (DE.bor (aE)) (DE.bor (aQ dG (DE.bor (aR (dvb 0) (DE.bor (aE)))) (DE.bor (aQ sD (DE.bor (aE)) (DE.bor (aE))))))) (aI)))))) (DE.bor (aQ dG (DE.bor (aR (dvb 0) (DE.bor (aE)))) (DE.bor (aE))))))
 (aF (aZ nd (fX (aC (aQ iD (DE.bor (aQ dG (DE.bor (aR (dvb 0) (DE.bor (aE)))) (DE.bor (aE)))) (DE.bor (aE))) (aC (aR (DE.bor (DO.val (eP (aC (aE) (aC (aQ iD (DE.bor (aQ dG (DE.bor (aR (dvb 0) (DE.bor (aE)))) (DE.bor (aQ cL (DE.bor (aQ cG (DE.bor (aE)) (DE.bor (aQ sD (DE.bor (aE)) (DE.bor (aE)))))) (DE.bor (aE)))))) (DE.bor (aQ sD (DE.bor (aE)) (DE.bor (aE))))) (aI)))))) (DE.bor (aQ dG (DE.bor (aQ dS (DE.bor (aR (dvb 0) (DE.bor (aE)))) (DE.bor (aE)))) (DE.bor (aE))))) (aI)))))
 (aL (bD (aT WS (hr.mono (by decide)) (aC (aT WO (hr.mono (by decide)) (aC (dv 0) (aC (aE) (aC (aE) (aI))))) (aC (dv 2) (aC (dv 1) (aI)))))))))
theorem tM (Z:DefAt K mg "_law_rings" s__law_rings ["_law_head"]) {WM:FD} (WS:FnAt P w K mg base "_law_put" ["_law_rings_here","_law_far","_law_by"] 1 WM) {WC:FD} (WO:FnAt P w K mg base "_law_sheet" ["_law_head","_law_most","_law_wide"] 3 WC) {F:FD} (len:∀ds Q,F ds Q->ds.length=1) (pure:∀ds Q,F ds Q->dX WM WC { nx:=λ_=>Q .non,rt:=Q } (aM ["_law_head","_law_by","_law_far"] ds)):FnAt P w K mg base "_law_rings" ["_law_head"] 4 F :=
 Z.ok lR (λcdv A outer s H E hr=>tD WS WO hr) len pure
theorem kL:FnScope ["_law_rows","_law_found","_law_x","_law_low0","_law_low1","_law_up0","_law_up1","_law_one","_law_other","_law_top","_law_most"] ["_law_rows"] (aA s__law_slopes):=⟨rfl,rfl,rfl,by decide +kernel,rfl,by decide +kernel,by decide +kernel⟩
theorem qZ {f:Addr} {cdv:Value} {A:Around} {outer:List Env} {s:Shared} {H:Hp} {E:XK} {VL:FD} (VP:FnAt P w K mg base "_law_divisor" ["_law_one","_law_other"] 1 VL) (hr:Room 1 (A.deeper (envOfC "_law_slopes" (aA s__law_slopes) s.heap.objs.size f cdv))) :
  DSs (cN CX0 P w K mg base ["_law_rows","_law_found","_law_x","_law_low0","_law_low1","_law_up0","_law_up1","_law_one","_law_other","_law_top","_law_most"] "_law_slopes" (aA s__law_slopes) f cdv A outer s H E).nox (aJ s__law_slopes) (eU VL) :=
 have nd:=kL.nd
 aF (gD nd (eP (aI)))
 (aF (cS PassesOwn.never rfl (dQ (dv 0)) (oF rfl (bZ (aW nd) (bZ (aW nd) (bZ (aW nd) (bZ (aW nd) (bZ (aW nd) (kX))))))) (aL (cS PassesOwn.never rfl (dQ (DO.val (eP (aC (fX (aC (dv 3) (aC (dv 4) (aI)))) (aC (fX (aC (dv 5) (aC (dv 6) (aI)))) (aI)))))) (oF rfl (bZ (aW nd) (bZ (aW nd) (kX)))) (aF (aZ nd (aQ iD (DE.bor (aQ cG (DE.bor (aR (dvb 8) (DE.bor (aE)))) (DE.bor (aR (dvb 7) (DE.bor (aE)))))) (DE.bor (aQ cG (DE.bor (aR (dvb 7) (DE.bor (aE)))) (DE.bor (aR (dvb 8) (DE.bor (aE))))))))
 (aF (aZ nd (aT VP (hr.mono (by decide)) (aC (dv 9) (aC (aQ cG (DE.bor (aR (dvb 7) (DE.bor (aE)))) (DE.bor (aR (dvb 8) (DE.bor (aE))))) (aI)))))
 (aL (eG 1 (fX (aC (aQ dS (dvb 9) (dvb 10)) (aC (aQ dS (DE.bor (aQ cG (DE.bor (aR (dvb 7) (DE.bor (aE)))) (DE.bor (aR (dvb 8) (DE.bor (aE)))))) (dvb 10)) (aI)))))))))))
 (aL (jJ 1 (bD (dv 1)))))
theorem sF (Z:DefAt K mg "_law_slopes" s__law_slopes ["_law_rows"]) {VL:FD} (VP:FnAt P w K mg base "_law_divisor" ["_law_one","_law_other"] 1 VL) {F:FD} (len:∀ds Q,F ds Q->ds.length=1) (pure:∀ds Q,F ds Q->eU VL { nx:=λ_=>Q .non,rt:=Q } (aM ["_law_rows","_law_found","_law_x","_law_low0","_law_low1","_law_up0","_law_up1","_law_one","_law_other","_law_top","_law_most"] ds)):FnAt P w K mg base "_law_slopes" ["_law_rows"] 2 F :=
 Z.ok kL (λcdv A outer s H E hr=>qZ VP hr) len pure
theorem iB:FnScope ["one","other","larger","smaller","rest"] ["one","other"] (aA s_shared_divisor):=⟨rfl,rfl,rfl,by decide +kernel,rfl,by decide +kernel,by decide +kernel⟩
theorem mW {f:Addr} {cdv:Value} {A:Around} {outer:List Env} {s:Shared} {H:Hp} {E:XK} (m_abs:mg "abs" = none) (hr:Room 0 (A.deeper (envOfC "shared_divisor" (aA s_shared_divisor) s.heap.objs.size f cdv))) :
  DSs (cN CX0 P w K mg base ["one","other","larger","smaller","rest"] "shared_divisor" (aA s_shared_divisor) f cdv A outer s H E).nox (aJ s_shared_divisor) (dB) :=
 have nd:=iB.nd
 aF (aZ nd (gJ vP m_abs kQ (aC (dv 0) (aI))))
 (aF (aZ nd (gJ vP m_abs kQ (aC (dv 1) (aI))))
 (aF (xV PassesOwn.never (dE JG (dvb 3) (DE.bor (aE))) (aF (aZ nd (aQ dG (dvb 2) (dvb 3)))
 (aF (aZ nd (dv 3))
 (aL (aZ nd (dv 4))))))
 (aL (bD (dv 2)))))
theorem nQ (Z:DefAt K mg "shared_divisor" s_shared_divisor ["one","other"]) (m_abs:mg "abs" = none) {F:FD} (len:∀ds Q,F ds Q->ds.length=2) (pure:∀ds Q,F ds Q->dB { nx:=λ_=>Q .non,rt:=Q } (aM ["one","other","larger","smaller","rest"] ds)):FnAt P w K mg base "shared_divisor" ["one","other"] 1 F :=
 Z.ok iB (λcdv A outer s H E hr=>mW m_abs hr) len pure
theorem gQ:FnScope ["one","other"] ["one","other"] (aA s_shared_multiple):=⟨rfl,rfl,rfl,by decide +kernel,rfl,by decide +kernel,by decide +kernel⟩
theorem lX {f:Addr} {cdv:Value} {A:Around} {outer:List Env} {s:Shared} {H:Hp} {E:XK} {F_shared_divisor:FD} (VO:FnAt P w K mg base "shared_divisor" ["one","other"] 1 F_shared_divisor) (hr:Room 1 (A.deeper (envOfC "shared_multiple" (aA s_shared_multiple) s.heap.objs.size f cdv))) :
  DSs (cN CX0 P w K mg base ["one","other"] "shared_multiple" (aA s_shared_multiple) f cdv A outer s H E).nox (aJ s_shared_multiple) (cM F_shared_divisor) :=
 have nd:=gQ.nd
 aL (bD (aQ cG (dvb 0) (DE.bor (aQ dS (dvb 1) (DE.bor (aT VO (hr.mono (by decide)) (aC (dv 0) (aC (dv 1) (aI)))))))))
theorem mM (Z:DefAt K mg "shared_multiple" s_shared_multiple ["one","other"]) {F_shared_divisor:FD} (VO:FnAt P w K mg base "shared_divisor" ["one","other"] 1 F_shared_divisor) {F:FD} (len:∀ds Q,F ds Q->ds.length=2) (pure:∀ds Q,F ds Q->cM F_shared_divisor { nx:=λ_=>Q .non,rt:=Q } (aM ["one","other"] ds)):FnAt P w K mg base "shared_multiple" ["one","other"] 2 F :=
 Z.ok gQ (λcdv A outer s H E hr=>lX VO hr) len pure
theorem gO:FnScope ["numbers","multiple","number"] ["numbers"] (aA s_lowest_multiple):=⟨rfl,rfl,rfl,by decide +kernel,rfl,by decide +kernel,by decide +kernel⟩
theorem lV {f:Addr} {cdv:Value} {A:Around} {outer:List Env} {s:Shared} {H:Hp} {E:XK} {F_shared_multiple:FD} (VX:FnAt P w K mg base "shared_multiple" ["one","other"] 2 F_shared_multiple) (hr:Room 2 (A.deeper (envOfC "lowest_multiple" (aA s_lowest_multiple) s.heap.objs.size f cdv))) :
  DSs (cN CX0 P w K mg base ["numbers","multiple","number"] "lowest_multiple" (aA s_lowest_multiple) f cdv A outer s H E).nox (aJ s_lowest_multiple) (bA F_shared_multiple) :=
 have nd:=gO.nd
 aF (aZ nd (aE))
 (aF (cS PassesOwn.never rfl (dQ (dv 0)) (aW nd) (aL (aZ nd (aT VX (hr.mono (by decide)) (aC (dv 1) (aC (dv 2) (aI)))))))
 (aL (bD (dv 1))))
theorem mK (Z:DefAt K mg "lowest_multiple" s_lowest_multiple ["numbers"]) {F_shared_multiple:FD} (VX:FnAt P w K mg base "shared_multiple" ["one","other"] 2 F_shared_multiple) {F:FD} (len:∀ds Q,F ds Q->ds.length=1) (pure:∀ds Q,F ds Q->bA F_shared_multiple { nx:=λ_=>Q .non,rt:=Q } (aM ["numbers","multiple","number"] ds)):FnAt P w K mg base "lowest_multiple" ["numbers"] 3 F :=
 Z.ok gO (λcdv A outer s H E hr=>lV VX hr) len pure
theorem pT:FnScope ["side"] ["side"] (aA s_width_of):=⟨rfl,rfl,rfl,by decide +kernel,rfl,by decide +kernel,by decide +kernel⟩
theorem xD {f:Addr} {cdv:Value} {A:Around} {outer:List Env} {s:Shared} {H:Hp} {E:XK} (hr:Room 0 (A.deeper (envOfC "width_of" (aA s_width_of) s.heap.objs.size f cdv))) :
  DSs (cN CX0 P w K mg base ["side"] "width_of" (aA s_width_of) f cdv A outer s H E).nox (aJ s_width_of) (iA) :=
 have nd:=pT.nd
 aL (bD (aQ iD (DE.bor (aR (DE.bor (aR (dvb 0) (DE.bor (aE)))) (DE.bor (aE)))) (DE.bor (aR (DE.bor (aR (dvb 0) (DE.bor (aE)))) (DE.bor (aE))))))
theorem yX (Z:DefAt K mg "width_of" s_width_of ["side"]) {F:FD} (len:∀ds Q,F ds Q->ds.length=1) (pure:∀ds Q,F ds Q->iA { nx:=λ_=>Q .non,rt:=Q } (aM ["side"] ds)):FnAt P w K mg base "width_of" ["side"] 1 F :=
 Z.ok pT (λcdv A outer s H E hr=>xD hr) len pure
theorem nY:FnScope ["side","thread","bottom","left","width","climb"] ["side","thread","bottom"] (aA s_height_at):=⟨rfl,rfl,rfl,by decide +kernel,rfl,by decide +kernel,by decide +kernel⟩
theorem vK {f:Addr} {cdv:Value} {A:Around} {outer:List Env} {s:Shared} {H:Hp} {E:XK} {F_width_of:FD} (WB:FnAt P w K mg base "width_of" ["side"] 1 F_width_of) (hr:Room 1 (A.deeper (envOfC "height_at" (aA s_height_at) s.heap.objs.size f cdv))) :
  DSs (cN CX0 P w K mg base ["side","thread","bottom","left","width","climb"] "height_at" (aA s_height_at) f cdv A outer s H E).nox (aJ s_height_at) (dL F_width_of) :=
 have nd:=nY.nd
 aF (aZ nd (aR (dvb 0) (DE.bor (aE))))
 (aF (aZ nd (aT WB (hr.mono (by decide)) (aC (dv 0) (aI))))
 (aF (aZ nd (aQ cG (DE.bor (aQ iD (DE.bor (aR (DE.bor (aR (dvb 0) (DE.bor (aE)))) (DE.bor (aE)))) (DE.bor (aR (dvb 3) (DE.bor (aE)))))) (DE.bor (aQ iD (dvb 1) (DE.bor (aR (dvb 3) (DE.bor (aE))))))))
 (aL (bD (aQ cG (DE.bor (aQ cL (DE.bor (aQ cG (DE.bor (aR (dvb 3) (DE.bor (aE)))) (dvb 4))) (dvb 5))) (DE.bor (aQ dS (dvb 2) (dvb 4))))))))
theorem wE (Z:DefAt K mg "height_at" s_height_at ["side","thread","bottom"]) {F_width_of:FD} (WB:FnAt P w K mg base "width_of" ["side"] 1 F_width_of) {F:FD} (len:∀ds Q,F ds Q->ds.length=3) (pure:∀ds Q,F ds Q->dL F_width_of { nx:=λ_=>Q .non,rt:=Q } (aM ["side","thread","bottom","left","width","climb"] ds)):FnAt P w K mg base "height_at" ["side","thread","bottom"] 2 F :=
 Z.ok nY (λcdv A outer s H E hr=>vK WB hr) len pure
theorem gP:FnScope ["sides","column","bottom","heights","lower","upper"] ["sides","column","bottom"] (aA s_ordered_heights):=⟨rfl,rfl,rfl,by decide +kernel,rfl,by decide +kernel,by decide +kernel⟩
theorem jR:List.Nodup (["side","column","bottom"]:List Str):=by decide +kernel
theorem lW {f:Addr} {cdv:Value} {A:Around} {outer:List Env} {s:Shared} {H:Hp} {E:XK} {F_height_at:FD} (WL:FnAt P w K mg base "height_at" ["side","thread","bottom"] 2 F_height_at) (m_zip:mg "zip" = none) (m_sorted:mg "sorted" = none) (hr:Room 2 (A.deeper (envOfC "ordered_heights" (aA s_ordered_heights) s.heap.objs.size f cdv))) :
  DSs (cN CX0 P w K mg base ["sides","column","bottom","heights","lower","upper"] "ordered_heights" (aA s_ordered_heights) f cdv A outer s H E).nox (aJ s_ordered_heights) (bJ F_height_at) :=
 have nd:=gP.nd
 aF (qR ["side","column","bottom"] 1 [1,2] nd (dQ (dv 0)) (λcl C s H fp=>aW jR) (λcl C s H fp=>fX (aC (aT WL (hr.mono (by decide)) (aC (dv 0) (aC (dv 1) (aC (dv 2) (aI))))) (aC (aT WL (hr.mono (by decide)) (aC (dv 0) (aC (aQ cL (dvb 1) (DE.bor (aE))) (aC (dv 2) (aI))))) (aI)))))
 (aF (gD nd (HZ m_sorted (dvb 3)))
 (aF (jJ 3 (cS PassesOwn.never rfl (AK m_zip (dv 3) (nA (dvb 3) (qQ (aE)) (qP))) (oF rfl (bZ (aW nd) (bZ (aW nd) (kX)))) (aL (gX (dE CY (DE.bor (aR (dvb 5) (DE.bor (aE)))) (DE.bor (aR (dvb 4) (DE.bor (aE))))) (aL (xU)) (cY)))))
 (aL (jJ 3 (bD (dv 3))))))
theorem mL (Z:DefAt K mg "ordered_heights" s_ordered_heights ["sides","column","bottom"]) {F_height_at:FD} (WL:FnAt P w K mg base "height_at" ["side","thread","bottom"] 2 F_height_at) (m_zip:mg "zip" = none) (m_sorted:mg "sorted" = none) {F:FD} (len:∀ds Q,F ds Q->ds.length=3) (pure:∀ds Q,F ds Q->bJ F_height_at { nx:=λ_=>Q .non,rt:=Q } (aM ["sides","column","bottom","heights","lower","upper"] ds)):FnAt P w K mg base "ordered_heights" ["sides","column","bottom"] 3 F :=
 Z.ok gP (λcdv A outer s H E hr=>lW WL m_zip m_sorted hr) len pure
theorem zK:FnScope ["top","bottom","divisor"] ["top","bottom"] (aA s_ratio):=⟨rfl,rfl,rfl,by decide +kernel,rfl,by decide +kernel,by decide +kernel⟩
theorem GZ {f:Addr} {cdv:Value} {A:Around} {outer:List Env} {s:Shared} {H:Hp} {E:XK} {F_shared_divisor:FD} (VO:FnAt P w K mg base "shared_divisor" ["one","other"] 1 F_shared_divisor) (hr:Room 1 (A.deeper (envOfC "ratio" (aA s_ratio) s.heap.objs.size f cdv))) :
  DSs (cN CX0 P w K mg base ["top","bottom","divisor"] "ratio" (aA s_ratio) f cdv A outer s H E).nox (aJ s_ratio) (nX F_shared_divisor) :=
 have nd:=zK.nd
 aF (gX (dE sC (dvb 1) (DE.bor (aE))) (aL (xU)) (cY))
 (aF (aZ nd (aT VO (hr.mono (by decide)) (aC (dv 0) (aC (dv 1) (aI)))))
 (aF (gX (dE CY (dvb 1) (DE.bor (aE))) (aL (aZ nd (NR KS (dvb 2)))) (cY))
 (aL (bD (fX (aC (aQ dS (dvb 0) (dvb 2)) (aC (aQ dS (dvb 1) (dvb 2)) (aI))))))))
theorem JJ (Z:DefAt K mg "ratio" s_ratio ["top","bottom"]) {F_shared_divisor:FD} (VO:FnAt P w K mg base "shared_divisor" ["one","other"] 1 F_shared_divisor) {F:FD} (len:∀ds Q,F ds Q->ds.length=2) (pure:∀ds Q,F ds Q->nX F_shared_divisor { nx:=λ_=>Q .non,rt:=Q } (aM ["top","bottom","divisor"] ds)):FnAt P w K mg base "ratio" ["top","bottom"] 2 F :=
 Z.ok zK (λcdv A outer s H E hr=>GZ VO hr) len pure
theorem jN:FnScope ["sides","column","bottom","heights","rows","low","up","edges"] ["sides","column"] (aA s_column_bands):=⟨rfl,rfl,rfl,by decide +kernel,rfl,by decide +kernel,by decide +kernel⟩
theorem mI:List.Nodup (["height","bottom"]:List Str):=by decide +kernel
theorem mJ:List.Nodup (["side"]:List Str):=by decide +kernel
theorem pX {f:Addr} {cdv:Value} {A:Around} {outer:List Env} {s:Shared} {H:Hp} {E:XK} {F_lowest_multiple:FD} (VM:FnAt P w K mg base "lowest_multiple" ["numbers"] 3 F_lowest_multiple) {F_ordered_heights:FD} (VW:FnAt P w K mg base "ordered_heights" ["sides","column","bottom"] 3 F_ordered_heights) {bE:FD} (WR:FnAt P w K mg base "ratio" ["top","bottom"] 2 bE) {F_width_of:FD} (WB:FnAt P w K mg base "width_of" ["side"] 1 F_width_of) (m_zip:mg "zip" = none) (hr:Room 3 (A.deeper (envOfC "column_bands" (aA s_column_bands) s.heap.objs.size f cdv))) :
  DSs (cN CX0 P w K mg base ["sides","column","bottom","heights","rows","low","up","edges"] "column_bands" (aA s_column_bands) f cdv A outer s H E).nox (aJ s_column_bands) (bS F_lowest_multiple F_ordered_heights bE F_width_of) :=
 have nd:=jN.nd
 aF (aZ nd (aT VM (hr.mono (by decide)) (aC (DO.val (nB ["side"] 1 [] (dQ (dv 0)) (λcl C s H fp=>aW mJ) (λcl C s H fp=>aT WB (hr.mono (by decide)) (aC (dv 0) (aI))))) (aI))))
 (aF (aZ nd (aT VW (hr.mono (by decide)) (aC (dv 0) (aC (dv 1) (aC (dv 2) (aI))))))
 (aF (gD nd (eP (aI)))
 (aF (cS PassesOwn.never rfl (AK m_zip (DO.val (LM (dvb 3))) (DO.val (LN (dvb 3)))) (oF rfl (bZ (aW nd) (bZ (aW nd) (kX)))) (aL (gX (dE (SU hr) (dvb 5) (dvb 6)) (aF (qR ["height","bottom"] 1 [2] nd (OX (aQ nP (dvb 5) (dvb 6))) (λcl C s H fp=>aW mI) (λcl C s H fp=>aT WR (hr.mono (by decide)) (aC (dv 0) (aC (dv 1) (aI)))))
 (aL (eG 4 (fX (aC (dv 1) (aC (aR (dvb 7) (DE.bor (aE))) (aC (aR (dvb 7) (DE.bor (aE))) (aC (aR (dvb 7) (DE.bor (aE))) (aC (aR (dvb 7) (DE.bor (aE))) (aI)))))))))) (cY))))
 (aL (jJ 4 (bD (dv 4)))))))
theorem qE (Z:DefAt K mg "column_bands" s_column_bands ["sides","column"]) {F_lowest_multiple:FD} (VM:FnAt P w K mg base "lowest_multiple" ["numbers"] 3 F_lowest_multiple) {F_ordered_heights:FD} (VW:FnAt P w K mg base "ordered_heights" ["sides","column","bottom"] 3 F_ordered_heights) {bE:FD} (WR:FnAt P w K mg base "ratio" ["top","bottom"] 2 bE) {F_width_of:FD} (WB:FnAt P w K mg base "width_of" ["side"] 1 F_width_of) (m_zip:mg "zip" = none) {F:FD} (len:∀ds Q,F ds Q->ds.length=2) (pure:∀ds Q,F ds Q->bS F_lowest_multiple F_ordered_heights bE F_width_of { nx:=λ_=>Q .non,rt:=Q } (aM ["sides","column","bottom","heights","rows","low","up","edges"] ds)):FnAt P w K mg base "column_bands" ["sides","column"] 4 F :=
 Z.ok jN (λcdv A outer s H E hr=>pX VM VW WR WB m_zip hr) len pure
theorem pS:FnScope ["ring","sides","one","other"] ["ring"] (aA s_sides_of):=⟨rfl,rfl,rfl,by decide +kernel,rfl,by decide +kernel,by decide +kernel⟩
theorem xC {f:Addr} {cdv:Value} {A:Around} {outer:List Env} {s:Shared} {H:Hp} {E:XK} (m_zip:mg "zip" = none) (hr:Room 0 (A.deeper (envOfC "sides_of" (aA s_sides_of) s.heap.objs.size f cdv))) :
  DSs (cN CX0 P w K mg base ["ring","sides","one","other"] "sides_of" (aA s_sides_of) f cdv A outer s H E).nox (aJ s_sides_of) (hZ) :=
 have nd:=pS.nd
 aF (gD nd (eP (aI)))
 (aF (cS PassesOwn.never rfl (AK m_zip (dv 0) (aQ nP (DE.bor (nA (dvb 0) (qQ (aE)) (qP))) (DE.bor (nA (dvb 0) (qP) (qQ (aE)))))) (oF rfl (bZ (aW nd) (bZ (aW nd) (kX)))) (aF (gX (dE CY (DE.bor (aR (dvb 2) (DE.bor (aE)))) (DE.bor (aR (dvb 3) (DE.bor (aE))))) (aL (eG 1 (fX (aC (dv 2) (aC (dv 3) (aI)))))) (cY))
 (aL (gX (dE CY (DE.bor (aR (dvb 3) (DE.bor (aE)))) (DE.bor (aR (dvb 2) (DE.bor (aE))))) (aL (eG 1 (fX (aC (dv 3) (aC (dv 2) (aI)))))) (cY)))))
 (aL (jJ 1 (bD (dv 1)))))
theorem yW (Z:DefAt K mg "sides_of" s_sides_of ["ring"]) (m_zip:mg "zip" = none) {F:FD} (len:∀ds Q,F ds Q->ds.length=1) (pure:∀ds Q,F ds Q->hZ { nx:=λ_=>Q .non,rt:=Q } (aM ["ring","sides","one","other"] ds)):FnAt P w K mg base "sides_of" ["ring"] 1 F :=
 Z.ok pS (λcdv A outer s H E hr=>xC m_zip hr) len pure
theorem gR:FnScope ["rings","columns","ring","side","column"] ["rings"] (aA s_sides_by_column):=⟨rfl,rfl,rfl,by decide +kernel,rfl,by decide +kernel,by decide +kernel⟩
theorem lY {f:Addr} {cdv:Value} {A:Around} {outer:List Env} {s:Shared} {H:Hp} {E:XK} {F_sides_of:FD} (WT:FnAt P w K mg base "sides_of" ["ring"] 1 F_sides_of) (m_range:mg "range" = none) (hr:Room 1 (A.deeper (envOfC "sides_by_column" (aA s_sides_by_column) s.heap.objs.size f cdv))) :
  DSs (cN CX0 P w K mg base ["rings","columns","ring","side","column"] "sides_by_column" (aA s_sides_by_column) f cdv A outer s H E).nox (aJ s_sides_by_column) (bK F_sides_of) :=
 have nd:=gR.nd
 aF (LP nd)
 (aF (cS PassesOwn.never rfl (dQ (dv 0)) (aW nd) (aL (cS PassesOwn.never rfl (dQ (aT WT (hr.mono (by decide)) (aC (dv 2) (aI)))) (aW nd) (aL (cS PassesOwn.never rfl (OW m_range (aC (aR (DE.bor (aR (dvb 3) (DE.bor (aE)))) (DE.bor (aE))) (aC (aR (DE.bor (aR (dvb 3) (DE.bor (aE)))) (DE.bor (aE))) (aI)))) (aW nd) (aL (LO 1 (dv 4) (dv 3))))))))
 (aL (jJ 1 (bD (dv 1)))))
theorem mN (Z:DefAt K mg "sides_by_column" s_sides_by_column ["rings"]) {F_sides_of:FD} (WT:FnAt P w K mg base "sides_of" ["ring"] 1 F_sides_of) (m_range:mg "range" = none) {F:FD} (len:∀ds Q,F ds Q->ds.length=1) (pure:∀ds Q,F ds Q->bK F_sides_of { nx:=λ_=>Q .non,rt:=Q } (aM ["rings","columns","ring","side","column"] ds)):FnAt P w K mg base "sides_by_column" ["rings"] 2 F :=
 Z.ok gR (λcdv A outer s H E hr=>lY WT m_range hr) len pure
theorem zH:FnScope ["rings","columns","rows","column"] ["rings"] (aA s_bands):=⟨rfl,rfl,rfl,by decide +kernel,rfl,by decide +kernel,by decide +kernel⟩
theorem GX {f:Addr} {cdv:Value} {A:Around} {outer:List Env} {s:Shared} {H:Hp} {E:XK} {F_column_bands:FD} (WG:FnAt P w K mg base "column_bands" ["sides","column"] 4 F_column_bands) {F_sides_by_column:FD} (VY:FnAt P w K mg base "sides_by_column" ["rings"] 2 F_sides_by_column) (m_list:mg "list" = none) (m_sorted:mg "sorted" = none) (hr:Room 4 (A.deeper (envOfC "bands" (aA s_bands) s.heap.objs.size f cdv))) :
  DSs (cN CX0 P w K mg base ["rings","columns","rows","column"] "bands" (aA s_bands) f cdv A outer s H E).nox (aJ s_bands) (nV F_column_bands F_sides_by_column) :=
 have nd:=zH.nd
 aF (aZ nd (aT VY (hr.mono (by decide)) (aC (dv 0) (aI))))
 (aF (gD nd (eP (aI)))
 (aF (cS PassesOwn.never rfl (dQ (DO.val (xT m_sorted (DE.bor (DO.val (HY m_list rfl (dv 1))))))) (aW nd) (aL (ET 2 (aT WG (hr.mono (by decide)) (aC (OU hr (dv 1) (dv 3)) (aC (dv 3) (aI)))))))
 (aL (jJ 2 (bD (dv 2))))))
theorem JH (Z:DefAt K mg "bands" s_bands ["rings"]) {F_column_bands:FD} (WG:FnAt P w K mg base "column_bands" ["sides","column"] 4 F_column_bands) {F_sides_by_column:FD} (VY:FnAt P w K mg base "sides_by_column" ["rings"] 2 F_sides_by_column) (m_list:mg "list" = none) (m_sorted:mg "sorted" = none) {F:FD} (len:∀ds Q,F ds Q->ds.length=1) (pure:∀ds Q,F ds Q->nV F_column_bands F_sides_by_column { nx:=λ_=>Q .non,rt:=Q } (aM ["rings","columns","rows","column"] ds)):FnAt P w K mg base "bands" ["rings"] 5 F :=
 Z.ok zH (λcdv A outer s H E hr=>GX WG VY m_list m_sorted hr) len pure
theorem zJ:FnScope ["one","other"] ["one","other"] (aA s_minus):=⟨rfl,rfl,rfl,by decide +kernel,rfl,by decide +kernel,by decide +kernel⟩
theorem GY {f:Addr} {cdv:Value} {A:Around} {outer:List Env} {s:Shared} {H:Hp} {E:XK} {bE:FD} (WR:FnAt P w K mg base "ratio" ["top","bottom"] 2 bE) (hr:Room 2 (A.deeper (envOfC "minus" (aA s_minus) s.heap.objs.size f cdv))) :
  DSs (cN CX0 P w K mg base ["one","other"] "minus" (aA s_minus) f cdv A outer s H E).nox (aJ s_minus) (nW bE) :=
 have nd:=zJ.nd
 aL (bD (aT WR (hr.mono (by decide)) (aC (aQ iD (DE.bor (aQ cG (DE.bor (aR (dvb 0) (DE.bor (aE)))) (DE.bor (aR (dvb 1) (DE.bor (aE)))))) (DE.bor (aQ cG (DE.bor (aR (dvb 1) (DE.bor (aE)))) (DE.bor (aR (dvb 0) (DE.bor (aE))))))) (aC (aQ cG (DE.bor (aR (dvb 0) (DE.bor (aE)))) (DE.bor (aR (dvb 1) (DE.bor (aE))))) (aI)))))
theorem JI (Z:DefAt K mg "minus" s_minus ["one","other"]) {bE:FD} (WR:FnAt P w K mg base "ratio" ["top","bottom"] 2 bE) {F:FD} (len:∀ds Q,F ds Q->ds.length=2) (pure:∀ds Q,F ds Q->nW bE { nx:=λ_=>Q .non,rt:=Q } (aM ["one","other"] ds)):FnAt P w K mg base "minus" ["one","other"] 3 F :=
 Z.ok zJ (λcdv A outer s H E hr=>GY WR hr) len pure
theorem kM:FnScope ["row"] ["row"] (aA s_lower_slope):=⟨rfl,rfl,rfl,by decide +kernel,rfl,by decide +kernel,by decide +kernel⟩
theorem rA {f:Addr} {cdv:Value} {A:Around} {outer:List Env} {s:Shared} {H:Hp} {E:XK} {bQ:FD} (WQ:FnAt P w K mg base "minus" ["one","other"] 3 bQ) (hr:Room 3 (A.deeper (envOfC "lower_slope" (aA s_lower_slope) s.heap.objs.size f cdv))) :
  DSs (cN CX0 P w K mg base ["row"] "lower_slope" (aA s_lower_slope) f cdv A outer s H E).nox (aJ s_lower_slope) (eX bQ) :=
 have nd:=kM.nd
 aL (bD (aT WQ (hr.mono (by decide)) (aC (aR (dvb 0) (DE.bor (aE))) (aC (aR (dvb 0) (DE.bor (aE))) (aI)))))
theorem sG (Z:DefAt K mg "lower_slope" s_lower_slope ["row"]) {bQ:FD} (WQ:FnAt P w K mg base "minus" ["one","other"] 3 bQ) {F:FD} (len:∀ds Q,F ds Q->ds.length=1) (pure:∀ds Q,F ds Q->eX bQ { nx:=λ_=>Q .non,rt:=Q } (aM ["row"] ds)):FnAt P w K mg base "lower_slope" ["row"] 4 F :=
 Z.ok kM (λcdv A outer s H E hr=>rA WQ hr) len pure
theorem uY:FnScope ["ones","bottom"] ["ones"] (aA s_rising):=⟨rfl,rfl,rfl,by decide +kernel,rfl,by decide +kernel,by decide +kernel⟩
theorem wC:List.Nodup (["one"]:List Str):=by decide +kernel
theorem EB {f:Addr} {cdv:Value} {A:Around} {outer:List Env} {s:Shared} {H:Hp} {E:XK} {lc lt:Addr} (W:LamW K mg base "rising" lc lt) (hcd:cdv = .ref lc) {F_lowest_multiple:FD} (VM:FnAt P w K mg base "lowest_multiple" ["numbers"] 3 F_lowest_multiple) (m_sorted:mg "sorted" = none) (hr:Room 3 (A.deeper (envOfC "rising" (aA s_rising) s.heap.objs.size f cdv))) :
  DSs (cN CX0 P w K mg base ["ones","bottom"] "rising" (aA s_rising) f cdv A outer s H E).nox (aJ s_rising) (iY F_lowest_multiple) :=
 have nd:=uY.nd
 aF (aZ nd (aT VM (hr.mono (by decide)) (aC (DO.val (nB ["one"] 1 [] (dQ (dv 0)) (λcl C s H fp=>aW wC) (λcl C s H fp=>aR (dvb 0) (DE.bor (aE))))) (aI))))
 (aL (bD (DO.val (ES (k:=0) (j:=1) hr m_sorted W (by decide) hcd (dvb 0) (by rfl) (hfree:=IT rfl)))))
theorem FO (Z:DefAt K mg "rising" s_rising ["ones"]) {lc lt:Addr} (W:LamW K mg base "rising" lc lt) {F_lowest_multiple:FD} (VM:FnAt P w K mg base "lowest_multiple" ["numbers"] 3 F_lowest_multiple) (m_sorted:mg "sorted" = none) {F:FD} (len:∀ds Q,F ds Q->ds.length=1) (pure:∀ds Q,F ds Q->iY F_lowest_multiple { nx:=λ_=>Q .non,rt:=Q } (aM ["ones","bottom"] ds)):FnAt P w K mg base "rising" ["ones"] 4 F :=
 Z.okC uY (λcdv A outer s H E hc hr=>EB W (hc _ _ W.tab) VM m_sorted hr) len pure
theorem kN:FnScope ["row"] ["row"] (aA s_upper_slope):=⟨rfl,rfl,rfl,by decide +kernel,rfl,by decide +kernel,by decide +kernel⟩
theorem rD {f:Addr} {cdv:Value} {A:Around} {outer:List Env} {s:Shared} {H:Hp} {E:XK} {bQ:FD} (WQ:FnAt P w K mg base "minus" ["one","other"] 3 bQ) (hr:Room 3 (A.deeper (envOfC "upper_slope" (aA s_upper_slope) s.heap.objs.size f cdv))) :
  DSs (cN CX0 P w K mg base ["row"] "upper_slope" (aA s_upper_slope) f cdv A outer s H E).nox (aJ s_upper_slope) (eY bQ) :=
 have nd:=kN.nd
 aL (bD (aT WQ (hr.mono (by decide)) (aC (aR (dvb 0) (DE.bor (aE))) (aC (aR (dvb 0) (DE.bor (aE))) (aI)))))
theorem sH (Z:DefAt K mg "upper_slope" s_upper_slope ["row"]) {bQ:FD} (WQ:FnAt P w K mg base "minus" ["one","other"] 3 bQ) {F:FD} (len:∀ds Q,F ds Q->ds.length=1) (pure:∀ds Q,F ds Q->eY bQ { nx:=λ_=>Q .non,rt:=Q } (aM ["row"] ds)):FnAt P w K mg base "upper_slope" ["row"] 4 F :=
 Z.ok kN (λcdv A outer s H E hr=>rD WQ hr) len pure
theorem pR:FnScope ["ones","others","slopes","row"] ["ones","others"] (aA s_leans_of):=⟨rfl,rfl,rfl,by decide +kernel,rfl,by decide +kernel,by decide +kernel⟩
theorem xB {f:Addr} {cdv:Value} {A:Around} {outer:List Env} {s:Shared} {H:Hp} {E:XK} {F_lower_slope:FD} (WJ:FnAt P w K mg base "lower_slope" ["row"] 4 F_lower_slope) {F_rising:FD} (WU:FnAt P w K mg base "rising" ["ones"] 4 F_rising) {F_upper_slope:FD} (WK:FnAt P w K mg base "upper_slope" ["row"] 4 F_upper_slope) (m_list:mg "list" = none) (hr:Room 4 (A.deeper (envOfC "leans_of" (aA s_leans_of) s.heap.objs.size f cdv))) :
  DSs (cN CX0 P w K mg base ["ones","others","slopes","row"] "leans_of" (aA s_leans_of) f cdv A outer s H E).nox (aJ s_leans_of) (hX F_lower_slope F_rising F_upper_slope) :=
 have nd:=pR.nd
 aF (LQ nd)
 (aF (cS PassesOwn.never rfl (dQ (aQ nP (dvb 0) (dvb 1))) (aW nd) (aF (CN 2 hr (aT WJ (hr.mono (by decide)) (aC (dv 3) (aI))) (uI))
 (aL (CN 2 hr (aT WK (hr.mono (by decide)) (aC (dv 3) (aI))) (uI)))))
 (aL (bD (aT WU (hr.mono (by decide)) (aC (DO.val (IA 2 m_list rfl)) (aI))))))
theorem yV (Z:DefAt K mg "leans_of" s_leans_of ["ones","others"]) {F_lower_slope:FD} (WJ:FnAt P w K mg base "lower_slope" ["row"] 4 F_lower_slope) {F_rising:FD} (WU:FnAt P w K mg base "rising" ["ones"] 4 F_rising) {F_upper_slope:FD} (WK:FnAt P w K mg base "upper_slope" ["row"] 4 F_upper_slope) (m_list:mg "list" = none) {F:FD} (len:∀ds Q,F ds Q->ds.length=2) (pure:∀ds Q,F ds Q->hX F_lower_slope F_rising F_upper_slope { nx:=λ_=>Q .non,rt:=Q } (aM ["ones","others","slopes","row"] ds)):FnAt P w K mg base "leans_of" ["ones","others"] 5 F :=
 Z.ok pR (λcdv A outer s H E hr=>xB WJ WU WK m_list hr) len pure
theorem KI:FnScope ["_law_script","_law_head","_law_ones","_law_others","_law_handed","_law_found","_law_due","_law_k","_law_one"] ["_law_script"] (aA s_law):=⟨rfl,rfl,rfl,by decide +kernel,rfl,by decide +kernel,by decide +kernel⟩
theorem OQ {f:Addr} {cdv:Value} {A:Around} {outer:List Env} {s:Shared} {H:Hp} {E:XK} {VN:FD} (VQ:FnAt P w K mg base "_law_is_fraction" ["_law_found"] 2 VN) {VU:FD} (WF:FnAt P w K mg base "_law_numbers" ["_law_script","_law_many"] 1 VU) {VZ:FD} (WH:FnAt P w K mg base "_law_rings" ["_law_head"] 4 VZ) {VS:FD} (WD:FnAt P w K mg base "_law_slopes" ["_law_rows"] 2 VS) {F_bands:FD} (WV:FnAt P w K mg base "bands" ["rings"] 5 F_bands) {F_leans_of:FD} (WP:FnAt P w K mg base "leans_of" ["ones","others"] 5 F_leans_of) (m_len:mg "len" = none) (m_set:mg "set" = none) (m_range:mg "range" = none) (m_isinstance:mg "isinstance" = none) (m_list:mg "list" = none) (hr:Room 5 (A.deeper (envOfC "law" (aA s_law) s.heap.objs.size f cdv))) :
  DSs (cN CX0 P w K mg base ["_law_script","_law_head","_law_ones","_law_others","_law_handed","_law_found","_law_due","_law_k","_law_one"] "law" (aA s_law) f cdv A outer s H E).nox (aJ s_law) (jH VN VU VZ VS F_bands F_leans_of) :=
 have nd:=KI.nd
 aF (aZ nd (aT WF (hr.mono (by decide)) (aC (dv 0) (aC (aE) (aI)))))
 (aF (aZ nd (aT WV (hr.mono (by decide)) (aC (aT WH (hr.mono (by decide)) (aC (dv 1) (aI))) (aI))))
 (aF (aZ nd (aT WV (hr.mono (by decide)) (aC (aT WH (hr.mono (by decide)) (aC (nA (dvb 1) (qQ (aE)) (qP)) (aI))) (aI))))
 (aF (aZ nd (DO.val (eP (aC (uJ m_list (dvb 2)) (aC (uJ m_list (dvb 3)) (aI))))))
 (aF (aZ nd (aT WP (hr.mono (by decide)) (aC (aR (dvb 4) (DE.bor (aE))) (aC (aR (dvb 4) (DE.bor (aE))) (aI)))))
 (aF (aZ nd (aQ nP (DE.bor (aT WD (hr.mono (by decide)) (aC (dv 2) (aI)))) (DE.bor (aT WD (hr.mono (by decide)) (aC (dv 3) (aI))))))
 (aF (gX (DW.tst (uK (rK (rL (vT (KQ _) m_isinstance m_list AG (dv 5)))) (uK (dE (JF hr) (dvb 4) (DE.bor (DO.val (eP (aC (dv 2) (aC (dv 3) (aI))))))) (AM (dE (JF hr) (DE.bor (aT WP (hr.mono (by decide)) (aC (dv 3) (aC (dv 2) (aI))))) (dvb 5)))))) (aL (bD (uI))) (cY))
 (aF (cS PassesOwn.never rfl (dI m_range (aC (jE m_len (dvb 5)) (aI))) (aW nd) (aF (gX (DW.tst (uK (rK (rL (aT VQ (hr.mono (by decide)) (aC (aR (dvb 5) (dvb 7)) (aI))))) (AM (dE (FL hr) (DE.bor (aR (dvb 5) (dvb 7))) (dvb 6) rfl)))) (aL (bD (uI))) (cY))
 (aL (gX (dE CW (dvb 7) (DE.bor (aE))) (aF (aZ nd (aR (dvb 5) (DE.bor (aQ iD (dvb 7) (DE.bor (aE))))))
 (aL (gX (dE SS (DE.bor (aQ cG (DE.bor (aR (dvb 8) (DE.bor (aE)))) (DE.bor (aR (DE.bor (aR (dvb 5) (dvb 7))) (DE.bor (aE)))))) (DE.bor (aQ cG (DE.bor (aR (DE.bor (aR (dvb 5) (dvb 7))) (DE.bor (aE)))) (DE.bor (aR (dvb 8) (DE.bor (aE))))))) (aL (bD (uI))) (cY)))) (cY)))))
 (aL (bD (AJ sC (DE.bor (jE m_len (dvb 5))) (DE.bor (EO hr m_len m_set rfl (dvb 6)))))))))))))
theorem PD {VN:FD} (VQ:FnAt P w K mg base "_law_is_fraction" ["_law_found"] 2 VN) {VU:FD} (WF:FnAt P w K mg base "_law_numbers" ["_law_script","_law_many"] 1 VU) {VZ:FD} (WH:FnAt P w K mg base "_law_rings" ["_law_head"] 4 VZ) {VS:FD} (WD:FnAt P w K mg base "_law_slopes" ["_law_rows"] 2 VS) {F_bands:FD} (WV:FnAt P w K mg base "bands" ["rings"] 5 F_bands) {F_leans_of:FD} (WP:FnAt P w K mg base "leans_of" ["ones","others"] 5 F_leans_of) (m_len:mg "len" = none) (m_set:mg "set" = none) (m_range:mg "range" = none) (m_isinstance:mg "isinstance" = none) (m_list:mg "list" = none) {F:FD} {f:Addr} {fd:FuncData} (Fu:Fun K "law" "law" s_law f fd) (len:∀ds Q,F ds Q->ds.length=1) (pure:∀ds Q,F ds Q->jH VN VU VZ VS F_bands F_leans_of { nx:=λ_=>Q .non,rt:=Q } (aM ["_law_script","_law_head","_law_ones","_law_others","_law_handed","_law_found","_law_due","_law_k","_law_one"] ds)):FnOk P w K mg base CX0 6 f fd ["_law_script"] (spD K F) :=
 NY Fu KI (λcdv A outer s H E hr=>OQ VQ WF WH WD WV WP m_len m_set m_range m_isinstance m_list hr) len pure
end
structure TopF (K:PySem.W.Frag) (mg:Str->Option Value):Prop where
 d__law_divisor:DefAt K mg "_law_divisor" s__law_divisor ["_law_one","_law_other"]
 d__law_whole:DefAt K mg "_law_whole" s__law_whole ["_law_found"]
 d__law_is_fraction:DefAt K mg "_law_is_fraction" s__law_is_fraction ["_law_found"]
 d__law_numbers:DefAt K mg "_law_numbers" s__law_numbers ["_law_script","_law_many"]
 d__law_put:DefAt K mg "_law_put" s__law_put ["_law_rings_here","_law_far","_law_by"]
 d__law_digit:DefAt K mg "_law_digit" s__law_digit ["_law_number","_law_base","_law_place"]
 d__law_heights:DefAt K mg "_law_heights" s__law_heights ["_law_number","_law_many","_law_wide"]
 d__law_sheet:DefAt K mg "_law_sheet" s__law_sheet ["_law_head","_law_most","_law_wide"]
 d__law_rings:DefAt K mg "_law_rings" s__law_rings ["_law_head"]
 d__law_slopes:DefAt K mg "_law_slopes" s__law_slopes ["_law_rows"]
 d_shared_divisor:DefAt K mg "shared_divisor" s_shared_divisor ["one","other"]
 d_shared_multiple:DefAt K mg "shared_multiple" s_shared_multiple ["one","other"]
 d_lowest_multiple:DefAt K mg "lowest_multiple" s_lowest_multiple ["numbers"]
 d_width_of:DefAt K mg "width_of" s_width_of ["side"]
 d_height_at:DefAt K mg "height_at" s_height_at ["side","thread","bottom"]
 d_ordered_heights:DefAt K mg "ordered_heights" s_ordered_heights ["sides","column","bottom"]
 d_ratio:DefAt K mg "ratio" s_ratio ["top","bottom"]
 d_column_bands:DefAt K mg "column_bands" s_column_bands ["sides","column"]
 d_sides_of:DefAt K mg "sides_of" s_sides_of ["ring"]
 d_sides_by_column:DefAt K mg "sides_by_column" s_sides_by_column ["rings"]
 d_bands:DefAt K mg "bands" s_bands ["rings"]
 d_minus:DefAt K mg "minus" s_minus ["one","other"]
 d_lower_slope:DefAt K mg "lower_slope" s_lower_slope ["row"]
 d_rising:DefAt K mg "rising" s_rising ["ones"]
 d_upper_slope:DefAt K mg "upper_slope" s_upper_slope ["row"]
 d_leans_of:DefAt K mg "leans_of" s_leans_of ["ones","others"]
 d_law:DefAt K mg "law" s_law ["_law_script"]
 m_abs:mg "abs" = none
 m_isinstance:mg "isinstance" = none
 m_bool:mg "bool" = none
 m_int:mg "int" = none
 m_len:mg "len" = none
 m_tuple:mg "tuple" = none
 m_min:mg "min" = none
 m_max:mg "max" = none
 m_range:mg "range" = none
 m_sorted:mg "sorted" = none
 m_reversed:mg "reversed" = none
 m_zip:mg "zip" = none
 m_list:mg "list" = none
 m_set:mg "set" = none
 t_rising:∃c T,PySem.W.tabIn K "rising" = some (c,T)
theorem top_mk {K:PySem.W.Frag} {h:Heap} {mg:Str->Option Value} (X:K.In h) (G:h.Ns mainGlobals mg)
  {f0:Addr} {od0 an0:Option Addr} {sl0:Array (Option Value)} {oc0 kV0 dc0 pm0 cd0 ct0:Value}
  {f1:Addr} {od1 an1:Option Addr} {sl1:Array (Option Value)} {oc1 kV1 dc1 pm1 cd1 ct1:Value}
  {f2:Addr} {od2 an2:Option Addr} {sl2:Array (Option Value)} {oc2 kV2 dc2 pm2 cd2 ct2:Value}
  {f3:Addr} {od3 an3:Option Addr} {sl3:Array (Option Value)} {oc3 kV3 dc3 pm3 cd3 ct3:Value}
  {f4:Addr} {od4 an4:Option Addr} {sl4:Array (Option Value)} {oc4 kV4 dc4 pm4 cd4 ct4:Value}
  {f5:Addr} {od5 an5:Option Addr} {sl5:Array (Option Value)} {oc5 kV5 dc5 pm5 cd5 ct5:Value}
  {f6:Addr} {od6 an6:Option Addr} {sl6:Array (Option Value)} {oc6 kV6 dc6 pm6 cd6 ct6:Value}
  {f7:Addr} {od7 an7:Option Addr} {sl7:Array (Option Value)} {oc7 kV7 dc7 pm7 cd7 ct7:Value}
  {f8:Addr} {od8 an8:Option Addr} {sl8:Array (Option Value)} {oc8 kV8 dc8 pm8 cd8 ct8:Value}
  {f9:Addr} {od9 an9:Option Addr} {sl9:Array (Option Value)} {oc9 kV9 dc9 pm9 cd9 ct9:Value}
  {f10:Addr} {od10 an10:Option Addr} {sl10:Array (Option Value)} {oc10 kV10 dc10 pm10 cd10 ct10:Value}
  {f11:Addr} {od11 an11:Option Addr} {sl11:Array (Option Value)} {oc11 kV11 dc11 pm11 cd11 ct11:Value}
  {f12:Addr} {od12 an12:Option Addr} {sl12:Array (Option Value)} {oc12 kV12 dc12 pm12 cd12 ct12:Value}
  {f13:Addr} {od13 an13:Option Addr} {sl13:Array (Option Value)} {oc13 kV13 dc13 pm13 cd13 ct13:Value}
  {f14:Addr} {od14 an14:Option Addr} {sl14:Array (Option Value)} {oc14 kV14 dc14 pm14 cd14 ct14:Value}
  {f15:Addr} {od15 an15:Option Addr} {sl15:Array (Option Value)} {oc15 kV15 dc15 pm15 cd15 ct15:Value}
  {f16:Addr} {od16 an16:Option Addr} {sl16:Array (Option Value)} {oc16 kV16 dc16 pm16 cd16 ct16:Value}
  {f17:Addr} {od17 an17:Option Addr} {sl17:Array (Option Value)} {oc17 kV17 dc17 pm17 cd17 ct17:Value}
  {f18:Addr} {od18 an18:Option Addr} {sl18:Array (Option Value)} {oc18 kV18 dc18 pm18 cd18 ct18:Value}
  {f19:Addr} {od19 an19:Option Addr} {sl19:Array (Option Value)} {oc19 kV19 dc19 pm19 cd19 ct19:Value}
  {f20:Addr} {od20 an20:Option Addr} {sl20:Array (Option Value)} {oc20 kV20 dc20 pm20 cd20 ct20:Value}
  {f21:Addr} {od21 an21:Option Addr} {sl21:Array (Option Value)} {oc21 kV21 dc21 pm21 cd21 ct21:Value}
  {f22:Addr} {od22 an22:Option Addr} {sl22:Array (Option Value)} {oc22 kV22 dc22 pm22 cd22 ct22:Value}
  {f23:Addr} {od23 an23:Option Addr} {sl23:Array (Option Value)} {oc23 kV23 dc23 pm23 cd23 ct23:Value}
  {f24:Addr} {od24 an24:Option Addr} {sl24:Array (Option Value)} {oc24 kV24 dc24 pm24 cd24 ct24:Value}
  {f25:Addr} {od25 an25:Option Addr} {sl25:Array (Option Value)} {oc25 kV25 dc25 pm25 cd25 ct25:Value}
  {f26:Addr} {od26 an26:Option Addr} {sl26:Array (Option Value)} {oc26 kV26 dc26 pm26 cd26 ct26:Value}
  {tc0 tT0:Addr} {tod0:Option Addr} {tsl0:Array (Option Value)} {toc0:Value} {tvs0:Array Value}
  (a0:PySem.W.nsIn K mainGlobals "_law_divisor" = some (some (.ref f0))) (l0:K.lookup f0=some ⟨oc0,od0,.func (PySem.W.fnOf "_law_divisor" "_law_divisor" (aY s__law_divisor) (aJ s__law_divisor) (aA s__law_divisor) .none kV0 dc0 pm0 an0 cd0 ct0),sl0⟩) (c0:PySem.W.codeIn K cd0 "_law_divisor" = true) (k0:PySem.W.keepIn K (.ref f0)=true)
  (a1:PySem.W.nsIn K mainGlobals "_law_whole" = some (some (.ref f1))) (l1:K.lookup f1=some ⟨oc1,od1,.func (PySem.W.fnOf "_law_whole" "_law_whole" (aY s__law_whole) (aJ s__law_whole) (aA s__law_whole) .none kV1 dc1 pm1 an1 cd1 ct1),sl1⟩) (c1:PySem.W.codeIn K cd1 "_law_whole" = true) (k1:PySem.W.keepIn K (.ref f1)=true)
  (a2:PySem.W.nsIn K mainGlobals "_law_is_fraction" = some (some (.ref f2))) (l2:K.lookup f2=some ⟨oc2,od2,.func (PySem.W.fnOf "_law_is_fraction" "_law_is_fraction" (aY s__law_is_fraction) (aJ s__law_is_fraction) (aA s__law_is_fraction) .none kV2 dc2 pm2 an2 cd2 ct2),sl2⟩) (c2:PySem.W.codeIn K cd2 "_law_is_fraction" = true) (k2:PySem.W.keepIn K (.ref f2)=true)
  (a3:PySem.W.nsIn K mainGlobals "_law_numbers" = some (some (.ref f3))) (l3:K.lookup f3=some ⟨oc3,od3,.func (PySem.W.fnOf "_law_numbers" "_law_numbers" (aY s__law_numbers) (aJ s__law_numbers) (aA s__law_numbers) .none kV3 dc3 pm3 an3 cd3 ct3),sl3⟩) (c3:PySem.W.codeIn K cd3 "_law_numbers" = true) (k3:PySem.W.keepIn K (.ref f3)=true)
  (a4:PySem.W.nsIn K mainGlobals "_law_put" = some (some (.ref f4))) (l4:K.lookup f4=some ⟨oc4,od4,.func (PySem.W.fnOf "_law_put" "_law_put" (aY s__law_put) (aJ s__law_put) (aA s__law_put) .none kV4 dc4 pm4 an4 cd4 ct4),sl4⟩) (c4:PySem.W.codeIn K cd4 "_law_put" = true) (k4:PySem.W.keepIn K (.ref f4)=true)
  (a5:PySem.W.nsIn K mainGlobals "_law_digit" = some (some (.ref f5))) (l5:K.lookup f5=some ⟨oc5,od5,.func (PySem.W.fnOf "_law_digit" "_law_digit" (aY s__law_digit) (aJ s__law_digit) (aA s__law_digit) .none kV5 dc5 pm5 an5 cd5 ct5),sl5⟩) (c5:PySem.W.codeIn K cd5 "_law_digit" = true) (k5:PySem.W.keepIn K (.ref f5)=true)
  (a6:PySem.W.nsIn K mainGlobals "_law_heights" = some (some (.ref f6))) (l6:K.lookup f6=some ⟨oc6,od6,.func (PySem.W.fnOf "_law_heights" "_law_heights" (aY s__law_heights) (aJ s__law_heights) (aA s__law_heights) .none kV6 dc6 pm6 an6 cd6 ct6),sl6⟩) (c6:PySem.W.codeIn K cd6 "_law_heights" = true) (k6:PySem.W.keepIn K (.ref f6)=true)
  (a7:PySem.W.nsIn K mainGlobals "_law_sheet" = some (some (.ref f7))) (l7:K.lookup f7=some ⟨oc7,od7,.func (PySem.W.fnOf "_law_sheet" "_law_sheet" (aY s__law_sheet) (aJ s__law_sheet) (aA s__law_sheet) .none kV7 dc7 pm7 an7 cd7 ct7),sl7⟩) (c7:PySem.W.codeIn K cd7 "_law_sheet" = true) (k7:PySem.W.keepIn K (.ref f7)=true)
  (a8:PySem.W.nsIn K mainGlobals "_law_rings" = some (some (.ref f8))) (l8:K.lookup f8=some ⟨oc8,od8,.func (PySem.W.fnOf "_law_rings" "_law_rings" (aY s__law_rings) (aJ s__law_rings) (aA s__law_rings) .none kV8 dc8 pm8 an8 cd8 ct8),sl8⟩) (c8:PySem.W.codeIn K cd8 "_law_rings" = true) (k8:PySem.W.keepIn K (.ref f8)=true)
  (a9:PySem.W.nsIn K mainGlobals "_law_slopes" = some (some (.ref f9))) (l9:K.lookup f9=some ⟨oc9,od9,.func (PySem.W.fnOf "_law_slopes" "_law_slopes" (aY s__law_slopes) (aJ s__law_slopes) (aA s__law_slopes) .none kV9 dc9 pm9 an9 cd9 ct9),sl9⟩) (c9:PySem.W.codeIn K cd9 "_law_slopes" = true) (k9:PySem.W.keepIn K (.ref f9)=true)
  (a10:PySem.W.nsIn K mainGlobals "shared_divisor" = some (some (.ref f10))) (l10:K.lookup f10=some ⟨oc10,od10,.func (PySem.W.fnOf "shared_divisor" "shared_divisor" (aY s_shared_divisor) (aJ s_shared_divisor) (aA s_shared_divisor) .none kV10 dc10 pm10 an10 cd10 ct10),sl10⟩) (c10:PySem.W.codeIn K cd10 "shared_divisor" = true) (k10:PySem.W.keepIn K (.ref f10)=true)
  (a11:PySem.W.nsIn K mainGlobals "shared_multiple" = some (some (.ref f11))) (l11:K.lookup f11=some ⟨oc11,od11,.func (PySem.W.fnOf "shared_multiple" "shared_multiple" (aY s_shared_multiple) (aJ s_shared_multiple) (aA s_shared_multiple) .none kV11 dc11 pm11 an11 cd11 ct11),sl11⟩) (c11:PySem.W.codeIn K cd11 "shared_multiple" = true) (k11:PySem.W.keepIn K (.ref f11)=true)
  (a12:PySem.W.nsIn K mainGlobals "lowest_multiple" = some (some (.ref f12))) (l12:K.lookup f12=some ⟨oc12,od12,.func (PySem.W.fnOf "lowest_multiple" "lowest_multiple" (aY s_lowest_multiple) (aJ s_lowest_multiple) (aA s_lowest_multiple) .none kV12 dc12 pm12 an12 cd12 ct12),sl12⟩) (c12:PySem.W.codeIn K cd12 "lowest_multiple" = true) (k12:PySem.W.keepIn K (.ref f12)=true)
  (a13:PySem.W.nsIn K mainGlobals "width_of" = some (some (.ref f13))) (l13:K.lookup f13=some ⟨oc13,od13,.func (PySem.W.fnOf "width_of" "width_of" (aY s_width_of) (aJ s_width_of) (aA s_width_of) .none kV13 dc13 pm13 an13 cd13 ct13),sl13⟩) (c13:PySem.W.codeIn K cd13 "width_of" = true) (k13:PySem.W.keepIn K (.ref f13)=true)
  (a14:PySem.W.nsIn K mainGlobals "height_at" = some (some (.ref f14))) (l14:K.lookup f14=some ⟨oc14,od14,.func (PySem.W.fnOf "height_at" "height_at" (aY s_height_at) (aJ s_height_at) (aA s_height_at) .none kV14 dc14 pm14 an14 cd14 ct14),sl14⟩) (c14:PySem.W.codeIn K cd14 "height_at" = true) (k14:PySem.W.keepIn K (.ref f14)=true)
  (a15:PySem.W.nsIn K mainGlobals "ordered_heights" = some (some (.ref f15))) (l15:K.lookup f15=some ⟨oc15,od15,.func (PySem.W.fnOf "ordered_heights" "ordered_heights" (aY s_ordered_heights) (aJ s_ordered_heights) (aA s_ordered_heights) .none kV15 dc15 pm15 an15 cd15 ct15),sl15⟩) (c15:PySem.W.codeIn K cd15 "ordered_heights" = true) (k15:PySem.W.keepIn K (.ref f15)=true)
  (a16:PySem.W.nsIn K mainGlobals "ratio" = some (some (.ref f16))) (l16:K.lookup f16=some ⟨oc16,od16,.func (PySem.W.fnOf "ratio" "ratio" (aY s_ratio) (aJ s_ratio) (aA s_ratio) .none kV16 dc16 pm16 an16 cd16 ct16),sl16⟩) (c16:PySem.W.codeIn K cd16 "ratio" = true) (k16:PySem.W.keepIn K (.ref f16)=true)
  (a17:PySem.W.nsIn K mainGlobals "column_bands" = some (some (.ref f17))) (l17:K.lookup f17=some ⟨oc17,od17,.func (PySem.W.fnOf "column_bands" "column_bands" (aY s_column_bands) (aJ s_column_bands) (aA s_column_bands) .none kV17 dc17 pm17 an17 cd17 ct17),sl17⟩) (c17:PySem.W.codeIn K cd17 "column_bands" = true) (k17:PySem.W.keepIn K (.ref f17)=true)
  (a18:PySem.W.nsIn K mainGlobals "sides_of" = some (some (.ref f18))) (l18:K.lookup f18=some ⟨oc18,od18,.func (PySem.W.fnOf "sides_of" "sides_of" (aY s_sides_of) (aJ s_sides_of) (aA s_sides_of) .none kV18 dc18 pm18 an18 cd18 ct18),sl18⟩) (c18:PySem.W.codeIn K cd18 "sides_of" = true) (k18:PySem.W.keepIn K (.ref f18)=true)
  (a19:PySem.W.nsIn K mainGlobals "sides_by_column" = some (some (.ref f19))) (l19:K.lookup f19=some ⟨oc19,od19,.func (PySem.W.fnOf "sides_by_column" "sides_by_column" (aY s_sides_by_column) (aJ s_sides_by_column) (aA s_sides_by_column) .none kV19 dc19 pm19 an19 cd19 ct19),sl19⟩) (c19:PySem.W.codeIn K cd19 "sides_by_column" = true) (k19:PySem.W.keepIn K (.ref f19)=true)
  (a20:PySem.W.nsIn K mainGlobals "bands" = some (some (.ref f20))) (l20:K.lookup f20=some ⟨oc20,od20,.func (PySem.W.fnOf "bands" "bands" (aY s_bands) (aJ s_bands) (aA s_bands) .none kV20 dc20 pm20 an20 cd20 ct20),sl20⟩) (c20:PySem.W.codeIn K cd20 "bands" = true) (k20:PySem.W.keepIn K (.ref f20)=true)
  (a21:PySem.W.nsIn K mainGlobals "minus" = some (some (.ref f21))) (l21:K.lookup f21=some ⟨oc21,od21,.func (PySem.W.fnOf "minus" "minus" (aY s_minus) (aJ s_minus) (aA s_minus) .none kV21 dc21 pm21 an21 cd21 ct21),sl21⟩) (c21:PySem.W.codeIn K cd21 "minus" = true) (k21:PySem.W.keepIn K (.ref f21)=true)
  (a22:PySem.W.nsIn K mainGlobals "lower_slope" = some (some (.ref f22))) (l22:K.lookup f22=some ⟨oc22,od22,.func (PySem.W.fnOf "lower_slope" "lower_slope" (aY s_lower_slope) (aJ s_lower_slope) (aA s_lower_slope) .none kV22 dc22 pm22 an22 cd22 ct22),sl22⟩) (c22:PySem.W.codeIn K cd22 "lower_slope" = true) (k22:PySem.W.keepIn K (.ref f22)=true)
  (a23:PySem.W.nsIn K mainGlobals "rising" = some (some (.ref f23))) (l23:K.lookup f23=some ⟨oc23,od23,.func (PySem.W.fnOf "rising" "rising" (aY s_rising) (aJ s_rising) (aA s_rising) .none kV23 dc23 pm23 an23 cd23 ct23),sl23⟩) (c23:PySem.W.codeIn K cd23 "rising" = true) (k23:PySem.W.keepIn K (.ref f23)=true)
  (a24:PySem.W.nsIn K mainGlobals "upper_slope" = some (some (.ref f24))) (l24:K.lookup f24=some ⟨oc24,od24,.func (PySem.W.fnOf "upper_slope" "upper_slope" (aY s_upper_slope) (aJ s_upper_slope) (aA s_upper_slope) .none kV24 dc24 pm24 an24 cd24 ct24),sl24⟩) (c24:PySem.W.codeIn K cd24 "upper_slope" = true) (k24:PySem.W.keepIn K (.ref f24)=true)
  (a25:PySem.W.nsIn K mainGlobals "leans_of" = some (some (.ref f25))) (l25:K.lookup f25=some ⟨oc25,od25,.func (PySem.W.fnOf "leans_of" "leans_of" (aY s_leans_of) (aJ s_leans_of) (aA s_leans_of) .none kV25 dc25 pm25 an25 cd25 ct25),sl25⟩) (c25:PySem.W.codeIn K cd25 "leans_of" = true) (k25:PySem.W.keepIn K (.ref f25)=true)
  (a26:PySem.W.nsIn K mainGlobals "law" = some (some (.ref f26))) (l26:K.lookup f26=some ⟨oc26,od26,.func (PySem.W.fnOf "law" "law" (aY s_law) (aJ s_law) (aA s_law) .none kV26 dc26 pm26 an26 cd26 ct26),sl26⟩) (c26:PySem.W.codeIn K cd26 "law" = true) (k26:PySem.W.keepIn K (.ref f26)=true)
  (z0:PySem.W.nsIn K mainGlobals "abs" = some none)
  (z1:PySem.W.nsIn K mainGlobals "isinstance" = some none)
  (z2:PySem.W.nsIn K mainGlobals "bool" = some none)
  (z3:PySem.W.nsIn K mainGlobals "int" = some none)
  (z4:PySem.W.nsIn K mainGlobals "len" = some none)
  (z5:PySem.W.nsIn K mainGlobals "tuple" = some none)
  (z6:PySem.W.nsIn K mainGlobals "min" = some none)
  (z7:PySem.W.nsIn K mainGlobals "max" = some none)
  (z8:PySem.W.nsIn K mainGlobals "range" = some none)
  (z9:PySem.W.nsIn K mainGlobals "sorted" = some none)
  (z10:PySem.W.nsIn K mainGlobals "reversed" = some none)
  (z11:PySem.W.nsIn K mainGlobals "zip" = some none)
  (z12:PySem.W.nsIn K mainGlobals "list" = some none)
  (z13:PySem.W.nsIn K mainGlobals "set" = some none)
  (te0:cd23 = .ref tc0) (tl0:K.lookup tc0=some ⟨toc0,tod0,.fields tvs0,tsl0⟩) (tv0:tvs0[11]? = some (.ref tT0)):TopF K mg :=
 ⟨⟨_,_,bI (st:=s__law_divisor) l0 c0 k0,PySem.W.mg_of X G a0,mX (λ_ _=>rfl)⟩,
  ⟨_,_,bI (st:=s__law_whole) l1 c1 k1,PySem.W.mg_of X G a1,gU (λ_=>rfl)⟩,
  ⟨_,_,bI (st:=s__law_is_fraction) l2 c2 k2,PySem.W.mg_of X G a2,gU (λ_=>rfl)⟩,
  ⟨_,_,bI (st:=s__law_numbers) l3 c3 k3,PySem.W.mg_of X G a3,mX (λ_ _=>rfl)⟩,
  ⟨_,_,bI (st:=s__law_put) l4 c4 k4,PySem.W.mg_of X G a4,tY (λ_ _ _=>rfl)⟩,
  ⟨_,_,bI (st:=s__law_digit) l5 c5 k5,PySem.W.mg_of X G a5,tY (λ_ _ _=>rfl)⟩,
  ⟨_,_,bI (st:=s__law_heights) l6 c6 k6,PySem.W.mg_of X G a6,tY (λ_ _ _=>rfl)⟩,
  ⟨_,_,bI (st:=s__law_sheet) l7 c7 k7,PySem.W.mg_of X G a7,tY (λ_ _ _=>rfl)⟩,
  ⟨_,_,bI (st:=s__law_rings) l8 c8 k8,PySem.W.mg_of X G a8,gU (λ_=>rfl)⟩,
  ⟨_,_,bI (st:=s__law_slopes) l9 c9 k9,PySem.W.mg_of X G a9,gU (λ_=>rfl)⟩,
  ⟨_,_,bI (st:=s_shared_divisor) l10 c10 k10,PySem.W.mg_of X G a10,mX (λ_ _=>rfl)⟩,
  ⟨_,_,bI (st:=s_shared_multiple) l11 c11 k11,PySem.W.mg_of X G a11,mX (λ_ _=>rfl)⟩,
  ⟨_,_,bI (st:=s_lowest_multiple) l12 c12 k12,PySem.W.mg_of X G a12,gU (λ_=>rfl)⟩,
  ⟨_,_,bI (st:=s_width_of) l13 c13 k13,PySem.W.mg_of X G a13,gU (λ_=>rfl)⟩,
  ⟨_,_,bI (st:=s_height_at) l14 c14 k14,PySem.W.mg_of X G a14,tY (λ_ _ _=>rfl)⟩,
  ⟨_,_,bI (st:=s_ordered_heights) l15 c15 k15,PySem.W.mg_of X G a15,tY (λ_ _ _=>rfl)⟩,
  ⟨_,_,bI (st:=s_ratio) l16 c16 k16,PySem.W.mg_of X G a16,mX (λ_ _=>rfl)⟩,
  ⟨_,_,bI (st:=s_column_bands) l17 c17 k17,PySem.W.mg_of X G a17,mX (λ_ _=>rfl)⟩,
  ⟨_,_,bI (st:=s_sides_of) l18 c18 k18,PySem.W.mg_of X G a18,gU (λ_=>rfl)⟩,
  ⟨_,_,bI (st:=s_sides_by_column) l19 c19 k19,PySem.W.mg_of X G a19,gU (λ_=>rfl)⟩,
  ⟨_,_,bI (st:=s_bands) l20 c20 k20,PySem.W.mg_of X G a20,gU (λ_=>rfl)⟩,
  ⟨_,_,bI (st:=s_minus) l21 c21 k21,PySem.W.mg_of X G a21,mX (λ_ _=>rfl)⟩,
  ⟨_,_,bI (st:=s_lower_slope) l22 c22 k22,PySem.W.mg_of X G a22,gU (λ_=>rfl)⟩,
  ⟨_,_,bI (st:=s_rising) l23 c23 k23,PySem.W.mg_of X G a23,gU (λ_=>rfl)⟩,
  ⟨_,_,bI (st:=s_upper_slope) l24 c24 k24,PySem.W.mg_of X G a24,gU (λ_=>rfl)⟩,
  ⟨_,_,bI (st:=s_leans_of) l25 c25 k25,PySem.W.mg_of X G a25,mX (λ_ _=>rfl)⟩,
  ⟨_,_,bI (st:=s_law) l26 c26 k26,PySem.W.mg_of X G a26,gU (λ_=>rfl)⟩,
  PySem.W.mg_none_of X G z0,
  PySem.W.mg_none_of X G z1,
  PySem.W.mg_none_of X G z2,
  PySem.W.mg_none_of X G z3,
  PySem.W.mg_none_of X G z4,
  PySem.W.mg_none_of X G z5,
  PySem.W.mg_none_of X G z6,
  PySem.W.mg_none_of X G z7,
  PySem.W.mg_none_of X G z8,
  PySem.W.mg_none_of X G z9,
  PySem.W.mg_none_of X G z10,
  PySem.W.mg_none_of X G z11,
  PySem.W.mg_none_of X G z12,
  PySem.W.mg_none_of X G z13,
  ⟨_,_,RK a23 l23 te0 tl0 tv0⟩⟩
theorem TopF.hid {K K':PySem.W.Frag} {mg:Str->Option Value} (T:TopF K mg) (z:Hid K K'):TopF K' mg :=
 ⟨z.def T.d__law_divisor,
  z.def T.d__law_whole,
  z.def T.d__law_is_fraction,
  z.def T.d__law_numbers,
  z.def T.d__law_put,
  z.def T.d__law_digit,
  z.def T.d__law_heights,
  z.def T.d__law_sheet,
  z.def T.d__law_rings,
  z.def T.d__law_slopes,
  z.def T.d_shared_divisor,
  z.def T.d_shared_multiple,
  z.def T.d_lowest_multiple,
  z.def T.d_width_of,
  z.def T.d_height_at,
  z.def T.d_ordered_heights,
  z.def T.d_ratio,
  z.def T.d_column_bands,
  z.def T.d_sides_of,
  z.def T.d_sides_by_column,
  z.def T.d_bands,
  z.def T.d_minus,
  z.def T.d_lower_slope,
  z.def T.d_rising,
  z.def T.d_upper_slope,
  z.def T.d_leans_of,
  z.def T.d_law,
  T.m_abs,
  T.m_isinstance,
  T.m_bool,
  T.m_int,
  T.m_len,
  T.m_tuple,
  T.m_min,
  T.m_max,
  T.m_range,
  T.m_sorted,
  T.m_reversed,
  T.m_zip,
  T.m_list,
  T.m_set,
  let ⟨c,P,e⟩:=T.t_rising;⟨c,P,z.tab e⟩⟩
theorem law_fn {P:Program} {w:World} {K:PySem.W.Frag} {mg:Str->Option Value} {base:Heap} {f:Addr} {fd:FuncData} (T:TopF K mg) (TW:tX K mg base) (Fu:Fun K "law" "law" s_law f fd):FnOk P w K mg base CX0 6 f fd ["_law_script"] (spD K (DX 63)):=by
 obtain⟨lc_rising,lt_rising,le_rising⟩:=T.t_rising
 have W_rising:=TW "rising" _ _ (by decide) le_rising
 have VP:=qB (P:=P) (w:=w) (base:=base) T.d__law_divisor T.m_abs (F:=lJ) CV oV
 have WI:=tO (P:=P) (w:=w) (base:=base) T.d__law_whole T.m_isinstance T.m_bool T.m_int (F:=qM) FI sM
 have VQ:=lH (P:=P) (w:=w) (base:=base) T.d__law_is_fraction VP WI T.m_len T.m_isinstance T.m_tuple (F:=BY) MD kD
 have WF:=qD (P:=P) (w:=w) (base:=base) T.d__law_numbers T.m_len T.m_min T.m_max T.m_range (F:=kP) yG oW
 have WS:=yU (P:=P) (w:=w) (base:=base) T.d__law_put (F:=BZ) MG wK
 have WN:=tL (P:=P) (w:=w) (base:=base) T.d__law_digit T.m_range (F:=qJ) FE sK
 have WE:=qC (P:=P) (w:=w) (base:=base) T.d__law_heights WN T.m_sorted T.m_range (F:=BX) MC wJ
 have WO:=tN (P:=P) (w:=w) (base:=base) T.d__law_sheet WE T.m_range T.m_len T.m_reversed (F:=qL) FH sL
 have WH:=tM (P:=P) (w:=w) (base:=base) T.d__law_rings WS WO (F:=iG) yH oX
 have WD:=sF (P:=P) (w:=w) (base:=base) T.d__law_slopes VP (F:=mS) AV qG
 have VO:=nQ (P:=P) (w:=w) (base:=base) T.d_shared_divisor T.m_abs (F:=lJ) CV lI
 have VX:=mM (P:=P) (w:=w) (base:=base) T.d_shared_multiple VO (F:=qW) MF kE
 have VM:=mK (P:=P) (w:=w) (base:=base) T.d_lowest_multiple VX (F:=K22.F_lowmU) K22.len_lowmU K22.pure_lowmU
 have WB:=yX (P:=P) (w:=w) (base:=base) T.d_width_of (F:=pD) MH tS
 have WL:=wE (P:=P) (w:=w) (base:=base) T.d_height_at WB (F:=K23.F_hgt) K23.len_hgt K23.pure_height_at
 have VW:=mL (P:=P) (w:=w) (base:=base) T.d_ordered_heights WL T.m_zip T.m_sorted (F:=K23.F_ordH) K23.len_ordH K23.pure_ordered_heights
 have WR:=JJ (P:=P) (w:=w) (base:=base) T.d_ratio VO (F:=bE) FG BD
 have WG:=qE (P:=P) (w:=w) (base:=base) T.d_column_bands VM VW WR WB T.m_zip (F:=K23.F_colB) K23.len_colB K22.pure_column_bandsU
 have WT:=yW (P:=P) (w:=w) (base:=base) T.d_sides_of T.m_zip (F:=iH) yI tR
 have VY:=mN (P:=P) (w:=w) (base:=base) T.d_sides_by_column WT T.m_range (F:=K23.F_byCol) K23.len_byCol K23.pure_sides_by_column
 have WV:=JH (P:=P) (w:=w) (base:=base) T.d_bands WG VY T.m_list T.m_sorted (F:=K23.F_bands) K23.len_bands K23.pure_bandsN
 have WQ:=JI (P:=P) (w:=w) (base:=base) T.d_minus WR (F:=bQ) IV BC
 have WJ:=sG (P:=P) (w:=w) (base:=base) T.d_lower_slope WQ (F:=K22.F_lslope) K22.len_lslope K22.pure_lower_slope
 have WU:=FO (P:=P) (w:=w) (base:=base) T.d_rising W_rising VM T.m_sorted (F:=K22.F_rising) K22.len_rising K22.pure_risingU
 have WK:=sH (P:=P) (w:=w) (base:=base) T.d_upper_slope WQ (F:=K22.F_uslope) K22.len_uslope K22.pure_upper_slope
 have WP:=yV (P:=P) (w:=w) (base:=base) T.d_leans_of WJ WU WK T.m_list (F:=qK) FF tP
 exact PD VQ WF WH WD WV WP T.m_len T.m_set T.m_range T.m_isinstance T.m_list (F:=DX 63) Fu ME JV
end K31
end L2.R2
open PySem PySem.W PyProof.Rows
set_option maxRecDepth 100000 in
set_option maxHeartbeats 0 in
theorem PySem.Challenge.cw_recut_k31_all_leans_holds : PySem.Challenge.rw_recut_k31_all_leans.Holds := by
 w_on;o_law;k_head;(case hw=>w_witness2)
 k_fill
 refine L2.R2.walk_lawT (l:=PySem.Challenge.rw_recut_k31_all_leans) (k:=6) (x:="_law_script") rfl rfl ⟨rfl,by decide,by decide⟩ (λw h Y=>PySem.W.km_in_of Y) rfl ?L ?F
 case L =>
  intro w
  refine' L2.R2.lamIs ?q1 ?q2 ?q3
  (case q1=>exact .inl ⟨_,rfl⟩)
  (case q2=>refine' .inr ?_;k_is)
  (case q3=>refine' .inr ?_;k_is)
 case F =>
  intro w mg h KX G
  have T:L2.R2.K31.TopF (L2.KOf KX) mg:=by
   dsimp only[L2.KOf]
   refine' L2.R2.K31.top_mk KX G ?a0 ?l0 ?c0 ?k0 ?a1 ?l1 ?c1 ?k1 ?a2 ?l2 ?c2 ?k2 ?a3 ?l3 ?c3 ?k3 ?a4 ?l4 ?c4 ?k4 ?a5 ?l5 ?c5 ?k5 ?a6 ?l6 ?c6 ?k6 ?a7 ?l7 ?c7 ?k7 ?a8 ?l8 ?c8 ?k8 ?a9 ?l9 ?c9 ?k9 ?a10 ?l10 ?c10 ?k10 ?a11 ?l11 ?c11 ?k11 ?a12 ?l12 ?c12 ?k12 ?a13 ?l13 ?c13 ?k13 ?a14 ?l14 ?c14 ?k14 ?a15 ?l15 ?c15 ?k15 ?a16 ?l16 ?c16 ?k16 ?a17 ?l17 ?c17 ?k17 ?a18 ?l18 ?c18 ?k18 ?a19 ?l19 ?c19 ?k19 ?a20 ?l20 ?c20 ?k20 ?a21 ?l21 ?c21 ?k21 ?a22 ?l22 ?c22 ?k22 ?a23 ?l23 ?c23 ?k23 ?a24 ?l24 ?c24 ?k24 ?a25 ?l25 ?c25 ?k25 ?a26 ?l26 ?c26 ?k26 ?z0 ?z1 ?z2 ?z3 ?z4 ?z5 ?z6 ?z7 ?z8 ?z9 ?z10 ?z11 ?z12 ?z13 ?te0 ?tl0 ?tv0
   (case a0=>k_is);(case l0=>k_is);(case c0=>k_is);(case k0=>k_is)
   (case a1=>k_is);(case l1=>k_is);(case c1=>k_is);(case k1=>k_is)
   (case a2=>k_is);(case l2=>k_is);(case c2=>k_is);(case k2=>k_is)
   (case a3=>k_is);(case l3=>k_is);(case c3=>k_is);(case k3=>k_is)
   (case a4=>k_is);(case l4=>k_is);(case c4=>k_is);(case k4=>k_is)
   (case a5=>k_is);(case l5=>k_is);(case c5=>k_is);(case k5=>k_is)
   (case a6=>k_is);(case l6=>k_is);(case c6=>k_is);(case k6=>k_is)
   (case a7=>k_is);(case l7=>k_is);(case c7=>k_is);(case k7=>k_is)
   (case a8=>k_is);(case l8=>k_is);(case c8=>k_is);(case k8=>k_is)
   (case a9=>k_is);(case l9=>k_is);(case c9=>k_is);(case k9=>k_is)
   (case a10=>k_is);(case l10=>k_is);(case c10=>k_is);(case k10=>k_is)
   (case a11=>k_is);(case l11=>k_is);(case c11=>k_is);(case k11=>k_is)
   (case a12=>k_is);(case l12=>k_is);(case c12=>k_is);(case k12=>k_is)
   (case a13=>k_is);(case l13=>k_is);(case c13=>k_is);(case k13=>k_is)
   (case a14=>k_is);(case l14=>k_is);(case c14=>k_is);(case k14=>k_is)
   (case a15=>k_is);(case l15=>k_is);(case c15=>k_is);(case k15=>k_is)
   (case a16=>k_is);(case l16=>k_is);(case c16=>k_is);(case k16=>k_is)
   (case a17=>k_is);(case l17=>k_is);(case c17=>k_is);(case k17=>k_is)
   (case a18=>k_is);(case l18=>k_is);(case c18=>k_is);(case k18=>k_is)
   (case a19=>k_is);(case l19=>k_is);(case c19=>k_is);(case k19=>k_is)
   (case a20=>k_is);(case l20=>k_is);(case c20=>k_is);(case k20=>k_is)
   (case a21=>k_is);(case l21=>k_is);(case c21=>k_is);(case k21=>k_is)
   (case a22=>k_is);(case l22=>k_is);(case c22=>k_is);(case k22=>k_is)
   (case a23=>k_is);(case l23=>k_is);(case c23=>k_is);(case k23=>k_is)
   (case a24=>k_is);(case l24=>k_is);(case c24=>k_is);(case k24=>k_is)
   (case a25=>k_is);(case l25=>k_is);(case c25=>k_is);(case k25=>k_is)
   (case a26=>k_is);(case l26=>k_is);(case c26=>k_is);(case k26=>k_is)
   (case z0=>k_is)
   (case z1=>k_is)
   (case z2=>k_is)
   (case z3=>k_is)
   (case z4=>k_is)
   (case z5=>k_is)
   (case z6=>k_is)
   (case z7=>k_is)
   (case z8=>k_is)
   (case z9=>k_is)
   (case z10=>k_is)
   (case z11=>k_is)
   (case z12=>k_is)
   (case z13=>k_is)
   (case te0=>exact rfl);(case tl0=>k_is);(case tv0=>exact rfl)
  exact T.d_law.okLT λbase K' f fd z tw Fu=>L2.R2.K31.law_fn (T.hid z) tw Fu

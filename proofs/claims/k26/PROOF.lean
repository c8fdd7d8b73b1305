import PyProof.Rows.All
import Wide.All
import OpenK.AllK
import Wide.FinOn
import Lean
import PyProof.EqAt
import PyProof.EqKinds
import PyProof.TupleCall
import PySem.Challenge.RW_recut_k26_a_cloth_turned
set_option compiler.extract_closed false
local macro_rules | `(tactic| omega)=>`(tactic| lia)
local macro_rules | `(tactic| walk_at "vis")=>`(tactic| first | exact Or.inl rfl | exact Or.inr (Or.inl rfl) | exact Or.inr (Or.inr rfl) | exact Or.inr rfl)
local macro_rules | `(tactic| walk_at "loc")=>`(tactic| first | exact .inl rfl | exact .inr rfl | assumption)
set_option Elab.async false
set_option linter.all false
set_option maxRecDepth 100000
namespace L2
open PySem PySem.Spec PyProof.Rows
noncomputable abbrev Key:=Sum Int Str
noncomputable def tP:Key->Value->Bool
 | .inl k,v=>Value.isInt k v
 | .inr x,v=>Value.isStrOf x v
noncomputable def XD (w:World):Key->Int
 | .inl k=>hashInt k
 | .inr x=>hashStr w x
theorem cH:∀{k:Key} {v:Value},tP k v=true->(∃i t,k=Sum.inl i/\v=Value.int i t)\/(∃x t,k=Sum.inr x/\v=Value.str x t)
 | .inl i,v,h=>by
  obtain⟨t,e⟩:=Value.isInt_shape (k:=i) (v:=v) h
  exact .inl ⟨i,t,rfl,e⟩
 | .inr x,v,h=>by
  obtain⟨t,e⟩:=Value.isStrOf_shape (x:=x) (v:=v) h
  exact .inr ⟨x,t,rfl,e⟩
theorem GR (i:Int) (t:Tok):tP (.inl i) (.int i t)=true:=by simp[tP,Value.isInt]
theorem GS (x:Str) (t:Tok):tP (.inr x) (.str x t)=true:=by simp[tP,Value.isStrOf]
theorem SN (a b:Int):decide ((Sum.inl a:Key)=Sum.inl b)=(a == b):=by
 by_cases e:a=b
 ·subst e;simp
 ·have h:¬(Sum.inl a:Key)=Sum.inl b:=λq=>e (Sum.inl.inj q)
  rw[decide_eq_false h]
  exact (beq_eq_false_iff_ne.mpr e).symm
theorem SR (a b:Str):decide ((Sum.inr a:Key)=Sum.inr b)=decide (a=b):=by
 by_cases e:a=b
 ·subst e;simp
 ·have h:¬(Sum.inr a:Key)=Sum.inr b:=λq=>e (Sum.inr.inj q)
  rw[decide_eq_false h,decide_eq_false e]
theorem SO (a:Int) (b:Str):decide ((Sum.inl a:Key)=Sum.inr b)=false:=decide_eq_false (λq=>nomatch q)
theorem SQ (a:Str) (b:Int):decide ((Sum.inr a:Key)=Sum.inl b)=false:=decide_eq_false (λq=>nomatch q)
noncomputable def cC (prog:Program) (w:World):PySem.KeyKind prog w Key where
 is:=tP
 hash:=XD w
 inj:=λv a b ha hb=>by
  rcases cH ha with ⟨i,t,rfl,rfl⟩ | ⟨x,t,rfl,rfl⟩
  ·rcases cH hb with ⟨j,u,rfl,e⟩ | ⟨y,u,rfl,e⟩
   ·injection e with e1 _;rw[e1]
   ·exact nomatch e
  ·rcases cH hb with ⟨j,u,rfl,e⟩ | ⟨y,u,rfl,e⟩
   ·exact nomatch e
   ·injection e with e1 _;rw[e1]
 byValue:=λk v h=>by
  rcases cH h with ⟨i,t,rfl,rfl⟩ | ⟨x,t,rfl,rfl⟩ <;> rfl
 pyHash:=λhv h=>by
  rcases cH hv with ⟨i,t,rfl,rfl⟩ | ⟨x,t,rfl,rfl⟩
  ·exact wpAny_pyHash_int h
  ·exact wpAny_pyHash_str h
 eqBool:=λhu hv h=>by
  rcases cH hu with ⟨i,t,rfl,rfl⟩ | ⟨x,t,rfl,rfl⟩
  ·rcases cH hv with ⟨j,u,rfl,rfl⟩ | ⟨y,u,rfl,rfl⟩
   ·rw[SN] at h;exact wpAny_eqBool_int h
   ·rw[SO] at h;exact SeqAt.EqAt.int_str i t y u _ _ _ _ h
  ·rcases cH hv with ⟨j,u,rfl,rfl⟩ | ⟨y,u,rfl,rfl⟩
   ·rw[SQ] at h;exact SeqAt.EqAt.str_int x t j u _ _ _ _ h
   ·rw[SR] at h;exact wpAny_eqBool_str h
 «strs»:=λk x t v h=>by
  rcases cH h with ⟨i,u,rfl,e⟩ | ⟨y,u,rfl,e⟩
  ·exact nomatch e
  ·injection e with e1 _
   subst e1
   cases v <;> rfl
theorem AL (prog:Program) (w:World) (i:Int) (t:Tok):(cC prog w).is (.inl i) (.int i t)=true:=GR i t
theorem AM (prog:Program) (w:World) (x:Str) (t:Tok):(cC prog w).is (.inr x) (.str x t)=true:=GS x t
end L2
namespace L2
open PySem PySem.Spec PyProof.Rows
inductive V where
 | non | bl (b:Bool) | int (i:Int) | str (x:Str) | byt (b:Array UInt8) | flt (b:UInt64) | ref (a:Addr) | ty (n:String)
 deriving DecidableEq
noncomputable def RelV:V->Value->Prop
 | .non,u=>u=Value.none
 | .bl b,u=>u=Value.bool b
 | .int i,u=>∃t,u=Value.int i t
 | .str x,u=>∃t,u=Value.str x t
 | .byt b,u=>∃t,u=Value.bytes b t
 | .flt b,u=>∃t,u=Value.float b t
 | .ref a,u=>u=Value.ref a
 | .ty n,u=>u=Value.type n
noncomputable abbrev Vals:List V->List Value->Prop:=Paired RelV
theorem Vals.length {xs:List V} {us:List Value} (r:Vals xs us):xs.length=us.length:=Paired.length r
theorem Vals.get:∀{xs:List V} {us:List Value} {i:Nat} {x:V},Vals xs us->xs[i]? = some x->∃u,us[i]? = some u/\RelV x u
 | _,_,_,_,.nil,e=>by simp at e
 | _,_,0,_,.cons r _,e=>by simp at e;subst e;exact⟨_,rfl,r⟩
 | _,_,i+1,x,.cons _ t,e=>by
  obtain⟨u,h1,h2⟩:=Vals.get (i:=i) (x:=x) t (by simpa using e)
  exact⟨u,by simpa using h1,h2⟩
theorem Vals.append:∀{xs ys:List V} {us ws:List Value},Vals xs us->Vals ys ws->Vals (xs++ys) (us++ws)
 | _,_,_,_,.nil,s=>s
 | _,_,_,_,.cons r t,s=>.cons r (Vals.append t s)
theorem Vals.take:∀{xs:List V} {us:List Value} (n:Nat),Vals xs us->Vals (xs.take n) (us.take n)
 | _,_,0,_=>.nil
 | _,_,_+1,.nil=>.nil
 | _,_,n+1,.cons r t=>.cons r (Vals.take n t)
theorem Vals.drop:∀{xs:List V} {us:List Value} (n:Nat),Vals xs us->Vals (xs.drop n) (us.drop n)
 | _,_,0,r=>r
 | _,_,_+1,.nil=>.nil
 | _,_,n+1,.cons _ t=>Vals.drop n t
noncomputable def RelO:Option V->Option Value->Prop
 | some v,some u=>RelV v u
 | none,none=>True
 | _,_=>False
noncomputable def KV {κ:Type}:List (κ × V)->List (κ × Value)->Prop:=Paired λ(p:κ × V) (q:κ × Value)=>p.1=q.1/\RelV p.2 q.2
noncomputable def kV:Key->V
 | .inl i=>.int i
 | .inr x=>.str x
inductive HO where
  | lst (xs:List V)
  | tup (xs:List V)
  | dK (kvs:List (Key × V)) | dT (kvs:List (List Key × V))
  | set (S:Int->Bool) (n:Nat)
  | ins (C dx:Addr) (fs:List (Str × V))
  | own (x:Addr)
  | xd (fs:List (Str × V))
  | met (f x:Addr)
  | rng (lo hi:Int)
  | frz (o:Obj) (u:HO)
  | tbl (ps:Array Value)
  | ext (φ:Heap->Prop)
noncomputable abbrev Hp:=Addr->Option HO
noncomputable def upd (H:Hp) (a:Addr) (o:HO):Hp:=λb=>if b=a then some o else H b
theorem aW {H:Hp} {a:Addr} {o:HO}:upd H a o a=some o:=by unfold upd;rw[if_pos rfl]
theorem aI {H:Hp} {a b:Addr} {o:HO} (h:b≠a):upd H a o b=H b:=by unfold upd;rw[if_neg h]
theorem VN {H:Hp} {a b:Addr} {o u:HO} (h:H a=some o) (h':H b=some u) (d:o≠u):a≠b:=by
 intro e;subst e;rw[h] at h';exact d (Option.some.inj h')
theorem aQ {H:Hp} {a b:Addr} {o:HO} (h:H a=some o) (h':H b=none):a≠b:=by
 intro e;subst e;rw[h] at h';cases h'
section
variable (P:Program) (w:World)
noncomputable def ObjOk (H:Hp) (h:Heap) (a:Addr):HO->Prop
 | .lst xs=>xs.length<=sizeLine/\∃(its:List Value) (n:Nat),Vals xs its/\h.get? a=some { cls:=.type "list",data:=.seq its.toArray n }
 | .tup xs=>xs.length<=sizeLine/\∃its:List Value,Vals xs its/\IsTup h a its.toArray
 | .dK kvs=>kvs.length<=sizeLine/\(a == sysModules)=false/\∃vs,KV kvs vs/\h.DictOf (cC P w) a vs
 | .dT kvs=>kvs.length<=sizeLine/\(a == sysModules)=false/\∃xs:List (List Key × Addr × Value),
   Paired (λ(p:List Key × V) (q:List Key × Addr × Value)=>p.1=q.1/\H q.2.1=some (.tup (p.1.map kV))/\RelV p.2 q.2.2) kvs xs /\
   ∃o es ep,h.get? a=some o/\o.ExactDict/\o.data = .dict es ep/\es.toList=xs.map (entryOfKey (tupleKind (cC P w)))/\(xs.map (·.1)).Nodup
 | .set S n=>h.SetOf (intKind P w) a S n
 | .ins C dx fs=>H dx=some (.own a)/\fs.length<=1000/\dx≠a/\h.get? a=some (PySem.W.instObj C dx) /\
   ∃mA,h.Ns1 dx mA/\(∀f,RelO (fs.lookup f) (mA f))/\PySem.Within mA (fs.map (·.1))
 | .own _=>∃o,h.get? a=some o
 | .xd fs=>∃mA,h.Ns1 a mA/\∀f,RelO (fs.lookup f) (mA f)
 | .rng lo hi=>∃t u v,h.get? a=some { cls:=.type "range",data:=.fields #[.int lo t,.int hi u,.int 1 v] }
 | .frz o u=>h.get? a=some o/\ObjOk H h a u
 | .tbl ps=>h.get? a=some { cls:=.none,data:=.fields ps }
 | .met f x=>h.get? a=some (PySem.W.methodObj (.ref f) (.ref x))
 | .ext φ=>φ h/\(∃o,h.get? a=some o)/\∀h1 h2:Heap,φ h1->(∀o,h1.get? a=some o->h2.get? a=some o)->φ h2
noncomputable def HOk (H:Hp) (h:Heap):Prop:=∀a o,H a=some o->ObjOk P w H h a o
end
section
variable {P:Program} {w:World} {H H':Hp} {h h':Heap} {a:Addr} {o:HO}
theorem ObjOk.lt (x:ObjOk P w H h a o):a<h.objs.size:=by
 cases o with
 | lst xs=>obtain⟨_,_,_,_,e⟩:=x;exact Heap.lt_size e
 | tup xs=>obtain⟨_,_,_,p⟩:=x;exact p.lt
 | dK kvs=>obtain⟨_,_,_,_,o,_,_,e,_⟩:=x;exact Heap.lt_size e
 | dT kvs=>obtain⟨_,_,_,_,o,_,_,e,_⟩:=x;exact Heap.lt_size e
 | set S n=>obtain⟨o,_,_,_,e,_⟩:=x;exact Heap.lt_size e
 | ins C dx fs=>obtain⟨_,_,_,e,_⟩:=x;exact Heap.lt_size e
 | own y=>obtain⟨_,e⟩:=x;exact Heap.lt_size e
 | xd fs=>obtain⟨_,⟨_,_,_,e,_⟩,_⟩:=x;exact Heap.lt_size e
 | rng lo hi=>obtain⟨_,_,_,e⟩:=x;exact Heap.lt_size e
 | frz ob u=>obtain⟨e,_⟩:=x;exact Heap.lt_size e
 | tbl ps=>exact Heap.lt_size (show h.get? a=some _ from x)
 | met f y=>exact Heap.lt_size (show h.get? a=some _ from x)
 | ext φ=>obtain⟨_,⟨_,e⟩,_⟩:=x;exact Heap.lt_size e
theorem Paired.mapP {α β:Type} {F G:α->β->Prop}:∀{l₁:List α} {l₂:List β},Paired F l₁ l₂->(∀a b,F a b->G a b)->Paired G l₁ l₂
 | _,_,.nil,_=>.nil
 | _,_,.cons r t,f=>.cons (f _ _ r) (Paired.mapP t f)
theorem ObjOk.stay (x:ObjOk P w H h a o) (k:∀b u,(b=a\/H b=some (.own a))->h.get? b=some u->h'.get? b=some u)
  (ho:∀b,H b=some (.own a)->H' b=some (.own a)) (ht:∀b xs,H b=some (.tup xs)->H' b=some (.tup xs)):ObjOk P w H' h' a o:=by
 induction o with
 | lst xs=>obtain⟨z,its,n,r,e⟩:=x;exact⟨z,its,n,r,k _ _ (.inl rfl) e⟩
 | tup xs=>obtain⟨z,its,r,ob,e,c⟩:=x;exact⟨z,its,r,ob,k _ _ (.inl rfl) e,c⟩
 | dK kvs=>obtain⟨z,y,vs,r,ob,es,ep,e,c⟩:=x;exact⟨z,y,vs,r,ob,es,ep,k _ _ (.inl rfl) e,c⟩
 | dT kvs =>
  obtain⟨z,y,xs,r,ob,es,ep,e,c⟩:=x
  exact⟨z,y,xs,Paired.mapP r λp q z=>⟨z.1,ht _ _ z.2.1,z.2.2⟩,ob,es,ep,k _ _ (.inl rfl) e,c⟩
 | set S n=>obtain⟨ob,es,ep,t,e,c⟩:=x;exact⟨ob,es,ep,t,k _ _ (.inl rfl) e,c⟩
 | ins C dx fs =>
  obtain⟨d,z,ne,e,mA,⟨od,es,ep,e2,c⟩,r⟩:=x
  exact⟨ho _ d,z,ne,k _ _ (.inl rfl) e,mA,⟨od,es,ep,k _ _ (.inr d) e2,c⟩,r⟩
 | own y=>obtain⟨ob,e⟩:=x;exact⟨ob,k _ _ (.inl rfl) e⟩
 | xd fs=>obtain⟨mA,⟨od,es,ep,e,c⟩,r⟩:=x;exact⟨mA,⟨od,es,ep,k _ _ (.inl rfl) e,c⟩,r⟩
 | rng lo hi=>obtain⟨t,u,v,e⟩:=x;exact⟨t,u,v,k _ _ (.inl rfl) e⟩
 | frz ob u ih=>obtain⟨e,q⟩:=x;exact⟨k _ _ (.inl rfl) e,ih q⟩
 | tbl ps =>
  have e:h.get? a=some { cls:=.none,data:=.fields ps }:=x
  show h'.get? a=some { cls:=.none,data:=.fields ps }
  exact k a _ (.inl rfl) e
 | met f y =>
  have e:h.get? a=some (PySem.W.methodObj (.ref f) (.ref y)):=x
  show h'.get? a=some (PySem.W.methodObj (.ref f) (.ref y))
  exact k a _ (.inl rfl) e
 | ext φ=>obtain⟨p,⟨o,e⟩,st⟩:=x;exact⟨st _ _ p λo q=>k _ _ (.inl rfl) q,⟨o,k _ _ (.inl rfl) e⟩,st⟩
theorem HOk.lt (x:HOk P w H h) (e:H a=some o):a<h.objs.size:=(x a o e).lt
theorem HOk.fresh (x:HOk P w H h) (e:h.objs.size<=a):H a=none:=by
 cases q:H a with
 | none=>rfl
 | some u=>exact absurd (Nat.lt_of_lt_of_le (x.lt q) e) (Nat.lt_irrefl _)
theorem HOk.kept (x:HOk P w H h) (k:∀b u,h.get? b=some u->h'.get? b=some u):HOk P w H h':=λa o e =>
 (x a o e).stay (λb u _ q=>k b u q) (λ_ q=>q) λ_ _ q=>q
theorem HOk.laid (x:HOk P w H h) (k:∀b u,h.get? b=some u->h'.get? b=some u) (hp:h.objs.size<=a) (new:ObjOk P w (upd H a o) h' a o):HOk P w (upd H a o) h':=λb u e=>by
 have hn:=x.fresh hp
 by_cases hb:b=a
 ·subst hb;rw[aW] at e;cases e;exact new
 ·rw[aI hb] at e
  exact (x b u e).stay (λc v _ q=>k c v q) (λc q=>by rw[aI (aQ q hn)];exact q) λc xs q=>by rw[aI (aQ q hn)];exact q
end
noncomputable def Rd (H:Hp) (a:Addr) (u:HO):Prop:=H a=some u\/∃o,H a=some (.frz o u)
theorem Rd.ok {P:Program} {w:World} {H:Hp} {h:Heap} {a:Addr} {u:HO} (r:Rd H a u) (x:HOk P w H h):ObjOk P w H h a u:=by
 rcases r with r | ⟨o,r⟩
 ·exact x a u r
 ·obtain⟨_,q⟩:=x a _ r
  exact q
noncomputable def Mut:Option HO->Prop
 | some (.lst _)=>True
 | some (.dK _)=>True
 | some (.dT _)=>True
 | some (.set _ _)=>True
 | some (.ins _ _ _)=>True
 | some (.ext _)=>True
 | _=>False
section
variable {P:Program} {w:World} {H:Hp} {h h':Heap} {x e:Addr} {o':HO}
theorem HOk.write (ok:HOk P w H h) (mu:Mut (H x)) (he:e=x\/H e=some (.own x)) (k:∀b u,b≠e->h.get? b=some u->h'.get? b=some u) (heo:∃u,h'.get? e=some u)
  (new:ObjOk P w (upd H x o') h' x o'):HOk P w (upd H x o') h':=λb u q=>by
 have nown:∀c y,H c=some (.own y)->c≠x:=λc y r z=>by subst z;rw[r] at mu;exact mu
 have ntup:∀c xs,H c=some (.tup xs)->c≠x:=λc xs r z=>by subst z;rw[r] at mu;exact mu
 by_cases hb:b=x
 ·subst hb;rw[aW] at q;cases q;exact new
 ·rw[aI hb] at q
  by_cases hbe:b=e
  ·have q':H b=some (.own x):=by
    rcases he with z | z
    ·exact absurd (hbe.trans z) hb
    ·rw[hbe];exact z
   rw[q] at q';cases q'
   obtain⟨v,hv⟩:=heo
   exact⟨v,by rw[hbe];exact hv⟩
  ·refine (ok b u q).stay (λc v hc r=>k c v ?_ r) (λc r=>by rw[aI (nown c b r)];exact r) λc xs r=>by rw[aI (ntup c xs r)];exact r
   rcases hc with rfl | hc
   ·exact hbe
   ·rintro rfl
    rcases he with z | z
    ·exact nown c b hc z
    ·rw[hc] at z;cases z;exact hb rfl
end
structure Un (fs ex:List Addr) (H H':Hp) (h h':Heap):Prop where
 keep:∀b o,h.get? b=some o->H b=none->b ∉ fs->b ∉ ex->h'.get? b=some o
 slot:∀b o,h.get? b=some o->H b=none->b∈fs->b ∉ ex->∃sl,h'.get? b=some { o with slots:=sl }
 free:∀b o,h.get? b=some o->H b=none->b ∉ ex->H' b=none
 there:∀b o,h.get? b=some o->b ∉ ex->∃o',h'.get? b=some o'
 tups:∀b xs,H b=some (.tup xs)->H' b=some (.tup xs)
 frzs:∀b o u,H b=some (.frz o u)->H' b=some (.frz o u)
 tbls:∀b ps,H b=some (.tbl ps)->∃more,H' b=some (.tbl (ps++more))
section
variable {fs fs' ex ex':List Addr} {H H1 H2:Hp} {h h1 h2 h':Heap} {a x e:Addr} {o:HO}
theorem Un.any (u:Un fs ex H H1 h h1) {b:Addr} {ob:Obj} (q:h.get? b=some ob) (n:H b=none) (hx:b ∉ ex):∃sl,h1.get? b=some { ob with slots:=sl }:=by
 by_cases hb:b∈fs
 ·exact u.slot b ob q n hb hx
 ·exact⟨ob.slots,u.keep b ob q n hb hx⟩
theorem Un.kept (k:∀b u,h.get? b=some u->h'.get? b=some u):Un fs ex H H h h' :=
 ⟨λb ob q _ _ _=>k b ob q,λb ob q _ _ _=>⟨ob.slots,k b ob q⟩,λ_ _ _ n _=>n,λb ob q _=>⟨ob,k b ob q⟩,λ_ _ q=>q,λ_ _ _ q=>q,λ_ ps q=>⟨#[],by rw[q];simp⟩⟩
theorem Un.refl:Un fs ex H H h h:=Un.kept λ_ _ q=>q
theorem Un.laid (k:∀b u,h.get? b=some u->h'.get? b=some u) (hp:h.objs.size<=a) (hn:H a=none):Un fs ex H (upd H a o) h h' where
 keep:=λb u q _ _ _=>k b u q
 slot:=λb u q _ _ _=>⟨u.slots,k b u q⟩
 free:=λb u q n _=>by rw[aI (Nat.ne_of_lt (Nat.lt_of_lt_of_le (Heap.lt_size q) hp))];exact n
 there:=λb u q _=>⟨u,k b u q⟩
 tups:=λb xs q=>by rw[aI (aQ q hn)];exact q
 frzs:=λb u xs q=>by rw[aI (aQ q hn)];exact q
 tbls:=λb ps q=>⟨#[],by rw[aI (aQ q hn),q];simp⟩
theorem Un.write (mu:Mut (H x)) (he:e=x\/H e=some (.own x)) (k:∀b u,b≠e->h.get? b=some u->h'.get? b=some u) (heo:∃u,h'.get? e=some u):Un fs ex H (upd H x o) h h':=by
 have hx:∀b,H b=none->b≠x:=λb n z=>by subst z;rw[n] at mu;exact mu
 have hb:∀b,H b=none->b≠e:=λb n z=>by
  subst z
  rcases he with r | r
  ·exact hx b n r
  ·rw[n] at r;cases r
 have hm:∀b u,H b=some u->¬Mut (some u)->b≠x:=λb u q nm z=>by subst z;rw[q] at mu;exact nm mu
 refine⟨λb u q n _ _=>k b u (hb b n) q,λb u q n _ _=>⟨u.slots,k b u (hb b n) q⟩,λb u q n _=>by rw[aI (hx b n)];exact n,λb u q _=>?_,
  λb xs q=>by rw[aI (hm b _ q λz=>z)];exact q,λb u xs q=>by rw[aI (hm b _ q λz=>z)];exact q,λb ps q=>⟨#[],by rw[aI (hm b _ q λz=>z),q];simp⟩⟩
 by_cases hbe:b=e
 ·subst hbe;exact heo
 ·exact⟨u,k b u hbe q⟩
theorem Un.mono (u:Un fs ex H H1 h h1) (hs:∀b∈fs,b∈fs') (hx:∀b∈ex,b∈ex'):Un fs' ex' H H1 h h1 :=
 ⟨λb ob q n hb he=>u.keep b ob q n (λz=>hb (hs b z)) λz=>he (hx b z),λ_ _ q n _ he=>u.any q n λz=>he (hx _ z),λb ob q n he=>u.free b ob q n λz=>he (hx b z),λb ob q he=>u.there b ob q λz=>he (hx b z),u.tups,u.frzs,u.tbls⟩
end
noncomputable def trk (h:Heap) (H:Hp):List Addr:=(List.range h.objs.size).filter λa=>(H a).isSome
noncomputable def uY (h:Heap) (H:Hp):Heap:=PySem.W.hideAll h (trk h H)
theorem GN (h:Heap) (H:Hp):(uY h H).objs.size=h.objs.size:=PySem.W.hideAll_size _ _
theorem KB {h:Heap} {H:Hp} {b:Addr} {o:Obj} (e:h.get? b=some o) (n:H b=none):(uY h H).get? b=some o :=
 PySem.W.hideAll_get _ e λhm=>by
  have q:(H b).isSome=true:=(List.mem_filter.mp hm).2
  rw[n] at q;simp at q
theorem OQ {h:Heap} {H:Hp} {b:Addr} {o:Obj} (e:(uY h H).get? b=some o):h.get? b=some o/\H b=none:=by
 have e':h.get? b=some o:=PySem.W.of_hideAll (trk h H) e
 refine⟨e',?_⟩
 cases q:H b with
 | none=>rfl
 | some x =>
  have hm:b∈trk h H:=List.mem_filter.mpr ⟨List.mem_range.mpr (Heap.lt_size e'),by simp[q]⟩
  have z:(uY h H).get? b=none:=PySem.W.hideAll_none (trk h H) hm
  rw[z] at e;cases e
noncomputable def nZ (g h:Heap) (L:Addr):List (Addr × Obj):=(List.range h.objs.size).filterMap λa=>if a=L\/(g.get? a).isSome=true then none else (h.get? a).map λo=>(a,o)
theorem lF {g h:Heap} {L a:Addr} {o:Obj} (h1:a≠L) (h2:g.get? a=none) (h3:h.get? a=some o):(a,o)∈nZ g h L :=
 List.mem_filterMap.mpr ⟨a,List.mem_range.mpr (Heap.lt_size h3),by simp[h1,h2,h3]⟩
theorem tY {g h:Heap} {L:Addr} {p:Addr × Obj} (hp:p∈nZ g h L):p.1≠L/\g.get? p.1=none/\h.get? p.1=some p.2:=by
 obtain⟨b,_,e⟩:=List.mem_filterMap.mp hp
 split at e
 ·cases e
 ·rename_i hn
  cases q:h.get? b with
  | none=>rw[q] at e;simp at e
  | some u =>
   rw[q] at e
   simp only[Option.map_some,Option.some.injEq] at e
   subst e
   refine⟨λz=>hn (.inl z),?_,q⟩
   show g.get? b=none
   cases r:g.get? b with
   | none=>rfl
   | some v=>exact (hn (.inr (by simp[r]))).elim
noncomputable def rest (g h:Heap) (L d:Addr):List (Addr × Obj):=(nZ g h L).filter λp=>decide (p.1≠d)
theorem KY {g h:Heap} {L:Addr}:News g L h (nZ g h L):=λp hp=>let ⟨a,b,c⟩:=tY hp;⟨c,a,b⟩
end L2
namespace L2
open PySem PySem.Spec PyProof.Rows
structure Mod (K:PySem.W.Frag) (mg:Str->Option Value) (base:Heap):Prop where
 kin:K.In base
 glob:base.Ns mainGlobals mg
 blt:∃mb,base.Ns builtinsNs mb/\∀x:Str,x≠"__name__"->mb x=bootBuiltins x
 nolimit:base.NoLimit
structure Cx where
 prog:Program
 w:World
 K:PySem.W.Frag
 mg:Str->Option Value
 base:Heap
 A:Around
 N:List Str
 s₀:Shared
 H₀:Hp
 env:Env
 outer:List Env
 stack:List Env
 ex:List Addr
 fn:Str->Bool
 calm:Bool
 pn:List (Addr × Obj)
 xe:Value->Shared->Prop
noncomputable def frs (l:List Env):List Addr:=l.filterMap (·.frame)
noncomputable abbrev Cx.fs (X:Cx):List Addr:=frs X.outer
noncomputable def Vis (sc:Scope) (x:Str):Prop:=sc.names.lookup x=some .local\/sc.names.lookup x=some .cell\/sc.names.lookup x=some .free
noncomputable def Loc (sc:Scope) (x:Str):Prop:=sc.names.lookup x=some .local\/sc.names.lookup x=some .cell
noncomputable def WW (env:Env) (h:Heap) (m:Str->Option Value) (x:Str) (u:Value):Prop :=
 (env.kindOf x=some .local/\m x=some u)\/((env.kindOf x=some .cell\/env.kindOf x=some .free)/\∃c,env.cells.lookup x=some c/\h.IsCell c (some u))
structure Cx.Ok (X:Cx):Prop where
 mod:Mod X.K X.mg X.base
 kind:X.env.scope.kind = .function
 glob:X.env.globals=mainGlobals
 blt:X.env.builtins=builtinsNs
 above:X.s₀.heap.objs.size<=X.env.locals
 inj:∀x y c,X.env.cells.lookup x=some c->X.env.cells.lookup y=some c->x=y
 has:∀x,(X.env.kindOf x=some .cell\/X.env.kindOf x=some .free)->∃c,X.env.cells.lookup x=some c
 cab:∀x c,X.fn x=true->X.env.cells.lookup x=some c->X.s₀.heap.objs.size<=c
 hd:X.calm=true->X.A.handled=none
 frames:X.A.frames=some X.stack
 stk:X.stack=X.outer\/(X.stack=X.env::X.outer/\X.env.frame=some X.env.locals)
 exf:∀b∈X.ex,b≠X.env.locals/\∀x c,X.env.cells.lookup x=some c->c≠b
 bs:∀b o,X.base.get? b=some o->X.s₀.heap.get? b=some o/\X.H₀ b=none
 bsz:X.base.objs.size<=X.s₀.heap.objs.size
 noex:∀b o,X.base.get? b=some o->b ∉ X.ex
 exfs:∀b∈X.ex,b ∉ X.fs
 funs:X.s₀.heap.FunFrames X.base X.outer
 frf:∀b∈X.fs,X.H₀ b=none
structure Inv (X:Cx) (pins:List (Addr × Obj)) (σ:List (Option V)) (H:Hp) (s:Shared):Prop where
 ok:X.Ok
 os:s.os=X.s₀.os
 bare:AllBare s.gens
 base:Un X.fs X.ex X.H₀ H X.s₀.heap s.heap
 loc:∃m,s.heap.Ns X.env.locals m/\∀(i:Nat) (x:Str) (v:V),X.N[i]? = some x->σ[i]? = some (some v)->Vis X.env.scope x->∃u,RelV v u/\WW X.env s.heap m x u
 cell:∀x c,X.env.cells.lookup x=some c->∃v,s.heap.IsCell c v
 free:H X.env.locals=none
 freeC:∀x c,X.env.cells.lookup x=some c->H c=none
 pin:∀p∈X.pn++pins,s.heap.get? p.1=some p.2/\H p.1=none/\p.1≠X.env.locals/\p.1 ∉ X.fs/\∀v,p.2.data≠.cell v
 hok:HOk X.prog X.w H s.heap
 len:σ.length=X.N.length
section
variable {X:Cx} {pins:List (Addr × Obj)} {σ:List (Option V)} {H H':Hp} {s:Shared} {h':Heap}
theorem Cx.Ok.nofr (ok:X.Ok) {b:Addr} {o:Obj} (e:X.base.get? b=some o):b ∉ X.fs:=λhb=>by
 have:=(ok.funs.mem hb).1
 rw[e] at this;cases this
theorem Inv.bs (I:Inv X pins σ H s):∀b o,X.base.get? b=some o->s.heap.get? b=some o/\H b=none:=λb o e =>
 ⟨I.base.keep b o (I.ok.bs b o e).1 (I.ok.bs b o e).2 (I.ok.nofr e) (I.ok.noex b o e),I.base.free b o (I.ok.bs b o e).1 (I.ok.bs b o e).2 (I.ok.noex b o e)⟩
theorem Inv.bk (I:Inv X pins σ H s):∀b o,X.base.get? b=some o->s.heap.get? b=some o:=λb o e=>(I.bs b o e).1
theorem Inv.mod (I:Inv X pins σ H s):Mod X.K X.mg X.base:=I.ok.mod
theorem Inv.kIn (I:Inv X pins σ H s):X.K.In s.heap:=I.ok.mod.kin.keeps I.bk
theorem Inv.lt (I:Inv X pins σ H s):X.env.locals<s.heap.objs.size:=let ⟨_,hn,_⟩:=I.loc;hn.lt
theorem Inv.sz (I:Inv X pins σ H s):X.s₀.heap.objs.size<=s.heap.objs.size:=Nat.le_trans I.ok.above (Nat.le_of_lt I.lt)
theorem Inv.nofs (I:Inv X pins σ H s) {a:Addr} (h:s.heap.objs.size<=a):a ∉ X.fs:=λhb=>by
 obtain⟨_,o,ho,_⟩:=I.ok.funs.mem hb
 exact absurd (Nat.lt_of_lt_of_le (Heap.lt_size ho) (Nat.le_trans I.sz h)) (Nat.lt_irrefl _)
theorem Inv.cne (I:Inv X pins σ H s):∀x c,X.env.cells.lookup x=some c->c≠X.env.locals:=λx c e z=>by
 obtain⟨v,o,ho,hd⟩:=I.cell x c e
 obtain⟨m,⟨o',es,ep,ho',hd',_⟩,_⟩:=I.loc
 rw[z,ho'] at ho;cases ho;rw[hd'] at hd;cases hd
theorem Inv.funs (I:Inv X pins σ H s):s.heap.FunFrames X.base X.outer:=by
 have all:∀(l:List Env),(∀b∈frs l,b∈X.fs)->X.s₀.heap.FunFrames X.base l->s.heap.FunFrames X.base l:=by
  intro l
  induction l with
  | nil=>intro _ _;trivial
  | cons env r ih =>
   intro hs hl
   obtain⟨hk,⟨L,o,hf,hn,ho,hd⟩,hr⟩:=hl
   have hL:L∈X.fs:=hs L (by unfold frs;rw[List.filterMap_cons,hf];exact List.mem_cons_self)
   obtain⟨sl,e⟩:=I.base.slot L o ho (I.ok.frf L hL) hL λz=>I.ok.exfs L z hL
   exact⟨hk,⟨L,_,hf,hn,e,hd⟩,ih (λb hb=>hs b (by unfold frs;rw[List.filterMap_cons,hf];exact List.mem_cons_of_mem _ hb)) hr⟩
 exact all X.outer (λ_ hb=>hb) I.ok.funs
theorem Inv.stack (I:Inv X pins σ H s):s.heap.FunFrames X.base X.stack:=by
 rcases I.ok.stk with e | ⟨e,hf⟩
 ·rw[e];exact I.funs
 ·rw[e]
  obtain⟨m,hn,_⟩:=I.loc
  refine .cons (by rw[I.ok.kind];decide) hf hn ?_ I.funs
  exact Heap.get?_none_of_le (Nat.le_trans I.ok.bsz I.ok.above)
theorem Inv.stkSub (I:Inv X pins σ H s):∀b∈frs X.stack,b∈X.env.locals::X.fs:=λb hb=>by
 rcases I.ok.stk with e | ⟨e,hf⟩
 ·rw[e] at hb;exact List.mem_cons_of_mem _ hb
 ·rw[e] at hb
  unfold frs at hb
  rw[List.filterMap_cons,hf] at hb
  exact hb
theorem Inv.stkFree (I:Inv X pins σ H s):∀b∈frs X.stack,H b=none:=λb hb=>by
 rcases List.mem_cons.mp (I.stkSub b hb) with e | hb
 ·rw[e];exact I.free
 ·obtain⟨_,o,ho,_⟩:=I.ok.funs.mem hb
  exact I.base.free b o ho (I.ok.frf b hb) λz=>I.ok.exfs b z hb
theorem Inv.step {g':Array GenState} {t':Nat} {d':Drawn} {ch:List Addr} (I:Inv X pins σ H s)
  (hch:∀b∈ch,(b∈X.ex\/X.s₀.heap.objs.size<=b)/\b≠X.env.locals/\(∀x c,X.env.cells.lookup x=some c->c≠b)/\∀p∈X.pn++pins,p.1≠b)
  (keep:∀b o,b≠X.env.locals->b ∉ X.fs->b ∉ ch->s.heap.get? b=some o->H b=none->h'.get? b=some o)
  (slot:∀b o,b≠X.env.locals->b∈X.fs->b ∉ ch->s.heap.get? b=some o->H b=none->∃sl,h'.get? b=some { o with slots:=sl }) (free:∀b o,b ∉ ch->s.heap.get? b=some o->H b=none->H' b=none)
  (there:∀b o,b ∉ ch->s.heap.get? b=some o->∃o',h'.get? b=some o')
  (tups:∀b xs,H b=some (.tup xs)->H' b=some (.tup xs)) (frzs:∀b o u,H b=some (.frz o u)->H' b=some (.frz o u)) (tbls:∀b ps,H b=some (.tbl ps)->∃more,H' b=some (.tbl (ps++more)))
  (ns:∀m,s.heap.Ns X.env.locals m->h'.Ns X.env.locals m) (hok:HOk X.prog X.w H' h') (hg:AllBare g') :
  Inv X pins σ H' { s with heap:=h',gens:=g',drawn:=d',toks:=t' }:=by
 have neL:∀b o,X.s₀.heap.get? b=some o->b≠X.env.locals:=λb o e=>Nat.ne_of_lt (Nat.lt_of_lt_of_le (Heap.lt_size e) I.ok.above)
 have neC:∀b o,X.s₀.heap.get? b=some o->b ∉ X.ex->b ∉ ch:=λb o e hx hb=>by
  rcases (hch b hb).1 with z | z
  ·exact hx z
  ·exact absurd (Nat.lt_of_lt_of_le (Heap.lt_size e) z) (Nat.lt_irrefl _)
 have cellK:∀x c,X.env.cells.lookup x=some c->∀v,s.heap.IsCell c v->h'.IsCell c v:=λx c e v ⟨o,ho,hd⟩=>by
  have nch:c ∉ ch:=λz=>(hch c z).2.2.1 x c e rfl
  by_cases hc:c∈X.fs
  ·obtain⟨sl,q⟩:=slot c o (I.cne x c e) hc nch ho (I.freeC x c e)
   exact⟨_,q,hd⟩
  ·exact⟨o,keep c o (I.cne x c e) hc nch ho (I.freeC x c e),hd⟩
 refine⟨I.ok,I.os,hg,⟨λb o e n hb hx=>?_,λb o e n hb hx=>?_,λb o e n hx=>?_,λb o e hx=>?_,λb xs e=>tups b xs (I.base.tups b xs e),λb o xs e=>frzs b o xs (I.base.frzs b o xs e),λb ps e=>?_⟩,?_,λx c e=>?_,?_,λx c e=>?_,λp hp=>?_,hok,I.len⟩
 ·exact keep b o (neL b o e) hb (neC b o e hx) (I.base.keep b o e n hb hx) (I.base.free b o e n hx)
 ·obtain⟨sl,e1⟩:=I.base.slot b o e n hb hx
  obtain⟨sl',e2⟩:=slot b _ (neL b o e) hb (neC b o e hx) e1 (I.base.free b o e n hx)
  exact⟨sl',e2⟩
 ·obtain⟨o',e1⟩:=I.base.there b o e hx
  exact free b o' (neC b o e hx) e1 (I.base.free b o e n hx)
 ·obtain⟨o',e1⟩:=I.base.there b o e hx
  exact there b o' (neC b o e hx) e1
 ·obtain⟨m1,e1⟩:=I.base.tbls b ps e
  obtain⟨m2,e2⟩:=tbls b _ e1
  exact⟨m1++m2,by rw[e2,Array.append_assoc]⟩
 ·obtain⟨m,hn,hl⟩:=I.loc
  refine⟨m,ns m hn,λi x v e1 e2 e3=>?_⟩
  obtain⟨u,r,l⟩:=hl i x v e1 e2 e3
  refine⟨u,r,?_⟩
  rcases l with l | ⟨k,c,e,z⟩
  ·exact .inl l
  ·exact .inr ⟨k,c,e,cellK x c e _ z⟩
 ·obtain⟨v,z⟩:=I.cell x c e
  exact⟨v,cellK x c e v z⟩
 ·obtain⟨m,⟨o,_,_,ho,_⟩,_⟩:=I.loc
  exact free _ o (λz=>(hch _ z).2.1 rfl) ho I.free
 ·obtain⟨v,o,ho,hd⟩:=I.cell x c e
  exact free c o (λz=>(hch c z).2.2.1 x c e rfl) ho (I.freeC x c e)
 ·obtain⟨e,n,ne,nf,d⟩:=I.pin p hp
  have nch:p.1 ∉ ch:=λz=>(hch p.1 z).2.2.2 p hp rfl
  exact⟨keep p.1 p.2 ne nf nch e n,free p.1 p.2 nch e n,ne,nf,d⟩
theorem Inv.un {t':Nat} (I:Inv X pins σ H s) (u:Un X.fs [] H H' s.heap h') (hok:HOk X.prog X.w H' h'):Inv X pins σ H' { s with heap:=h',toks:=t' }:=by
 obtain⟨m,⟨o,es,ep,ho,r⟩,_⟩:=id I.loc
 obtain⟨sl,hL⟩:=u.any ho I.free (by simp)
 exact I.step (g':=s.gens) (d':=s.drawn) (ch:=[]) (λ_ z=>nomatch z) (λb o _ hb _ e n=>u.keep b o e n hb (by simp)) (λb o _ hb _ e n=>u.slot b o e n hb (by simp)) (λb o _ e n=>u.free b o e n (by simp)) (λb o _ e=>u.there b o e (by simp)) u.tups u.frzs u.tbls (λm' hm=>by
  obtain⟨o',es',ep',ho',r'⟩:=hm
  rw[ho] at ho';cases ho'
  exact⟨_,es',ep',hL,r'⟩) hok I.bare
theorem Inv.call {g':Array GenState} {t':Nat} {d':Drawn} {ch:List Addr} (I:Inv X pins σ H s) (u:Un (frs X.stack) ch H H' s.heap h') (hok:HOk X.prog X.w H' h') (hg:AllBare g')
  (hch:∀b∈ch,(b∈X.ex\/X.s₀.heap.objs.size<=b)/\b≠X.env.locals/\(∀x c,X.env.cells.lookup x=some c->c≠b)/\∀p∈X.pn++pins,p.1≠b) :
  Inv X pins σ H' { s with heap:=h',gens:=g',drawn:=d',toks:=t' }:=by
 obtain⟨m,⟨o,es,ep,ho,r⟩,_⟩:=id I.loc
 obtain⟨sl,hL⟩:=u.any ho I.free λz=>(hch _ z).2.1 rfl
 exact I.step (ch:=ch) hch (λb o hL hb hc e n=>u.keep b o e n (λz=>(List.mem_cons.mp (I.stkSub b z)).elim hL hb) hc) (λb o _ _ hc e n=>u.any e n hc) (λb o hc e n=>u.free b o e n hc) (λb o hc e=>u.there b o e hc) u.tups u.frzs u.tbls (λm' hm=>by
  obtain⟨o',es',ep',ho',r'⟩:=hm
  rw[ho] at ho';cases ho'
  exact⟨_,es',ep',hL,r'⟩) hok hg
theorem Inv.turned {t':Nat} {it:Addr} (I:Inv X pins σ H s) (k:∀b o,b≠it->s.heap.get? b=some o->h'.get? b=some o) (hn:H it=none) (hL:it≠X.env.locals)
  (h1:it∈X.ex\/X.s₀.heap.objs.size<=it) (h2:∀x c,X.env.cells.lookup x=some c->c≠it) (h3:∀p∈X.pn++pins,p.1≠it):Inv X pins σ H { s with heap:=h',toks:=t' }:=by
 have nit:∀b u,H b=some u->b≠it:=λb u e z=>by rw[z,hn] at e;cases e
 refine I.step (g':=s.gens) (d':=s.drawn) (ch:=[it]) (λb hb=>?_) (λb o _ _ hc e _=>k b o (λz=>hc (by simp[z])) e) (λb o _ _ hc e _=>⟨o.slots,k b o (λz=>hc (by simp[z])) e⟩) (λ_ _ _ _ n=>n)
  (λb o hc e=>⟨o,k b o (λz=>hc (by simp[z])) e⟩) (λ_ _ e=>e) (λ_ _ _ e=>e) (λb ps e=>⟨#[],by rw[e];simp⟩) (λm hm=>?_) (λb u e=>?_) I.bare
 ·have e:b=it:=by simpa using hb
  subst e
  exact⟨h1,hL,h2,h3⟩
 ·obtain⟨o,es,ep,ho,r⟩:=hm
  exact⟨o,es,ep,k _ o (Ne.symm hL) ho,r⟩
 ·refine (I.hok b u e).stay (λc v hc q=>k c v ?_ q) (λ_ q=>q) λ_ _ q=>q
  rcases hc with z | z
  ·rw[z];exact nit b u e
  ·exact nit c _ z
theorem Inv.tok (I:Inv X pins σ H s) (t:Nat):Inv X pins σ H { s with toks:=t }:=I.un (h':=s.heap) (t':=t) Un.refl I.hok
theorem Inv.kept {t':Nat} (I:Inv X pins σ H s) (k:∀b u,s.heap.get? b=some u->h'.get? b=some u):Inv X pins σ H { s with heap:=h',toks:=t' }:=I.un (Un.kept k) (I.hok.kept k)
theorem Inv.laid {a:Addr} {o:HO} {t':Nat} (I:Inv X pins σ H s) (k:∀b u,s.heap.get? b=some u->h'.get? b=some u) (hp:s.heap.objs.size<=a) (new:ObjOk X.prog X.w (upd H a o) h' a o) :
  Inv X pins σ (upd H a o) { s with heap:=h',toks:=t' }:=I.un (Un.laid k hp (I.hok.fresh hp)) (I.hok.laid k hp new)
theorem Inv.write {x e:Addr} {o:HO} {t':Nat} (I:Inv X pins σ H s) (mu:Mut (H x)) (he:e=x\/H e=some (.own x)) (k:∀b u,b≠e->s.heap.get? b=some u->h'.get? b=some u) (heo:∃u,h'.get? e=some u)
  (new:ObjOk X.prog X.w (upd H x o) h' x o):Inv X pins σ (upd H x o) { s with heap:=h',toks:=t' }:=I.un (Un.write mu he k heo) (I.hok.write mu he k heo new)
theorem Inv.pins_of {pins':List (Addr × Obj)} (I:Inv X pins σ H s) (h:∀p∈pins',s.heap.get? p.1=some p.2/\H p.1=none/\p.1≠X.env.locals/\p.1 ∉ X.fs/\∀v,p.2.data≠.cell v):Inv X pins' σ H s :=
 ⟨I.ok,I.os,I.bare,I.base,I.loc,I.cell,I.free,I.freeC,λp hp=>(List.mem_append.mp hp).elim (λz=>I.pin p (List.mem_append_left _ z)) (h p),I.hok,I.len⟩
theorem AO {N:List Str} (hN:N.Nodup) {i j:Nat} {x:Str} (a:N[i]? = some x) (b:N[j]? = some x):i=j:=by
 obtain⟨h1,e1⟩:=List.getElem?_eq_some_iff.mp a
 obtain⟨h2,e2⟩:=List.getElem?_eq_some_iff.mp b
 exact (List.getElem_inj hN).mp (e1.trans e2.symm)
theorem wW {M:Model} {A:Around} {E:Value->Shared->Prop} {i:Nat} {x:Str} {v:V} {u:Value} {Q:Unit->Shared->Prop} (I:Inv X pins σ H s) (hN:X.N.Nodup) (hi:X.N[i]? = some x) (hx:Loc X.env.scope x) (r:RelV v u)
  (h:∀s',Inv X pins (σ.set i (some v)) H s'->(∃a,Heap.SameBut a s.heap s'.heap/\(a=X.env.locals\/X.env.cells.lookup x=some a))->Q () s') (hf:X.fn x=true\/X.env.scope.names.lookup x=some .local:=by walk_at "loc"):wpAny M A (storeName X.env x u) Q E s:=by
 obtain⟨m,hn,hl⟩:=id I.loc
 have hcls:(X.env.scope.kind == .class || (X.env.scope.kind == .module && X.env.locals != X.env.globals))=false:=by rw[I.ok.kind];rfl
 have hiσ:i<σ.length:=by rw[I.len];exact (List.getElem?_eq_some_iff.mp hi).1
 have cne:=I.cne
 have tracked:∀{a:Addr} {h':Heap},(∃o,s.heap.get? a=some o/\H a=none)->Heap.SameBut a s.heap h'->HOk X.prog X.w H h':=λ{a h'} ha hs b ob e=>by
  obtain⟨_,_,hfree⟩:=ha
  refine (I.hok b ob e).stay (λc w' hc q=>(hs.2 c ?_).trans q) (λ_ q=>q) λ_ _ q=>q
  rintro rfl
  rcases hc with rfl | hc
  ·rw[hfree] at e;cases e
  ·rw[hfree] at hc;cases hc
 rcases hx with hk | hk
 ·refine wpAny_storeName_local hk hn (λh' hn' hs=>?_) hcls
  obtain⟨oL,_,_,hoL,_⟩:=id hn
  refine h _ ⟨I.ok,I.os,I.bare,⟨λb o e n hb hx=>?_,λb o e n hb hx=>?_,I.base.free,λb o e hx=>?_,I.base.tups,I.base.frzs,I.base.tbls⟩,⟨_,hn',λj y v' e1 e2 e3=>?_⟩,λy c e=>?_,I.free,I.freeC,λp hp=>?_,tracked ⟨oL,hoL,I.free⟩ hs,by simpa using I.len⟩ ⟨_,hs,.inl rfl⟩
  ·exact (hs.2 b (Nat.ne_of_lt (Nat.lt_of_lt_of_le (Heap.lt_size e) I.ok.above))).trans (I.base.keep b o e n hb hx)
  ·obtain⟨sl,e1⟩:=I.base.slot b o e n hb hx
   exact⟨sl,(hs.2 b (Nat.ne_of_lt (Nat.lt_of_lt_of_le (Heap.lt_size e) I.ok.above))).trans e1⟩
  ·obtain⟨o',e1⟩:=I.base.there b o e hx
   exact⟨o',(hs.2 b (Nat.ne_of_lt (Nat.lt_of_lt_of_le (Heap.lt_size e) I.ok.above))).trans e1⟩
  ·by_cases hj:j=i
   ·subst hj
    rw[hi] at e1;cases e1
    rw[List.getElem?_set_self hiσ] at e2
    cases e2
    exact⟨u,r,.inl ⟨hk,by simp⟩⟩
   ·rw[List.getElem?_set_ne (Ne.symm hj)] at e2
    obtain⟨u',r',q⟩:=hl j y v' e1 e2 e3
    refine⟨u',r',?_⟩
    rcases q with ⟨k,e⟩ | ⟨k,c,e,z⟩
    ·refine .inl ⟨k,?_⟩
     have:y≠x:=λe=>hj (AO hN e1 (e ▸ hi))
     simp[this,e]
    ·exact .inr ⟨k,c,e,z.sameBut hs (cne y c e)⟩
  ·obtain⟨w',z⟩:=I.cell y c e
   exact⟨w',z.sameBut hs (cne y c e)⟩
  ·obtain⟨e,n,ne,nf,d⟩:=I.pin p hp
   exact⟨(hs.2 p.1 ne).trans e,n,ne,nf,d⟩
 ·have hfn:X.fn x=true:=by
   rcases hf with z | z
   ·exact z
   ·rw[z] at hk;cases hk
  obtain⟨c,hc⟩:=I.ok.has x (.inl hk)
  obtain⟨w',z⟩:=I.cell x c hc
  refine wpAny_storeName_cell I.ok.kind hk hc z (λh' hc' hs=>?_)
  obtain⟨oc,hoc,hocd⟩:=id z
  refine h { s with heap:=h' } ⟨I.ok,I.os,I.bare,⟨λb o e n hb hx=>?_,λb o e n hb hx=>?_,I.base.free,λb o e hx=>?_,I.base.tups,I.base.frzs,I.base.tbls⟩,⟨m,hn.sameBut hs (Ne.symm (cne x c hc)),λj y v' e1 e2 e3=>?_⟩,λy c' e=>?_,I.free,I.freeC,λp hp=>?_,tracked ⟨oc,hoc,I.freeC x c hc⟩ hs,by simpa using I.len⟩ ⟨c,hs,.inr hc⟩
  ·exact (hs.2 b (Nat.ne_of_lt (Nat.lt_of_lt_of_le (Heap.lt_size e) (I.ok.cab x c hfn hc)))).trans (I.base.keep b o e n hb hx)
  ·obtain⟨sl,e1⟩:=I.base.slot b o e n hb hx
   exact⟨sl,(hs.2 b (Nat.ne_of_lt (Nat.lt_of_lt_of_le (Heap.lt_size e) (I.ok.cab x c hfn hc)))).trans e1⟩
  ·obtain⟨o',e1⟩:=I.base.there b o e hx
   exact⟨o',(hs.2 b (Nat.ne_of_lt (Nat.lt_of_lt_of_le (Heap.lt_size e) (I.ok.cab x c hfn hc)))).trans e1⟩
  ·by_cases hj:j=i
   ·subst hj
    rw[hi] at e1;cases e1
    rw[List.getElem?_set_self hiσ] at e2
    cases e2
    exact⟨u,r,.inr ⟨.inl hk,c,hc,hc'⟩⟩
   ·rw[List.getElem?_set_ne (Ne.symm hj)] at e2
    obtain⟨u',r',q⟩:=hl j y v' e1 e2 e3
    refine⟨u',r',?_⟩
    rcases q with q | ⟨k,c',e,z'⟩
    ·exact .inl q
    ·refine .inr ⟨k,c',e,z'.sameBut hs ?_⟩
     rintro rfl
     exact hj (AO hN e1 (I.ok.inj _ _ _ e hc ▸ hi))
  ·by_cases hcc:c'=c
   ·subst hcc;exact⟨_,hc'⟩
   ·obtain⟨w2,z2⟩:=I.cell y c' e
    exact⟨w2,z2.sameBut hs hcc⟩
  ·obtain⟨e,n,ne,nf,d⟩:=I.pin p hp
   refine⟨(hs.2 p.1 ?_).trans e,n,ne,nf,d⟩
   intro q
   rw[q,hoc] at e
   have q':oc=p.2:=Option.some.inj e
   exact d w' (by rw[<-q'];exact hocd)
theorem pD {M:Model} {A:Around} {E:Value->Shared->Prop} {i:Nat} {x:Str} {v:V} {u:Value} {Q:Unit->Shared->Prop} (I:Inv X pins σ H s) (hN:X.N.Nodup) (hi:X.N[i]? = some x) (hx:Loc X.env.scope x) (r:RelV v u)
  (h:∀s',Inv X pins (σ.set i (some v)) H s'->Q () s') (hf:X.fn x=true\/X.env.scope.names.lookup x=some .local:=by walk_at "loc"):wpAny M A (storeName X.env x u) Q E s :=
 wW I hN hi hx r (λs' I' _=>h s' I') hf
theorem Inv.call' {s':Shared} {ch:List Addr} (I:Inv X pins σ H s) (ho:s'.os=s.os) (u:Un (frs X.stack) ch H H' s.heap s'.heap) (hok:HOk X.prog X.w H' s'.heap) (hg:AllBare s'.gens)
  (hch:∀b∈ch,(b∈X.ex\/X.s₀.heap.objs.size<=b)/\b≠X.env.locals/\(∀x c,X.env.cells.lookup x=some c->c≠b)/\∀p∈X.pn++pins,p.1≠b):Inv X pins σ H' s':=by
 obtain⟨h',g',d',t',o'⟩:=s'
 have e:o'=s.os:=ho
 subst e
 exact I.call (g':=g') (t':=t') (d':=d') u hok hg hch
end
noncomputable abbrev XK:=Value->Option Addr->Hp->Prop
noncomputable abbrev St:=List (Option V)
noncomputable abbrev VK:=V->Hp->Prop
noncomputable abbrev TE:=St->Hp->VK->Prop
noncomputable abbrev TT:=St->Hp->(Bool->Hp->Prop)->Prop
noncomputable abbrev TA:=St->Hp->(List V->Hp->Prop)->Prop
structure Ends where
 nx:St->Hp->Prop
 rt:VK
 bk:St->Hp->Prop:=λ_ _=>False
 ct:St->Hp->Prop:=λ_ _=>False
noncomputable abbrev TS:=Ends->St->Hp->Prop
noncomputable def EP (X:Cx) (pins:List (Addr × Obj)) (σ:St) (Q:VK) (u:Value) (s':Shared):Prop:=∃v H',Inv X pins σ H' s'/\RelV v u/\Q v H'
noncomputable def TP (X:Cx) (pins:List (Addr × Obj)) (σ:St) (Q:Bool->Hp->Prop) (b:Bool) (s':Shared):Prop:=∃H',Inv X pins σ H' s'/\Q b H'
noncomputable def AP (X:Cx) (pins:List (Addr × Obj)) (σ:St) (Q:List V->Hp->Prop) (us:List Value) (s':Shared):Prop:=∃vs H',Inv X pins σ H' s'/\Vals vs us/\Q vs H'
noncomputable def SP (X:Cx) (pins:List (Addr × Obj)) (D:Ends) (f:Flow) (s':Shared):Prop :=
 match f with
 | .next=>∃σ' H',Inv X pins σ' H' s'/\D.nx σ' H'
 | .brk=>∃σ' H',Inv X pins σ' H' s'/\D.bk σ' H'
 | .cont=>∃σ' H',Inv X pins σ' H' s'/\D.ct σ' H'
 | .ret u=>∃v σ' H',Inv X pins σ' H' s'/\RelV v u/\D.rt v H'
noncomputable def PE (X:Cx) (e:Expr) (t:TE):Prop :=
 ∀(pins:List (Addr × Obj)) (s:Shared) (σ:St) (H:Hp) (Q:VK),Inv X pins σ H s->t σ H Q->wpAny (model X.prog X.w) X.A (eval e X.env) (EP X pins σ Q) X.xe s
noncomputable def PT (X:Cx) (e:Expr) (t:TT):Prop :=
 ∀(pins:List (Addr × Obj)) (s:Shared) (σ:St) (H:Hp) (Q:Bool->Hp->Prop),Inv X pins σ H s->t σ H Q->wpAny (model X.prog X.w) X.A (isTrue e X.env (eval e X.env)) (TP X pins σ Q) X.xe s
noncomputable def PW (X:Cx) (e:Expr) (t:TT):Prop :=
 ∀(whole:Sem Value) (pins:List (Addr × Obj)) (s:Shared) (σ:St) (H:Hp) (Q:Bool->Hp->Prop),Inv X pins σ H s->t σ H Q->wpAny (model X.prog X.w) X.A (isTrue e X.env whole) (TP X pins σ Q) X.xe s
theorem PW.pt {X:Cx} {e:Expr} {t:TT} (h:PW X e t):PT X e t:=h _
noncomputable def PA (X:Cx) (es:List Expr) (t:TA):Prop :=
 ∀(pos:Pos) (pins:List (Addr × Obj)) (s:Shared) (σ:St) (H:Hp) (Q:List V->Hp->Prop),Inv X pins σ H s->t σ H Q->wpAny (model X.prog X.w) X.A (spliced (backTo pos (starEach es X.env))) (AP X pins σ Q) X.xe s
noncomputable def PS (X:Cx) (st:Stmt) (t:TS):Prop :=
 ∀(pins:List (Addr × Obj)) (s:Shared) (σ:St) (H:Hp) (D:Ends),Inv X pins σ H s->t D σ H->wpAny (model X.prog X.w) X.A (exec st X.env) (SP X pins D) X.xe s
noncomputable def PSs (X:Cx) (st:List Stmt) (t:TS):Prop :=
 ∀(pins:List (Addr × Obj)) (s:Shared) (σ:St) (H:Hp) (D:Ends),Inv X pins σ H s->t D σ H->wpAny (model X.prog X.w) X.A (execs st X.env) (SP X pins D) X.xe s
theorem thn {α:Type} {t:Sem α} {Q Q':α->Shared->Prop} {M:Model} {A:Around} {E:Value->Shared->Prop} {s:Shared} (h:wpAny M A t Q E s) (hQ:∀a s,Q a s->Q' a s):wpAny M A t Q' E s:=wpAny_mono h hQ λ_ _ x=>x
end L2
namespace L2
open PySem PySem.Spec PyProof.Rows
section
variable {X:Cx}
noncomputable def WR (i:Nat):TE:=λσ H Q=>∃v,σ[i]? = some (some v)/\Q v H
noncomputable def tC (v:V):TE:=λ_ H Q=>Q v H
theorem TF {i:Nat} {x:Str} {pos:Pos} (hN:X.N[i]? = some x) (hv:Vis X.env.scope x) (hd:(x == ("__debug__":Str))=false:=by decide) (hcd:(x == ("__classdict__":Str))=false:=by decide):PE X (.Name x pos) (WR i):=by
 intro pins s σ H Q I h
 obtain⟨v,e,h⟩:=h
 obtain⟨m,hn,hl⟩:=I.loc
 obtain⟨u,r,l⟩:=hl i x v hN e hv
 have fin:EP X pins σ Q u s:=⟨v,H,I,r,h⟩
 rcases l with ⟨hk,hm⟩ | ⟨hk,c,hc,hcell⟩
 ·exact wpAny_Name (wpAny_loadName_local I.ok.kind hk hn hm fin) hd
 ·rcases hk with hk | hk
  ·exact wpAny_Name (wpAny_loadName_cell I.ok.kind hk hc hcell fin) hd
  ·exact wpAny_Name (wpAny_loadName_free I.ok.kind hk hc hcell fin hcd) hd
theorem DD {i j pos}:PE X (.Constant (.int i) j pos) (tC (.int i)):=λ_ _ _ H _ I h=>wpAny_Constant_int ⟨.int i,H,I.tok _,⟨_,rfl⟩,h⟩
noncomputable def Gl (X:Cx) (x:Str):Prop:=X.env.kindOf x=some .globalImplicit
theorem OD {E:Value->Shared->Prop} {pins:List (Addr × Obj)} {s:Shared} {σ:St} {H:Hp} {x:Str} {u:Value} {pos:Pos} {Q:Value->Shared->Prop} (I:Inv X pins σ H s) (hg:Gl X x) (hm:X.mg x=some u) (h:Q u s)
  (hd:(x == ("__debug__":Str))=false:=by decide):wpAny (model X.prog X.w) X.A (eval (.Name x pos) X.env) Q E s :=
 Calls.Name_function_global I.ok.kind hg (Calls.loadGlobal_global (by rw[I.ok.glob];exact I.mod.glob.keeps I.bk) hm h) hd
theorem eJ {E:Value->Shared->Prop} {pins:List (Addr × Obj)} {s:Shared} {σ:St} {H:Hp} {x:Str} {u:Value} {pos:Pos} {Q:Value->Shared->Prop} (I:Inv X pins σ H s) (hg:Gl X x) (hm:X.mg x=none) (hv:bootBuiltins x=some u) (h:Q u s)
  (hn:x≠"__name__":=by decide) (hd:(x == ("__debug__":Str))=false:=by decide):wpAny (model X.prog X.w) X.A (eval (.Name x pos) X.env) Q E s:=by
 obtain⟨mb,h1,h2⟩:=I.mod.blt
 exact Calls.Name_function_global I.ok.kind hg (Calls.loadGlobal_builtin (by rw[I.ok.glob];exact I.mod.glob.keeps I.bk) hm (by rw[I.ok.blt];exact h1.keeps I.bk) ((h2 x hn).trans hv) h) hd
variable {a b:Expr} {ta tb:TE} {pos:Pos}
noncomputable def tB (t:TE):TT:=λσ H Q=>t σ H λx H1=>∃c,x = .bl c/\Q c H1
variable {tA tB':TT} {rest:List Expr}
noncomputable def XN (t u:TT):TT:=λσ H Q=>t σ H λc H1=>if c=true then u σ H1 Q else Q false H1
theorem PK (ha:PT X a tA):PW X (.BoolOp .And [a] pos) tA:=by
 intro wh pins s σ H Q I h
 refine isTrue_and (thn (ha pins s σ H Q I h) λc s1 e=>?_)
 cases c with
 | true=>exact isTrue_and_nil e
 | false=>exact e
theorem TQ (ha:PT X a tA) (hb:PW X (.BoolOp .And (b::rest) pos) tB'):PW X (.BoolOp .And (a::b::rest) pos) (XN tA tB'):=by
 intro wh pins s σ H Q I h
 refine isTrue_and (thn (ha pins s σ H _ I h) λc s1 ⟨H1,I1,q1⟩=>?_)
 cases c with
 | true=>exact hb wh pins s1 σ H1 Q I1 q1
 | false=>exact⟨H1,I1,q1⟩
noncomputable def WI (ta tb:TE):TE:=λσ H Q=>ta σ H λx H1=>∃c,x = .bl c/\if c=true then tb σ H1 Q else Q (.bl false) H1
theorem TC {op} {t:TE} (h:PE X a t):PE X (.BoolOp op [a] pos) t:=λpins s σ H Q I hw=>BoolOp_one (h pins s σ H Q I hw)
theorem TB (ha:PE X a ta) (hb:PE X (.BoolOp .And (b::rest) pos) tb):PE X (.BoolOp .And (a::b::rest) pos) (WI ta tb):=by
 intro pins s σ H Q I h
 refine BoolOp_and (thn (ha pins s σ H _ I h) λv s1 ⟨x,H1,I1,r1,q1⟩=>?_)
 obtain⟨c,rfl,q1⟩:=q1
 cases r1
 refine wpAny_truthy_bool ?_
 cases c with
 | true=>exact hb pins s1 σ H1 Q I1 q1
 | false=>exact⟨.bl false,H1,I1,rfl,q1⟩
end
end L2
namespace L2
open PySem PySem.Spec PyProof.Rows
noncomputable def SqL (K:PySem.W.Frag) (H:Hp) (a:Addr) (xs:List V):Prop :=
 Rd H a (.lst xs) \/
  ∃(o:Obj) (its:Array Value) (n:Nat),K.lookup a=some o/\o.cls = .type "list"/\o.dict=none/\o.data = .seq its n/\its.size<=sizeLine/\Vals xs its.toList
noncomputable def SqT (K:PySem.W.Frag) (H:Hp) (a:Addr) (xs:List V):Prop :=
 Rd H a (.tup xs) \/
  ∃(o:Obj) (its:Array Value) (n:Nat),K.lookup a=some o/\o.cls = .type "tuple"/\o.data = .seq its n/\its.size<=sizeLine/\Vals xs its.toList
noncomputable def WX:Value->Option V
 | .none=>some .non
 | .bool b=>some (.bl b)
 | .int i _=>some (.int i)
 | .str x _=>some (.str x)
 | .bytes b _=>some (.byt b)
 | .float b _=>some (.flt b)
 | .ref a=>some (.ref a)
 | .type n=>some (.ty n)
 | _=>none
theorem RelV.abs {x:V} {u:Value} (r:RelV x u):WX u=some x:=by
 cases x with
 | non=>cases r;rfl
 | bl _=>cases r;rfl
 | int _=>obtain⟨t,rfl⟩:=r;rfl
 | str _=>obtain⟨t,rfl⟩:=r;rfl
 | byt _=>obtain⟨t,rfl⟩:=r;rfl
 | flt _=>obtain⟨t,rfl⟩:=r;rfl
 | ref _=>cases r;rfl
 | ty _=>cases r;rfl
theorem RelV.inj {x y:V} {u:Value} (r:RelV x u) (q:RelV y u):x=y:=Option.some.inj (r.abs.symm.trans q.abs)
theorem Vals.inj:∀{xs ys:List V} {us:List Value},Vals xs us->Vals ys us->xs=ys
 | _,_,_,.nil,.nil=>rfl
 | _,_,_,.cons r t,.cons r' t'=>by rw[r.inj r',Vals.inj t t']
section
variable {X:Cx} {pins:List (Addr × Obj)} {σ:St} {H:Hp} {s:Shared} {a:Addr} {xs ys:List V}
theorem SqL.of {K:PySem.W.Frag} (h:H a=some (.lst xs)):SqL K H a xs:=.inl (.inl h)
theorem SqT.of {K:PySem.W.Frag} (h:H a=some (.tup xs)):SqT K H a xs:=.inl (.inl h)
theorem Inv.list (I:Inv X pins σ H s) (h:SqL X.K H a xs):∃its:List Value,Vals xs its/\PlainL s.heap a its.toArray/\xs.length<=sizeLine:=by
 rcases h with h | ⟨o,its,n,hk,hc,hd,hs,hz,r⟩
 ·obtain⟨z,its,n,r,e⟩:=h.ok I.hok
  exact⟨its,r,⟨_,n,e,rfl,rfl,rfl⟩,z⟩
 ·refine⟨its.toList,r,⟨o,n,I.kIn a o hk,hc,hd,by simpa using hs⟩,?_⟩
  have e:=r.length
  simp only[Array.length_toList] at e
  omega
theorem Inv.tuple (I:Inv X pins σ H s) (h:SqT X.K H a xs):∃its:List Value,Vals xs its/\IsTup s.heap a its.toArray/\xs.length<=sizeLine:=by
 rcases h with h | ⟨o,its,n,hk,hc,hs,hz,r⟩
 ·obtain⟨z,its,r,p⟩:=h.ok I.hok
  exact⟨its,r,p,z⟩
 ·refine⟨its.toList,r,⟨o,I.kIn a o hk,hc,n,by simpa using hs⟩,?_⟩
  have e:=r.length
  simp only[Array.length_toList] at e
  omega
theorem Inv.list_inj (I:Inv X pins σ H s) (h:SqL X.K H a xs) (h':SqL X.K H a ys):xs=ys:=by
 obtain⟨its,r,⟨o,n,e,_,_,d⟩,_⟩:=I.list h
 obtain⟨its',r',⟨o',n',e',_,_,d'⟩,_⟩:=I.list h'
 rw[e] at e';cases e'
 rw[d] at d'
 injection d' with d1 _
 have:its=its':=by simpa using congrArg Array.toList d1
 subst this
 exact r.inj r'
theorem Inv.tuple_inj (I:Inv X pins σ H s) (h:SqT X.K H a xs) (h':SqT X.K H a ys):xs=ys:=by
 obtain⟨its,r,⟨o,e,_,n,d⟩,_⟩:=I.tuple h
 obtain⟨its',r',⟨o',e',_,n',d'⟩,_⟩:=I.tuple h'
 rw[e] at e';cases e'
 rw[d] at d'
 injection d' with d1 _
 have:its=its':=by simpa using congrArg Array.toList d1
 subst this
 exact r.inj r'
end
noncomputable abbrev Cx.wish (X:Cx) (E:Value->Shared->Prop):Cx:={ X with xe:=E }
noncomputable abbrev Cx.nox (X:Cx):Cx:=X.wish λ_ _=>False
theorem Cx.Ok.wish {X:Cx} (ok:X.Ok) (E:Value->Shared->Prop):(X.wish E).Ok :=
 ⟨ok.mod,ok.kind,ok.glob,ok.blt,ok.above,ok.inj,ok.has,ok.cab,ok.hd,ok.frames,ok.stk,ok.exf,ok.bs,ok.bsz,ok.noex,ok.exfs,ok.funs,ok.frf⟩
theorem Cx.Ok.unwish {X:Cx} {E:Value->Shared->Prop} (ok:(X.wish E).Ok):X.Ok :=
 ⟨ok.mod,ok.kind,ok.glob,ok.blt,ok.above,ok.inj,ok.has,ok.cab,ok.hd,ok.frames,ok.stk,ok.exf,ok.bs,ok.bsz,ok.noex,ok.exfs,ok.funs,ok.frf⟩
section
variable {X:Cx} {pins:List (Addr × Obj)} {σ:St} {H:Hp} {s:Shared} {E:Value->Shared->Prop}
theorem Inv.wish (I:Inv X pins σ H s) (E:Value->Shared->Prop):Inv (X.wish E) pins σ H s:=⟨I.ok.wish E,I.os,I.bare,I.base,I.loc,I.cell,I.free,I.freeC,I.pin,I.hok,I.len⟩
theorem Inv.unwish (I:Inv (X.wish E) pins σ H s):Inv X pins σ H s:=⟨I.ok.unwish,I.os,I.bare,I.base,I.loc,I.cell,I.free,I.freeC,I.pin,I.hok,I.len⟩
theorem SP.unwish {D:Ends} {f:Flow} {s':Shared} (h:SP (X.wish E) pins D f s'):SP X pins D f s':=by
 cases f with
 | next=>obtain⟨σ',H',I,q⟩:=h;exact⟨σ',H',I.unwish,q⟩
 | brk=>obtain⟨σ',H',I,q⟩:=h;exact⟨σ',H',I.unwish,q⟩
 | cont=>obtain⟨σ',H',I,q⟩:=h;exact⟨σ',H',I.unwish,q⟩
 | ret u=>obtain⟨v,σ',H',I,r,q⟩:=h;exact⟨v,σ',H',I.unwish,r,q⟩
theorem PE.nox {e:Expr} {t:TE} (h:PE X.nox e t):PE X e t:=λpins s σ H Q I hw =>
 wpAny_mono (h pins s σ H Q (I.wish _) hw) (λ_ _ ⟨v,H',I',r,q⟩=>⟨v,H',I'.unwish,r,q⟩) λ_ _ z=>False.elim z
theorem PT.nox {e:Expr} {t:TT} (h:PT X.nox e t):PT X e t:=λpins s σ H Q I hw =>
 wpAny_mono (h pins s σ H Q (I.wish _) hw) (λ_ _ ⟨H',I',q⟩=>⟨H',I'.unwish,q⟩) λ_ _ z=>False.elim z
theorem PSs.nox {st:List Stmt} {t:TS} (h:PSs X.nox st t):PSs X st t:=λpins s σ H D I hw =>
 wpAny_mono (h pins s σ H D (I.wish _) hw) (λ_ _ q=>q.unwish) λ_ _ z=>False.elim z
end
section
variable {X:Cx} {st:Stmt} {rest:List Stmt} {t u:TS} {e:Expr} {te:TE} {pos:Pos}
noncomputable def WO:TS:=λD σ H=>D.nx σ H
noncomputable def XV (t u:TS):TS:=λD σ H=>t { D with nx:=u D } σ H
theorem PF:PSs X [] WO:=λ_ _ σ H _ I h=>wpAny_execs_nil ⟨σ,H,I,h⟩
theorem LT (h1:PS X st t) (h2:PSs X rest u):PSs X (st::rest) (XV t u):=by
 intro pins s σ H D I h
 refine wpAny_execs_cons (thn (h1 pins s σ H { D with nx:=u D } I h) λf s1 q=>?_)
 cases f with
 | next =>
  obtain⟨σ',H',I',q⟩:=q
  exact h2 pins s1 σ' H' D I' q
 | ret v=>exact q
 | brk=>exact q
 | cont=>exact q
theorem PH (h1:PS X st t):PSs X [st] t:=by
 intro pins s σ H D I h
 refine wpAny_execs_cons (thn (h1 pins s σ H D I h) λf s1 q=>?_)
 cases f with
 | next=>exact wpAny_execs_nil q
 | ret v=>exact q
 | brk=>exact q
 | cont=>exact q
theorem Inv.quiet {pins:List (Addr × Obj)} {σ:St} {H:Hp} {s:Shared} (I:Inv X pins σ H s):interactive X.env=false:=by simp[interactive,I.ok.kind]
noncomputable def WN (te:TE):TS:=λD σ H=>te σ H λ_ H1=>D.nx σ H1
theorem sK (he:PE X e te) (hs:swapsWith e none pos.line X.env=pure false:=by rfl):PS X (.Expr e pos) (WN te):=by
 intro pins s σ H D I h
 exact wpAny_Expr_any (thn (he pins s σ H _ I h) λv s1 ⟨x,H1,I1,r1,q1⟩=>⟨σ,H1,I1,q1⟩) I.quiet hs
noncomputable def XU (te:TE):TS:=λD σ H=>te σ H D.rt
theorem TN (he:PE X e te):PS X (.Return (some e) pos) (XU te):=by
 intro pins s σ H D I h
 exact wpAny_Return_some (thn (he pins s σ H _ I h) λv s1 ⟨x,H1,I1,r1,q1⟩=>⟨x,σ,H1,I1,r1,q1⟩)
noncomputable def XQ (c:TT) (t u:TS):TS:=λD σ H=>c σ H λb H1=>if b=true then t D σ H1 else u D σ H1
theorem VZ {c:Expr} {a b:List Stmt} {tc:TT} (hc:PT X c tc) (ha:PSs X a t) (hb:PSs X b u):PS X (.If c a b pos) (XQ tc t u):=by
 intro pins s σ H D I h
 refine wpAny_If (thn (hc pins s σ H _ I h) λd s1 ⟨H1,I1,q1⟩=>?_)
 cases d with
 | true=>exact ha pins s1 σ H1 D I1 q1
 | false=>exact hb pins s1 σ H1 D I1 q1
noncomputable def UI:TS:=λ_ _ _=>False
theorem LR:PS X st UI:=λ_ _ _ _ _ _ h=>h.elim
end
noncomputable abbrev TG:=V->St->Hp->(St->Hp->Prop)->Prop
noncomputable abbrev TGs:=List V->St->Hp->(St->Hp->Prop)->Prop
noncomputable def PG (X:Cx) (target:Expr) (t:TG):Prop :=
 ∀(pins:List (Addr × Obj)) (s:Shared) (σ:St) (H:Hp) (v:V) (u:Value) (Q:St->Hp->Prop),Inv X pins σ H s->RelV v u->t v σ H Q ->
  wpAny (model X.prog X.w) X.A (assign target X.env u) (λ_ s'=>∃σ' H',Inv X pins σ' H' s'/\Q σ' H') X.xe s
noncomputable def PGs (X:Cx) (ts:List Expr) (t:TGs):Prop :=
 ∀(pins:List (Addr × Obj)) (s:Shared) (σ:St) (H:Hp) (vs:List V) (us:List Value) (Q:St->Hp->Prop),Inv X pins σ H s->Vals vs us->t vs σ H Q ->
  wpAny (model X.prog X.w) X.A (assignInOrder ((assignEach ts X.env).map (·.2)) us) (λ_ s'=>∃σ' H',Inv X pins σ' H' s'/\Q σ' H') X.xe s
section
variable {X:Cx} {pos:Pos}
noncomputable def QK (i:Nat):TG:=λv σ H Q=>Q (σ.set i (some v)) H
theorem OX {i:Nat} {x:Str} (hN:X.N.Nodup) (hi:X.N[i]? = some x) (hx:Loc X.env.scope x) (hf:X.fn x=true\/X.env.scope.names.lookup x=some .local:=by walk_at "loc"):PG X (.Name x pos) (QK i):=by
 intro pins s σ H v u Q I r h
 exact wpAny_assign_Name (pD I hN hi hx r (λs' I'=>⟨_,H,I',h⟩) hf)
noncomputable def XA:TGs:=λvs σ H Q=>vs=[]/\Q σ H
noncomputable def VA (t:TG) (u:TGs):TGs:=λvs σ H Q=>∃v r,vs=v::r/\t v σ H λσ' H'=>u r σ' H' Q
theorem OY:PGs X [] XA:=by
 intro pins s σ H vs us Q I r h
 obtain⟨e,h⟩:=h
 subst e
 cases r
 exact assignInOrder_nil ⟨σ,H,I,h⟩
theorem LO {e:Expr} {es:List Expr} {t:TG} {u:TGs} (h1:PG X e t) (h2:PGs X es u)
  (hs:(assignEach (e::es) X.env).map (·.2)=assign e X.env::(assignEach es X.env).map (·.2):=by rfl):PGs X (e::es) (VA t u):=by
 intro pins s σ H vs us Q I r h
 obtain⟨v,vr,e1,h⟩:=h
 subst e1
 cases r with
 | cons r rr =>
  rw[hs]
  refine assignInOrder_cons (thn (h1 pins s σ H _ _ _ I r h) λ_ s1 ⟨σ1,H1,I1,q1⟩=>?_)
  exact h2 pins s1 σ1 H1 _ _ Q I1 rr q1
noncomputable def XB (K:PySem.W.Frag) (n:Nat) (t:TGs):TG:=λv σ H Q=>∃a xs,v = .ref a/\SqT K H a xs/\xs.length=n/\t xs σ H Q
theorem TH {es:List Expr} {k:Nat} {t:TGs} {n:Nat} (hc:X.calm=true) (h:PGs X es t)
  (hn:(assignEach es X.env).length=n:=by rfl) (hst:(assignEach es X.env).findIdx? (·.1)=none:=by rfl):PG X (.Tuple es k pos) (XB X.K n t):=by
 intro pins s σ H v u Q I r hw
 obtain⟨a,xs,e1,hq,hl,hw⟩:=hw
 subst e1
 cases r
 obtain⟨its,rv,ht,hz⟩:=I.tuple hq
 refine assign_Tuple_tuple (I.ok.hd hc) ht (by simp[hn,<-hl,rv.length]) hst λh' hx=>?_
 have I1:Inv X pins σ H { s with heap:=h' }:=I.kept (t':=s.toks) λb o e=>hx b o (Nat.ne_of_lt (Heap.lt_size e)) e
 exact h pins _ σ H xs _ Q I1 (by simpa using rv) hw
noncomputable def WJ (te:TE) (g:TG):TS:=λD σ H=>te σ H λx H1=>g x σ H1 D.nx
theorem TK {tg e:Expr} {te:TE} {g:TG} (he:PE X e te) (hg:PG X tg g) (hs:swapsWithSole [tg] e pos.line X.env=pure false:=by rfl) (hw:swappedStores [tg] e X.env=pure none:=by rfl)
  (h1:(assignEach [tg] X.env).map (·.2)=[assign tg X.env]:=by rfl):PS X (.Assign [tg] e pos) (WJ te g):=by
 intro pins s σ H D I h
 refine wpAny_Assign_stores (thn (he pins s σ H _ I h) λv s1 ⟨x,H1,I1,r1,q1⟩=>?_) hs hw
 rw[h1]
 exact thn (hg pins s1 σ H1 x v _ I1 r1 q1) λ_ s2 q=>q
theorem yM {i:Nat} {x:Str} {e:Expr} {te:TE} {pos':Pos} (hN:X.N.Nodup) (hi:X.N[i]? = some x) (hx:Loc X.env.scope x) (he:PE X e te) (hs:swapsWith e (some (.Name x pos')) pos.line X.env=pure false:=by rfl) (hf:X.fn x=true\/X.env.scope.names.lookup x=some .local:=by walk_at "loc") :
  PS X (.Assign [.Name x pos'] e pos) (WJ te (QK i)):=by
 intro pins s σ H D I h
 refine wpAny_Assign_Name (thn (he pins s σ H _ I h) λv s1 ⟨y,H1,I1,r1,q1⟩=>?_) hs
 exact pD I1 hN hi hx r1 (λs2 I2=>⟨_,H1,I2,q1⟩) hf
noncomputable def XT (i j:Nat) (ta:TA):TS:=λD σ H=>ta σ H λvs H1=>∃v w,vs=[v,w]/\D.nx ((σ.set i (some v)).set j (some w)) H1
theorem TM {i j:Nat} {x y:Str} {a b:Expr} {ta:TA} {px py pt:Pos} {kt k2 pt2} (hc:X.calm=true) (hN:X.N.Nodup) (hi:X.N[i]? = some x) (hj:X.N[j]? = some y) (hij:i≠j)
  (hx:X.env.scope.names.lookup x=some .local) (hy:X.env.scope.names.lookup y=some .local) (ha:PA X [a,b] ta)
  (hw:swappedStores [.Tuple [.Name x px,.Name y py] kt pt] (.Tuple [a,b] k2 pt2) X.env=pure (some [x,y]))
  (hs:swapsWithSole [.Tuple [.Name x px,.Name y py] kt pt] (.Tuple [a,b] k2 pt2) pos.line X.env=pure false:=by rfl) :
  PS X (.Assign [.Tuple [.Name x px,.Name y py] kt pt] (.Tuple [a,b] k2 pt2) pos) (XT i j ta):=by
 intro pins s σ H D I h
 rw[exec_Assign_arm]
 refine wpAny_bind (wpAny_standAt ?_)
 rw[hs]
 refine wpAny_bind (wpAny_pure ?_)
 rw[if_neg (by decide)]
 refine wpAny_bind (Tuple_ (thn (ha _ pins s σ H _ I h) λus s1 ⟨vs,H1,I1,r1,q1⟩=>?_))
 obtain⟨v,w,e1,q1⟩:=q1
 subst e1
 obtain⟨u1,u2,rfl,rv,rw'⟩:∃u1 u2,us=[u1,u2]/\RelV v u1/\RelV w u2:=by
  cases r1 with
  | cons p q =>
   cases q with
   | cons p' q' =>
    cases q'
    exact⟨_,_,rfl,p,p'⟩
 refine wpAny_newObj_type ?_ (by show 2<=sizeLine;decide)
 have I2:Inv X pins σ H1 { s1 with heap:=s1.heap.push { cls:=.type "tuple",data:=.seq [u1,u2].toArray } }:=I1.kept (t':=s1.toks) λb o e=>Heap.get?_push_of_some _ e
 rw[hw]
 refine wpAny_bind (wpAny_pure ?_)
 show wpAny (model X.prog X.w) X.A (do rule "assign.swapped-stores";let items <-unpackItems (.ref s1.heap.objs.size) 2 none;assignInOrder [λv=>bindName X.env y v,λv=>bindName X.env x v] items.reverse;pure Flow.next) _ _ _
 refine wpAny_bind (wpAny_rule (wpAny_bind (unpackItems_tuple (items:=#[u1,u2]) (I.ok.hd hc) (IsTup.new s1.heap _) λh' hx'=>?_)))
 have I3:=I2.kept (h':=h') (t':=s1.toks) λb o e=>hx' b o (Nat.ne_of_lt (Heap.lt_size e)) e
 show wpAny _ _ (assignInOrder [λv=>bindName X.env y v,λv=>bindName X.env x v] [u2,u1] >>= λ_=>pure Flow.next) _ _ _
 refine wpAny_bind (assignInOrder_cons (wpAny_bindName (pD I3 hN hj (.inl hy) rw' (λs2 I4=>?_) (.inr hy))))
 refine assignInOrder_cons (wpAny_bindName (pD I4 hN hi (.inl hx) rv (λs3 I5=>assignInOrder_nil (wpAny_pure ?_)) (.inr hx)))
 rw[List.set_comm _ _ (Ne.symm hij)] at I5
 exact⟨_,H1,I5,q1⟩
end
section
variable {X:Cx} {pos:Pos}
noncomputable def UJ (c:TT) (tb:TS):TS:=λD σ H=>∃W:Nat->St->Hp->Prop,(∃m,W m σ H)/\∀m σ H,W m σ H ->
 c σ H λb H1=>if b=true then ∃N:St->Hp->Prop,(∀σ' H',N σ' H'->∃m',m'<m/\W m' σ' H')/\tb { D with nx:=N,ct:=N,bk:=D.nx } σ H1 else D.nx σ H1
theorem LS {c:Expr} {body:List Stmt} {tc:TT} {tb:TS} (hp:PassesOwn (model X.prog X.w) X.A X.env X.xe) (hc:PT X c tc) (hb:PSs X body tb):PS X (.While c body [] pos) (UJ tc tb):=by
 intro pins s σ H D I h
 obtain⟨W,⟨m0,w0⟩,turn⟩:=h
 refine wpAny_While (codeAny_whileLoop (λn s'=>∃σ' H',Inv X pins σ' H' s'/\W n σ' H') ?_ m0 ⟨σ,H,I,w0⟩)
 rintro n s1 ⟨σ1,H1,I1,w1⟩
 refine wpAny_passesOwn hp (thn (hc pins s1 σ1 H1 _ I1 (turn n σ1 H1 w1)) λb s2 ⟨H2,I2,q2⟩=>?_)
 cases b with
 | true =>
  obtain⟨N,hN,q2⟩:=q2
  rw[if_pos rfl]
  refine wpAny_passesOwn hp (thn (hb pins s2 σ1 H2 _ I2 q2) λf s3 q3=>?_)
  cases f with
  | next =>
   obtain⟨σ3,H3,I3,n3⟩:=q3
   obtain⟨m',hm,w3⟩:=hN σ3 H3 n3
   exact⟨m',hm,σ3,H3,I3,w3⟩
  | cont =>
   obtain⟨σ3,H3,I3,n3⟩:=q3
   obtain⟨m',hm,w3⟩:=hN σ3 H3 n3
   exact⟨m',hm,σ3,H3,I3,w3⟩
  | brk=>exact q3
  | ret v=>exact q3
 | false =>
  rw[if_neg Bool.false_ne_true]
  exact wpAny_execs_nil ⟨σ1,H2,I2,q2⟩
end
structure It where
 go:Nat->Hp->Prop
 yld:Nat->Hp->V->Hp->Prop
 stop:Nat->Hp->Prop
noncomputable def nV (X:Cx) (pins:List (Addr × Obj)) (H:Hp) (b:Addr):Prop :=
 H b=none/\b≠X.env.locals/\b ∉ X.fs/\(b∈X.ex\/X.s₀.heap.objs.size<=b)/\(∀x c,X.env.cells.lookup x=some c->c≠b)/\∀p∈X.pn++pins,p.1≠b
theorem Inv.fpOk {X:Cx} {pins:List (Addr × Obj)} {σ:St} {H H':Hp} {s:Shared} {b:Addr} (I:Inv X pins σ H s) (hb:s.heap.objs.size<=b) (hn:H' b=none):nV X pins H' b:=by
 refine⟨hn,Nat.ne_of_gt (Nat.lt_of_lt_of_le I.lt hb),I.nofs hb,.inr (Nat.le_trans I.sz hb),λx c e z=>?_,λp hp z=>?_⟩
 ·obtain⟨v,q⟩:=I.cell x c e
  exact absurd (Nat.lt_of_lt_of_le q.lt (by rw[z];exact hb)) (Nat.lt_irrefl _)
 ·exact absurd (Nat.lt_of_lt_of_le (Heap.lt_size (I.pin p hp).1) (by rw[z];exact hb)) (Nat.lt_irrefl _)
structure Turn (P:Program) (w:World) (K:PySem.W.Frag) (tg:Expr) (J:It) (fp:List Addr) (it:Addr) (tn:Nat->Heap->Prop):Prop where
 mem:it∈fp
 obj:∀i h,tn i h->∀b∈fp,∃o,h.get? b=some o/\∀v,o.data≠.cell v
 keep:∀i h h',tn i h->(∀b∈fp,∀o,h.get? b=some o->h'.get? b=some o)->tn i h'
 item:∀(X:Cx),X.prog=P->X.w=w->X.K=K->X.calm=true->∀(i:Nat) (pins:List (Addr × Obj)) (s:Shared) (σ:St) (H:Hp) (E:Value->Shared->Prop),Inv X pins σ H s->(∀b∈fp,nV X pins H b)->tn i s.heap->J.go i H ->
  wpAny (model P w) X.A (pyNext (.ref it)) (λr s1=>∃u,r=some u /\
   wpAny (model P w) X.A (letOwnedTupleGo tg (.ref it) u) (λ_ s2=>∃x H',Inv X pins σ H' s2/\RelV x u/\J.yld i H x H'/\tn (i+1) s2.heap/\∀b∈fp,H' b=none) E s1) E s
 done:∀(X:Cx),X.prog=P->X.w=w->X.K=K->X.calm=true->∀(i:Nat) (pins:List (Addr × Obj)) (s:Shared) (σ:St) (H:Hp) (E:Value->Shared->Prop),Inv X pins σ H s->(∀b∈fp,nV X pins H b)->tn i s.heap->J.stop i H ->
  wpAny (model P w) X.A (pyNext (.ref it)) (λr s1=>r=none/\Inv X pins σ H s1) E s
 self:∀(A:Around) (i:Nat) (s:Shared) (Q:Value->Shared->Prop) (E:Value->Shared->Prop),tn i s.heap->Q (.ref it) s->wpAny (model P w) A (pyIter (.ref it)) Q E s
noncomputable abbrev TI:=St->Hp->(It->Hp->Prop)->Prop
noncomputable def PIE (X:Cx) (pins:List (Addr × Obj)) (σ:St) (tg:Expr) (R:It->Hp->Prop) (itv:Value) (s2:Shared):Prop :=
 ∃(it:Addr) (fp:List Addr) (tn:Nat->Heap->Prop) (J:It) (H':Hp),itv = .ref it/\Inv X pins σ H' s2/\Turn X.prog X.w X.K tg J fp it tn/\tn 0 s2.heap/\(∀b∈fp,nV X pins H' b)/\R J H'
noncomputable def PI (X:Cx) (tg iter:Expr) (wi:TI):Prop :=
 ∀(pins:List (Addr × Obj)) (s:Shared) (σ:St) (H:Hp) (R:It->Hp->Prop),Inv X pins σ H s->wi σ H R ->
  wpAny (model X.prog X.w) X.A (eval iter X.env) (λv s1=>wpAny (model X.prog X.w) X.A (pyIter v) (PIE X pins σ tg R) X.xe s1) X.xe s
theorem wB {M:Model} {A:Around} {E:Value->Shared->Prop} {s:Shared} {tg:Expr} {it:Addr} {u:Value} {o:Obj} {n:String} {vs:Array Value} {Q:Unit->Shared->Prop} (ho:s.heap.get? it=some o) (hc:o.cls = .type n) (hd:o.data = .fields vs)
  (hn:["enumerate","zip","dict_itemiterator","dict_reverseitemiterator","odict_iterator","itertools.zip_longest","itertools.pairwise"].contains n=false) (hQ:Q () s):wpAny M A (letOwnedTupleGo tg (.ref it) u) Q E s:=by
 unfold letOwnedTupleGo
 cases tg <;> first
  | exact wpAny_pure hQ
  | (cases u <;> first
    | exact wpAny_pure hQ
    | (refine wpAny_bind (wpAny_load ho ?_);rw[hc,hd];show wpAny M A (if (["enumerate","zip","dict_itemiterator","dict_reverseitemiterator","odict_iterator","itertools.zip_longest","itertools.pairwise"].contains n && vs[0]? == some (rawInt _))=true then _ else _) Q E s;rw[if_neg (by intro h;rw[hn,Bool.false_and] at h;cases h)];exact wpAny_pure hQ))
noncomputable def Itl (K:PySem.W.Frag) (a:Addr):It :=
 ⟨λi H=>∃xs x,SqL K H a xs/\xs[i]? = some x,λi H x H'=>H'=H/\∀xs,SqL K H a xs->xs[i]? = some x,λi H=>∃xs,SqL K H a xs/\xs.length<=i⟩
noncomputable def Itt (K:PySem.W.Frag) (a:Addr):It :=
 ⟨λi H=>∃xs x,SqT K H a xs/\xs[i]? = some x,λi H x H'=>H'=H/\∀xs,SqT K H a xs->xs[i]? = some x,λi H=>∃xs,SqT K H a xs/\xs.length<=i⟩
noncomputable def Itr (lo:Int) (n:Nat):It:=⟨λi _=>i<n,λi H x H'=>H'=H/\x = .int (lo+i),λi _=>n<=i⟩
theorem IE {P:Program} {w:World} {K:PySem.W.Frag} {tg:Expr} (a it:Addr):Turn P w K tg (Itl K a) [it] it (λi h=>h.IsListIter it a i) where
 mem:=by simp
 obj:=λi h st b hb=>by
  have e:b=it:=by simpa using hb
  subst e
  obtain⟨o,e,c,d⟩:=st
  exact⟨o,e,λv z=>by rw[d] at z;cases z⟩
 keep:=λi h h' st k=>st.at λo e=>k it (by simp) o e
 item:=by
  intro X hP hw hK hc i pins s σ H E I hf st hg
  subst hP hw hK
  obtain⟨xs,x,hq,hx⟩:=hg
  obtain⟨its,rv,p,hz⟩:=I.list hq
  obtain⟨u,hu,ru⟩:=rv.get hx
  obtain⟨f0,f1,f2,f3,f4,f5⟩:=hf it (by simp)
  refine wpAny_pyNext_list_item st p.isList (x:=u) (by simpa using hu) λh' st' sb=>?_
  have I1:Inv X pins σ H { s with heap:=h' }:=I.turned (t':=s.toks) (λb o hb e=>(sb.2 b hb).trans e) f0 f1 f3 f4 f5
  obtain⟨o,e,c,d⟩:=id st'
  exact⟨u,rfl,wB (s:={ s with heap:=h' }) e c d (by decide) ⟨x,H,I1,ru,⟨rfl,λys hy=>by rw[I.list_inj hy hq];exact hx⟩,st',λb hb=>(hf b hb).1⟩⟩
 done:=by
  intro X hP hw hK hc i pins s σ H E I hf st hg
  subst hP hw hK
  obtain⟨xs,hq,hx⟩:=hg
  obtain⟨its,rv,p,hz⟩:=I.list hq
  obtain⟨f0,f1,f2,f3,f4,f5⟩:=hf it (by simp)
  have hl:=rv.length
  exact wpAny_pyNext_list_end (I.ok.hd hc) st p.isList (by simp;omega) λh' eb=>⟨rfl,I.turned (t':=s.toks) (λb o hb e=>eb b o hb e) f0 f1 f3 f4 f5⟩
 self:=λ_ _ _ _ _ st h=>wpAny_pyIter_listiter st h
theorem EL {P:Program} {w:World} {K:PySem.W.Frag} {tg:Expr} (a it:Addr):Turn P w K tg (Itt K a) [it] it (λi h=>h.IsTupleIter it a i) where
 mem:=by simp
 obj:=λi h st b hb=>by
  have e:b=it:=by simpa using hb
  subst e
  obtain⟨o,e,c,d⟩:=st
  exact⟨o,e,λv z=>by rw[d] at z;cases z⟩
 keep:=λi h h' st k=>st.at λo e=>k it (by simp) o e
 item:=by
  intro X hP hw hK hc i pins s σ H E I hf st hg
  subst hP hw hK
  obtain⟨xs,x,hq,hx⟩:=hg
  obtain⟨its,rv,p,hz⟩:=I.tuple hq
  obtain⟨u,hu,ru⟩:=rv.get hx
  obtain⟨f0,f1,f2,f3,f4,f5⟩:=hf it (by simp)
  refine wpAny_pyNext_tuple_item st (show s.heap.IsTuple a its.toArray from p) (x:=u) (by simpa using hu) λh' st' sb=>?_
  have I1:Inv X pins σ H { s with heap:=h' }:=I.turned (t':=s.toks) (λb o hb e=>(sb.2 b hb).trans e) f0 f1 f3 f4 f5
  obtain⟨o,e,c,d⟩:=id st'
  exact⟨u,rfl,wB (s:={ s with heap:=h' }) e c d (by decide) ⟨x,H,I1,ru,⟨rfl,λys hy=>by rw[I.tuple_inj hy hq];exact hx⟩,st',λb hb=>(hf b hb).1⟩⟩
 done:=by
  intro X hP hw hK hc i pins s σ H E I hf st hg
  subst hP hw hK
  obtain⟨xs,hq,hx⟩:=hg
  obtain⟨its,rv,p,hz⟩:=I.tuple hq
  obtain⟨f0,f1,f2,f3,f4,f5⟩:=hf it (by simp)
  have hl:=rv.length
  exact wpAny_pyNext_tuple_end (I.ok.hd hc) st (show s.heap.IsTuple a its.toArray from p) (by simp;omega) λh' eb=>⟨rfl,I.turned (t':=s.toks) (λb o hb e=>eb b o hb e) f0 f1 f3 f4 f5⟩
 self:=λ_ _ _ _ _ st h=>wpAny_pyIter_tupleiter st h
theorem uP {P:Program} {w:World} {K:PySem.W.Frag} {tg:Expr} (it:Addr) (lo:Int) (n:Nat):Turn P w K tg (Itr lo n) [it] it (λi h=>IsRangeIter h it (lo+(i:Nat)*1) ((n:Int)-(i:Nat)) 1) where
 mem:=by simp
 obj:=λi h st b hb=>by
  have e:b=it:=by simpa using hb
  subst e
  exact⟨_,st,λv z=>by
   have z':Data.fields _=Data.cell v:=z
   cases z'⟩
 keep:=λi h h' st k=>k it (by simp) _ st
 item:=by
  intro X hP hw hK hc i pins s σ H E I hf st hg
  subst hP hw hK
  obtain⟨f0,f1,f2,f3,f4,f5⟩:=hf it (by simp)
  have W:=Walks.range (prog:=X.prog) (w:=X.w) (I.ok.hd hc) it lo 1 n
  refine W.item i s _ _ hg st λv h' tk hv st' kk=>?_
  obtain⟨t,rfl⟩:=hv
  have I1:Inv X pins σ H { s with heap:=h',toks:=tk }:=I.turned (λb o hb e=>kk b o (by simpa using hb) e) f0 f1 f3 f4 f5
  refine⟨_,rfl,wB (s:={ s with heap:=h',toks:=tk }) (n:="range_iterator") st' rfl rfl (by decide) ⟨.int (lo+i),H,I1,⟨t,?_⟩,⟨rfl,rfl⟩,st',λb hb=>(hf b hb).1⟩⟩
  rw[Int.mul_one]
 done:=by
  intro X hP hw hK hc i pins s σ H E I hf st hg
  subst hP hw hK
  obtain⟨f0,f1,f2,f3,f4,f5⟩:=hf it (by simp)
  exact wpAny_pyNext_range_end (I.ok.hd hc) st (by have:n<=i:=hg;omega) λh' eb=>⟨rfl,I.turned (t':=s.toks) (λb o hb e=>eb b o hb e) f0 f1 f3 f4 f5⟩
 self:=λ_ _ _ _ _ st h=>wpAny_pyIter_rangeiter st h
end L2
namespace L2
open PySem PySem.Spec PyProof.Rows
section
variable {X:Cx} {tg:Expr}
noncomputable def VB (K:PySem.W.Frag) (tl:TE):TI:=λσ H R=>tl σ H λx H1=>∃a,x = .ref a/\(∃xs,SqL K H1 a xs)/\R (Itl K a) H1
noncomputable def XC (K:PySem.W.Frag) (tl:TE):TI:=λσ H R=>tl σ H λx H1=>∃a,x = .ref a/\(∃xs,SqT K H1 a xs)/\R (Itt K a) H1
theorem OZ {l:Expr} {tl:TE} (hl:PE X l tl):PI X tg l (VB X.K tl):=by
 intro pins s σ H R I h
 refine thn (hl pins s σ H _ I h) λv s1 ⟨x,H1,I1,r1,q1⟩=>?_
 obtain⟨a,e,⟨xs,hq⟩,q⟩:=q1
 subst e
 cases r1
 obtain⟨its,rv,p,hz⟩:=I1.list hq
 refine wpAny_pyIter_list p.isList ?_
 refine⟨s1.heap.objs.size,[s1.heap.objs.size],_,_,H1,rfl,I1.kept (t':=s1.toks) λb o e=>Heap.get?_push_of_some _ e,IE a _,⟨_,Heap.get?_push_size _ rfl,rfl,rfl⟩,λb hb=>?_,q⟩
 have e:b=s1.heap.objs.size:=by simpa using hb
 subst e
 exact I1.fpOk (Nat.le_refl _) (I1.hok.fresh (Nat.le_refl _))
theorem TJ {l:Expr} {tl:TE} (hl:PE X l tl):PI X tg l (XC X.K tl):=by
 intro pins s σ H R I h
 refine thn (hl pins s σ H _ I h) λv s1 ⟨x,H1,I1,r1,q1⟩=>?_
 obtain⟨a,e,⟨xs,hq⟩,q⟩:=q1
 subst e
 cases r1
 obtain⟨its,rv,p,hz⟩:=I1.tuple hq
 refine wpAny_pyIter_tuple (show s1.heap.IsTuple a its.toArray from p) ?_
 refine⟨s1.heap.objs.size,[s1.heap.objs.size],_,_,H1,rfl,I1.kept (t':=s1.toks) λb o e=>Heap.get?_push_of_some _ e,EL a _,⟨_,Heap.get?_push_size _ rfl,rfl,rfl⟩,λb hb=>?_,q⟩
 have e:b=s1.heap.objs.size:=by simpa using hb
 subst e
 exact I1.fpOk (Nat.le_refl _) (I1.hok.fresh (Nat.le_refl _))
theorem BE {pins:List (Addr × Obj)} {σ:St} {H:Hp} {s:Shared} {R:It->Hp->Prop} {E:Value->Shared->Prop} {lo hi:Int} {t u v:Tok} {tk:Nat} (I:Inv X pins σ H s) (h1:-(2 ^ 62)<=lo) (h2:lo<2 ^ 62) (h3:-(2 ^ 62)<=hi) (h4:hi<2 ^ 62)
  (q:R (Itr lo (hi-lo).toNat) H):wpAny (model X.prog X.w) X.A (pyIter (.ref s.heap.objs.size)) (PIE X pins σ tg R) E { s with heap:=s.heap.push { cls:=.type "range",data:=.fields #[.int lo t,.int hi u,.int 1 v] },toks:=tk }:=by
 refine wpAny_pyIter_range (IsRange.new ..) (small_one h1 h2 h3 h4) ?_
 have I1:Inv X pins σ H { s with heap:=s.heap.push { cls:=.type "range",data:=.fields #[.int lo t,.int hi u,.int 1 v] },toks:=tk }:=I.kept λb o e=>Heap.get?_push_of_some _ e
 refine⟨(s.heap.push { cls:=.type "range",data:=.fields #[.int lo t,.int hi u,.int 1 v] }).objs.size,[(s.heap.push { cls:=.type "range",data:=.fields #[.int lo t,.int hi u,.int 1 v] }).objs.size],_,_,H,rfl,
  I1.kept (t':=tk) λb o e=>Heap.get?_push_of_some _ e,uP _ lo (hi-lo).toNat,?_,λb hb=>?_,q⟩
 ·have e1:lo+((0:Nat):Int)*1=lo:=by simp
  have e2:(((hi-lo).toNat:Nat):Int)-((0:Nat):Int)=Builtin.Range.rangeSize lo hi 1:=by rw[rangeSize_one];split <;> omega
  show IsRangeIter _ _ (lo+((0:Nat):Int)*1) ((((hi-lo).toNat:Nat):Int)-((0:Nat):Int)) 1
  rw[e1,e2]
  exact Heap.get?_push_size _ rfl
 ·have e:b=(s.heap.push { cls:=.type "range",data:=.fields #[.int lo t,.int hi u,.int 1 v] }).objs.size:=by simpa using hb
  subst e
  exact I1.fpOk (Nat.le_refl _) (I1.hok.fresh (Nat.le_refl _))
noncomputable def VC (ta:TA):TI:=λσ H R=>ta σ H λvs H1=>∃j:Int,vs=[.int j]/\-(2 ^ 62)<=j/\j<2 ^ 62/\R (Itr 0 j.toNat) H1
noncomputable def VD (ta:TA):TI:=λσ H R=>ta σ H λvs H1=>∃i j:Int,vs=[.int i,.int j]/\(-(2 ^ 62)<=i/\i<2 ^ 62/\-(2 ^ 62)<=j/\j<2 ^ 62)/\R (Itr i (j-i).toNat) H1
theorem HJ {a:Expr} {ta:TA} {p pos:Pos} (hg:Gl X "range") (hm:X.mg "range" = none) (ha:PA X [a] ta) (hs:starEach [a] X.env=[(false,eval a X.env)]:=by rfl):PI X tg (.Call (.Name "range" p) [a] [] pos) (VC ta):=by
 intro pins s σ H R I h
 refine Call_ (eJ I hg hm boot_range (PyProof.Rows.callWith_type1 (thn (ha pos pins s σ H _ I h) λus s1 ⟨vs,H1,I1,r1,q1⟩=>?_) hs rfl))
 obtain⟨j,e,q1,q2,q⟩:=q1
 subst e
 cases r1 with
 | cons r rr =>
  cases rr
  obtain⟨t,rfl⟩:=r
  exact call_range_1 (BE I1 (by omega) (by omega) q1 q2 (by simpa using q))
theorem HK {a b:Expr} {ta:TA} {p pos:Pos} (hg:Gl X "range") (hm:X.mg "range" = none) (ha:PA X [a,b] ta) (hs:starEach [a,b] X.env=[(false,eval a X.env),(false,eval b X.env)]:=by rfl) (hs2:starEach [b] X.env=[(false,eval b X.env)]:=by rfl) :
  PI X tg (.Call (.Name "range" p) [a,b] [] pos) (VD ta):=by
 intro pins s σ H R I h
 refine Call_ (eJ I hg hm boot_range (PyProof.Rows.callWith_type1 (thn (ha pos pins s σ H _ I h) λus s1 ⟨vs,H1,I1,r1,q1⟩=>?_) (by rw[hs,hs2]) (by rw[hs2];rfl)))
 obtain⟨i,j,e,⟨q1,q2,q3,q4⟩,q⟩:=q1
 subst e
 cases r1 with
 | cons r rr =>
  cases rr with
  | cons r' rr =>
   cases rr
   obtain⟨t,rfl⟩:=r
   obtain⟨t',rfl⟩:=r'
   exact call_range_2 (BE I1 q1 q2 q3 q4 q)
noncomputable def XO (wi:TI) (g:TG) (tb:TS):TS:=λD σ H=>wi σ H λJ H1=>∃W:Nat->Nat->St->Hp->Prop,(∃m,W 0 m σ H1)/\∀i m σ H,W i m σ H ->
 (J.stop i H/\D.nx σ H)\/(J.go i H/\∃N:St->Hp->Prop,(∀σ' H',N σ' H'->∃m',m'<m/\W (i+1) m' σ' H')/\∀x H',J.yld i H x H'->g x σ H' λσ2 H2=>tb { D with nx:=N,ct:=N,bk:=D.nx } σ2 H2)
noncomputable def yK (fp:List Addr) (h:Heap):List (Addr × Obj):=fp.filterMap λb=>(h.get? b).map λo=>(b,o)
theorem gA {fp:List Addr} {h:Heap} {b:Addr} {o:Obj} (hb:b∈fp) (e:h.get? b=some o):(b,o)∈yK fp h:=List.mem_filterMap.mpr ⟨b,hb,by rw[e];rfl⟩
theorem HF {fp:List Addr} {h:Heap} {p:Addr × Obj} (hp:p∈yK fp h):p.1∈fp/\h.get? p.1=some p.2:=by
 obtain⟨b,hb,e⟩:=List.mem_filterMap.mp hp
 cases q:h.get? b with
 | none=>rw[q] at e;cases e
 | some o =>
  rw[q] at e
  have e':(b,o)=p:=Option.some.inj e
  subst e'
  exact⟨hb,q⟩
theorem Inv.pinned {pins:List (Addr × Obj)} {σ:St} {H:Hp} {s:Shared} {fp:List Addr} (I:Inv X pins σ H s) (hf:∀b∈fp,nV X pins H b) (ho:∀b∈fp,∃o,s.heap.get? b=some o/\∀v,o.data≠.cell v):Inv X (pins++yK fp s.heap) σ H s :=
 I.pins_of λp hp=>(List.mem_append.mp hp).elim (λz=>I.pin p (List.mem_append_right _ z)) λz=>by
  obtain⟨hb,e⟩:=HF z
  obtain⟨f0,f1,f2,_⟩:=hf p.1 hb
  obtain⟨o,e',d⟩:=ho p.1 hb
  rw[e] at e';cases e'
  exact⟨e,f0,f1,f2,d⟩
theorem Inv.unpinned {pins pl:List (Addr × Obj)} {σ:St} {H:Hp} {s:Shared} (I:Inv X (pins++pl) σ H s):Inv X pins σ H s:=I.pins_of λp hp=>I.pin p (List.mem_append_right _ (List.mem_append_left _ hp))
theorem TL {iter:Expr} {body:List Stmt} {wi:TI} {g:TG} {tb:TS} {pos:Pos} (hp:PassesOwn (model X.prog X.w) X.A X.env X.xe) (hc:X.calm=true) (hi:PI X tg iter wi) (hg:PG X tg g) (hb:PSs X body tb)
  (hs:∀x,foldedSetIterable iter X.env x=pure x:=by intro _;rfl):PS X (.For tg iter body [] pos) (XO wi g tb):=by
 intro pins s σ H D I h
 refine wpAny_For (thn (hi pins s σ H _ I h) λv s1 h1=>thn h1 λitv s2 h2=>?_) hs
 obtain⟨it,fp,tn,J,H2,e,I2,T,st2,f2,W,⟨m0,w0⟩,turn⟩:=h2
 subst e
 have stat:∀{H':Hp},(∀b∈fp,H' b=none)->∀b∈fp,nV X pins H' b:=λhn b hb=>⟨hn b hb,(f2 b hb).2⟩
 refine codeAny_forLoop_any (λn s'=>∃i σ' H',Inv X pins σ' H' s'/\tn i s'.heap/\(∀b∈fp,H' b=none)/\W i n σ' H') ?_ m0 ⟨0,σ,H2,I2,st2,λb hb=>(f2 b hb).1,w0⟩
 rintro n s3 ⟨i,σ3,H3,I3,st3,fr3,w3⟩
 rcases turn i n σ3 H3 w3 with ⟨stop,qn⟩ | ⟨go,N,hN,step⟩
 ·refine wpAny_passesOwn hp (thn (T.done X rfl rfl rfl hc i pins s3 σ3 H3 X.xe I3 (stat fr3) st3 stop) λr s4 ⟨hr,I4⟩=>?_)
  subst hr
  exact wpAny_execs_nil ⟨σ3,H3,I4,qn⟩
 ·refine wpAny_passesOwn hp (thn (T.item X rfl rfl rfl hc i pins s3 σ3 H3 X.xe I3 (stat fr3) st3 go) λr s4 ⟨u,hr,h4⟩=>?_)
  subst hr
  refine wpAny_passesOwn hp (thn h4 λ_ s5 ⟨x,H5,I5,r5,y5,st5,fr5⟩=>?_)
  have I5':=I5.pinned (stat fr5) (T.obj _ _ st5)
  refine wpAny_passesOwn hp (thn (hg _ s5 σ3 H5 x u _ I5' r5 (step x H5 y5)) λ_ s6 ⟨σ6,H6,I6,q6⟩=>?_)
  refine wpAny_passesOwn hp (thn (hb _ s6 σ6 H6 _ I6 q6) λf s7 q7=>?_)
  have again:∀{σ7:St} {H7:Hp},Inv X (pins++yK fp s5.heap) σ7 H7 s7->N σ7 H7->∃m,m<n/\∃i σ' H',Inv X pins σ' H' s7/\tn i s7.heap/\(∀b∈fp,H' b=none)/\W i m σ' H':=λ{σ7 H7} I7 n7=>by
   obtain⟨m',hm,w7⟩:=hN σ7 H7 n7
   refine⟨m',hm,i+1,σ7,H7,I7.unpinned,T.keep _ _ _ st5 λb hb o e=>(I7.pin (b,o) (List.mem_append_right _ (List.mem_append_right _ (gA hb e)))).1,λb hb=>?_,w7⟩
   obtain⟨o,e,d⟩:=T.obj _ _ st5 b hb
   exact (I7.pin (b,o) (List.mem_append_right _ (List.mem_append_right _ (gA hb e)))).2.1
  cases f with
  | next=>obtain⟨σ7,H7,I7,n7⟩:=q7;exact again I7 n7
  | cont=>obtain⟨σ7,H7,I7,n7⟩:=q7;exact again I7 n7
  | brk=>obtain⟨σ7,H7,I7,q7⟩:=q7;exact⟨σ7,H7,I7.unpinned,q7⟩
  | ret v=>obtain⟨x7,σ7,H7,I7,r7,q7⟩:=q7;exact⟨x7,σ7,H7,I7.unpinned,r7,q7⟩
end
theorem iD {K:PySem.W.Frag} {a:Addr} {xs:List V} {g:TG} {tb:TS} {D:Ends} {σ:St} {H:Hp} (Pv:Nat->St->Hp->Prop) (h0:Pv 0 σ H) (hl:∀i σ H,i<=xs.length->Pv i σ H->SqL K H a xs)
  (hs:∀i x σ H,xs[i]? = some x->Pv i σ H->g x σ H λσ2 H2=>tb { D with nx:=Pv (i+1),ct:=Pv (i+1),bk:=D.nx } σ2 H2) (hd:∀σ H,Pv xs.length σ H->D.nx σ H) :
  ∃W:Nat->Nat->St->Hp->Prop,(∃m,W 0 m σ H)/\∀i m σ H,W i m σ H ->
   ((Itl K a).stop i H/\D.nx σ H)\/((Itl K a).go i H/\∃N:St->Hp->Prop,(∀σ' H',N σ' H'->∃m',m'<m/\W (i+1) m' σ' H')/\∀x H',(Itl K a).yld i H x H'->g x σ H' λσ2 H2=>tb { D with nx:=N,ct:=N,bk:=D.nx } σ2 H2):=by
 refine⟨λi m σ H=>m=xs.length-i/\i<=xs.length/\Pv i σ H,⟨xs.length,by simp,Nat.zero_le _,h0⟩,?_⟩
 rintro i m σ H ⟨rfl,hi,p⟩
 have q:=hl i σ H hi p
 by_cases hlt:i<xs.length
 ·refine .inr ⟨⟨xs,xs[i],q,by simp[hlt]⟩,Pv (i+1),λσ' H' p'=>⟨xs.length-(i+1),by omega,rfl,hlt,p'⟩,λx H' y=>?_⟩
  obtain⟨e,y⟩:=y
  subst e
  exact hs i x σ _ (y xs q) p
 ·have e:i=xs.length:=by omega
  subst e
  exact .inl ⟨⟨xs,q,Nat.le_refl _⟩,hd σ H p⟩
end L2
namespace L2
open PySem PySem.Spec PyProof.Rows
noncomputable abbrev R2:=V->V->Hp->VK->Prop
noncomputable def OpR (X:Cx) (f:Value->Value->Sem Value) (r:R2):Prop :=
 ∀(pins:List (Addr × Obj)) (s:Shared) (σ:St) (H:Hp) (x y:V) (v u:Value) (Q:VK),Inv X pins σ H s->RelV x v->RelV y u->r x y H Q ->
  wpAny (model X.prog X.w) X.A (f v u) (EP X pins σ Q) X.xe s
noncomputable def UnR (X:Cx) (f:Value->Sem Value) (r:V->Hp->VK->Prop):Prop :=
 ∀(pins:List (Addr × Obj)) (s:Shared) (σ:St) (H:Hp) (x:V) (v:Value) (Q:VK),Inv X pins σ H s->RelV x v->r x H Q ->
  wpAny (model X.prog X.w) X.A (f v) (EP X pins σ Q) X.xe s
noncomputable def sQ (X:Cx) (f:Value) (r:List V->Hp->VK->Prop):Prop :=
 ∀(pins:List (Addr × Obj)) (s:Shared) (σ:St) (H:Hp) (xs:List V) (us:List Value) (Q:VK),Inv X pins σ H s->Vals xs us->r xs H Q ->
  wpAny (model X.prog X.w) X.A (call f us) (EP X pins σ Q) X.xe s
noncomputable def tOp (r:R2) (ta tb:TE):TE:=λσ H Q=>ta σ H λx H1=>tb σ H1 λy H2=>r x y H2 Q
noncomputable def tUn (r:V->Hp->VK->Prop) (ta:TE):TE:=λσ H Q=>ta σ H λx H1=>r x H1 Q
noncomputable def rI (C:Int->Int->Prop) (g:Int->Int->V):R2:=λx y H Q=>∃i j,x = .int i/\y = .int j/\C i j/\Q (g i j) H
noncomputable def rI0 (g:Int->Int->V):R2:=λx y H Q=>∃i j,x = .int i/\y = .int j/\Q (g i j) H
noncomputable def rU (g:Int->V):V->Hp->VK->Prop:=λx H Q=>∃i,x = .int i/\Q (g i) H
section
variable {X:Cx} {a b c:Expr} {ta tb tc:TE} {pos:Pos}
theorem RJ (ha:PE X a ta) (hb:PE X b tb) {pins:List (Addr × Obj)} {s:Shared} {σ:St} {H:Hp} {R:V->V->Hp->Prop} (I:Inv X pins σ H s)
  (h:ta σ H λx H1=>tb σ H1 λy H2=>R x y H2) {Q:Value->Shared->Prop} {f:Value->Value->Sem Value}
  (hf:∀v u s2 x y H2,Inv X pins σ H2 s2->RelV x v->RelV y u->R x y H2->wpAny (model X.prog X.w) X.A (f v u) Q X.xe s2) :
  wpAny (model X.prog X.w) X.A (eval a X.env) (λv s₁=>wpAny (model X.prog X.w) X.A (eval b X.env) (λu s₂=>wpAny (model X.prog X.w) X.A (f v u) Q X.xe s₂) X.xe s₁) X.xe s:=by
 refine thn (ha pins s σ H _ I h) λv s1 ⟨x,H1,I1,r1,q1⟩=>?_
 refine thn (hb pins s1 σ H1 _ I1 q1) λu s2 ⟨y,H2,I2,r2,q2⟩=>?_
 exact hf v u s2 x y H2 I2 r1 r2 q2
theorem VX {op:Operator} {r:R2} (ho:OpR X (binaryOp op) r) (ha:PE X a ta) (hb:PE X b tb):PE X (.BinOp a op b pos) (tOp r ta tb):=by
 intro pins s σ H Q I h
 exact wpAny_BinOp (RJ ha hb I h λv u s2 x y H2 I2 rx ry q=>ho pins s2 σ H2 x y v u Q I2 rx ry q)
theorem VY {op:UnaryOp} {r:V->Hp->VK->Prop} (ho:UnR X (unaryOp op) r) (ha:PE X a ta):PE X (.UnaryOp op a pos) (tUn r ta):=by
 intro pins s σ H Q I h
 exact UnaryOp_ (thn (ha pins s σ H _ I h) λv s1 ⟨x,H1,I1,r1,q1⟩=>ho pins s1 σ H1 x v Q I1 r1 q1)
theorem opI {f:Value->Value->Sem Value} {C:Int->Int->Prop} {g:Int->Int->Int}
  (rule:∀(i j:Int) (t u:Tok) (s:Shared) (Q:Value->Shared->Prop) (E:Value->Shared->Prop),C i j->Q (.int (g i j) s.toks) { s with toks:=s.toks+1 }->wpAny (model X.prog X.w) X.A (f (.int i t) (.int j u)) Q E s) :
  OpR X f (rI C λi j=>.int (g i j)):=by
 intro pins s σ H x y v u Q I rx ry h
 obtain⟨i,j,rfl,rfl,hc,q⟩:=h
 obtain⟨t,rfl⟩:=rx
 obtain⟨t',rfl⟩:=ry
 exact rule i j t t' s _ _ hc ⟨.int (g i j),H,I.tok _,⟨_,rfl⟩,q⟩
theorem VQ {f:Value->Value->Sem Value} {g:Int->Int->Bool}
  (rule:∀(i j:Int) (t u:Tok) (s:Shared) (Q:Value->Shared->Prop) (E:Value->Shared->Prop),Q (.bool (g i j)) s->wpAny (model X.prog X.w) X.A (f (.int i t) (.int j u)) Q E s) :
  OpR X f (rI0 λi j=>.bl (g i j)):=by
 intro pins s σ H x y v u Q I rx ry h
 obtain⟨i,j,rfl,rfl,q⟩:=h
 obtain⟨t,rfl⟩:=rx
 obtain⟨t',rfl⟩:=ry
 exact rule i j t t' s _ _ ⟨.bl (g i j),H,I,rfl,q⟩
noncomputable def CMul (i j:Int):Prop:=(-(2 ^ 64)<i/\i<2 ^ 64)\/(-(2 ^ 64)<j/\j<2 ^ 64)
theorem CMul.ok {i j:Int} (h:CMul i j):IntMulOk i j:=by
 rcases h with ⟨h1,h2⟩ | ⟨h1,h2⟩
 ·exact .of_left (intBits_le_64 h1 h2)
 ·exact .of_right (intBits_le_64 h1 h2)
theorem unI {f:Value->Sem Value} {g:Int->Int}
  (rule:∀(i:Int) (t:Tok) (s:Shared) (Q:Value->Shared->Prop) (E:Value->Shared->Prop),Q (.int (g i) s.toks) { s with toks:=s.toks+1 }->wpAny (model X.prog X.w) X.A (f (.int i t)) Q E s) :
  UnR X f (rU λi=>.int (g i)):=by
 intro pins s σ H x v Q I rx h
 obtain⟨i,rfl,q⟩:=h
 obtain⟨t,rfl⟩:=rx
 exact rule i t s _ _ ⟨.int (g i),H,I.tok _,⟨_,rfl⟩,q⟩
theorem UM:UnR X (unaryOp .USub) (rU λi=>.int (-i)):=unI λ_ _ _ _ _ q=>neg_int q
end
noncomputable def WF:V->V->Bool
 | .non,.non=>true | .non,.int _=>true | .int _,.non=>true | .non,.bl _=>true | .bl _,.non=>true | .non,.str _=>true | .str _,.non=>true
 | .int _,.int _=>true | .bl _,.bl _=>true | .str _,.str _=>true | .byt _,.byt _=>true
 | .int _,.str _=>true | .str _,.int _=>true | .bl _,.str _=>true | .str _,.bl _=>true
 | _,_=>false
noncomputable def rEq:R2:=λx y H Q=>WF x y=true/\Q (.bl (decide (x=y))) H
noncomputable def rNe:R2:=λx y H Q=>WF x y=true/\Q (.bl (!decide (x=y))) H
theorem EX {i j:Int}:decide (V.int i=V.int j)=(i == j):=by
 rw[Bool.eq_iff_iff]
 simp
theorem JJ {i j:Bool}:decide (V.bl i=V.bl j)=(i == j):=by
 rw[Bool.eq_iff_iff]
 simp
theorem EY {i j:Str}:decide (V.str i=V.str j)=(i == j):=by
 rw[Bool.eq_iff_iff]
 simp
theorem EW {i j:Array UInt8}:decide (V.byt i=V.byt j)=(i.toList == j.toList):=by
 rw[Bool.eq_iff_iff]
 cases i
 cases j
 simp
section
variable {X:Cx} {a b c:Expr} {ta tb tc:TE} {pos:Pos}
theorem bN {pins:List (Addr × Obj)} {σ:St} {H:Hp} {s:Shared} {Q:VK} {k k':Bool} (I:Inv X pins σ H s) (q:Q (.bl k) H) (e:k=k'):EP X pins σ Q (.bool k') s:=by
 subst e
 exact⟨.bl k,H,I,rfl,q⟩
theorem QR:OpR X (compareOp .Eq) rEq:=by
 intro pins s σ H x y v u Q I rx ry h
 obtain⟨hs,q⟩:=h
 cases x with
 | non =>
  cases rx
  cases y with
  | non=>cases ry;exact PySem.EqNone.eq_none_none (bN I q (by simp))
  | bl j=>cases ry;exact PySem.EqNone.eq_none_bool (bN I q (by simp))
  | int j=>obtain⟨t',rfl⟩:=ry;exact PySem.EqNone.eq_none_int (bN I q (by simp))
  | str j=>obtain⟨t',rfl⟩:=ry;exact PySem.EqNone.eq_none_str (bN I q (by simp))
  | _=>exact absurd (show false=true from hs) Bool.false_ne_true
 | bl i =>
  cases rx
  cases y with
  | non=>cases ry;exact PySem.EqNone.eq_bool_none (bN I q (by simp))
  | bl j=>cases ry;exact eq_bool (bN I q JJ)
  | str j=>obtain⟨t',rfl⟩:=ry;exact PySem.EqMixed.eq_bool_str (bN I q (by simp))
  | _=>exact absurd (show false=true from hs) Bool.false_ne_true
 | int i =>
  obtain⟨t,rfl⟩:=rx
  cases y with
  | non=>cases ry;exact PySem.EqNone.eq_int_none (bN I q (by simp))
  | int j=>obtain⟨t',rfl⟩:=ry;exact eq_int (bN I q EX)
  | str j=>obtain⟨t',rfl⟩:=ry;exact PySem.EqMixed.eq_int_str (bN I q (by simp))
  | _=>exact absurd (show false=true from hs) Bool.false_ne_true
 | str i =>
  obtain⟨t,rfl⟩:=rx
  cases y with
  | non=>cases ry;exact PySem.EqNone.eq_str_none (bN I q (by simp))
  | bl j=>cases ry;exact PySem.EqMixed.eq_str_bool (bN I q (by simp))
  | int j=>obtain⟨t',rfl⟩:=ry;exact PySem.EqMixed.eq_str_int (bN I q (by simp))
  | str j=>obtain⟨t',rfl⟩:=ry;exact eq_str (bN I q EY)
  | _=>exact absurd (show false=true from hs) Bool.false_ne_true
 | byt i =>
  obtain⟨t,rfl⟩:=rx
  cases y with
  | byt j=>obtain⟨t',rfl⟩:=ry;exact PySem.W.eq_bytes (bN I q EW)
  | _=>exact absurd (show false=true from hs) Bool.false_ne_true
 | _=>cases y <;> exact absurd (show false=true from hs) Bool.false_ne_true
theorem QS:OpR X (compareOp .NotEq) rNe:=by
 intro pins s σ H x y v u Q I rx ry h
 obtain⟨hs,q⟩:=h
 cases x with
 | non =>
  cases rx
  cases y with
  | non=>cases ry;exact PySem.EqNone.ne_none_none (bN I q (by simp))
  | bl j=>cases ry;exact PySem.EqNone.ne_none_bool (bN I q (by simp))
  | int j=>obtain⟨t',rfl⟩:=ry;exact PySem.EqNone.ne_none_int (bN I q (by simp))
  | str j=>obtain⟨t',rfl⟩:=ry;exact PySem.EqNone.ne_none_str (bN I q (by simp))
  | _=>exact absurd (show false=true from hs) Bool.false_ne_true
 | bl i =>
  cases rx
  cases y with
  | non=>cases ry;exact PySem.EqNone.ne_bool_none (bN I q (by simp))
  | bl j=>cases ry;exact ne_bool (bN I q (congrArg not JJ))
  | str j=>obtain⟨t',rfl⟩:=ry;exact PySem.EqMixed.ne_bool_str (bN I q (by simp))
  | _=>exact absurd (show false=true from hs) Bool.false_ne_true
 | int i =>
  obtain⟨t,rfl⟩:=rx
  cases y with
  | non=>cases ry;exact PySem.EqNone.ne_int_none (bN I q (by simp))
  | int j=>obtain⟨t',rfl⟩:=ry;exact ne_int (bN I q (congrArg not EX))
  | str j=>obtain⟨t',rfl⟩:=ry;exact PySem.EqMixed.ne_int_str (bN I q (by simp))
  | _=>exact absurd (show false=true from hs) Bool.false_ne_true
 | str i =>
  obtain⟨t,rfl⟩:=rx
  cases y with
  | non=>cases ry;exact PySem.EqNone.ne_str_none (bN I q (by simp))
  | bl j=>cases ry;exact PySem.EqMixed.ne_str_bool (bN I q (by simp))
  | int j=>obtain⟨t',rfl⟩:=ry;exact PySem.EqMixed.ne_str_int (bN I q (by simp))
  | str j=>obtain⟨t',rfl⟩:=ry;exact ne_str (bN I q (congrArg not EY))
  | _=>exact absurd (show false=true from hs) Bool.false_ne_true
 | byt i =>
  obtain⟨t,rfl⟩:=rx
  cases y with
  | byt j=>obtain⟨t',rfl⟩:=ry;exact PySem.W.ne_bytes (bN I q (congrArg not EW))
  | _=>exact absurd (show false=true from hs) Bool.false_ne_true
 | _=>cases y <;> exact absurd (show false=true from hs) Bool.false_ne_true
theorem VT:OpR X (compareOp .Lt) (rI0 λi j=>.bl (decide (i<j))):=VQ λ_ _ _ _ _ _ _ q=>lt_int q
theorem VS:OpR X (compareOp .Gt) (rI0 λi j=>.bl (decide (j<i))):=VQ λ_ _ _ _ _ _ _ q=>gt_int q
theorem LA (b:Expr) {op:CmpOp} (h:op≠.In:=by decide) (h2:op≠.NotIn:=by decide):behindInMarks op b=false:=by
 have e1:(op == CmpOp.In)=false:=by cases op <;> first | rfl | exact absurd rfl h
 have e2:(op == CmpOp.NotIn)=false:=by cases op <;> first | rfl | exact absurd rfl h2
 cases b <;> simp[behindInMarks,e1,e2]
theorem OW {op:CmpOp} {r:R2} (ho:OpR X (compareOp op) r) (ha:PE X a ta) (hb:PE X b tb) (hm:behindInMarks op b=false):PE X (.Compare a [op] [b] pos) (tOp r ta tb):=by
 intro pins s σ H Q I h
 exact wpAny_Compare1 (RJ ha hb I h λv u s2 x y H2 I2 rx ry q=>ho pins s2 σ H2 x y v u Q I2 rx ry q) hm
noncomputable def WQ (t:TE):TT:=λσ H Q=>t σ H λx H'=>∃k,x = .bl k/\Q k H'
theorem PJ {op:CmpOp} {r:R2} (ho:OpR X (compareOp op) r) (ha:PE X a ta) (hb:PE X b tb) (hm:behindInMarks op b=false):PT X (.Compare a [op] [b] pos) (WQ (tOp r ta tb)):=by
 intro pins s σ H Q I h
 refine wpAny_isTrue_Compare1 (thn (ha pins s σ H _ I h) λv s1 ⟨x,H1,I1,r1,q1⟩=>thn (hb pins s1 σ H1 _ I1 q1) λu s2 ⟨y,H2,I2,r2,q2⟩ =>
  thn (ho pins s2 σ H2 x y v u _ I2 r1 r2 q2) λc s3 ⟨z,H3,I3,r3,k,e,q3⟩=>?_) hm
 subst e
 cases r3
 exact wpAny_truthy_bool ⟨H3,I3,q3⟩
theorem yE:(sizeLine:Nat)<2 ^ 63:=by rw[sizeLine_eq];decide
theorem lX {x:V} {us:List Value} (r:Vals [x] us):∃u,us=[u]/\RelV x u:=by
 cases r with
 | cons r1 r2=>cases r2;exact⟨_,rfl,r1⟩
theorem QY {x y:V} {us:List Value} (r:Vals [x,y] us):∃u w',us=[u,w']/\RelV x u/\RelV y w':=by
 cases r with
 | cons r1 r2 =>
  cases r2 with
  | cons r3 r4=>cases r4;exact⟨_,_,rfl,r1,r3⟩
theorem IZ:sQ X (.builtin "abs") (λxs H Q=>∃i,xs=[.int i]/\Q (.int (if i<0 then -i else i)) H):=by
 intro pins s σ H xs us Q I r h
 obtain⟨i,rfl,q⟩:=h
 obtain⟨u,rfl,t,rfl⟩:=lX r
 exact call_abs_int λu tk=>⟨.int (if i<0 then -i else i),H,I.tok _,⟨_,rfl⟩,q⟩
theorem FZ (hc:X.calm=true):sQ X (.builtin "min") (λxs H Q=>∃i j,xs=[.int i,.int j]/\Q (.int (if j<i then j else i)) H):=by
 intro pins s σ H xs us Q I r h
 obtain⟨i,j,rfl,q⟩:=h
 obtain⟨u,w',rfl,⟨t,rfl⟩,⟨t',rfl⟩⟩:=QY r
 refine min_two_ints (I.ok.hd hc) λh' tk k=>⟨_,H,I.kept k,?_,q⟩
 by_cases hj:j<i
 ·rw[if_pos hj,if_pos hj];exact⟨_,rfl⟩
 ·rw[if_neg hj,if_neg hj];exact⟨_,rfl⟩
theorem vR:sQ X (.type "int") (λxs H Q=>(∃i,xs=[.int i]/\Q (.int i) H)\/∃k,xs=[.bl k]/\Q (.int (if k then 1 else 0)) H):=by
 intro pins s σ H xs us Q I r h
 rcases h with ⟨i,rfl,q⟩ | ⟨k,rfl,q⟩
 ·obtain⟨u,rfl,t,rfl⟩:=lX r
  exact call_int_int ⟨.int i,H,I,⟨_,rfl⟩,q⟩
 ·obtain⟨u,rfl,r1⟩:=lX r
  cases r1
  exact call_int_bool ⟨.int (if k then 1 else 0),H,I.tok _,⟨_,rfl⟩,q⟩
end
end L2
namespace L2
open PySem PySem.Spec PyProof.Rows
section
variable {prog:Program} {w:World} {A:Around} {E:Value->Shared->Prop} {s:Shared} {K:PySem.W.Frag} {x dx C f:Addr} {mA:Str->Option Value} {name:Str} {v:Value}
end
theorem RelO.some_of {v:V} {o:Option Value} (r:RelO (some v) o):∃u,o=some u/\RelV v u:=by
 cases o with
 | none=>exact (show False from r).elim
 | some u=>exact⟨u,rfl,r⟩
section
variable {P:Program} {w:World} {H H':Hp} {h h':Heap} {a C dx:Addr} {fs fs':List (Str × V)}
end
section
variable {X:Cx} {pins:List (Addr × Obj)} {σ:St} {H:Hp} {s:Shared} {a C dx:Addr} {fs:List (Str × V)} {f:Str} {v:V} {A:Around} {E:Value->Shared->Prop}
end
section
variable {X:Cx} {o e value:Expr} {f:Str} {pos pos' tpos:Pos} {ta tv:TE}
end
section
variable {X:Cx} {pins:List (Addr × Obj)} {σ:St} {H:Hp} {s:Shared} {A:Around} {E:Value->Shared->Prop} {Q:Value->Shared->Prop} {c:Value} {b:Bool}
end
end L2
namespace L2
open PySem PySem.Spec PyProof.Rows
structure Room (k:Nat) (A:Around):Prop where
 hd:A.handled=none
 dp:A.depth+3*k+5<recursionLimit
 un:A.units+16*k+200<cLine
theorem Room.mono {j k:Nat} {A:Around} (r:Room k A) (h:j<=k):Room j A:=⟨r.hd,by have:=r.dp;omega,by have:=r.un;omega⟩
theorem Room.deeper {k:Nat} {A:Around} (r:Room (k+1) A) (env:Env):Room k (A.deeper env) :=
 ⟨r.hd,by have:=r.dp;show A.depth+1+3*k+5<_;omega,by have:=r.un;show A.units+3+16*k+200<_;omega⟩
theorem Room.in1 {k:Nat} {A:Around} (r:Room (k+1) A):Room k A.in1 :=
 ⟨r.hd,by have:=r.dp;show A.depth+3*k+5<_;omega,by have:=r.un;show A.units+1+16*k+200<_;omega⟩
theorem Room.depth {k:Nat} {A:Around} (r:Room k A):A.depth<recursionLimit:=by have:=r.dp;omega
theorem Room.units {k:Nat} {A:Around} (r:Room k A):A.units+64<cLine:=by have:=r.un;omega
noncomputable def XS:TA:=λ_ H Q=>Q [] H
noncomputable def WL (ta:TE) (tr:TA):TA:=λσ H Q=>ta σ H λx H1=>tr σ H1 λxs H2=>Q (x::xs) H2
section
variable {X:Cx} {e:Expr} {es:List Expr} {te:TE} {t:TA} {pos:Pos}
theorem pP:PA X [] XS:=λ_ _ _ _ H Q I h=>Calls.spliced_nil ⟨[],H,I,.nil,h⟩
theorem iX (ha:PE X e te) (hr:PA X es t) (hs:starEach (e::es) X.env=(false,eval e X.env)::starEach es X.env:=by rfl):PA X (e::es) (WL te t):=by
 intro pos pins s σ H Q I h
 rw[hs]
 show wpAny _ _ (spliced ((false,eval e X.env)::backTo pos (starEach es X.env))) _ _ s
 refine Calls.spliced_cons (thn (ha pins s σ H _ I h) λu s1 ⟨x,H1,I1,r1,q1⟩=>?_)
 exact thn (hr pos pins s1 σ H1 _ I1 q1) λus s2 ⟨xs,H2,I2,r2,q2⟩=>⟨x::xs,H2,I2,.cons r1 r2,q2⟩
noncomputable def XW (t:TA):TE:=λσ H Q=>t σ H λxs H1=>xs.length<=sizeLine/\∀p,H1 p=none->Q (.ref p) (upd H1 p (.tup xs))
noncomputable def XR (t:TA):TE:=λσ H Q=>t σ H λxs H1=>xs.length<=sizeLine/\∀p,H1 p=none->Q (.ref p) (upd H1 p (.lst xs))
theorem TD {x1} (h:PA X es t):PE X (.Tuple es x1 pos) (XW t):=by
 intro pins s σ H Q I hq
 refine wpAny_Tuple_spliced (thn (h pos pins s σ H _ I hq) λus s1 ⟨xs,H1,I1,r,z,q⟩=>⟨by rw[<-r.length];exact z,?_⟩)
 have hf:H1 s1.heap.objs.size=none:=I1.hok.fresh (Nat.le_refl _)
 refine⟨.ref s1.heap.objs.size,upd H1 s1.heap.objs.size (.tup xs),I1.laid (t':=s1.toks) (λb u e=>Heap.get?_push_of_some _ e) (Nat.le_refl _) ?_,rfl,q _ hf⟩
 exact⟨z,us,r,⟨_,Heap.get?_push_size _ rfl,rfl,_,rfl⟩⟩
theorem LM (h:PA X es t):PE X (.List es pos) (XR t):=by
 intro pins s σ H Q I hq
 refine wpAny_List_spliced (thn (h pos pins s σ H _ I hq) λus s1 ⟨xs,H1,I1,r,z,q⟩=>⟨by rw[<-r.length];exact z,?_⟩)
 have hf:H1 s1.heap.objs.size=none:=I1.hok.fresh (Nat.le_refl _)
 refine⟨.ref s1.heap.objs.size,upd H1 s1.heap.objs.size (.lst xs),I1.laid (t':=s1.toks) (λb u e=>Heap.get?_push_of_some _ e) (Nat.le_refl _) ?_,rfl,q _ hf⟩
 exact⟨z,us,0,r,Heap.get?_push_size _ rfl⟩
end
noncomputable abbrev Sp:=List V->Hp->VK->XK->Prop
noncomputable abbrev CXT:=List Env->Hp->Shared->XK->Value->Shared->Prop
structure Env0 (P:Program) (w:World) (K:PySem.W.Frag) (mg:Str->Option Value) (base:Heap) (A:Around) (outer:List Env) (s:Shared) (H:Hp):Prop where
 frames:A.frames=some outer
 mod:Mod K mg base
 bs:∀b o,base.get? b=some o->s.heap.get? b=some o/\H b=none
 bsz:base.objs.size<=s.heap.objs.size
 funs:s.heap.FunFrames base outer
 frf:∀b∈frs outer,H b=none
 hok:HOk P w H s.heap
 bare:AllBare s.gens
noncomputable def CE (outer:List Env) (P:Program) (w:World) (H:Hp) (s:Shared) (Q:VK) (u:Value) (s':Shared):Prop :=
 ∃v H',s'.os=s.os/\AllBare s'.gens/\Un (frs outer) [] H H' s.heap s'.heap/\HOk P w H' s'.heap/\RelV v u/\Q v H'
noncomputable def CR (CX:CXT) (outer:List Env) (P:Program) (w:World) (H:Hp) (s:Shared) (Q:VK) (E:XK) (r:Result) (s':Shared):Prop :=
 match r with
 | .ok (.ret u)=>CE outer P w H s Q u s'
 | .ok _=>False
 | .error e=>CX outer H s E e s'
structure FnOk (P:Program) (w:World) (K:PySem.W.Frag) (mg:Str->Option Value) (base:Heap) (CX:CXT) (k:Nat) (f:Addr) (fd:FuncData) (ps:List Str) (sp:Sp):Prop where
 len:∀vs H Q E,sp vs H Q E->vs.length=ps.length
 run:∀(A:Around) (outer:List Env) (s:Shared) (H:Hp) (args:Args) (us:List Value) (vs:List V) (Q:VK) (E:XK),Room k A->Env0 P w K mg base A outer s H->BindsTo s fd args (ps.zip us)->Vals vs us->sp vs H Q E ->
  codeAny (model P w) A (.call (.ref f) args) (CR CX outer P w H s Q E) s
theorem FnOk.mono {P:Program} {w:World} {K:PySem.W.Frag} {mg:Str->Option Value} {base:Heap} {CX:CXT} {j k:Nat} {f:Addr} {fd:FuncData} {ps:List Str} {sp:Sp} (F:FnOk P w K mg base CX j f fd ps sp) (h:j<=k) :
  FnOk P w K mg base CX k f fd ps sp:=⟨F.len,λA outer s H args us vs Q E hr=>F.run A outer s H args us vs Q E (hr.mono h)⟩
section
variable {X:Cx} {pins:List (Addr × Obj)} {σ:St} {H:Hp} {s s':Shared}
theorem Inv.env0 (I:Inv X pins σ H s):Env0 X.prog X.w X.K X.mg X.base X.A X.stack s H :=
 ⟨I.ok.frames,I.ok.mod,I.bs,Nat.le_trans I.ok.bsz I.sz,I.stack,I.stkFree,I.hok,I.bare⟩
theorem Inv.after {Q:VK} {u:Value} (I:Inv X pins σ H s) (h:CE X.stack X.prog X.w H s Q u s'):EP X pins σ Q u s':=by
 obtain⟨v,H',os,bare,un,hok,r,q⟩:=h
 obtain⟨hh,g,d,t,os'⟩:=s'
 obtain rfl:os'=s.os:=os
 exact⟨v,H',I.call (h':=hh) (g':=g) (d':=d) (t':=t) (ch:=[]) un hok bare (λb z=>absurd z (by simp)),r,q⟩
end
noncomputable def WK (sp:Sp) (dvs:List V) (E:XK) (t:TA):TE:=λσ H Q=>t σ H λvs H1=>sp (vs++dvs) H1 Q E
noncomputable def Binds (K:PySem.W.Frag) (fd:FuncData) (ps:List Str) (ds:List Value):Prop :=
 ∀(s:Shared) (us:List Value),K.In s.heap->(us++ds).length=ps.length->BindsTo s fd ⟨us,[]⟩ (ps.zip (us++ds))
theorem Binds.all {K:PySem.W.Frag} {fd:FuncData} {ps:List Str} (h:∀us:List Value,us.length=ps.length->bindArgs fd ⟨us,[]⟩=pure (ps.zip us)):Binds K fd ps []:=λs us _ hl=>by
 rw[List.append_nil] at hl ⊢
 exact .of_eq (h us hl)
noncomputable def CC (CX:CXT) (X:Cx) (E:XK):Prop:=∀(pins:List (Addr × Obj)) (σ:St) (H:Hp) (s:Shared) (e:Value) (s':Shared),Inv X pins σ H s->CX X.stack H s E e s'->X.xe e s'
section
variable {X:Cx} {CX:CXT} {k:Nat} {f C:Addr} {fd:FuncData} {ps:List Str} {sp:Sp} {dvs:List V} {ds:List Value} {E:XK} {x m:Str} {p pos apos:Pos} {e o:Expr} {es:List Expr} {ta:TE} {t:TA}
theorem TX {pins:List (Addr × Obj)} {σ:St} {H:Hp} {s:Shared} {Q:VK} {us:List Value} {vs:List V} (F:FnOk X.prog X.w X.K X.mg X.base CX k f fd ps sp) (hr:Room k X.A) (hb:Binds X.K fd ps ds) (hd:Vals dvs ds) (hx:CC CX X E)
  (I:Inv X pins σ H s) (r:Vals vs us) (h:sp (vs++dvs) H Q E):wpAny (model X.prog X.w) X.A (call (.ref f) us) (EP X pins σ Q) X.xe s:=by
 have r2:Vals (vs++dvs) (us++ds):=r.append hd
 have hl:(us++ds).length=ps.length:=by rw[<-r2.length];exact F.len _ _ _ _ h
 refine wpAny_call (codeAny_mono (F.run X.A X.stack s H ⟨us,[]⟩ (us++ds) (vs++dvs) Q E hr I.env0 (hb s us I.kIn hl) r2 h) λr s' hq=>?_)
 cases r with
 | error e=>exact hx pins σ H s e s' I hq
 | ok fl =>
  cases fl with
  | ret u=>exact I.after hq
  | next=>exact False.elim hq
  | brk=>exact False.elim hq
  | cont=>exact False.elim hq
theorem OV (F:FnOk X.prog X.w X.K X.mg X.base CX k f fd ps sp) (hr:Room k X.A) (hg:Gl X x) (hm:X.mg x=some (.ref f)) (hk:PySem.W.keepIn X.K (.ref f)=true) (hb:Binds X.K fd ps ds) (hd:Vals dvs ds) (hx:CC CX X E)
  (ha:PA X (e::es) t) (hdb:(x == ("__debug__":Str))=false:=by decide) (he:starEach (e::es) X.env=(false,eval e X.env)::starEach es X.env:=by rfl) (hpl:(backTo pos (starEach es X.env)).any (·.1)=false:=by rfl) :
  PE X (.Call (.Name x p) (e::es) [] pos) (WK sp dvs E t):=by
 intro pins s σ H Q I h
 refine wpAny_Call_Name_kw (OD I hg hm ?_ hdb)
 refine PySem.W.callWith_K (h₀:=X.base) I.ok.mod.kin hk (thn (ha pos pins s σ H _ I h) λus s1 ⟨vs,H1,I1,r,q⟩=>⟨I1.kIn,?_⟩) he hpl
 exact TX F hr hb hd hx I1 r q
end
section
variable {X:Cx} {CX:CXT} {k:Nat} {f C:Addr} {fd:FuncData} {ps ks:List Str} {sp:Sp} {E:XK} {x m:Str} {p pos apos kpos:Pos} {e o:Expr} {es:List Expr} {kws:List Keyword} {te ta:TE} {t tk:TA} {nm:Option Str}
variable {g:List Value->List Value->List Value} {gV:List V->List V->List V}
end
structure FnScope (N P:List Str) (sc:Scope):Prop where
 kind:sc.kind = .function
 co:sc.isCoroutine=false
 gen:sc.isGenerator=false
 nd:N.Nodup
 pre:N.take P.length=P
 par:∀x∈P,sc.names.lookup x=some .local\/sc.names.lookup x=some .cell
 nofree:∀y∈sc.names,y.2≠.free
theorem vQ {kindOf:Str->Option NameKind} {x:Str}:∀{binds:List (Str × Value)} {m:Str->Option Value},(∀v,(x,v) ∉ binds)->bindL kindOf binds m x=m x
 | [],_,_=>rfl
 | (n,v)::r,m,h=>by
  unfold bindL
  rw[vQ λw hw=>h w (List.mem_cons_of_mem _ hw)]
  split
  ·have:x≠n:=by rintro rfl;exact h v List.mem_cons_self
   simp[this]
  ·rfl
theorem vO {kindOf:Str->Option NameKind} {x:Str}:∀{binds:List (Str × Value)} {m:Str->Option Value},(∀v,(x,v) ∉ binds)->bindC kindOf binds m x=m x
 | [],_,_=>rfl
 | (n,v)::r,m,h=>by
  unfold bindC
  rw[vO λw hw=>h w (List.mem_cons_of_mem _ hw)]
  split
  ·rfl
  ·have:x≠n:=by rintro rfl;exact h v List.mem_cons_self
   simp[this]
theorem vP {kindOf:Str->Option NameKind} {x:Str} {v:Value}:∀{P:List Str} {vs:List Value} {i:Nat} {m:Str->Option Value},P.Nodup->P[i]? = some x->vs[i]? = some v->kindOf x=some .local ->
  bindL kindOf (P.zip vs) m x=some v
 | [],_,_,_,_,h,_,_=>by simp at h
 | _::_,[],_,_,_,_,h,_=>by simp at h
 | p::P,w::vs,0,m,nd,h1,h2,hk=>by
  simp at h1 h2;subst h1;subst h2
  show bindL kindOf ((p,w)::P.zip vs) m p=_
  unfold bindL
  rw[vQ λv hv=>(List.nodup_cons.mp nd).1 (List.of_mem_zip hv).1,if_pos hk]
  simp
 | p::P,w::vs,i+1,m,nd,h1,h2,hk=>by
  show bindL kindOf ((p,w)::P.zip vs) m x=_
  unfold bindL
  exact vP (i:=i) (List.nodup_cons.mp nd).2 (by simpa using h1) (by simpa using h2) hk
theorem vN {kindOf:Str->Option NameKind} {x:Str} {v:Value}:∀{P:List Str} {vs:List Value} {i:Nat} {m:Str->Option Value},P.Nodup->P[i]? = some x->vs[i]? = some v->kindOf x≠some .local ->
  bindC kindOf (P.zip vs) m x=some v
 | [],_,_,_,_,h,_,_=>by simp at h
 | _::_,[],_,_,_,_,h,_=>by simp at h
 | p::P,w::vs,0,m,nd,h1,h2,hk=>by
  simp at h1 h2;subst h1;subst h2
  show bindC kindOf ((p,w)::P.zip vs) m p=_
  unfold bindC
  rw[vO λv hv=>(List.nodup_cons.mp nd).1 (List.of_mem_zip hv).1,if_neg hk]
  simp
 | p::P,w::vs,i+1,m,nd,h1,h2,hk=>by
  show bindC kindOf ((p,w)::P.zip vs) m x=_
  unfold bindC
  exact vN (i:=i) (List.nodup_cons.mp nd).2 (by simpa using h1) (by simpa using h2) hk
noncomputable def lU (N:List Str) (vs:List V):St:=vs.map some++List.replicate (N.length-vs.length) none
noncomputable def cN (CX:CXT) (P:Program) (w:World) (K:PySem.W.Frag) (mg:Str->Option Value) (base:Heap) (N:List Str) (qual:Str) (scope:Scope) (f:Addr) (cd:Value) (A:Around) (outer:List Env) (s:Shared) (H:Hp) (E:XK):Cx where
 prog:=P
 w:=w
 K:=K
 mg:=mg
 base:=base
 A:=A.deeper (envOfC qual scope s.heap.objs.size f cd)
 N:=N
 s₀:=s
 H₀:=H
 env:=envOfC qual scope s.heap.objs.size f cd
 outer:=outer
 stack:=envOfC qual scope s.heap.objs.size f cd::outer
 ex:=[]
 calm:=true
 fn:=λ_=>true
 pn:=[]
 xe:=λe s'=>wpAny (model P w) (A.deeper (envOfC qual scope s.heap.objs.size f cd)) (leaving (envOfC qual scope s.heap.objs.size f cd) e) (λ_ s''=>CX outer H s E e s'') (λe' s''=>CX outer H s E e' s'') s'
theorem zH {sc:Scope} {n:Nat} {x:Str} (h:sc.names.lookup x=some .cell):∃c,(cellsFrom n sc.names []).lookup x=some c:=by
 have q:=PySem.W.cellsFrom_some sc.names n [] (.inl h)
 exact Option.isSome_iff_exists.mp q
theorem GO {CX:CXT} {P:Program} {w:World} {K:PySem.W.Frag} {mg:Str->Option Value} {base:Heap} {N ps:List Str} {qual:Str} {scope:Scope} {f:Addr} {cd:Value} {A:Around} {outer:List Env} {s s1:Shared} {H:Hp} {E:XK} {us:List Value} {vs:List V}
  (S:FnScope N ps scope) (hd:A.handled=none) (e0:Env0 P w K mg base A outer s H) (hl:vs.length=ps.length) (r:Vals vs us)
  (x:InCallC s s.heap.objs.size (bindL (envOfC qual scope s.heap.objs.size f cd).kindOf (ps.zip us) λ_=>none) (cellsFrom (s.heap.objs.size+1) scope.names []) (bindC (envOfC qual scope s.heap.objs.size f cd).kindOf (ps.zip us) λ_=>none) s1) :
  Inv (cN CX P w K mg base N qual scope f cd A outer s H E) [] (lU N vs) H s1:=by
 have hpl:ps.length<=N.length:=by have:=congrArg List.length S.pre;rw[List.length_take] at this;omega
 obtain⟨h1,tk,rfl,hk⟩:=x.done
 have noA:∀b:Addr,b ∉ (cN CX P w K mg base N qual scope f cd A outer s H E).ex:=λb z=>absurd (show b∈([]:List Addr) from z) (by simp)
 refine⟨⟨e0.mod,S.kind,rfl,rfl,Nat.le_refl _,λy z c h1 h2=>?_,λy hy=>?_,λy c _ h=>?_,λ_=>hd,Around.frames_deeper e0.frames,.inr ⟨rfl,rfl⟩,λb z=>absurd z (noA b),e0.bs,e0.bsz,λb _ _=>noA b,λb z=>absurd z (noA b),e0.funs,e0.frf⟩,
  rfl,e0.bare,Un.kept hk,⟨_,x.toInCall.ns,λi y v h1 h2 h3=>?_⟩,λy c h=>⟨_,x.cell y c h⟩,e0.hok.fresh (Nat.le_refl _),λy c h=>?_,λp hp=>absurd (show p∈([]:List (Addr × Obj)) from hp) (by simp),e0.hok.kept hk,?_⟩
 ·exact name_of_addr x.apart (PySem.mem_of_lookup h1) (PySem.mem_of_lookup h2)
 ·have hy:scope.names.lookup y=some .cell\/scope.names.lookup y=some .free:=hy
  rcases hy with hy | hy
  ·exact zH hy
  ·exact absurd rfl (S.nofree _ (PySem.mem_of_lookup hy))
 ·exact Nat.le_of_lt (x.above y c (PySem.mem_of_lookup h))
 ·have hi:i<vs.length:=by
   unfold lU at h2
   by_cases hi:i<vs.length
   ·exact hi
   ·rw[List.getElem?_append_right (by simpa using hi)] at h2
    rw[List.getElem?_replicate] at h2
    split at h2 <;> cases h2
  have ha:vs[i]? = some v:=by
   unfold lU at h2
   rw[List.getElem?_append_left (by simpa using hi),List.getElem?_map] at h2
   cases e:vs[i]? with
   | none=>rw[e] at h2;cases h2
   | some a=>rw[e] at h2;cases h2;rfl
  obtain⟨u,hu,rv⟩:=r.get ha
  have hp:ps[i]? = some y:=by
   rw[<-S.pre,List.getElem?_take_of_lt (by omega)];exact h1
  have ndP:ps.Nodup:=by rw[<-S.pre];exact S.nd.sublist (List.take_sublist _ _)
  refine⟨u,rv,?_⟩
  rcases S.par y (List.mem_of_getElem? hp) with k | k
  ·exact .inl ⟨k,vP ndP hp hu k⟩
  ·obtain⟨c,e⟩:=zH (n:=s.heap.objs.size+1) k
   refine .inr ⟨.inl k,c,e,?_⟩
   have q:=x.cell y c e
   rw[vN ndP hp hu (by show scope.names.lookup y≠_;rw[k];decide)] at q
   exact q
 ·exact e0.hok.fresh (Nat.le_of_lt (x.above y c (PySem.mem_of_lookup h)))
 ·unfold lU
  show _=N.length
  rw[List.length_append,List.length_map,List.length_replicate]
  omega
theorem QI {CX:CXT} {P:Program} {w:World} {K:PySem.W.Frag} {mg:Str->Option Value} {base:Heap} {k:Nat} {f:Addr} {name qual:Str} {params:Arguments} {body:List Stmt} {scope:Scope} {dV kV doc pm cdv ct oc:Value} {an od:Option Addr}
  {osl:Array (Option Value)} {N ps:List Str} {sp:Sp} (lk:K.lookup f=some ⟨oc,od,.func (PySem.W.fnOf name qual params body scope dV kV doc pm an cdv ct),osl⟩) (hcd:PySem.W.codeIn K cdv qual=true) (S:FnScope N ps scope)
  (len:∀vs H Q E,sp vs H Q E->vs.length=ps.length)
  (hbody:∀(A:Around) (outer:List Env) (s:Shared) (H:Hp) (vs:List V) (Q:VK) (E:XK),Room k (A.deeper (envOfC qual scope s.heap.objs.size f cdv))->sp vs H Q E ->
   ∃t,PSs (cN CX P w K mg base N qual scope f cdv A outer s H E) body t/\t { nx:=λ_ H'=>Q .non H',rt:=Q } (lU N vs) H) :
  FnOk P w K mg base CX (k+1) f (PySem.W.fnOf name qual params body scope dV kV doc pm an cdv ct) ps sp:=by
 refine⟨len,λA outer s H args us vs Q E hr e0 hb r hsp=>?_⟩
 have hl:=len _ _ _ _ hsp
 have KX:K.In s.heap:=e0.mod.kin.keeps λb o e=>(e0.bs b o e).1
 have lim:s.heap.NoLimit:=e0.mod.nolimit.keeps λb o e=>(e0.bs b o e).1
 have hkind:∀y∈ps.zip us,scope.names.lookup y.1=some .local\/(scope.names.lookup y.1=some .cell/\((cellsFrom (s.heap.objs.size+1) scope.names []).lookup y.1).isSome=true):=λ⟨n,v⟩ hy=>by
  rcases S.par n (List.of_mem_zip hy).1 with q | q
  ·exact .inl q
  ·exact .inr ⟨q,PySem.W.cellsFrom_some _ _ _ (.inl q)⟩
 refine codeAny_call_function hr.depth (KX _ _ lk) rfl S.co S.gen rfl (PySem.W.codeRec_of KX hcd) (hb _ _ _ _ ?_)
 refine wpAny_newFunctionEnv_cells S.kind hkind λenv he s1 x=>?_
 subst he
 refine⟨lim.keeps x.toInCall.keep,codeAny_func ?_⟩
 obtain⟨t,ht,hq⟩:=hbody A outer s H vs Q E (hr.deeper _) hsp
 have I:Inv (cN CX P w K mg base N qual scope f cdv A outer s H E) [] (lU N vs) H s1:=GO S hr.hd e0 hl r x
 refine wpAny_mono (ht [] s1 (lU N vs) H _ I hq) (λfl s' hs=>?_) λe s' hs=>hs
 have fin:∀{σ':St} {H':Hp} {v:V} {u:Value},Inv (cN CX P w K mg base N qual scope f cdv A outer s H E) [] σ' H' s'->RelV v u->Q v H'->CE outer P w H s Q u s' :=
  λ{σ' H' v u} J rv q=>⟨v,H',J.os,J.bare,J.base,J.hok,rv,q⟩
 cases fl with
 | ret u =>
  obtain⟨v,σ',H',J,rv,q⟩:=hs
  exact fin J rv q
 | next =>
  obtain⟨σ',H',J,q⟩:=hs
  exact fin (v:=V.non) (u:=Value.none) J rfl q
 | brk =>
  obtain⟨_,_,_,q⟩:=hs
  exact False.elim q
 | cont =>
  obtain⟨_,_,_,q⟩:=hs
  exact False.elim q
end L2
namespace L2
open PySem PySem.Spec PyProof.Rows
section
variable {X:Cx} {x:Str} {p pos:Pos} {e:Expr} {es:List Expr} {t:TA} {id T:String} {r:List V->Hp->VK->Prop}
noncomputable def tCB (r:List V->Hp->VK->Prop) (t:TA):TE:=λσ H Q=>t σ H λvs H1=>r vs H1 Q
theorem AX (hc:sQ X (.builtin id) r) (hg:Gl X x) (hm:X.mg x=none) (hv:bootBuiltins x=some (.builtin id)) (ha:PA X (e::es) t) (hn:x≠"__name__":=by decide) (hdb:(x == ("__debug__":Str))=false:=by decide)
  (he:starEach (e::es) X.env=(false,eval e X.env)::starEach es X.env:=by rfl) (hpl:(backTo pos (starEach es X.env)).any (·.1)=false:=by rfl):PE X (.Call (.Name x p) (e::es) [] pos) (tCB r t):=by
 intro pins s σ H Q I h
 refine wpAny_Call_Name_kw (eJ I hg hm hv ?_ hn hdb)
 exact PyProof.Rows.callWith_builtin1 (thn (ha pos pins s σ H _ I h) λus s1 ⟨vs,H1,I1,r1,q1⟩=>hc pins s1 σ H1 vs us Q I1 r1 q1) he hpl
theorem HI (hc:sQ X (.type T) r) (hg:Gl X x) (hm:X.mg x=none) (hv:bootBuiltins x=some (.type T)) (ha:PA X (e::es) t) (hn:x≠"__name__":=by decide) (hdb:(x == ("__debug__":Str))=false:=by decide)
  (he:starEach (e::es) X.env=(false,eval e X.env)::starEach es X.env:=by rfl) (hpl:(backTo pos (starEach es X.env)).any (·.1)=false:=by rfl):PE X (.Call (.Name x p) (e::es) [] pos) (tCB r t):=by
 intro pins s σ H Q I h
 refine wpAny_Call_Name_kw (eJ I hg hm hv ?_ hn hdb)
 exact PyProof.Rows.callWith_type1 (thn (ha pos pins s σ H _ I h) λus s1 ⟨vs,H1,I1,r1,q1⟩=>hc pins s1 σ H1 vs us Q I1 r1 q1) he hpl
end
end L2
namespace HT
open PySem PyProof.Rows
noncomputable def lexLt:List Int->List Int->Bool
 | [],[]=>false
 | [],_::_=>true
 | _::_,[]=>false
 | x::xs,y::ys=>if x=y then lexLt xs ys else decide (x<y)
section
open PySem.SeqAt
open PySem.AutoSeq1 (wpAny_loadPart')
open PySem.MeetsSeq PySem.MeetsSeq2 PySem.MeetsSeq3
end
section
variable {prog:Program} {w:World} {A:Around} {E:Value->Shared->Prop} {s:Shared}
theorem cat_tup {t b:Addr} {vs ws:List Value} {Q:Value->Shared->Prop} (ht:IsTup s.heap t vs.toArray) (hb:IsTup s.heap b ws.toArray) (hv:vs≠[])
  (h1:ws=[]->Q (.ref t) s) (h2:ws≠[]->Q (.ref s.heap.objs.size) { s with heap:=s.heap.push { cls:=.type "tuple",data:=.seq (vs++ws).toArray } })
  (hsz:vs.length+ws.length<=sizeLine):wpAny (model prog w) A (binaryOp .Add (.ref t) (.ref b)) Q E s:=by
 obtain⟨⟨cls,dd,data,sl⟩,ho,hc,n,hd⟩:=id ht
 obtain⟨⟨cls2,dd2,data2,sl2⟩,ho2,hc2,n2,hd2⟩:=id hb
 simp only at hc hd hc2 hd2
 subst hc hd hc2 hd2
 have e:vs.toArray++ws.toArray=(vs++ws).toArray:=by simp
 by_cases hw:ws=[]
 ·exact concat_meets ⟨_,ho,rfl⟩ ⟨_,ho2,rfl⟩ noFill_tuple_add seq_tuple_add PySem.F.slot_tuple_add PySem.F.entry_tuple_add (PySem.F.args_tuple_add_2 _ _)
   (tuple_addW1 t b vs.toArray ws.toArray n n2 dd dd2 sl sl2 (by simpa using hv) (by simp[hw])) ⟨ho,ho2,h1 hw⟩
 ·refine concat_meets ⟨_,ho,rfl⟩ ⟨_,ho2,rfl⟩ noFill_tuple_add seq_tuple_add PySem.F.slot_tuple_add PySem.F.entry_tuple_add (PySem.F.args_tuple_add_2 _ _)
   (tuple_addW2 t b vs.toArray ws.toArray n n2 dd dd2 sl sl2 (by simpa using hv) (by simpa using hw) (by rw[List.size_toArray,List.size_toArray];exact hsz)) ⟨ho,ho2,?_⟩
  rw[e]
  exact h2 hw
noncomputable def sIx (n d:Nat):Option Int->Nat
 | none=>d
 | some v=>if v<0 then (v+(n:Int)).toNat else min v.toNat n
theorem sIx_none (n d:Nat):sIx n d none=d:=rfl
theorem sIx_nat (n d k:Nat):sIx n d (some (k:Int))=min k n:=by
 show (if (k:Int)<0 then ((k:Int)+(n:Int)).toNat else min (k:Int).toNat n)=min k n
 rw[if_neg (by omega),Int.toNat_natCast]
theorem TY (n d:Nat) (hd:d<=n) (o:Option Int):sIx n d o<=n:=by
 cases o with
 | none=>exact hd
 | some v =>
  show (if v<0 then (v+(n:Int)).toNat else min v.toNat n)<=n
  by_cases hv:v<0
  ·rw[if_pos hv];omega
  ·rw[if_neg hv];exact Nat.min_le_right _ _
theorem EQ (v:Int) (n d:Nat):(if v<0 then max (v+(n:Int)) 0 else min v (n:Int))=((sIx n d (some v):Nat):Int):=by
 show (if v<0 then max (v+(n:Int)) 0 else min v (n:Int))=(((if v<0 then (v+(n:Int)).toNat else min v.toNat n):Nat):Int)
 by_cases hv:v<0
 ·simp only[if_pos hv];omega
 ·simp only[if_neg hv];omega
theorem CD (lo hi:Option Int) (n:Nat):Builtin.Slice.sliceAdjust lo hi 1 (n:Int)=(((sIx n 0 lo:Nat):Int),((sIx n n hi:Nat):Int)):=by
 have h1:¬((1:Int)<0):=by omega
 unfold Builtin.Slice.sliceAdjust
 simp only[h1,if_false]
 refine Prod.ext ?_ ?_
 ·cases lo with
  | none=>rfl
  | some v=>exact EQ v n 0
 ·cases hi with
  | none=>rfl
  | some v=>exact EQ v n n
theorem DF (i j:Nat):Builtin.Slice.slicePlaces (i:Int) (j:Int) 1=j-i:=by
 unfold Builtin.Slice.slicePlaces
 have h1:(1:Int) > 0:=by omega
 simp only[h1,if_true,Int.ediv_one]
 split <;> omega
theorem uN {v:Value} {o:Option Int} {Q:Option Int->Shared->Prop} (p:IsPart v o) (h:Q o s):wpAny (model prog w) A (Builtin.Slice.slicePartIndex v) Q E s:=by
 cases p with
 | none=>exact slicePart_none h
 | int i t=>exact slicePart_int h
theorem pX {sl:Addr} {vl vu:Value} {lo hi:Option Int} {n:Nat} {Q:Int × Int × Nat->Shared->Prop} (hs:s.heap.IsSliceOf sl vl vu .none) (pl:IsPart vl lo) (pu:IsPart vu hi)
  (h:Q (((sIx n 0 lo:Nat):Int),1,sIx n n hi-sIx n 0 lo) s):wpAny (model prog w) A (Builtin.Slice.sliceApplied (.ref sl) (pure (n:Int))) Q E s:=by
 obtain⟨os,hos,hcs,hds⟩:=id hs
 unfold Builtin.Slice.sliceApplied Builtin.Slice.sliceFields
 refine wpAny_bind (wpAny_bind (wpAny_field hos hds (x:=vl) rfl (wpAny_bind (wpAny_field hos hds (x:=vu) rfl (wpAny_bind (wpAny_field hos hds (x:=.none) rfl (wpAny_pure ?_)))))))
 refine wpAny_bind (slicePart_none ?_)
 show wpAny _ _ (if ((1:Int) == 0)=true then _ else _) _ _ s
 rw[if_neg (by decide)]
 refine wpAny_bind (uN pl (wpAny_bind (uN pu (wpAny_bind (wpAny_pure ?_)))))
 show wpAny _ _ (match Builtin.Slice.sliceAdjust lo hi 1 (n:Int) with | (lo,hi)=>pure (lo,(1:Int),Builtin.Slice.slicePlaces lo hi 1)) _ _ s
 rw[CD lo hi n]
 show wpAny _ _ (pure (((sIx n 0 lo:Nat):Int),(1:Int),Builtin.Slice.slicePlaces ((sIx n 0 lo:Nat):Int) ((sIx n n hi:Nat):Int) 1)) _ _ s
 rw[DF]
 exact wpAny_pure h
theorem LQ (xs:Array Value) (i k:Nat):((List.range k).filterMap λ(m:Nat)=>xs[((i:Int)+(m:Int)*1).toNat]?).toArray=((xs.toList.drop i).take k).toArray:=by
 have e:(λ(m:Nat)=>xs[((i:Int)+(m:Int)*1).toNat]?)=λm=>xs[i+m]?:=by
  funext m
  have:((i:Int)+(m:Int)*1).toNat=i+m:=by omega
  rw[this]
 rw[e]
 have:=pick_run xs i k
 rw[List.filterMap_map] at this
 have e2:((λx=>xs[x]?) ∘ λx=>i+x)=λm=>xs[i+m]?:=rfl
 rw[e2] at this
 rw[this]
theorem getItem_tuple_cut {t sl:Addr} {items:Array Value} {vl vu:Value} {lo hi:Option Int} {Q:Value->Shared->Prop} (ht:IsTup s.heap t items) (hs:s.heap.IsSliceOf sl vl vu .none) (pl:IsPart vl lo) (pu:IsPart vu hi)
  (hw:¬(sIx items.size 0 lo=0/\sIx items.size items.size hi=items.size))
  (h:Q (.ref s.heap.objs.size) { s with heap:=s.heap.push { cls:=.type "tuple",data:=.seq ((items.toList.drop (sIx items.size 0 lo)).take (sIx items.size items.size hi-sIx items.size 0 lo)).toArray } })
  (hsz:items.size<=sizeLine):wpAny (model prog w) A (getItem (.ref t) (.ref sl)) Q E s:=by
 have htake:sizeOk (.seq ((items.toList.drop (sIx items.size 0 lo)).take (sIx items.size items.size hi-sIx items.size 0 lo)).toArray):=by
  show ((items.toList.drop (sIx items.size 0 lo)).take (sIx items.size items.size hi-sIx items.size 0 lo)).toArray.size<=sizeLine
  rw[List.size_toArray,List.length_take,List.length_drop,Array.length_toList]
  omega
 have hj:sIx items.size items.size hi<=items.size:=TY _ _ (Nat.le_refl _) hi
 obtain⟨os,hos,hcs,hds⟩:=id hs
 have hTs:s.TypeIs (.ref sl) "slice":=⟨os,hos,hcs⟩
 unfold getItem
 try with_reducible refine wpAny_holding ?_
 first | refine wpAny_bind (wpAny_pure ?_) | skip
 refine wpAny_bind (wpAny_sequenceKey ht.typeIs (by decide) ?_)
 refine wpAny_bind (wpAny_callSpecial?_slot (name:=Str.ofString "__getitem__") ht.typeIs PyProof.Rows.slot_tuple_getitem
  (wpAny_call_entry PyProof.Rows.slot_tuple_getitem ht.typeIs entry_tuple_getitem ?_ (args_tuple_getitem _ _)))
 show wpAny _ _ (Builtin.Tuple.tupleItemsOf (.ref t) >>= _) _ _ s
 refine wpAny_bind (tupleItemsOf_ ht ?_)
 refine wpAny_bind (wpAny_typeOf hTs ?_)
 rw[if_pos (by decide)]
 refine wpAny_bind (pX hs pl pu ?_)
 have hno:¬((((sIx items.size 0 lo:Nat):Int) == 0 && (1:Int) == 1 && (sIx items.size items.size hi-sIx items.size 0 lo) == items.size)=true):=by
  intro q
  rw[Bool.and_eq_true,Bool.and_eq_true] at q
  have q1:((sIx items.size 0 lo:Nat):Int)=0:=eq_of_beq q.1.1
  have q2:sIx items.size items.size hi-sIx items.size 0 lo=items.size:=eq_of_beq q.2
  exact hw ⟨by omega,by omega⟩
 show wpAny _ _ (if (((sIx items.size 0 lo:Nat):Int) == 0 && (1:Int) == 1 && (sIx items.size items.size hi-sIx items.size 0 lo) == items.size)=true then _ else _) _ _ s
 rw[if_neg hno,LQ]
 first
  | exact wpAny_bind (m:=Builtin.Tuple.tupleExact _) (wpAny_newObj_type (wpAny_pure ⟨_,rfl,wpAny_pure h⟩) htake)
  | exact wpAny_bind (m:=Builtin.Tuple.tupleExact _) (wpAny_newObj_type (wpAny_bind (wpAny_pure (wpAny_pure ⟨_,rfl,wpAny_pure h⟩))) htake)
  | exact wpAny_bind (wpAny_bind (m:=Builtin.Tuple.tupleExact _) (wpAny_newObj_type (wpAny_pure (wpAny_pure ⟨_,rfl,wpAny_pure h⟩)) htake))
  | exact wpAny_bind (wpAny_bind (m:=Builtin.Tuple.tupleExact _) (wpAny_newObj_type (wpAny_pure ⟨_,rfl,wpAny_pure h⟩) htake))
end
end HT
namespace L2
open PySem PySem.Spec PyProof.Rows
noncomputable abbrev TO:=St->Hp->(Option Int->Hp->Prop)->Prop
noncomputable def PO (X:Cx) (e:Option Expr) (t:TO):Prop :=
 ∀(pins:List (Addr × Obj)) (s:Shared) (σ:St) (H:Hp) (Q:Option Int->Hp->Prop),Inv X pins σ H s->t σ H Q ->
  wpAny (model X.prog X.w) X.A (evalPart e X.env) (λu s'=>∃o H',Inv X pins σ H' s'/\IsPart u o/\Q o H') X.xe s
noncomputable def PU:TO:=λ_ H Q=>Q none H
noncomputable def WP (t:TE):TO:=λσ H Q=>t σ H λx H1=>∃i,x = .int i/\Q (some i) H1
theorem CM {ns:List Int}:∀{us:List Value},Vals (ns.map V.int) us->IntsAre us ns:=by
 induction ns with
 | nil=>intro us r;rw[List.map_nil] at r;cases r;exact .nil
 | cons n ns ih =>
  intro us r
  rw[List.map_cons] at r
  cases r with
  | cons r1 r2 =>
   obtain⟨t,e⟩:=r1
   subst e
   exact .cons n t (ih r2)
section
variable {X:Cx} {e:Expr} {te:TE} {lo hi:Option Expr} {tl th:TO} {pos p2:Pos}
theorem FF:PO X none PU:=by
 intro pins s σ H Q I h
 rw[evalPart_none]
 exact wpAny_pure ⟨none,H,I,.none,h⟩
theorem yL (h:PE X e te):PO X (some e) (WP te):=by
 intro pins s σ H Q I hw
 rw[evalPart_some]
 refine thn (h pins s σ H _ I hw) λu s1 ⟨x,H1,I1,r1,q1⟩=>?_
 obtain⟨i,rfl,q⟩:=q1
 obtain⟨t,rfl⟩:=r1
 exact⟨some i,H1,I1,.int i t,q⟩
noncomputable def SlR (X:Cx) (r:V->Option Int->Option Int->Hp->VK->Prop):Prop :=
 ∀(pins:List (Addr × Obj)) (s:Shared) (σ:St) (H:Hp) (x:V) (v vl vu:Value) (lo hi:Option Int) (sl:Addr) (Q:VK),Inv X pins σ H s->RelV x v->s.heap.IsSliceOf sl vl vu .none->IsPart vl lo->IsPart vu hi->r x lo hi H Q ->
  ∃T id,typeLookup (.type T) "__getitem__" = pure (some (.builtin id))/\s.TypeIs v T/\wpAny (model X.prog X.w) X.A (getItem v (.ref sl)) (EP X pins σ Q) X.xe s
theorem SlR.or {r r':V->Option Int->Option Int->Hp->VK->Prop} (h:SlR X r) (h':SlR X r'):SlR X (λx lo hi H Q=>r x lo hi H Q\/r' x lo hi H Q):=by
 intro pins s σ H x v vl vu lo hi sl Q I rx hs pl pu q
 rcases q with q | q
 ·exact h pins s σ H x v vl vu lo hi sl Q I rx hs pl pu q
 ·exact h' pins s σ H x v vl vu lo hi sl Q I rx hs pl pu q
noncomputable def tSl (r:V->Option Int->Option Int->Hp->VK->Prop) (te:TE) (tl th:TO):TE:=λσ H Q=>te σ H λx H1=>tl σ H1 λl H2=>th σ H2 λu H3=>r x l u H3 Q
theorem LN {r:V->Option Int->Option Int->Hp->VK->Prop} (hr:SlR X r) (he:PE X e te) (hl:PO X lo tl) (hu:PO X hi th):PE X (.Subscript e (.Slice lo hi none p2) pos) (tSl r te tl th):=by
 intro pins s σ H Q I h
 refine Subscript_ (thn (he pins s σ H _ I h) λv s1 ⟨x,H1,I1,r1,q1⟩=>?_)
 refine wpAny_Slice (thn (hl pins s1 σ H1 _ I1 q1) λvl s2 ⟨l,H2,I2,pl,q2⟩=>thn (hu pins s2 σ H2 _ I2 q2) λvu s3 ⟨u,H3,I3,pu,q3⟩=>?_)
 rw[evalPart_none]
 refine wpAny_pure ?_
 have I4:Inv X pins σ H3 { s3 with heap:=s3.heap.push { cls:=.type "slice",data:=.fields #[vl,vu,.none] } }:=I3.kept (t':=s3.toks) λb ob q=>Heap.get?_push_of_some _ q
 obtain⟨T,id,hT,ht,hg⟩:=hr pins { s3 with heap:=s3.heap.push { cls:=.type "slice",data:=.fields #[vl,vu,.none] } } σ H3 x v vl vu l u s3.heap.objs.size Q I4 r1 (Heap.IsSliceOf.new ..) pl pu q3
 show wpAny (model X.prog X.w) X.A (subscriptTail e (.Slice lo hi none p2) v (.ref s3.heap.objs.size)) (EP X pins σ Q) X.xe { s3 with heap:=s3.heap.push { cls:=.type "slice",data:=.fields #[vl,vu,.none] } }
 exact tail_any (ops:=[.ref s3.heap.objs.size,v]) ht hT hg (by with_unfolding_all rfl)
noncomputable def zP (xs:List V) (lo hi:Option Int):List V:=(xs.drop (HT.sIx xs.length 0 lo)).take (HT.sIx xs.length xs.length hi-HT.sIx xs.length 0 lo)
theorem qD (xs:List V) (lo hi:Option Int):(zP xs lo hi).length<=xs.length:=by
 unfold zP
 rw[List.length_take,List.length_drop]
 omega
noncomputable def XL (K:PySem.W.Frag):V->Option Int->Option Int->Hp->VK->Prop:=λx lo hi H Q=>∃a xs,x = .ref a/\SqT K H a xs /\
 ¬(HT.sIx xs.length 0 lo=0/\HT.sIx xs.length xs.length hi=xs.length)/\∀p,H p=none->Q (.ref p) (upd H p (.tup (zP xs lo hi)))
theorem UD:SlR X (XL X.K):=by
 intro pins s σ H x v vl vu lo hi sl Q I rx hs pl pu h
 obtain⟨a,xs,rfl,hx,hw,q⟩:=h
 cases rx
 obtain⟨its,r,ht,hz⟩:=I.tuple hx
 have hlen:its.toArray.size=xs.length:=by rw[List.size_toArray];exact r.length.symm
 refine⟨"tuple",_,PyProof.Rows.slot_tuple_getitem.lookup,ht.typeIs,?_⟩
 refine HT.getItem_tuple_cut ht hs pl pu (by rw[hlen];exact hw) ?_ (by rw[hlen];exact hz)
 rw[hlen]
 refine⟨.ref s.heap.objs.size,_,I.laid (t':=s.toks) (o:=.tup (zP xs lo hi)) (λb ob q=>Heap.get?_push_of_some _ q) (Nat.le_refl _) ?_,rfl,q _ (I.hok.fresh (Nat.le_refl _))⟩
 exact⟨Nat.le_trans (qD xs lo hi) hz,_,(r.drop (HT.sIx xs.length 0 lo)).take (HT.sIx xs.length xs.length hi-HT.sIx xs.length 0 lo),IsTup.new _ _⟩
noncomputable def WD (K:PySem.W.Frag):R2:=λx y H Q=>∃a b xs ys,x = .ref a/\y = .ref b/\SqT K H a xs/\SqT K H b ys/\xs≠[]/\xs.length+ys.length<=sizeLine /\
 (ys=[]->Q (.ref a) H)/\(ys≠[]->∀p,H p=none->Q (.ref p) (upd H p (.tup (xs++ys))))
theorem Vals.nil_iff {xs:List V} {us:List Value} (r:Vals xs us):us=[]↔xs=[]:=by
 cases r with
 | nil=>simp
 | cons _ _=>simp
theorem OU:OpR X (binaryOp .Add) (WD X.K):=by
 intro pins s σ H x y v u Q I rx ry h
 obtain⟨a,b,xs,ys,rfl,rfl,ha,hb,hx,hz,q1,q2⟩:=h
 cases rx
 cases ry
 obtain⟨its,r1,p1,_⟩:=I.tuple ha
 obtain⟨its2,r2,p2,_⟩:=I.tuple hb
 refine HT.cat_tup p1 p2 (λz=>hx (r1.nil_iff.mp z)) (λz=>⟨.ref a,H,I,rfl,q1 (r2.nil_iff.mp z)⟩) (λz=>?_) (by rw[<-r1.length,<-r2.length];exact hz)
 refine⟨.ref s.heap.objs.size,_,I.laid (t':=s.toks) (o:=.tup (xs++ys)) (λb ob q=>Heap.get?_push_of_some _ q) (Nat.le_refl _) ?_,rfl,q2 (λw=>z (r2.nil_iff.mpr w)) _ (I.hok.fresh (Nat.le_refl _))⟩
 exact⟨by rw[List.length_append];exact hz,_,r1.append r2,IsTup.new _ _⟩
end
end L2
namespace L2
open PySem PySem.Spec PyProof.Rows
noncomputable def ixN (n:Nat) (i:Int):Option Nat:=if 0<=i then (if i<n then some i.toNat else none) else if -(n:Int)<=i then some (i+n).toNat else none
noncomputable def atI {α:Type} (xs:List α) (i:Int):Option α:=(ixN xs.length i).bind λj=>xs[j]?
theorem NZ {n:Nat} {i:Int} {j:Nat} (h:ixN n i=some j):seqIndex? i n=some j/\j<n/\-(n:Int)<=i/\i<n:=by
 unfold ixN at h
 by_cases h0:0<=i
 ·rw[if_pos h0] at h
  by_cases h1:i<n
  ·rw[if_pos h1] at h
   have e:i.toNat=j:=Option.some.inj h
   exact⟨by rw[seqIndex_of h0 h1,e],by omega,by omega,h1⟩
  ·rw[if_neg h1] at h;cases h
 ·rw[if_neg h0] at h
  by_cases h1:-(n:Int)<=i
  ·rw[if_pos h1] at h
   have e:(i+n).toNat=j:=Option.some.inj h
   exact⟨by rw[seqIndex_neg (by omega) h1,e],by omega,h1,by omega⟩
  ·rw[if_neg h1] at h;cases h
theorem xE {α:Type} {xs:List α} {i:Int} {v:α} (h:atI xs i=some v):∃j,seqIndex? i xs.length=some j/\xs[j]? = some v/\j<xs.length/\-(xs.length:Int)<=i/\i<xs.length:=by
 unfold atI at h
 cases e:ixN xs.length i with
 | none=>rw[e] at h;cases h
 | some j =>
  rw[e] at h
  obtain⟨h1,h2,h3,h4⟩:=NZ e
  exact⟨j,h1,h,h2,h3,h4⟩
theorem dN {α:Type} {xs:List α} {j:Nat} {v:α} (h:xs[j]? = some v):atI xs (j:Int)=some v:=by
 have hj:j<xs.length:=(List.getElem?_eq_some_iff.mp h).1
 have e:ixN xs.length (j:Int)=some j:=by
  unfold ixN
  rw[if_pos (by omega),if_pos (by omega)];simp
 unfold atI;rw[e];exact h
noncomputable def xC (b:Expr):Prop:=∀o i,subscripted b false o i=operate [o,i] (getItem o i)
noncomputable def IxR (X:Cx) (r:R2):Prop :=
 ∀(value slice:Expr) (pins:List (Addr × Obj)) (s:Shared) (σ:St) (H:Hp) (x y:V) (v u:Value) (Q:VK),Inv X pins σ H s->RelV x v->RelV y u->r x y H Q ->
  subscripted slice false v u=operate [v,u] (getItem v u)->wpAny (model X.prog X.w) X.A (subscriptTail value slice v u) (EP X pins σ Q) X.xe s
noncomputable def MtR (X:Cx) (id:String) (r:V->List V->Hp->VK->Prop):Prop :=
 ∀(pins:List (Addr × Obj)) (s:Shared) (σ:St) (H:Hp) (x:V) (xs:List V) (v:Value) (us:List Value) (Q:VK),Inv X pins σ H s->RelV x v->Vals xs us->r x xs H Q ->
  wpAny (model X.prog X.w) X.A (call (.builtin id) (v::us)) (EP X pins σ Q) X.xe s
section
variable {X:Cx} {a b:Expr} {ta tb:TE} {pos:Pos}
theorem IxR.or {r r':R2} (h:IxR X r) (h':IxR X r'):IxR X (λx y H Q=>r x y H Q\/r' x y H Q):=by
 intro value slice pins s σ H x y v u Q I rx ry q hs
 rcases q with q | q
 ·exact h value slice pins s σ H x y v u Q I rx ry q hs
 ·exact h' value slice pins s σ H x y v u Q I rx ry q hs
theorem VW {r:R2} (hr:IxR X r) (ha:PE X a ta) (hb:PE X b tb) (hs:xC b):PE X (.Subscript a b pos) (tOp r ta tb):=by
 intro pins s σ H Q I h
 exact Subscript_ (RJ ha hb I h λv u s2 x y H2 I2 rx ry q=>hr a b pins s2 σ H2 x y v u Q I2 rx ry q (hs _ _))
noncomputable def XG (K:PySem.W.Frag):R2:=λx y H Q=>∃p xs i v,x = .ref p/\y = .int i/\SqL K H p xs/\atI xs i=some v/\Q v H
noncomputable def XH (K:PySem.W.Frag):R2:=λx y H Q=>∃p xs i v,x = .ref p/\y = .int i/\SqT K H p xs/\atI xs i=some v/\Q v H
theorem OA:IxR X (XG X.K):=by
 intro value slice pins s σ H x y v u Q I rx ry h hs
 obtain⟨p,xs,i,z,rfl,rfl,hq,he,q⟩:=h
 cases rx
 obtain⟨t,rfl⟩:=ry
 obtain⟨its,r,pl,hz⟩:=I.list hq
 obtain⟨j,h1,h2,h3,h4,h5⟩:=xE he
 obtain⟨w,ew,rw'⟩:=r.get h2
 have hl:=r.length
 have hn:=yE
 have fin:EP X pins σ Q w s:=⟨z,H,I,rw',q⟩
 by_cases h0:0<=i
 ·have hj:i.toNat=j:=by
   rw[seqIndex_of h0 h5] at h1
   exact Option.some.inj h1
  exact item_listR pl.isList h0 (by omega) (by rw[hj];simpa using ew) fin hs
 ·have hj:(i+(its.toArray.size:Int)).toNat=j:=by
   rw[seqIndex_neg (by omega) h4] at h1
   rw[List.size_toArray,<-hl]
   exact Option.some.inj h1
  exact subscriptTail_builtinR (x:=w) pl.isList.typeIs slot_list_getitem.lookup
   (wpAny_getItem_list_neg (Q:=λr s'=>r=w/\EP X pins σ Q r s') pl.isList (by omega) (by rw[List.size_toArray] <;> omega) (by omega) (by rw[hj];simpa using ew) ⟨rfl,fin⟩) hs
theorem SK:IxR X (XH X.K):=by
 intro value slice pins s σ H x y v u Q I rx ry h hs
 obtain⟨p,xs,i,z,rfl,rfl,hq,he,q⟩:=h
 cases rx
 obtain⟨t,rfl⟩:=ry
 obtain⟨its,r,pl,hz⟩:=I.tuple hq
 obtain⟨j,h1,h2,h3,h4,h5⟩:=xE he
 obtain⟨w,ew,rw'⟩:=r.get h2
 have hl:=r.length
 have hn:=yE
 have fin:EP X pins σ Q w s:=⟨z,H,I,rw',q⟩
 exact subscriptTail_builtinR (x:=w) pl.typeIs slot_tuple_getitem.lookup
  (getItem_tuple (j:=j) (Q:=λr s'=>r=w/\EP X pins σ Q r s') pl (by omega) (by omega) (by rw[List.size_toArray,<-hl];exact h1) (by simpa using ew) ⟨rfl,fin⟩) hs
theorem yR (lo hi:Option Int) (n:Nat):(sliceBounds lo hi none n).1=((HT.sIx n 0 lo:Nat):Int)/\(sliceBounds lo hi none n).2.1=((HT.sIx n n hi:Nat):Int)/\(sliceBounds lo hi none n).2.2=1:=by
 refine⟨?_,?_,rfl⟩
 ·cases lo with
  | none=>simp[sliceBounds,HT.sIx]
  | some i =>
   simp only[sliceBounds,HT.sIx,Option.getD_none,show (1:Int) > 0 by decide,if_true]
   by_cases h:i<0
   ·simp only[h,if_true] <;> omega
   ·simp only[h,if_false] <;> omega
 ·cases hi with
  | none=>simp[sliceBounds,HT.sIx]
  | some i =>
   simp only[sliceBounds,HT.sIx,Option.getD_none,show (1:Int) > 0 by decide,if_true]
   by_cases h:i<0
   ·simp only[h,if_true] <;> omega
   ·simp only[h,if_false] <;> omega
theorem vL (its:List Value) (lo hi:Option Int):slicePick its.toArray lo hi none=((its.drop (HT.sIx its.length 0 lo)).take (HT.sIx its.length its.length hi-HT.sIx its.length 0 lo)).toArray:=by
 obtain⟨h1,h2,h3⟩:=yR lo hi its.toArray.size
 unfold slicePick
 rw[h1,h2,h3]
 simp only[sliceRange_one,pick_run,List.size_toArray] <;> rfl
noncomputable def XJ (K:PySem.W.Frag):V->Option Int->Option Int->Hp->VK->Prop:=λx lo hi H Q=>∃a xs,x = .ref a/\SqL K H a xs/\∀p,H p=none->Q (.ref p) (upd H p (.lst (zP xs lo hi)))
theorem PN:SlR X (XJ X.K):=by
 intro pins s σ H x v vl vu lo hi sl Q I rx hs pl pu h
 obtain⟨a,xs,rfl,hx,q⟩:=h
 cases rx
 obtain⟨its,r,ht,hz⟩:=I.list hx
 have hlen:=r.length
 refine⟨"list",_,slot_list_getitem.lookup,ht.isList.typeIs,?_⟩
 refine wpAny_getItem_list_slice ht.isList hs pl pu .none (by simp) ?_ (by rw[List.size_toArray] <;> omega)
 rw[vL,<-hlen]
 refine⟨.ref s.heap.objs.size,_,I.laid (t':=s.toks) (o:=.lst (zP xs lo hi)) (λb ob q=>Heap.get?_push_of_some _ q) (Nat.le_refl _) ?_,rfl,q _ (I.hok.fresh (Nat.le_refl _))⟩
 exact⟨Nat.le_trans (qD xs lo hi) hz,_,0,(r.drop (HT.sIx xs.length 0 lo)).take (HT.sIx xs.length xs.length hi-HT.sIx xs.length 0 lo),Heap.get?_push_size _ rfl⟩
theorem xJ:sQ X (.builtin "len") (λxs H Q=>∃p ys,xs=[.ref p]/\(SqL X.K H p ys\/SqT X.K H p ys)/\Q (.int ys.length) H):=by
 intro pins s σ H xs us Q I r h
 obtain⟨p,ys,rfl,hq,q⟩:=h
 obtain⟨u,rfl,rx⟩:=lX r
 cases rx
 have hn:=yE
 rcases hq with hq | hq
 ·obtain⟨its,r',pl,hz⟩:=I.list hq
  have hlen:=r'.length
  exact Calls.call_len_list pl.isList (by simp only[List.size_toArray] <;> omega) ⟨.int ys.length,H,I.tok _,⟨s.toks+1,by rw[List.size_toArray,hlen]⟩,q⟩
 ·obtain⟨its,r',pl,hz⟩:=I.tuple hq
  have hlen:=r'.length
  exact len_tuple pl (by simp only[List.size_toArray] <;> omega) ⟨.int ys.length,H,I.tok _,⟨s.toks+1,by rw[List.size_toArray,hlen]⟩,q⟩
noncomputable def tyV (K:PySem.W.Frag) (T:String) (x:V) (H:Hp):Prop:=match x with
 | .str _=>T = "str"
 | .int _=>T = "int"
 | .ref p=>(T = "list"/\∃xs,SqL K H p xs)\/(T = "tuple"/\∃o,K.lookup p=some o/\o.cls = .type "tuple"/\o.dict=none) \/
   (T = "dict"/\((∃kvs,H p=some (.dK kvs))\/∃kvs,H p=some (.dT kvs)))\/(T = "set"/\∃S n,H p=some (.set S n))
 | _=>False
theorem UL {pins:List (Addr × Obj)} {σ:St} {H:Hp} {s:Shared} {T:String} {x:V} {v:Value} (I:Inv X pins σ H s) (r:RelV x v) (ty:tyV X.K T x H) :
  s.TypeIs v T/\∀a,v = .ref a->∃ob,s.heap.get? a=some ob/\ob.dict=none:=by
 cases x with
 | str z =>
  obtain⟨t,rfl⟩:=r
  cases (show T = "str" from ty)
  exact⟨typeIs_str s z t,λ_ e=>nomatch e⟩
 | int i =>
  obtain⟨t,rfl⟩:=r
  cases (show T = "int" from ty)
  exact⟨typeIs_int s i t,λ_ e=>nomatch e⟩
 | ref p =>
  cases r
  rcases ty with ⟨rfl,xs,hq⟩ | ⟨rfl,o,hk,hc,hd⟩ | ⟨rfl,hk⟩ | ⟨rfl,S,n,hk⟩
  ·obtain⟨its,_,pl,_⟩:=I.list hq
   refine⟨pl.isList.typeIs,λa e=>?_⟩
   cases e
   obtain⟨o,n,e,c,hd,_⟩:=pl
   exact⟨o,e,hd⟩
  ·refine⟨⟨o,I.kIn p o hk,hc⟩,λa e=>?_⟩
   cases e
   exact⟨o,I.kIn _ o hk,hd⟩
  ·have z:∃o,s.heap.get? p=some o/\o.ExactDict:=by
    rcases hk with ⟨kvs,hk⟩ | ⟨kvs,hk⟩
    ·obtain⟨_,_,_,_,o,_,_,e,ex,_⟩:=I.hok p _ hk
     exact⟨o,e,ex⟩
    ·obtain⟨_,_,_,_,o,_,_,e,ex,_⟩:=I.hok p _ hk
     exact⟨o,e,ex⟩
   obtain⟨o,e,ex⟩:=z
   refine⟨⟨o,e,ex.1⟩,λa e2=>?_⟩
   cases e2
   exact⟨o,e,ex.2.1⟩
  ·obtain⟨o,_,_,_,e,ex,_⟩:=I.hok p _ hk
   refine⟨⟨o,e,ex.1⟩,λa e2=>?_⟩
   cases e2
   exact⟨o,e,ex.2.1⟩
 | _=>exact False.elim ty
noncomputable def tBM (K:PySem.W.Frag) (T:String) (r:V->List V->Hp->VK->Prop) (to:TE) (t:TA):TE:=λσ H Q=>to σ H λx H1=>tyV K T x H1/\t σ H1 λxs H2=>r x xs H2 Q
variable {o e:Expr} {es:List Expr} {to:TE} {t:TA} {name:Str} {apos cpos:Pos} {T id:String} {r:V->List V->Hp->VK->Prop}
theorem AW (pa:PlainAttrs T) (slot:Slot T name id) (hty:typeOf (.builtin id)=pure (.type "method_descriptor")) (hm:MtR X id r) (ho:PE X o to) (ha:PA X (e::es) t)
  (hbase:attributeBase o name X.env (eval o X.env)=eval o X.env:=by rfl)
  (hfew:((backTo cpos (starEach (e::es) X.env)).all (λx=>!x.1) && (backToKw cpos (keywordEach [] X.env)).all (λx=>x.1.isSome)
   && decide ((e::es).length+([]:List Keyword).length+(if ([]:List Keyword).isEmpty then 0 else 1)<30))=true:=by rfl)
  (hline:(apos.endLine == cpos.line)=true:=by rfl) (hs:starEach (e::es) X.env=(false,eval e X.env)::starEach es X.env:=by rfl) (hplain:(backTo cpos (starEach es X.env)).any (·.1)=false:=by rfl) :
  PE X (.Call (.Attribute o name apos) (e::es) [] cpos) (tBM X.K T r to t):=by
 intro pins s σ H Q I h
 refine wpAny_Call_method_late hbase hfew hline rfl (thn (ho pins s σ H _ I h) λv s1 ⟨x,H1,I1,r1,ty,q1⟩=>?_)
 obtain⟨h1,h2⟩:=UL I1 r1 ty
 refine⟨T,id,pa,slot,hty,h1,h2,?_⟩
 have hA:=ha cpos pins s1 σ H1 _ I1 q1
 rw[hs] at hA ⊢
 refine Calls.callWith_builtin (by show (false || (backTo cpos (starEach es X.env)).any (·.1))=false;rw[hplain] <;> rfl) (Calls.evalArgs_plain ?_)
 exact thn hA λus s2 ⟨vs,H2,I2,r2,q2⟩=>hm pins s2 σ H2 x vs v us Q I2 r1 r2 q2
end
end L2
namespace L2
open PySem PySem.Spec PyProof.Rows
noncomputable def MtM (X:Cx) (id:String) (r:V->List V->Hp->VK->Prop):Prop :=
 ∀(pins:List (Addr × Obj)) (s:Shared) (σ:St) (H:Hp) (x:V) (xs:List V) (v:Value) (us:List Value) (Q:VK),Inv X pins σ H s->RelV x v->Vals xs us->r x xs H Q ->
  wpAny (model X.prog X.w) X.A (call (.builtin id) (v::us)) (EP X pins σ Q) X.xe s
theorem Vals.one:∀{x:V} {us:List Value},Vals [x] us->∃u,us=[u]/\RelV x u
 | _,_,.cons r .nil=>⟨_,rfl,r⟩
theorem Vals.two:∀{x y:V} {us:List Value},Vals [x,y] us->∃u v,us=[u,v]/\RelV x u/\RelV y v
 | _,_,_,.cons r (.cons q .nil)=>⟨_,_,rfl,r,q⟩
section
variable {X:Cx} {pins:List (Addr × Obj)} {σ:St} {H:Hp} {s:Shared} {l b:Addr} {xs ys zs:List V}
theorem Inv.lset {its its':List Value} {n:Nat} {f:Array Value->Array Value} {t':Nat} (I:Inv X pins σ H s) (hH:H l=some (.lst xs))
  (e:s.heap.get? l=some { cls:=.type "list",data:=.seq its.toArray n }) (hf:f its.toArray=its'.toArray) (hv:Vals ys its') (hz:ys.length<=sizeLine) :
  Inv X pins σ (upd H l (.lst ys)) { s with heap:=s.heap.update l (Obj.mapSeq f),toks:=t' }:=by
 have q:=PySem.IsL.update e f
 rw[hf] at q
 refine I.write (x:=l) (e:=l) (by rw[hH];exact trivial) (.inl rfl) (λb' u hb hu=>(Heap.get?_update_other s.heap (Obj.mapSeq f) (Ne.symm hb)).trans hu) ⟨_,q⟩ ?_
 exact⟨hz,its',_,hv,q⟩
theorem Inv.lnew {its:List Value} {t':Nat} (I:Inv X pins σ H s) (hv:Vals ys its) (hz:ys.length<=sizeLine) :
  Inv X pins σ (upd H s.heap.objs.size (.lst ys)) { s with heap:=s.heap.push { cls:=.type "list",data:=.seq its.toArray },toks:=t' } :=
 I.laid (λ_ _ q=>Heap.get?_push_of_some _ q) (Nat.le_refl _) ⟨hz,its,0,hv,Heap.get?_push_size _ rfl⟩
theorem Inv.fresh (I:Inv X pins σ H s):H s.heap.objs.size=none:=I.hok.fresh (Nat.le_refl _)
theorem Inv.lstM (I:Inv X pins σ H s) (hH:H l=some (.lst xs)):xs.length<=sizeLine/\∃(its:List Value) (n:Nat),Vals xs its/\xs.length=its.length/\s.heap.get? l=some { cls:=.type "list",data:=.seq its.toArray n }:=by
 obtain⟨z,its,n,r,e⟩:=I.hok l _ hH
 exact⟨z,its,n,r,r.length,e⟩
theorem LC {n:Nat} (h:n<=sizeLine):Builtin.List.listTooLong n=false:=by
 unfold Builtin.List.listTooLong
 exact decide_eq_false (by omega)
end
section
variable {X:Cx}
noncomputable def FH:V->List V->Hp->VK->Prop:=λx vs H Q=>∃l xs y,x = .ref l/\vs=[y]/\H l=some (.lst xs)/\xs.length<sizeLine/\Q .non (upd H l (.lst (xs++[y])))
theorem wF:MtM X "list.append" FH:=by
 intro pins s σ H x vs v us Q I rx rv h
 obtain⟨l,xs,y,rfl,rfl,hH,hz,q⟩:=h
 cases rx
 obtain⟨u,rfl,ru⟩:=rv.one
 obtain⟨z,its,n,r,hl,e⟩:=I.lstM hH
 refine call_meets F.slot_list_append ⟨_,e,rfl⟩ F.entry_list_append (F.args_list_append_2 _ _) (PySem.list_append l its.toArray n u (by rw[List.size_toArray];omega)) ⟨e,?_⟩
 refine⟨.non,_,I.lset (its':=its++[u]) hH e (by simp) (r.append (.cons ru .nil)) ?_,rfl,q⟩
 rw[List.length_append,List.length_singleton]
 omega
end
section
variable {prog:Program} {w:World} {A:Around} {E:Value->Shared->Prop} {s:Shared}
end
section
variable {X:Cx}
end
end L2
namespace Att
open PySem PySem.W PySem.Calls PyProof.Rows
theorem rG {P:Params} {h:Heap}:∀(ns:List Int) (vs:List Value),WellAll P h vs (ns.map WData.int)->IntsAre vs ns:=by
 intro ns
 induction ns with
 | nil =>
  intro vs w
  rw[List.map_nil] at w
  cases w
  exact .nil
 | cons n ns ih =>
  intro vs w
  rw[List.map_cons] at w
  cases w with
  | cons a b =>
   cases a
   exact .cons _ _ (ih _ b)
theorem IA {l:OpenLaw} {n:Nat} (hn:l.most=some n) {P:Params} {h:Heap} {args:List WData} {vals:List Value}
  (hpre:l.row.toRowW.claim.pre args=true) (hwl:WellAll P h vals args) :
  ∃a vs ns,vals=[Value.ref a]/\args=[WData.list (ns.map WData.int)]/\h.get? a=some { cls:=.type "list",data:=.seq vs.toArray }/\IntsAre vs ns/\ns.length<=n:=by
 have hsh:WShape.hasAll [] args [.list .int]=true:=(pre_splitW hpre).1
 have hc:l.pre.holds [] { args:=args } = true:=(pre_splitW hpre).2
 obtain⟨d,r,rfl,h1,h2⟩:=hasAllW_cons hsh
 obtain rfl:=hasAllW_nil h2
 obtain⟨xs,rfl,h3⟩:=hasW_list h1
 obtain⟨ns,rfl⟩:=items_int h3
 have hlen:ns.length<=n:=by
  unfold OpenLaw.pre at hc
  have h4:(WTm.not (.lt (.lit (.int (n:Int))) (.len (.arg 0)))).holds [] { args:=[.list (ns.map .int)] } = true:=by
   have h4:=(holds_andW hc).1
   rw[hn] at h4
   exact h4
  have h5:=condW_of h4 (w_not (w_lt w_lit (w_len_list (w_arg rfl))))
  rw[List.length_map] at h5
  refine Nat.le_of_not_lt λq=>?_
  have q':(n:Int)<((ns.length:Nat):Int):=by omega
  first
   | (rw[decide_eq_true q'] at h5;exact absurd h5 (by decide))
   | (simp at h5;omega)
 cases hwl with
 | cons w1 w2 =>
  cases w2
  cases w1 with
  | list ho hall=>exact⟨_,_,ns,rfl,rfl,ho,rG ns _ hall,hlen⟩
theorem HL (l:OpenLaw) (args:List WData):l.row.toRowW.claim.post args (.bool true) args=true :=
 postW_of (r:=l.row.toRowW) (X:=(true == true))
  (show WShape.has [] (.bool true) .bool=true by first | rfl | decide | simp[WShape.has,WShape.arms,WShape.armsAll])
  (show (WTm.eq .res (.lit (.bool true))).value [] { args:=args,res:=some (.bool true),after:=args } = some (.bool (true == true)) from w_eq_bool (w_res rfl) w_lit) rfl
theorem attach_call {l:OpenLaw} {n:Nat} {q:Program} {loose:List Str} {XP:(Str->Option Value)->Heap->Prop} {YP:World->Heap->Prop} {d:DefRec}
  (hn:l.most=some n) (hdf:d.params.defaults=[])
  (call:∀(w:World) (s₀ s₁:Shared) (mg mb:Str->Option Value) (fa:Addr) (o:Obj) (pm cd doc:Value) (a:Addr) (vs:List Value) (ns:List Int),
   Ground q loose [] XP w s₀ mg mb s₁.heap->YP w s₁.heap ->
   s₁.heap.get? fa=some o->o.data = .func (docDef d.name d.params d.body d.scope pm cd doc)->s₁.heap.CodeRec cd d.name->mg d.name=some (.ref fa) ->
   s₁.heap.get? a=some { cls:=.type "list",data:=.seq vs.toArray }->IntsAre vs ns->ns.length<=n->s₁.gens = #[] ->
   codeAny (model l.prog w) callerA (.call (.ref fa) ⟨[.ref a],[]⟩) (λr s'=>r = .ok (.ret (.bool true))/\OldK s₁.heap s'.heap/\s'.os=s₁.os/\AllBare s'.gens) s₁) :
  WalkO q loose XP YP l.row.toRowW d [] (λf vs=>PySem.call f vs):=by
 intro w s₀ s₁ mg mb G Y fa o pm cd doc dV kV ho hd hcd hD hmg hg args vals as hpre hlay hrd hwl hlo
 obtain rfl:dV = .none:=Dflts.none hD hdf
 obtain rfl:kV = .none:=Dflts.noKw hD
 obtain⟨a,vs,ns,rfl,rfl,hobj,hints,hlen⟩:=IA hn hpre hwl
 refine enter_call (codeAny_mono (call w s₀ s₁ mg mb fa o pm cd doc a vs ns G Y ho (fd_plain hd) hcd hmg hobj hints hlen hg) λr s' hq=>?_)
 obtain⟨rfl,h2,h3,h4⟩:=hq
 exact⟨.inl ⟨.bool true,.bool true,[],rfl,λ_=>rfl,.bool true,HL l _,λ_=>⟨List.Pairwise.nil,λ_ hm=>(nomatch hm)⟩⟩,h2,h3,h4⟩
section
variable {prog:Program} {w:World} {A:Around} {E:Value->Shared->Prop} {s:Shared} {K:Frag}
end
end Att
namespace L2
open PySem PySem.Spec PyProof.Rows
theorem jZ:∀{vs:List Value} {ns:List Int},IntsAre vs ns->Vals (ns.map V.int) vs
 | _,_,.nil=>.nil
 | _,_,.cons n t h=>.cons ⟨t,rfl⟩ (jZ h)
end L2
namespace L2
open PySem PySem.Spec PyProof.Rows
noncomputable abbrev KOf {K:PySem.W.Frag} {h:Heap} (_:K.In h):PySem.W.Frag:=K
end L2
namespace L2
open PySem PySem.Spec PyProof.Rows
noncomputable def bA (s:Stmt):Arguments:=match s with
 | .FunctionDef _ a _ _ _ _ _ _ _ _=>a
 | _=>{ posonlyargs:=[],args:=[],vararg:=none,kwonlyargs:=[],kw_defaults:=[],kwarg:=none,defaults:=[] }
noncomputable def aM (s:Stmt):List Stmt:=match s with
 | .FunctionDef _ _ b _ _ _ _ _ _ _=>b
 | _=>[]
noncomputable def aC (s:Stmt):Scope:=match s with
 | .FunctionDef _ _ _ _ _ _ sc _ _ _=>sc
 | _=>{ kind:=.function,names:=[],isGenerator:=false,isCoroutine:=false }
noncomputable abbrev CX0:CXT:=λ_ _ _ _ _ _=>False
noncomputable abbrev E0:XK:=λ_ _ _=>False
theorem VU {X:Cx}:CC CX0 X E0:=λ_ _ _ _ _ _ _ h=>h.elim
structure Fun (K:PySem.W.Frag) (x qual:Str) (st:Stmt) (f:Addr) (fd:FuncData):Prop where
 ex:∃(oc:Value) (od:Option Addr) (kV doc pm:Value) (an:Option Addr) (cdv ct:Value) (osl:Array (Option Value)),
  fd=PySem.W.fnOf x qual (bA st) (aM st) (aC st) .none kV doc pm an cdv ct/\K.lookup f=some ⟨oc,od,.func fd,osl⟩/\PySem.W.codeIn K cdv qual=true
 kp:PySem.W.keepIn K (.ref f)=true
section
variable {P:Program} {w:World} {K:PySem.W.Frag} {mg:Str->Option Value} {base:Heap}
theorem Fun.ok {x qual:Str} {st:Stmt} {f:Addr} {fd:FuncData} {N ps:List Str} {k:Nat} {sp:Sp} (F:Fun K x qual st f fd) (S:FnScope N ps (aC st)) (len:∀vs H Q E,sp vs H Q E->vs.length=ps.length)
  (hbody:∀(cdv:Value) (A:Around) (outer:List Env) (s:Shared) (H:Hp) (vs:List V) (Q:VK) (E:XK),Room k (A.deeper (envOfC qual (aC st) s.heap.objs.size f cdv))->sp vs H Q E ->
   ∃t,PSs (cN CX0 P w K mg base N qual (aC st) f cdv A outer s H E).nox (aM st) t/\t { nx:=λ_ H'=>Q .non H',rt:=Q } (lU N vs) H):FnOk P w K mg base CX0 (k+1) f fd ps sp:=by
 obtain⟨oc,od,kV,doc,pm,an,cdv,ct,osl,rfl,lk,hcd⟩:=F.ex
 refine QI lk hcd S len λA outer s H vs Q E hr hsp=>?_
 obtain⟨t,h,q⟩:=hbody cdv A outer s H vs Q E hr hsp
 exact⟨t,h.nox,q⟩
theorem bI {x qual:Str} {st:Stmt} {f:Addr} {oc:Value} {od an:Option Addr} {osl:Array (Option Value)} {kV doc pm cdv ct:Value} (l:K.lookup f=some ⟨oc,od,.func (PySem.W.fnOf x qual (bA st) (aM st) (aC st) .none kV doc pm an cdv ct),osl⟩)
  (c:PySem.W.codeIn K cdv qual=true) (k:PySem.W.keepIn K (.ref f)=true):Fun K x qual st f (PySem.W.fnOf x qual (bA st) (aM st) (aC st) .none kV doc pm an cdv ct):=⟨⟨oc,od,kV,doc,pm,an,cdv,ct,osl,rfl,l,c⟩,k⟩
end
section
variable {X:Cx}
theorem pv (i:Nat) {x:Str} {pos:Pos} (hN:X.N[i]? = some x:=by rfl) (hv:Vis X.env.scope x:=by walk_at "vis") (hd:(x == ("__debug__":Str))=false:=by decide)
  (hcd:(x == ("__classdict__":Str))=false:=by decide):PE X (.Name x pos) (WR i):=TF hN hv hd hcd
end
noncomputable def Same (H H':Hp):Prop:=∀b o,H b=some o->H' b=some o
theorem Same.refl (H:Hp):Same H H:=λ_ _ h=>h
theorem Same.trans {H H1 H2:Hp} (a:Same H H1) (b:Same H1 H2):Same H H2:=λc o h=>b c o (a c o h)
theorem Same.free {H H':Hp} (e:Same H H') {l:Addr} (h:H' l=Option.none):H l=Option.none:=by
 cases q:H l with
 | none=>rfl
 | some o =>
  rw[e l o q] at h
  cases h
end L2
set_option linter.all false
namespace L2.R2
noncomputable abbrev Pt:=Int × Int
noncomputable def ltP (a b:Pt):Prop:=a.1<b.1\/(a.1=b.1/\a.2<b.2)
instance (a b:Pt):Decidable (ltP a b):=by unfold ltP;infer_instance
end L2.R2
set_option Elab.async false
set_option linter.all false
namespace L2.R2
noncomputable abbrev bJ:=Pt × Pt
noncomputable def sd (a b:Pt):List bJ:=if a.1<b.1 then [(a,b)] else if b.1<a.1 then [(b,a)] else []
noncomputable def cA:Pt->List Pt->List bJ
 | _,[]=>[]
 | a,b::r=>sd a b++cA b r
noncomputable def bP:List Pt->List bJ
 | []=>[]
 | a::r=>cA a (r++[a])
noncomputable def cov (c:Int) (s:bJ):Bool:=decide (s.1.1<=c) && decide (c<s.2.1)
noncomputable def oH:Pt->List Pt->Pt
 | a,[]=>a
 | _,b::r=>oH b r
theorem jS:∀(a:Pt) (r:List Pt) (b:Pt),oH a (r++[b])=b
 | _,[],_=>rfl
 | _,x::r,b=>jS x r b
noncomputable def fC {α:Type}:List α->List (α × α)
 | x::y::r=>(x,y)::fC r
 | _=>[]
end L2.R2
set_option Elab.async false
set_option linter.all false
namespace L2.R2
noncomputable def wid (s:bJ):Int:=s.2.1-s.1.1
noncomputable def hB (B:Int) (s:bJ) (t:Int):Int:=(s.1.2*wid s+(s.2.2-s.1.2)*(t-s.1.1))*B.fdiv (wid s)
noncomputable def slope (s:bJ):Int:=(s.2.2-s.1.2)*(60:Int).fdiv (wid s)
theorem yA {B w:Int} (hw:0<w) (h:w∣B):∃q,B=w*q/\B.fdiv w=q:=by
 obtain⟨q,rfl⟩:=h
 exact⟨q,rfl,by rw[Int.mul_comm];exact Int.mul_fdiv_cancel _ (Int.ne_of_gt hw)⟩
theorem AB {B:Int} {s:bJ} (hw:0<wid s) (h:wid s∣60) (hb:wid s∣B) (t:Int):60*hB B s t=B*hB 60 s t:=by
 obtain⟨q,e1,e2⟩:=yA hw h
 obtain⟨r,f1,f2⟩:=yA hw hb
 unfold hB
 rw[e2,f2]
 rw[e1]
 conv=>rhs;rw[f1]
 grind
theorem QL {B:Int} (hB0:0<B) {s s':bJ} (hw:0<wid s) (h:wid s∣60) (hb:wid s∣B) (hw':0<wid s') (h':wid s'∣60) (hb':wid s'∣B) (t:Int):hB B s t<hB B s' t↔hB 60 s t<hB 60 s' t:=by
 have e1:=AB hw h hb t
 have e2:=AB hw' h' hb' t
 constructor
 ·intro k
  refine Int.lt_of_mul_lt_mul_left (a:=B) ?_ (Int.le_of_lt hB0)
  rw[<-e1,<-e2];omega
 ·intro k
  have:=Int.mul_lt_mul_of_pos_left k hB0
  rw[<-e1,<-e2] at this;omega
structure SdOk (s:bJ):Prop where
 pos:0<wid s
 dvd:wid s∣60
noncomputable def kW (S:List bJ) (c:Int):Prop:=∀s∈S,∀s'∈S,cov c s=true->cov c s'=true->hB 60 s c<hB 60 s' c->hB 60 s (c+1)<=hB 60 s' (c+1)
theorem gC {c:Int} {s:bJ}:cov c s=true↔s.1.1<=c/\c<s.2.1:=by unfold cov;simp
theorem UA {a b:Pt} {s:bJ} (h:s∈sd a b):(s=(a,b)\/s=(b,a))/\0<wid s:=by
 unfold sd at h
 split at h
 ·rw[List.mem_singleton] at h;subst h;exact⟨.inl rfl,by unfold wid;dsimp only;omega⟩
 ·split at h
  ·rw[List.mem_singleton] at h;subst h;exact⟨.inr rfl,by unfold wid;dsimp only;omega⟩
  ·cases h
theorem BZ:∀{r:List Pt} {a:Pt} {s:bJ},s∈cA a r->∃p q,p∈a::r/\q∈a::r/\s∈sd p q
 | [],_,_,h=>by cases h
 | b::r,a,s,h=>by
  rw[cA] at h
  rcases List.mem_append.mp h with h | h
  ·exact⟨a,b,.head _,.tail _ (.head _),h⟩
  ·obtain⟨p,q,h1,h2,h3⟩:=BZ h
   exact⟨p,q,.tail _ h1,.tail _ h2,h3⟩
theorem wS {g:List Pt} {s:bJ} (h:s∈bP g):(s.1∈g/\s.2∈g)/\0<wid s:=by
 cases g with
 | nil=>cases h
 | cons a r =>
  obtain⟨p,q,h1,h2,h3⟩:=BZ h
  have m:∀x∈a::(r++[a]),x∈a::r:=λx hx=>by
   rcases List.mem_cons.mp hx with rfl | hx
   ·exact .head _
   ·rcases List.mem_append.mp hx with hx | hx
    ·exact .tail _ hx
    ·rw[List.mem_singleton.mp hx];exact .head _
  obtain⟨e,k⟩:=UA h3
  refine⟨?_,k⟩
  rcases e with rfl | rfl
  ·exact⟨m _ h1,m _ h2⟩
  ·exact⟨m _ h2,m _ h1⟩
end L2.R2
set_option Elab.async false
set_option linter.all false
namespace L2.R2
noncomputable abbrev IP:=Int × Int
noncomputable def prB (B c:Int) (s:bJ):IP:=(hB B s c,hB B s (c+1))
noncomputable def eE (M:List IP):Prop:=M.Pairwise λx y=>x.1<=y.1/\x.2<=y.2
theorem BI {M:List IP} (h:M.Pairwise λx y=>¬ltP y x) (u:∀x∈M,∀y∈M,x.1<y.1->x.2<=y.2):eE M:=by
 refine h.imp_of_mem λ{x y} hx hy n=>?_
 unfold ltP at n
 by_cases k:x.1<y.1
 ·exact⟨Int.le_of_lt k,u x hx y hy k⟩
 ·omega
theorem NF {S:List bJ} {c B:Int} (hB0:0<B) (ok:∀s∈S,SdOk s) (hd:∀s∈S,wid s∣B) (hc:∀s∈S,cov c s=true) (u:kW S c):∀x∈S.map (prB B c),∀y∈S.map (prB B c),x.1<y.1->x.2<=y.2:=by
 intro x hx y hy l
 obtain⟨s,hs,rfl⟩:=List.mem_map.mp hx
 obtain⟨t,ht,rfl⟩:=List.mem_map.mp hy
 have os:=ok s hs
 have ot:=ok t ht
 have k1:=(QL hB0 os.pos os.dvd (hd s hs) ot.pos ot.dvd (hd t ht) c).mp l
 have k2:=u s hs t ht (hc s hs) (hc t ht) k1
 refine Int.not_lt.mp λk3=>?_
 have:=(QL hB0 ot.pos ot.dvd (hd t ht) os.pos os.dvd (hd s hs) (c+1)).mp k3
 omega
end L2.R2
set_option linter.all false
namespace L2.R2
end L2.R2
set_option linter.all false
namespace L2.R2
end L2.R2
set_option linter.all false
namespace L2.R2
theorem oM {α:Type} [DecidableEq α]:∀(l m:List α),l.Nodup->(∀x∈l,x∈m)->l.length<=m.length
 | [],_,_,_=>Nat.zero_le _
 | x::l,m,hn,hs=>by
  have hx:=hs x (.head _)
  have hn':=List.nodup_cons.mp hn
  have:=oM l (m.erase x) hn'.2 λy hy=>(List.mem_erase_of_ne λ(e:y=x)=>hn'.1 (e ▸ hy)).mpr (hs y (.tail _ hy))
  rw[List.length_erase_of_mem hx] at this
  exact Nat.le_trans (Nat.succ_le_succ this) (Nat.le_of_eq (Nat.succ_pred_eq_of_pos (List.length_pos_of_mem hx)))
end L2.R2
set_option Elab.async false
set_option linter.all false
set_option maxRecDepth 100000
namespace L2.R2
open PySem PySem.Spec PyProof.Rows L2
inductive D where
 | non | bl (b:Bool) | int (i:Int) | str (x:Str) | tup (xs:List D) | lst (xs:List D) | dct (ks:List Int) (xs:List D) | dtt (ks:List (List Int)) (xs:List D)
noncomputable def FzL (K:PySem.W.Frag) (H:Hp) (a:Addr) (vs:List V):Prop :=
 (∃o,H a=some (.frz o (.lst vs))) \/
  ∃(o:Obj) (its:Array Value) (n:Nat),K.lookup a=some o/\o.cls = .type "list"/\o.dict=none/\o.data = .seq its n/\its.size<=sizeLine/\Vals vs its.toList
theorem FzL.sq {K:PySem.W.Frag} {H:Hp} {a:Addr} {vs:List V}:FzL K H a vs->SqL K H a vs
 | .inl ⟨o,h⟩=>.inl (.inr ⟨o,h⟩)
 | .inr h=>.inr h
noncomputable def iE (col:Nat):Str:=if col=28 then "rising.<locals>.<lambda>" else if col=59 then "framed_rising.<locals>.<lambda>" else "laid_triangles.<locals>.<lambda>"
noncomputable abbrev nS (c:Addr) (q:Str):HO:=.ext λh=>∃oc vs t,h.get? c=some oc/\oc.data = .fields vs/\vs[1]? = some (.str q t)
structure LamOk (H:Hp) (ps:Array Value):Prop where
 ok:TriplesOk ps.toList
 code:∀pos cv,codeAmong pos ps.toList=some cv->∃c,cv = .ref c/\H c=some (nS c (iE pos.col))
noncomputable def LamK (H H':Hp):Prop:=∀b ps,H b=some (.tbl ps)->∃more,H' b=some (.tbl (ps++more))/\(LamOk H ps->LamOk H' (ps++more))
theorem LamK.trans {H H1 H2:Hp} (a:LamK H H1) (b:LamK H1 H2):LamK H H2:=λc ps h=>by
 obtain⟨m1,e1,f1⟩:=a c ps h
 obtain⟨m2,e2,f2⟩:=b c _ e1
 exact⟨m1++m2,by rw[e2,Array.append_assoc],λx=>by rw[<-Array.append_assoc];exact f2 (f1 x)⟩
theorem LamOk.mono {H H':Hp} {ps:Array Value} (x:LamOk H ps) (k:∀b φ,H b=some (.ext φ)->H' b=some (.ext φ)):LamOk H' ps:=⟨x.ok,λpos cv e=>let ⟨c,e1,e2⟩:=x.code pos cv e;⟨c,e1,k _ _ e2⟩⟩
theorem LamK.of {H H':Hp} (k:∀b φ,H b=some (.ext φ)->H' b=some (.ext φ)) (h:∀b ps,H b=some (.tbl ps)->H' b=some (.tbl ps)):LamK H H':=λb ps e=>⟨#[],by rw[Array.append_empty];exact h b ps e,λx=>by rw[Array.append_empty];exact x.mono k⟩
noncomputable def NT:HO->Prop
 | .tbl _=>False
 | _=>True
structure Keep (H H':Hp):Prop where
 tups:∀b xs,H b=some (.tup xs)->H' b=some (.tup xs)
 frzs:∀b o u,H b=some (.frz o u)->H' b=some (.frz o u)
 exts:∀b φ,H b=some (.ext φ)->H' b=some (.ext φ)
 xds:∀b fs,H b=some (.xd fs)->H' b=some (.xd fs)
 tbls:LamK H H'
theorem Keep.refl (H:Hp):Keep H H:=⟨λ_ _ h=>h,λ_ _ _ h=>h,λ_ _ h=>h,λ_ _ h=>h,.of (λ_ _ h=>h) λ_ _ h=>h⟩
theorem Keep.trans {H H1 H2:Hp} (a:Keep H H1) (b:Keep H1 H2):Keep H H2 :=
 ⟨λc xs h=>b.tups c xs (a.tups c xs h),λc o u h=>b.frzs c o u (a.frzs c o u h),λc φ h=>b.exts c φ (a.exts c φ h),λc fs h=>b.xds c fs (a.xds c fs h),a.tbls.trans b.tbls⟩
structure Same (H H':Hp):Prop where
 get:∀b o,H b=some o->NT o->H' b=some o
 tbls:LamK H H'
theorem Same.fn {H H':Hp} (f:∀b o,H b=some o->H' b=some o):Same H H':=⟨λb o h _=>f b o h,.of (λb φ h=>f b _ h) λb ps h=>f b _ h⟩
theorem Same.refl (H:Hp):Same H H:=.fn λ_ _ h=>h
theorem Same.trans {H H1 H2:Hp} (a:Same H H1) (b:Same H1 H2):Same H H2:=⟨λc o h n=>b.get c o (a.get c o h n) n,a.tbls.trans b.tbls⟩
theorem Same.free {H H':Hp} (e:Same H H') {l:Addr} (h:H' l=Option.none):H l=Option.none:=by
 cases q:H l with
 | none=>rfl
 | some o =>
  cases o with
  | tbl ps=>obtain⟨m,e1,_⟩:=e.tbls l ps q;rw[e1] at h;cases h
  | _=>rw[e.get l _ q trivial] at h;cases h
theorem Same.tbl {H H':Hp} (s:Same H H') {b:Addr} {ps:Array Value} (h:H b=some (.tbl ps)):∃more,H' b=some (.tbl (ps++more)):=let ⟨m,e,_⟩:=s.tbls b ps h;⟨m,e⟩
theorem Keep.of {H H':Hp} (s:Same H H'):Keep H H':=⟨λb xs h=>s.get b _ h trivial,λb o u h=>s.get b _ h trivial,λb φ h=>s.get b _ h trivial,λb fs h=>s.get b _ h trivial,s.tbls⟩
theorem Keep.ofF {H H':Hp} (f:∀b o,H b=some o->H' b=some o):Keep H H':=.of (.fn f)
noncomputable def hX:List Str:=["rising","framed_rising","laid_triangles"]
noncomputable def TabsIn (K:PySem.W.Frag) (H:Hp):Prop:=∀x c P,x∈hX->PySem.W.tabIn K x=some (c,P)->∃ps,H P=some (.tbl ps)/\LamOk H ps
theorem TabsIn.tabK {K:PySem.W.Frag} {H H':Hp} (t:TabsIn K H) (k:LamK H H'):TabsIn K H':=λx c P m e=>by
 obtain⟨ps,h1,h2⟩:=t x c P m e
 obtain⟨more,h3,h4⟩:=k P ps h1
 exact⟨_,h3,h4 h2⟩
theorem Keep.chg1 {H:Hp} {p:Addr} {u u':HO} (h:H p=some u) (n:(∃xs,u = .lst xs)\/(∃kvs,u = .dK kvs)\/∃kvs,u = .dT kvs):Keep H (upd H p u'):=by
 have ne:∀b o,H b=some o->(∀xs,o≠.lst xs)->(∀kvs,o≠.dK kvs)->(∀kvs,o≠.dT kvs)->upd H p u' b=some o:=λb o q n1 n2 n3=>by
  rw[aI]
  ·exact q
  ·rintro rfl
   rw[h] at q;cases q
   rcases n with ⟨xs,rfl⟩ | ⟨kvs,rfl⟩ | ⟨kvs,rfl⟩
   ·exact n1 _ rfl
   ·exact n2 _ rfl
   ·exact n3 _ rfl
 exact⟨λb _ q=>ne b _ q (λ_ z=>by cases z) (λ_ z=>by cases z) (λ_ z=>by cases z),λb _ _ q=>ne b _ q (λ_ z=>by cases z) (λ_ z=>by cases z) (λ_ z=>by cases z),λb _ q=>ne b _ q (λ_ z=>by cases z) (λ_ z=>by cases z) (λ_ z=>by cases z),λb _ q=>ne b _ q (λ_ z=>by cases z) (λ_ z=>by cases z) (λ_ z=>by cases z),
  .of (λb _ q=>ne b _ q (λ_ z=>by cases z) (λ_ z=>by cases z) (λ_ z=>by cases z)) λb _ q=>ne b _ q (λ_ z=>by cases z) (λ_ z=>by cases z) (λ_ z=>by cases z)⟩
noncomputable def qK (ks:List Int) (vs:List V):List (Key × V):=List.zipWith (λk v=>(Sum.inl k,v)) ks vs
noncomputable def bO (ks:List (List Int)) (vs:List V):List (List Key × V):=List.zipWith (λk v=>(k.map Sum.inl,v)) ks vs
mutual
inductive Rep (K:PySem.W.Frag) (H:Hp):D->V->Prop
 | non:Rep K H .non .non
 | bl (b:Bool):Rep K H (.bl b) (.bl b)
 | int (i:Int):Rep K H (.int i) (.int i)
 | str (x:Str):Rep K H (.str x) (.str x)
 | tup {a:Addr} {vs:List V} {ds:List D} (h:H a=some (.tup vs)) (r:Reps K H ds vs):Rep K H (.tup ds) (.ref a)
 | lst {a:Addr} {vs:List V} {ds:List D} (h:FzL K H a vs) (r:Reps K H ds vs):Rep K H (.lst ds) (.ref a)
 | dct {a:Addr} {vs:List V} {ds:List D} {ks:List Int} {o:Obj} (h:H a=some (.frz o (.dK (qK ks vs)))) (hl:ks.length=vs.length) (r:Reps K H ds vs):Rep K H (.dct ks ds) (.ref a)
 | dtt {a:Addr} {vs:List V} {ds:List D} {ks:List (List Int)} {o:Obj} (h:H a=some (.frz o (.dT (bO ks vs)))) (hl:ks.length=vs.length) (r:Reps K H ds vs):Rep K H (.dtt ks ds) (.ref a)
inductive Reps (K:PySem.W.Frag) (H:Hp):List D->List V->Prop
 | nil:Reps K H [] []
 | cons {d:D} {v:V} {ds:List D} {vs:List V} (h:Rep K H d v) (t:Reps K H ds vs):Reps K H (d::ds) (v::vs)
end
section
variable {K:PySem.W.Frag} {H H':Hp}
theorem FzL.keep {a:Addr} {vs:List V} (k:Keep H H') (h:FzL K H a vs):FzL K H' a vs:=by
 rcases h with ⟨o,h⟩ | h
 ·exact .inl ⟨o,k.frzs _ _ _ h⟩
 ·exact .inr h
mutual
theorem Rep.keep (k:Keep H H'):∀{d:D} {v:V},Rep K H d v->Rep K H' d v
 | _,_,.non=>.non
 | _,_,.bl b=>.bl b
 | _,_,.int i=>.int i
 | _,_,.str x=>.str x
 | _,_,.tup h r=>.tup (k.tups _ _ h) (Reps.keep k r)
 | _,_,.lst h r=>.lst (FzL.keep k h) (Reps.keep k r)
 | _,_,.dct h hl r=>.dct (k.frzs _ _ _ h) hl (Reps.keep k r)
 | _,_,.dtt h hl r=>.dtt (k.frzs _ _ _ h) hl (Reps.keep k r)
theorem Reps.keep (k:Keep H H'):∀{ds:List D} {vs:List V},Reps K H ds vs->Reps K H' ds vs
 | _,_,.nil=>.nil
 | _,_,.cons h t=>.cons (Rep.keep k h) (Reps.keep k t)
end
theorem Reps.length:∀{ds:List D} {vs:List V},Reps K H ds vs->ds.length=vs.length
 | _,_,.nil=>rfl
 | _,_,.cons _ t=>by simp[Reps.length t]
theorem Reps.get:∀{ds:List D} {vs:List V} {i:Nat} {d:D},Reps K H ds vs->ds[i]? = some d->∃v,vs[i]? = some v/\Rep K H d v
 | _,_,_,_,.nil,e=>by simp at e
 | _,_,0,_,.cons h _,e=>by simp at e;subst e;exact⟨_,rfl,h⟩
 | _,_,i+1,d,.cons _ t,e=>by
  obtain⟨v,h1,h2⟩:=Reps.get (i:=i) (d:=d) t (by simpa using e)
  exact⟨v,by simpa using h1,h2⟩
theorem Reps.append:∀{ds es:List D} {vs us:List V},Reps K H ds vs->Reps K H es us->Reps K H (ds++es) (vs++us)
 | _,_,_,_,.nil,s=>s
 | _,_,_,_,.cons h t,s=>.cons h (Reps.append t s)
theorem Reps.take:∀{ds:List D} {vs:List V} (n:Nat),Reps K H ds vs->Reps K H (ds.take n) (vs.take n)
 | _,_,0,_=>.nil
 | _,_,_+1,.nil=>.nil
 | _,_,n+1,.cons r t=>.cons r (Reps.take n t)
theorem Reps.drop:∀{ds:List D} {vs:List V} (n:Nat),Reps K H ds vs->Reps K H (ds.drop n) (vs.drop n)
 | _,_,0,r=>r
 | _,_,_+1,.nil=>.nil
 | _,_,n+1,.cons _ t=>Reps.drop n t
theorem Reps.reverse:∀{ds:List D} {vs:List V},Reps K H ds vs->Reps K H ds.reverse vs.reverse
 | _,_,.nil=>.nil
 | _,_,.cons r t=>by
  simp only[List.reverse_cons]
  exact (Reps.reverse t).append (.cons r .nil)
theorem Rep.int_inv {i:Int} {v:V} (h:Rep K H (.int i) v):v = .int i:=by cases h;rfl
theorem Rep.bl_inv {b:Bool} {v:V} (h:Rep K H (.bl b) v):v = .bl b:=by cases h;rfl
theorem Reps.ints:∀{ns:List Int},Reps K H (ns.map D.int) (ns.map V.int)
 | []=>.nil
 | _::_=>.cons (.int _) Reps.ints
theorem Reps.ints_inv:∀{ns:List Int} {vs:List V},Reps K H (ns.map D.int) vs->vs=ns.map V.int
 | [],_,h=>by cases h;rfl
 | n::ns,_,h=>by
  cases h with
  | cons h t=>rw[h.int_inv,Reps.ints_inv t];rfl
end
noncomputable def RepB (K:PySem.W.Frag) (H:Hp) (d:D) (v:V):Prop :=
 Rep K H d v\/∃ds a vs,d = .lst ds/\v = .ref a/\H a=some (.lst vs)/\Reps K H ds vs
theorem RepB.same {K:PySem.W.Frag} {H H':Hp} {d:D} {v:V} (s:Same H H') (h:RepB K H d v):RepB K H' d v:=by
 rcases h with h | ⟨ds,a,vs,e1,e2,e3,r⟩
 ·exact .inl (h.keep (.of s))
 ·exact .inr ⟨ds,a,vs,e1,e2,s.get _ _ e3 trivial,r.keep (.of s)⟩
theorem RepB.lst {K:PySem.W.Frag} {H:Hp} {ds:List D} {v:V} (h:RepB K H (.lst ds) v):∃a vs,v = .ref a/\SqL K H a vs/\Reps K H ds vs:=by
 rcases h with h | ⟨ds',a,vs,e1,e2,e3,r⟩
 ·cases h with
  | lst h r=>exact⟨_,_,rfl,h.sq,r⟩
 ·cases e1;exact⟨a,vs,e2,SqL.of e3,r⟩
theorem RepB.tup {K:PySem.W.Frag} {H:Hp} {ds:List D} {v:V} (h:RepB K H (.tup ds) v):∃a vs,v = .ref a/\H a=some (.tup vs)/\Reps K H ds vs:=by
 rcases h with h | ⟨ds',a,vs,e1,e2,e3,r⟩
 ·cases h with
  | tup h r=>exact⟨_,_,rfl,h,r⟩
 ·cases e1
inductive S where
 | d (x:D) | own (xs:List D) | dcl (kvs:List (Int × List D)) | box (t:Bool) (xss:List (List D)) | exc (C:Addr) (y:Str) (c:Int) | dt (ks:List (List Int)) (xs:List D) | raw (v:V)
noncomputable def S.val:S->D
 | .d x=>x
 | .own xs=>.lst xs
 | .dcl _=>.non
 | .box _ _=>.non
 | .exc _ _ _=>.non
 | .dt _ _=>.non
 | .raw _=>.non
noncomputable abbrev En:=List (Option S)
inductive Dcl (K:PySem.W.Frag) (H₀ H:Hp):List (Int × List D)->List (Key × V)->List Addr->Prop
 | nil:Dcl K H₀ H [] [] []
 | cons {k:Int} {b:Addr} {vs:List V} {ds:List D} {kvs:List (Int × List D)} {kws:List (Key × V)} {as:List Addr} (h:H b=some (.lst vs)) (h0:H₀ b=none) (r:Reps K H ds vs) (n:b ∉ as) (t:Dcl K H₀ H kvs kws as) :
   Dcl K H₀ H ((k,ds)::kvs) ((Sum.inl k,.ref b)::kws) (b::as)
noncomputable abbrev MU (C e dx:Addr):HO:=.ext λh=>∃oe vs,h.get? e=some oe/\oe.cls = .ref C/\oe.data = .fields vs/\oe.dict=some dx
noncomputable def RelS (K:PySem.W.Frag) (H₀ H:Hp):S->V->Prop
 | .exc C y c,v=>∃e dx,v = .ref e/\H e=some (MU C e dx)/\H dx=some (.xd [(y,.int c)])
 | .d x,v=>Rep K H x v
 | .raw u,v=>v=u
 | .dt ks xs,v=>∃a vs,v = .ref a/\H a=some (.dT (bO ks vs))/\H₀ a=none/\ks.length=vs.length/\Reps K H xs vs
 | .own xs,v=>∃a vs,v = .ref a/\H a=some (.lst vs)/\H₀ a=none/\Reps K H xs vs
 | .dcl kvs,v=>∃a kws as,v = .ref a/\H a=some (.dK kws)/\H₀ a=none/\Dcl K H₀ H kvs kws as
 | .box false xss,v=>∃a kws as,v = .ref a/\H a=some (.lst (as.map V.ref))/\H₀ a=none/\a ∉ as/\Dcl K H₀ H (xss.map λx=>(0,x)) kws as
 | .box true xss,v=>∃a kws as,v = .ref a/\H a=some (.tup (as.map V.ref))/\Dcl K H₀ H (xss.map λx=>(0,x)) kws as
noncomputable def Ow (H:Hp):S->V->Addr->Prop
 | .exc _ _ _,_,_=>False
 | .raw _,_,_=>False
 | .d _,_,_=>False
 | .own _,v,a=>v = .ref a
 | .dt _ _,v,a=>v = .ref a
 | .dcl _,v,a=>∃p kws,v = .ref p/\H p=some (.dK kws)/\(a=p\/∃k,(k,V.ref a)∈kws)
 | .box false _,v,a=>∃p vs,v = .ref p/\H p=some (.lst vs)/\(a=p\/V.ref a∈vs)
 | .box true _,v,a=>∃p vs,v = .ref p/\H p=some (.tup vs)/\V.ref a∈vs
structure StOk (X:Cx) (ρ:En) (σ:St) (H:Hp):Prop where
 len:ρ.length=σ.length
 same:Same X.H₀ H
 rel:∀(i:Nat) (x:S),ρ[i]? = some (some x)->∃v,σ[i]? = some (some v)/\RelS X.K X.H₀ H x v
 sep:∀(i j:Nat) (x y:S) (v u:V) (a:Addr),ρ[i]? = some (some x)->ρ[j]? = some (some y)->σ[i]? = some (some v)->σ[j]? = some (some u)->Ow H x v a->Ow H y u a->i=j
 t0:TabsIn X.K X.H₀
section
variable {K:PySem.W.Frag} {H₀ H H':Hp}
theorem Dcl.keep {kvs:List (Int × List D)} {kws:List (Key × V)} {as:List Addr} (k:Keep H H') (t:Dcl K H₀ H kvs kws as) (w:∀a∈as,∀o,H a=some o->H' a=some o):Dcl K H₀ H' kvs kws as:=by
 induction t with
 | nil=>exact .nil
 | cons h h0 r n t ih=>exact .cons (w _ (.head _) _ h) h0 (r.keep k) n (ih λa m=>w a (.tail _ m))
theorem Dcl.mem {kvs:List (Int × List D)} {kws:List (Key × V)} {as:List Addr} {a:Addr} (t:Dcl K H₀ H kvs kws as):a∈as↔∃k,(k,V.ref a)∈kws:=by
 induction t with
 | nil=>simp
 | cons h h0 r n t ih =>
  rw[List.mem_cons,ih]
  constructor
  ·rintro (rfl | ⟨k,e⟩)
   ·exact⟨_,.head _⟩
   ·exact⟨k,.tail _ e⟩
  ·rintro⟨k,e⟩
   rcases List.mem_cons.mp e with e | e
   ·cases e;exact .inl rfl
   ·exact .inr ⟨k,e⟩
theorem Dcl.at {kvs:List (Int × List D)} {kws:List (Key × V)} {as:List Addr} {a:Addr} (t:Dcl K H₀ H kvs kws as) (m:a∈as):H₀ a=none/\∃vs,H a=some (.lst vs):=by
 induction t with
 | nil=>cases m
 | cons h h0 r n t ih =>
  rcases List.mem_cons.mp m with rfl | m
  ·exact⟨h0,_,h⟩
  ·exact ih m
theorem Dcl.same {kvs:List (Int × List D)} {kws:List (Key × V)} {as:List Addr} (t:Dcl K H₀ H kvs kws as) (s:Same H H'):Dcl K H₀ H' kvs kws as :=
 t.keep (.of s) λc m o h=>by
  obtain⟨_,vs,q⟩:=t.at m
  rw[h] at q;cases q
  exact s.get _ _ h trivial
theorem nB:∀{ks:List Int} {vs:List V},ks.length=vs.length->(qK ks vs).map (·.2)=vs
 | [],[],_=>rfl
 | [],_::_,h=>by cases h
 | _::_,[],h=>by cases h
 | k::ks,v::vs,h=>by
  show v::(qK ks vs).map (·.2)=v::vs
  rw[nB (by simpa using h)]
theorem Dcl.refs {kvs:List (Int × List D)} {kws:List (Key × V)} {as:List Addr} (t:Dcl K H₀ H kvs kws as):kws.map (·.2)=as.map V.ref:=by
 induction t with
 | nil=>rfl
 | cons h h0 r n t ih=>rw[List.map_cons,List.map_cons,ih]
theorem Ow.at {x:S} {v:V} {a:Addr} (r:RelS K H₀ H x v) (w:Ow H x v a):H₀ a=none/\((∃vs,H a=some (.lst vs))\/(∃kws,H a=some (.dK kws))\/∃kws,H a=some (.dT kws)):=by
 cases x with
 | d x=>exact w.elim
 | exc C y c=>exact w.elim
 | raw u=>exact w.elim
 | own xs =>
  obtain⟨b,vs,rfl,h,h0,_⟩:=r
  cases w;exact⟨h0,.inl ⟨vs,h⟩⟩
 | dt ks xs =>
  obtain⟨b,vs,rfl,h,h0,_⟩:=r
  cases w;exact⟨h0,.inr (.inr ⟨_,h⟩)⟩
 | dcl kvs =>
  obtain⟨b,kws,as,rfl,h,h0,t⟩:=r
  obtain⟨p,kws',e,h',m⟩:=w
  cases e
  rw[h] at h';cases h'
  rcases m with rfl | m
  ·exact⟨h0,.inr (.inl ⟨kws,h⟩)⟩
  ·obtain⟨g0,g1⟩:=t.at (t.mem.mpr m)
   exact⟨g0,.inl g1⟩
 | box t xss =>
  cases t with
  | false =>
   obtain⟨b,kws,as,rfl,h,h0,_,t⟩:=r
   obtain⟨p,vs,e,h',m⟩:=w
   cases e
   rw[h] at h';cases h'
   rcases m with rfl | m
   ·exact⟨h0,.inl ⟨_,h⟩⟩
   ·obtain⟨c,hc,e⟩:=List.mem_map.mp m
    cases e
    obtain⟨g0,g1⟩:=t.at hc
    exact⟨g0,.inl g1⟩
  | true =>
   obtain⟨b,kws,as,rfl,h,t⟩:=r
   obtain⟨p,vs,e,h',m⟩:=w
   cases e
   rw[h] at h';cases h'
   obtain⟨c,hc,e⟩:=List.mem_map.mp m
   cases e
   obtain⟨g0,g1⟩:=t.at hc
   exact⟨g0,.inl g1⟩
theorem RelS.move {x:S} {v:V} (k:Keep H H') (r:RelS K H₀ H x v) (w:∀a,Ow H x v a->∀o,H a=some o->H' a=some o):RelS K H₀ H' x v/\∀a,Ow H' x v a->Ow H x v a:=by
 cases x with
 | d x=>exact⟨Rep.keep k r,λa e=>e⟩
 | raw u=>exact⟨r,λa e=>e⟩
 | exc C y c =>
  obtain⟨e,dx,rfl,h1,h2⟩:=r
  exact⟨⟨e,dx,rfl,k.exts _ _ h1,k.xds _ _ h2⟩,λa e=>e⟩
 | own xs =>
  obtain⟨b,vs,rfl,h,h0,rr⟩:=r
  exact⟨⟨b,vs,rfl,w b rfl _ h,h0,rr.keep k⟩,λa e=>e⟩
 | dt ks xs =>
  obtain⟨b,vs,rfl,h,h0,hl,rr⟩:=r
  exact⟨⟨b,vs,rfl,w b rfl _ h,h0,hl,rr.keep k⟩,λa e=>e⟩
 | dcl kvs =>
  obtain⟨b,kws,as,rfl,h,h0,t⟩:=r
  have hb:=w b ⟨b,kws,rfl,h,.inl rfl⟩ _ h
  refine⟨⟨b,kws,as,rfl,hb,h0,t.keep k λa m=>w a ⟨b,kws,rfl,h,.inr (t.mem.mp m)⟩⟩,λa e=>?_⟩
  obtain⟨p,kws',e,h',m⟩:=e
  cases e
  rw[hb] at h';cases h'
  exact⟨b,kws,rfl,h,m⟩
 | box t xss =>
  cases t with
  | false =>
   obtain⟨b,kws,as,rfl,h,h0,nb,t⟩:=r
   have hb:=w b ⟨b,_,rfl,h,.inl rfl⟩ _ h
   refine⟨⟨b,kws,as,rfl,hb,h0,nb,t.keep k λa m=>w a ⟨b,_,rfl,h,.inr (List.mem_map_of_mem m)⟩⟩,λa e=>?_⟩
   obtain⟨p,vs,e,h',m⟩:=e
   cases e
   rw[hb] at h';cases h'
   exact⟨b,_,rfl,h,m⟩
  | true =>
   obtain⟨b,kws,as,rfl,h,t⟩:=r
   have hb:=k.tups b _ h
   refine⟨⟨b,kws,as,rfl,hb,t.keep k λa m=>w a ⟨b,_,rfl,h,List.mem_map_of_mem m⟩⟩,λa e=>?_⟩
   obtain⟨p,vs,e,h',m⟩:=e
   cases e
   rw[hb] at h';cases h'
   exact⟨b,_,rfl,h,m⟩
theorem Same.own {x:S} {v:V} {a:Addr} {o:HO} (s:Same H H') (r:RelS K H₀ H x v) (w:Ow H x v a) (h:H a=some o):H' a=some o:=by
 obtain⟨_,⟨_,q⟩ | ⟨_,q⟩ | ⟨_,q⟩⟩:=Ow.at r w <;> rw[h] at q <;> cases q <;> exact s.get _ _ h trivial
theorem RelS.same {x:S} {v:V} (s:Same H H') (h:RelS K H₀ H x v):RelS K H₀ H' x v:=(h.move (.of s) λa w o e=>s.own h w e).1
end
section
variable {X:Cx} {ρ:En} {σ:St} {H H':Hp}
theorem StOk.tabs (st:StOk X ρ σ H):TabsIn X.K H:=st.t0.tabK st.same.tbls
theorem StOk.ext (st:StOk X ρ σ H) (s:Same H H'):StOk X ρ σ H':=by
 refine⟨st.len,st.same.trans s,λi x e=>let ⟨v,h1,h2⟩:=st.rel i x e;⟨v,h1,h2.same s⟩,λi j x y v u a e1 e2 e3 e4 o1 o2=>?_,st.t0⟩
 obtain⟨v',h1,h2⟩:=st.rel i x e1
 obtain⟨u',g1,g2⟩:=st.rel j y e2
 rw[h1] at e3;cases e3
 rw[g1] at e4;cases e4
 exact st.sep i j x y _ _ a e1 e2 h1 g1 ((h2.move (.of s) λa w o e=>s.own h2 w e).2 a o1) ((g2.move (.of s) λa w o e=>s.own g2 w e).2 a o2)
theorem sN {α:Type} {xs:List (Option α)} {i j:Nat} {x y:α} (e:(xs.set i (some x))[j]? = some (some y)):(j=i/\y=x/\i<xs.length)\/(i≠j/\xs[j]? = some (some y)):=by
 by_cases hj:i=j
 ·subst hj
  by_cases h:i<xs.length
  ·rw[List.getElem?_set_self h] at e;cases e;exact .inl ⟨rfl,rfl,h⟩
  ·rw[List.set_eq_of_length_le (by omega),List.getElem?_eq_none (by omega)] at e;cases e
 ·rw[List.getElem?_set_ne hj] at e;exact .inr ⟨hj,e⟩
theorem StOk.chg (st:StOk X ρ σ H) {i:Nat} {x':S} {v':V} {W:Addr->Prop} (kp:Keep H H') (h0:Same X.H₀ H') (h1:∀b o,H b=some o->NT o->¬W b->H' b=some o) (h2:RelS X.K X.H₀ H' x' v')
  (h3:∀a,Ow H' x' v' a->W a\/H a=none) (h4:∀(j:Nat) (y:S) (u:V) (a:Addr),j≠i->ρ[j]? = some (some y)->σ[j]? = some (some u)->Ow H y u a->¬W a):StOk X (ρ.set i (some x')) (σ.set i (some v')) H':=by
 have old:∀(j:Nat) (y:S),j≠i->ρ[j]? = some (some y)->∃u,σ[j]? = some (some u)/\RelS X.K X.H₀ H y u/\RelS X.K X.H₀ H' y u/\∀a,Ow H' y u a->Ow H y u a:=λj y hj e=>by
  obtain⟨u,g1,g2⟩:=st.rel j y e
  obtain⟨g3,g4⟩:=g2.move kp λa w o e'=>by
   have nw:=h4 j y u a hj e g1 w
   obtain⟨_,⟨_,q⟩ | ⟨_,q⟩ | ⟨_,q⟩⟩:=Ow.at g2 w <;> rw[e'] at q <;> cases q <;> exact h1 a _ e' trivial nw
  exact⟨u,g1,g2,g3,g4⟩
 refine⟨by simp[st.len],h0,λj y e=>?_,λj k y z v u a e1 e2 e3 e4 o1 o2=>?_,st.t0⟩
 ·rcases sN e with ⟨rfl,rfl,hl⟩ | ⟨hj,e⟩
  ·exact⟨v',by rw[List.getElem?_set_self (by rw[<-st.len];exact hl)],h2⟩
  ·obtain⟨u,g1,_,g3,_⟩:=old j y (Ne.symm hj) e
   exact⟨u,by rw[List.getElem?_set_ne hj];exact g1,g3⟩
 ·have cross:∀(j:Nat) (y:S) (u:V),i≠j->ρ[j]? = some (some y)->σ[j]? = some (some u)->Ow H' y u a->Ow H' x' v' a->False:=λj y u hj e es o1 o2=>by
   obtain⟨u',g1,g2,g3,g4⟩:=old j y (Ne.symm hj) e
   rw[g1] at es;cases es
   rcases h3 a o2 with w | n
   ·exact h4 j y _ a (Ne.symm hj) e g1 (g4 a o1) w
   ·obtain⟨_,⟨_,q⟩ | ⟨_,q⟩ | ⟨_,q⟩⟩:=Ow.at g2 (g4 a o1) <;> rw[n] at q <;> cases q
  rcases sN e1 with ⟨rfl,rfl,hl⟩ | ⟨hj,e1'⟩
  ·rcases sN e2 with ⟨rfl,rfl,_⟩ | ⟨hk,e2'⟩
   ·rfl
   ·rw[List.getElem?_set_self (by rw[<-st.len];exact hl)] at e3;cases e3
    rw[List.getElem?_set_ne hk] at e4
    exact (cross k z u hk e2' e4 o2 o1).elim
  ·rw[List.getElem?_set_ne hj] at e3
   rcases sN e2 with ⟨rfl,rfl,hl⟩ | ⟨hk,e2'⟩
   ·rw[List.getElem?_set_self (by rw[<-st.len];exact hl)] at e4;cases e4
    exact (cross j y v hj e1' e3 o1 o2).elim
   ·rw[List.getElem?_set_ne hk] at e4
    obtain⟨v',g1,g2,g3,g4⟩:=old j y (Ne.symm hj) e1'
    obtain⟨u',f1,f2,f3,f4⟩:=old k z (Ne.symm hk) e2'
    rw[g1] at e3;cases e3
    rw[f1] at e4;cases e4
    exact st.sep j k y z _ _ a e1' e2' g1 f1 (g4 a o1) (f4 a o2)
theorem StOk.put (st:StOk X ρ σ H) {i:Nat} {x':S} {v':V} (s:Same H H') (h2:RelS X.K X.H₀ H' x' v') (h3:∀a,Ow H' x' v' a->H a=none):StOk X (ρ.set i (some x')) (σ.set i (some v')) H' :=
 st.chg (W:=λ_=>False) (.of s) (st.same.trans s) (λb o h n _=>s.get b o h n) h2 (λa o=>.inr (h3 a o)) λ_ _ _ _ _ _ _ _ z=>z
theorem StOk.updW (st:StOk X ρ σ H) {i:Nat} {x x':S} {v v':V} (e:ρ[i]? = some (some x)) (es:σ[i]? = some (some v)) (h1:∀b o,H b=some o->¬Ow H x v b->H' b=some o) (h2:RelS X.K X.H₀ H' x' v')
  (h3:∀a,Ow H' x' v' a->Ow H x v a\/H a=none):StOk X (ρ.set i (some x')) (σ.set i (some v')) H'/\Keep H H':=by
 obtain⟨v0,g1,g2⟩:=st.rel i x e
 rw[g1] at es;cases es
 have no:∀b o,H b=some o->(∀vs,o≠.lst vs)->(∀kws,o≠.dK kws)->(∀kws,o≠.dT kws)->¬Ow H x v b:=λb o h n1 n2 n3 w=>by
  obtain⟨_,⟨_,q⟩ | ⟨_,q⟩ | ⟨_,q⟩⟩:=Ow.at g2 w <;> rw[h] at q <;> cases q
  ·exact n1 _ rfl
  ·exact n2 _ rfl
  ·exact n3 _ rfl
 have ne:∀b o,H b=some o->(∀vs,o≠.lst vs)->(∀kws,o≠.dK kws)->(∀kws,o≠.dT kws)->H' b=some o:=λb o h n1 n2 n3=>h1 b o h (no b o h n1 n2 n3)
 have kp:Keep H H':=⟨λb xs h=>ne b _ h (λ_ z=>by cases z) (λ_ z=>by cases z) (λ_ z=>by cases z),λb o u h=>ne b _ h (λ_ z=>by cases z) (λ_ z=>by cases z) (λ_ z=>by cases z),λb φ h=>ne b _ h (λ_ z=>by cases z) (λ_ z=>by cases z) (λ_ z=>by cases z),λb fs h=>ne b _ h (λ_ z=>by cases z) (λ_ z=>by cases z) (λ_ z=>by cases z),
  .of (λb φ h=>ne b _ h (λ_ z=>by cases z) (λ_ z=>by cases z) (λ_ z=>by cases z)) λb φ h=>ne b _ h (λ_ z=>by cases z) (λ_ z=>by cases z) (λ_ z=>by cases z)⟩
 refine⟨st.chg (W:=Ow H x v) kp ⟨λb o h n=>h1 b o (st.same.get b o h n) λw=>?_,st.same.tbls.trans kp.tbls⟩ (λb o h _ w=>h1 b o h w) h2 h3 λj y u a hj ej eu o1 o2=>hj (st.sep j i y x u v a ej e eu g1 o1 o2),kp⟩
 rw[(Ow.at g2 w).1] at h;cases h
theorem StOk.set_d (st:StOk X ρ σ H) {i:Nat} {d:D} {v:V} (r:Rep X.K H d v):StOk X (ρ.set i (some (.d d))) (σ.set i (some v)) H:=st.put (x':=.d d) (Same.refl H) r λ_ o=>o.elim
theorem cS {α:Type} {xs:List α} {i:Nat} {x:α} (e:xs[i]? = some x):xs.set i x=xs:=by
 apply List.ext_getElem? ;intro j
 by_cases hj:i=j
 ·subst hj;rw[List.getElem?_set_self (List.getElem?_eq_some_iff.mp e).1,e]
 ·rw[List.getElem?_set_ne hj]
theorem StOk.set_own (st:StOk X ρ σ H) {i:Nat} {ds:List D} {p:Addr} {vs:List V} (hp:H p=none) (r:Reps X.K H ds vs) :
  StOk X (ρ.set i (some (.own ds))) (σ.set i (some (.ref p))) (upd H p (.lst vs)):=by
 have sm:Same H (upd H p (.lst vs)):=.fn λb o h=>by rw[aI (aQ h hp)];exact h
 exact st.put sm ⟨p,vs,rfl,aW,st.same.free hp,r.keep (.of sm)⟩ λa o=>by cases o;exact hp
theorem StOk.upd_own (st:StOk X ρ σ H) {i:Nat} {xs ds:List D} {p:Addr} {us vs:List V} (e:ρ[i]? = some (some (.own xs))) (es:σ[i]? = some (some (.ref p))) (hp:H p=some (.lst us)) (h0:X.H₀ p=none)
  (r:Reps X.K H ds vs):StOk X (ρ.set i (some (.own ds))) σ (upd H p (.lst vs))/\Keep H (upd H p (.lst vs)):=by
 have kp:Keep H (upd H p (.lst vs)):=Keep.chg1 hp (.inl ⟨_,rfl⟩)
 have:=st.updW (x':=.own ds) (v':=.ref p) e es (H':=upd H p (.lst vs)) (λb o h w=>by rw[aI (by rintro rfl;exact w rfl)];exact h) ⟨p,vs,rfl,aW,h0,r.keep kp⟩ λa o=>.inl o
 rw[cS es] at this
 exact this
end
section
variable {X:Cx} {pins:List (Addr × Obj)} {σ:St} {H:Hp} {s:Shared}
theorem Inv.freezeG {a:Addr} {x:HO} {o:Obj} (I:Inv X pins σ H s) (h:H a=some x) (ho:s.heap.get? a=some o) (n1:∀ys,HO.tup ys≠x) (n2:∀o w,HO.frz o w≠x) (n3:∀ps,HO.tbl ps≠x) (n4:∀c,HO.own c≠x):Inv X pins σ (upd H a (.frz o x)) s:=by
 have ok:=I.hok a _ h
 have ntup:∀b u,H b=some u->u≠x->b≠a:=λb u q d z=>by subst z;rw[h] at q;cases q;exact d rfl
 have st:∀{b:Addr} {u:HO},ObjOk X.prog X.w H s.heap b u->ObjOk X.prog X.w (upd H a (.frz o x)) s.heap b u:=λ{b u} q =>
  q.stay (λc v _ w=>w) (λc w=>by rw[aI (ntup c _ w (n4 _))];exact w) λc ys w=>by rw[aI (ntup c _ w (n1 _))];exact w
 refine I.un (t':=s.toks) (h':=s.heap) ⟨λb o q _ _ _=>q,λb o q _ _ _=>⟨o.slots,q⟩,λb o q n _=>?_,λb o q _=>⟨o,q⟩,λb ys q=>?_,λb o u q=>?_,λb ps q=>⟨#[],?_⟩⟩ λb u q=>?_
 ·rw[aI (λz=>by subst z;rw[h] at n;cases n)];exact n
 ·rw[aI (ntup b _ q (n1 _))];exact q
 ·rw[aI (ntup b _ q (n2 _ _))];exact q
 ·rw[aI (ntup b _ q (n3 _)),q];simp
 ·by_cases hb:b=a
  ·subst hb
   rw[aW] at q;cases q
   exact⟨ho,st ok⟩
  ·rw[aI hb] at q
   exact st (I.hok b u q)
theorem Inv.freeze {a:Addr} {xs:List V} (I:Inv X pins σ H s) (h:H a=some (.lst xs)):∃o,Inv X pins σ (upd H a (.frz o (.lst xs))) s:=by
 obtain⟨z,its,n,r,e⟩:=I.hok a _ h
 exact⟨_,Inv.freezeG I h e (λ_ z=>by cases z) (λ_ _ z=>by cases z) (λ_ z=>by cases z) (λ_ z=>by cases z)⟩
theorem Inv.freezeD {a:Addr} {kvs:List (Key × V)} (I:Inv X pins σ H s) (h:H a=some (.dK kvs)):∃o,Inv X pins σ (upd H a (.frz o (.dK kvs))) s:=by
 obtain⟨_,_,vs,r,ob,es,ep,e,_⟩:=I.hok a _ h
 exact⟨ob,Inv.freezeG I h e (λ_ z=>by cases z) (λ_ _ z=>by cases z) (λ_ z=>by cases z) (λ_ z=>by cases z)⟩
theorem Inv.freezeT {a:Addr} {kvs:List (List Key × V)} (I:Inv X pins σ H s) (h:H a=some (.dT kvs)):∃o,Inv X pins σ (upd H a (.frz o (.dT kvs))) s:=by
 obtain⟨_,_,_,_,ob,_,_,e,_⟩:=I.hok a _ h
 exact⟨ob,Inv.freezeG I h e (λ_ z=>by cases z) (λ_ _ z=>by cases z) (λ_ z=>by cases z) (λ_ z=>by cases z)⟩
theorem Same.upd_new {a:Addr} {o:HO} {H H1:Hp} (s:Same H H1) (n:H a=none) (m:∀φ,H1 a≠some (.ext φ)):Same H (upd H1 a o):=by
 refine⟨λb u h nt=>by rw[aI (aQ h n)];exact s.get b u h nt,λb ps h=>?_⟩
 obtain⟨more,e1,e2⟩:=s.tbls b ps h
 refine⟨more,by rw[aI (aQ h n)];exact e1,λx=>(e2 x).mono λc φ q=>?_⟩
 rw[aI (by rintro rfl;exact m _ q)];exact q
theorem hV:∀(kvs:List (Int × List D)) {kws:List (Key × V)} {as:List Addr} {H:Hp},Inv X pins σ H s->Dcl X.K X.H₀ H kvs kws as ->
  ∃H' vs,Inv X pins σ H' s/\kws=qK (kvs.map (·.1)) vs/\kvs.length=vs.length/\Reps X.K H' (kvs.map λp=>.lst p.2) vs/\Keep H H'/\∀b o,H b=some o->b ∉ as->H' b=some o
 | [],_,_,H,I,t=>by cases t;exact⟨H,[],I,rfl,rfl,.nil,Keep.refl H,λb o h _=>h⟩
 | (k,ds)::kvs,_,_,H,I,t=>by
  cases t with
  | @cons _ b vs _ _ kws as h h0 r n t =>
   obtain⟨o,I1⟩:=Inv.freeze I h
   have kp:Keep H (upd H b (.frz o (.lst vs))):=Keep.chg1 h (.inl ⟨_,rfl⟩)
   obtain⟨H',us,I2,e1,e2,e3,k2,e4⟩:=hV kvs I1 (t.keep kp λa m o e=>by rw[aI (by rintro rfl;exact n m)];exact e)
   subst e1
   refine⟨H',.ref b::us,I2,rfl,by simp[e2],.cons (.lst (.inl ⟨o,k2.frzs _ _ _ aW⟩) (r.keep (kp.trans k2))) e3,kp.trans k2,λc u q m=>?_⟩
   rw[List.mem_cons,not_or] at m
   exact e4 c u (by rw[aI m.1];exact q) m.2
noncomputable def S.fz:S->S
 | .own ds=>.d (.lst ds)
 | .dcl kvs=>.d (.dct (kvs.map (·.1)) (kvs.map λp=>.lst p.2))
 | .box false xss=>.d (.lst (xss.map .lst))
 | .box true xss=>.d (.tup (xss.map .lst))
 | .d x=>.d x
 | .exc C y c=>.exc C y c
 | .raw u=>.raw u
 | .dt ks xs=>.d (.dtt ks xs)
theorem StOk.fz {ρ:En} {i:Nat} {x:S} (so:StOk X ρ σ H) (I:Inv X pins σ H s) (e:ρ[i]? = some (some x)):∃H',Inv X pins σ H' s/\StOk X (ρ.set i (some x.fz)) σ H'/\Keep H H':=by
 obtain⟨v,h1,h2⟩:=so.rel i _ e
 cases x with
 | d x=>exact⟨H,I,by rw[show S.fz (.d x) = .d x from rfl,cS e];exact so,Keep.refl H⟩
 | exc C y c=>exact⟨H,I,by rw[show S.fz (.exc C y c) = .exc C y c from rfl,cS e];exact so,Keep.refl H⟩
 | raw u=>exact⟨H,I,by rw[show S.fz (.raw u) = .raw u from rfl,cS e];exact so,Keep.refl H⟩
 | own ds =>
  obtain⟨p,vs,ev,hp,h0,rr⟩:=id h2
  subst ev
  obtain⟨o,I2⟩:=Inv.freeze I hp
  have kp:Keep H (upd H p (.frz o (.lst vs))):=Keep.chg1 hp (.inl ⟨_,rfl⟩)
  obtain⟨so2,k2⟩:=so.updW (x':=.d (.lst ds)) (v':=.ref p) e h1 (H':=upd H p (.frz o (.lst vs))) (λb o h w=>by rw[aI (by rintro rfl;exact w rfl)];exact h) (.lst (.inl ⟨o,aW⟩) (rr.keep kp)) λa o=>o.elim
  rw[cS h1] at so2
  exact⟨_,I2,so2,k2⟩
 | dt ks xs =>
  obtain⟨p,vs,ev,hp,h0,hl,rr⟩:=id h2
  subst ev
  obtain⟨o,I2⟩:=Inv.freezeT I hp
  have kp:Keep H (upd H p (.frz o (.dT (bO ks vs)))):=Keep.chg1 hp (.inr (.inr ⟨_,rfl⟩))
  obtain⟨so2,k2⟩:=so.updW (x':=.d (.dtt ks xs)) (v':=.ref p) e h1 (H':=upd H p (.frz o (.dT (bO ks vs)))) (λb o h w=>by rw[aI (by rintro rfl;exact w rfl)];exact h) (.dtt aW hl (rr.keep kp)) λa o=>o.elim
  rw[cS h1] at so2
  exact⟨_,I2,so2,k2⟩
 | dcl kvs =>
  obtain⟨p,kws,as,ev,hp,h0,t⟩:=id h2
  subst ev
  obtain⟨H1,vs,I1,e1,e2,e3,k1,e4⟩:=hV kvs I t
  have np:p ∉ as:=λm=>by obtain⟨_,us,q⟩:=t.at m;rw[hp] at q;cases q
  have hp1:=e4 p _ hp np
  obtain⟨o,I2⟩:=Inv.freezeD I1 hp1
  have kp:Keep H1 (upd H1 p (.frz o (.dK kws))):=Keep.chg1 hp1 (.inr (.inl ⟨_,rfl⟩))
  obtain⟨so2,k2⟩:=so.updW (x':=.d (.dct (kvs.map (·.1)) (kvs.map λp=>.lst p.2))) (v':=.ref p) e h1 (H':=upd H1 p (.frz o (.dK kws)))
   (λb o h w=>by
    rw[aI (by rintro rfl;exact w ⟨_,kws,rfl,hp,.inl rfl⟩)]
    exact e4 b o h λm=>w ⟨p,kws,rfl,hp,.inr (t.mem.mp m)⟩)
   (.dct (by rw[aW,e1]) (by simp[e2]) (e3.keep kp)) λa o=>o.elim
  rw[cS h1] at so2
  exact⟨_,I2,so2,k2⟩
 | box t xss =>
  have emap:(xss.map λx=>((0:Int),x)).map (λp=>D.lst p.2)=xss.map D.lst:=by rw[List.map_map];rfl
  cases t with
  | false =>
   obtain⟨p,kws,as,ev,hp,h0,np,t⟩:=id h2
   subst ev
   obtain⟨H1,vs,I1,e1,e2,e3,k1,e4⟩:=hV _ I t
   rw[emap] at e3
   have ea:as.map V.ref=vs:=by rw[<-t.refs,e1];exact nB (by rw[List.length_map];simpa using e2)
   have hp1:=e4 p _ hp np
   obtain⟨o,I2⟩:=Inv.freeze I1 hp1
   have kp:Keep H1 (upd H1 p (.frz o (.lst (as.map V.ref)))):=Keep.chg1 hp1 (.inl ⟨_,rfl⟩)
   obtain⟨so2,k2⟩:=so.updW (x':=.d (.lst (xss.map .lst))) (v':=.ref p) e h1 (H':=upd H1 p (.frz o (.lst (as.map V.ref))))
    (λb o h w=>by
     rw[aI (by rintro rfl;exact w ⟨_,_,rfl,hp,.inl rfl⟩)]
     exact e4 b o h λm=>w ⟨p,_,rfl,hp,.inr (List.mem_map_of_mem m)⟩)
    (.lst (vs:=as.map V.ref) (.inl ⟨o,aW⟩) (by have z:=e3.keep kp;rw[<-ea] at z;exact z)) λa o=>o.elim
   rw[cS h1] at so2
   exact⟨_,I2,so2,k2⟩
  | true =>
   obtain⟨p,kws,as,ev,hp,t⟩:=id h2
   subst ev
   obtain⟨H1,vs,I1,e1,e2,e3,k1,e4⟩:=hV _ I t
   rw[emap] at e3
   have ea:as.map V.ref=vs:=by rw[<-t.refs,e1];exact nB (by rw[List.length_map];simpa using e2)
   obtain⟨so2,k2⟩:=so.updW (x':=.d (.tup (xss.map .lst))) (v':=.ref p) e h1 (H':=H1)
    (λb o h w=>e4 b o h λm=>w ⟨p,_,rfl,hp,List.mem_map_of_mem m⟩)
    (.tup (vs:=as.map V.ref) (k1.tups _ _ hp) (by have z:=e3;rw[<-ea] at z;exact z)) λa o=>o.elim
   rw[cS h1] at so2
   exact⟨_,I1,so2,k2⟩
end
structure Sz (n:Nat):Prop where
 ok:n<=sizeLine
noncomputable abbrev RE:=En->(D->Prop)->Prop
noncomputable abbrev RT:=En->(Bool->Prop)->Prop
noncomputable abbrev RA:=En->(List D->Prop)->Prop
structure DEnds where
 nx:En->Prop
 rt:D->Prop
 bk:En->Prop:=λ_=>False
 ct:En->Prop:=λ_=>False
noncomputable abbrev RS:=DEnds->En->Prop
noncomputable abbrev RG:=D->En->(En->Prop)->Prop
noncomputable def KS (X:Cx) (t:RE):TE:=λσ H Q=>∃ρ P,StOk X ρ σ H/\t ρ P/\∀d v H',P d->Same H H'->Rep X.K H' d v->Q v H'
noncomputable def KR (X:Cx) (t:RE):TE:=λσ H Q=>∃ρ P,StOk X ρ σ H/\t ρ P/\∀d v H',P d->Same H H'->RepB X.K H' d v->Q v H'
noncomputable def VJ (X:Cx) (t:RA):TE:=λσ H Q=>∃ρ P,StOk X ρ σ H/\t ρ P/\∀ds p vs H1,P ds->Same H H1->H1 p=none->Reps X.K H1 ds vs->Q (.ref p) (upd H1 p (.lst vs))
noncomputable def KU (X:Cx) (t:RT):TT:=λσ H Q=>∃ρ P,StOk X ρ σ H/\t ρ P/\∀b H',P b->Same H H'->Q b H'
noncomputable def VG (X:Cx) (t:RA):TA:=λσ H Q=>∃ρ P,StOk X ρ σ H/\t ρ P/\∀ds vs H',P ds->Same H H'->Reps X.K H' ds vs->Q vs H'
noncomputable def QO (X:Cx) (t:RS):TS:=λDe σ H=>∃ρ E,StOk X ρ σ H/\t E ρ/\(∀ρ' σ' H',E.nx ρ'->Keep H H'->StOk X ρ' σ' H'->De.nx σ' H')/\(∀d v H',E.rt d->Keep H H'->Same X.H₀ H'->Rep X.K H' d v->De.rt v H') /\
 (∀ρ' σ' H',E.bk ρ'->Keep H H'->StOk X ρ' σ' H'->De.bk σ' H')/\∀ρ' σ' H',E.ct ρ'->Keep H H'->StOk X ρ' σ' H'->De.ct σ' H'
noncomputable def VH (X:Cx) (g:RG):TG:=λv σ H Q=>∃d ρ P,Rep X.K H d v/\StOk X ρ σ H/\g d ρ P/\∀ρ' σ' H',P ρ'->Keep H H'->StOk X ρ' σ' H'->Q σ' H'
theorem dQ {α β:Type} {A B C:α->β->Prop} {R:Prop} (h:∃ρ P,A ρ P/\B ρ P/\C ρ P) (k:∀ρ P,A ρ P->B ρ P->C ρ P->R):R:=let ⟨ρ,P,a,b,c⟩:=h;k ρ P a b c
theorem xZ {α β γ:Type} {A B C E:γ->α->β->Prop} {R:Prop} (h:∃d ρ P,A d ρ P/\B d ρ P/\C d ρ P/\E d ρ P) (k:∀d ρ P,A d ρ P->B d ρ P->C d ρ P->E d ρ P->R):R:=let ⟨d,ρ,P,a,b,c,e⟩:=h;k d ρ P a b c e
theorem dX {α β:Type} {A B C E F G:α->β->Prop} {R:Prop} (h:∃ρ P,A ρ P/\B ρ P/\C ρ P/\E ρ P/\F ρ P/\G ρ P) (k:∀ρ P,A ρ P->B ρ P->C ρ P->E ρ P->F ρ P->G ρ P->R):R:=let ⟨ρ,P,a,b,c,e,f,g⟩:=h;k ρ P a b c e f g
noncomputable def DE (X:Cx) (e:Expr) (t:RE):Prop:=PE X e (KS X t)
noncomputable def DB (X:Cx) (e:Expr) (t:RE):Prop:=PE X e (KR X t)
noncomputable def DO (X:Cx) (e:Expr) (t:RA):Prop:=PE X e (VJ X t)
noncomputable def DT (X:Cx) (e:Expr) (t:RT):Prop:=PT X e (KU X t)
noncomputable def DW (X:Cx) (e:Expr) (t:RT):Prop:=PW X e (KU X t)
noncomputable def DA (X:Cx) (es:List Expr) (t:RA):Prop:=PA X es (VG X t)
noncomputable def DS (X:Cx) (st:Stmt) (t:RS):Prop:=PS X st (QO X t)
noncomputable def DSs (X:Cx) (sts:List Stmt) (t:RS):Prop:=PSs X sts (QO X t)
noncomputable def DG (X:Cx) (tg:Expr) (g:RG):Prop:=PG X tg (VH X g)
theorem PE.mono {X:Cx} {e:Expr} {t t':TE} (h:PE X e t) (m:∀σ H Q,t' σ H Q->t σ H Q):PE X e t':=λpins s σ H Q I q=>h pins s σ H Q I (m σ H Q q)
theorem PT.mono {X:Cx} {e:Expr} {t t':TT} (h:PT X e t) (m:∀σ H Q,t' σ H Q->t σ H Q):PT X e t':=λpins s σ H Q I q=>h pins s σ H Q I (m σ H Q q)
theorem PW.mono {X:Cx} {e:Expr} {t t':TT} (h:PW X e t) (m:∀σ H Q,t' σ H Q->t σ H Q):PW X e t':=λwh pins s σ H Q I q=>h wh pins s σ H Q I (m σ H Q q)
theorem PA.mono {X:Cx} {e:List Expr} {t t':TA} (h:PA X e t) (m:∀σ H Q,t' σ H Q->t σ H Q):PA X e t':=λpos pins s σ H Q I q=>h pos pins s σ H Q I (m σ H Q q)
theorem PS.mono {X:Cx} {e:Stmt} {t t':TS} (h:PS X e t) (m:∀D σ H,t' D σ H->t D σ H):PS X e t':=λpins s σ H D I q=>h pins s σ H D I (m D σ H q)
theorem PSs.mono {X:Cx} {e:List Stmt} {t t':TS} (h:PSs X e t) (m:∀D σ H,t' D σ H->t D σ H):PSs X e t':=λpins s σ H D I q=>h pins s σ H D I (m D σ H q)
theorem PG.mono {X:Cx} {e:Expr} {t t':TG} (h:PG X e t) (m:∀v σ H Q,t' v σ H Q->t v σ H Q):PG X e t':=λpins s σ H v u Q I r q=>h pins s σ H v u Q I r (m v σ H Q q)
section
variable {X:Cx} {e a b c:Expr} {pos:Pos}
theorem DE.bor {t:RE} (h:DE X e t):DB X e t:=PE.mono h λσ H Q hh=>dQ hh λρ P st q k=>⟨ρ,P,st,q,λd v H' p s r=>k d v H' p s (.inl r)⟩
theorem DO.val {t:RA} (h:DO X e t):DE X e (λρ Q=>t ρ λds=>Q (.lst ds)):=by
 intro pins s σ H Q I hh_0
 obtain⟨ρ,P,st,q,k⟩:=hh_0
 refine thn (h pins s σ H (λv H'=>∃ds p vs H1,v = .ref p/\H'=upd H1 p (.lst vs)/\P (.lst ds)/\Same H H1/\H1 p=none/\Reps X.K H1 ds vs) I ⟨ρ,_,st,q,λds p vs H1 hp s1 hn r=>⟨ds,p,vs,H1,rfl,rfl,hp,s1,hn,r⟩⟩) λu s1 ⟨v,H',I',rv,ds,p,vs,H1,ev,eH,hp,sm,hn,r⟩=>?_
 subst ev eH
 obtain⟨o,I2⟩:=Inv.freeze I' (a:=p) (xs:=vs) aW
 have sm2:Same H1 (upd (upd H1 p (.lst vs)) p (.frz o (.lst vs))):=Same.fn λb u e=>by rw[aI (aQ e hn),aI (aQ e hn)];exact e
 exact⟨.ref p,_,I2,rv,k (.lst ds) (.ref p) _ hp (sm.trans sm2) (.lst (.inl ⟨o,aW⟩) (r.keep (.of sm2)))⟩
theorem DO.bor {t:RA} (h:DO X e t):DB X e (λρ Q=>t ρ λds=>Q (.lst ds)):=h.val.bor
noncomputable def aK (i:Nat):RE:=λρ Q=>match ρ[i]? with
 | some (some (.d d))=>Q d
 | _=>False
noncomputable def aD (i:Nat):RE:=λρ Q=>match ρ[i]? with
 | some (some (.d d))=>Q d
 | some (some (.own xs))=>Q (.lst xs)
 | _=>False
theorem dv (i:Nat) {x:Str} (hN:X.N[i]? = some x:=by rfl) (hv:Vis X.env.scope x:=by walk_at "vis") (hd:(x == ("__debug__":Str))=false:=by decide)
  (hcd:(x == ("__classdict__":Str))=false:=by decide):DE X (.Name x pos) (aK i):=by
 refine PE.mono (pv i hN hv hd hcd) λσ H Q hh=>dQ hh λρ P st q k=>?_
 unfold aK at q
 split at q
 ·rename_i d e
  obtain⟨v,h1,h2⟩:=st.rel i _ e
  exact⟨v,h1,k d v H q (Same.refl H) h2⟩
 ·exact q.elim
theorem dvb (i:Nat) {x:Str} (hN:X.N[i]? = some x:=by rfl) (hv:Vis X.env.scope x:=by walk_at "vis") (hd:(x == ("__debug__":Str))=false:=by decide)
  (hcd:(x == ("__classdict__":Str))=false:=by decide):DB X (.Name x pos) (aD i):=by
 refine PE.mono (pv i hN hv hd hcd) λσ H Q hh=>dQ hh λρ P st q k=>?_
 unfold aD at q
 split at q
 ·rename_i d e
  obtain⟨v,h1,h2⟩:=st.rel i _ e
  exact⟨v,h1,k _ v H q (Same.refl H) (.inl h2)⟩
 ·rename_i xs e
  obtain⟨v,h1,h2⟩:=st.rel i _ e
  obtain⟨a,vs,e1,e2,_,r⟩:=h2
  exact⟨v,h1,k _ v H q (Same.refl H) (.inr ⟨xs,a,vs,rfl,e1,e2,r⟩)⟩
 ·exact q.elim
noncomputable def rC (d:D):RE:=λ_ Q=>Q d
theorem aE {i:Int} {j:Nat}:DE X (.Constant (.int i) j pos) (rC (.int i)):=PE.mono DD λσ H Q hh=>dQ hh λρ P st q k=>k _ _ H q (Same.refl H) (.int i)
noncomputable abbrev R22:=D->D->(D->Prop)->Prop
noncomputable def QN (X:Cx) (r:R22):R2:=λx y H Q=>∃d e P,RepB X.K H d x/\RepB X.K H e y/\r d e P/\∀z v H',P z->Same H H'->Rep X.K H' z v->Q v H'
noncomputable def OpD (X:Cx) (f:Value->Value->Sem Value) (r:R22):Prop:=OpR X f (QN X r)
noncomputable def r2 (r:R22) (ta tb:RE):RE:=λρ Q=>ta ρ λx=>tb ρ λy=>r x y Q
variable {ta tb tc:RE}
theorem KQ {r:R22} {σ:St} {H:Hp} {Q:VK} (h:KS X (r2 r ta tb) σ H Q):tOp (QN X r) (KR X ta) (KR X tb) σ H Q:=by
 obtain⟨ρ,P,st,ht,hP⟩:=h
 exact⟨ρ,_,st,ht,λx v H1 h1 s1 r1=>⟨ρ,_,st.ext s1,h1,λy u H2 h2 s2 r2=>⟨x,y,P,r1.same s2,r2,h2,λz w H' hz s3 r3=>hP z w H' hz ((s1.trans s2).trans s3) r3⟩⟩⟩
theorem aL {op:Operator} {r:R22} (ho:OpD X (binaryOp op) r) (ha:DB X a ta) (hb:DB X b tb):DE X (.BinOp a op b pos) (r2 r ta tb):=PE.mono (VX ho ha hb) λσ H Q h=>KQ h
theorem CI {op:CmpOp} {r:R22} (ho:OpD X (compareOp op) r) (ha:DB X a ta) (hb:DB X b tb) (hm:behindInMarks op b=false:=by exact LA _):DE X (.Compare a [op] [b] pos) (r2 r ta tb):=PE.mono (OW ho ha hb hm) λσ H Q h=>KQ h
noncomputable def cD (t:RE):RT:=λρ Q=>t ρ λd=>match d with
 | .bl k=>Q k
 | _=>False
theorem cX {op:CmpOp} {r:R22} (ho:OpD X (compareOp op) r) (ha:DB X a ta) (hb:DB X b tb) (hm:behindInMarks op b=false:=by exact LA _):DT X (.Compare a [op] [b] pos) (cD (r2 r ta tb)):=by
 refine PT.mono (PJ ho ha hb hm) λσ H Q hh=>dQ hh λρ P st q k=>?_
 refine KQ (Q:=λx H'=>∃k,x = .bl k/\Q k H') ⟨ρ,_,st,q,λd v H' hd s r=>?_⟩
 cases d with
 | bl b=>exact⟨b,r.bl_inv,k b H' hd s⟩
 | _=>exact hd.elim
noncomputable def BA (t u:RT):RT:=λρ Q=>t ρ λc=>if c=true then u ρ Q else Q false
noncomputable def rOr (t u:RT):RT:=λρ Q=>t ρ λc=>if c=true then Q true else u ρ Q
noncomputable def HP (t:RT):RT:=λρ Q=>t ρ λc=>Q (!c)
variable {tA tB:RT} {rest:List Expr}
theorem NQ (ha:DT X a tA):DW X (.BoolOp .And [a] pos) tA:=PK ha
theorem SD (ha:DT X a tA) (hb:DW X (.BoolOp .And (b::rest) pos) tB):DW X (.BoolOp .And (a::b::rest) pos) (BA tA tB) :=
 PW.mono (TQ ha hb) λσ H Q hh=>dQ hh λρ P st q k=>⟨ρ,_,st,q,λc H1 hc s1=>by
  cases c with
  | true=>rw[if_pos rfl] at hc ⊢;exact⟨ρ,P,st.ext s1,hc,λd H2 hd s2=>k d H2 hd (s1.trans s2)⟩
  | false=>rw[if_neg Bool.false_ne_true] at hc ⊢;exact k false H1 hc s1⟩
theorem DW.tst (h:DW X e tA):DT X e tA:=PW.pt h
noncomputable def oR (ta tb:RE):RE:=λρ Q=>ta ρ λd=>match d with
 | .bl k=>if k=true then tb ρ Q else Q (.bl false)
 | _=>False
noncomputable def HQ (ta tb:RE):RE:=λρ Q=>ta ρ λd=>match d with
 | .bl k=>if k=true then Q (.bl true) else tb ρ Q
 | _=>False
noncomputable def wK (ta:RE):RE:=λρ Q=>ta ρ λd=>match d with
 | .bl k=>Q (.bl (!k))
 | _=>False
theorem RY {op} (h:DE X a ta):DE X (.BoolOp op [a] pos) ta:=TC h
theorem RW (ha:DE X a ta) (hb:DE X (.BoolOp .And (b::rest) pos) tb):DE X (.BoolOp .And (a::b::rest) pos) (oR ta tb) :=
 PE.mono (TB ha hb) λσ H Q hh=>dQ hh λρ P st q k=>⟨ρ,_,st,q,λd v H1 hd s1 r=>by
  cases d with
  | bl c =>
   refine⟨c,r.bl_inv,?_⟩
   cases c with
   | true=>exact⟨ρ,P,st.ext s1,hd,λd v H2 hd s2=>k d v H2 hd (s1.trans s2)⟩
   | false=>exact k (.bl false) (.bl false) H1 hd s1 (.bl false)
  | _=>exact hd.elim⟩
noncomputable def rIf (t:RT) (ta tb:RE):RE:=λρ Q=>t ρ λc=>if c=true then ta ρ Q else tb ρ Q
noncomputable def VM (X:Cx) (r:D->(D->Prop)->Prop):V->Hp->VK->Prop:=λx H Q=>∃d P,RepB X.K H d x/\r d P/\∀z v H',P z->Same H H'->Rep X.K H' z v->Q v H'
noncomputable def UnD (X:Cx) (f:Value->Sem Value) (r:D->(D->Prop)->Prop):Prop:=UnR X f (VM X r)
noncomputable def r1 (r:D->(D->Prop)->Prop) (ta:RE):RE:=λρ Q=>ta ρ λx=>r x Q
theorem qE {op:UnaryOp} {r:D->(D->Prop)->Prop} (ho:UnD X (unaryOp op) r) (ha:DB X a ta):DE X (.UnaryOp op a pos) (r1 r ta) :=
 PE.mono (VY ho ha) λσ H Q hh=>dQ hh λρ P st q k=>⟨ρ,_,st,q,λd v H1 hd s1 rr=>⟨d,P,rr,hd,λz v H2 hz s2 r2=>k z v H2 hz (s1.trans s2) r2⟩⟩
noncomputable def aG:RA:=λ_ Q=>Q []
noncomputable def aB (t:RE) (u:RA):RA:=λρ Q=>t ρ λx=>u ρ λxs=>Q (x::xs)
variable {es:List Expr} {t:RA}
theorem aH:DA X [] aG:=PA.mono pP λσ H Q hh=>dQ hh λρ P st q k=>k [] [] H q (Same.refl H) .nil
theorem aA (ha:DE X e ta) (hr:DA X es t) (hs:starEach (e::es) X.env=(false,eval e X.env)::starEach es X.env:=by rfl):DA X (e::es) (aB ta t) :=
 PA.mono (iX ha hr hs) λσ H Q hh=>dQ hh λρ P st q k=>⟨ρ,_,st,q,λd v H1 hd s1 r1=>⟨ρ,_,st.ext s1,hd,λds vs H2 hds s2 r2=>k (d::ds) (v::vs) H2 hds (s1.trans s2) (.cons (r1.keep (.of s2)) r2)⟩⟩
noncomputable def dU (t:RA):RE:=λρ Q=>t ρ λds=>Sz ds.length/\Q (.tup ds)
theorem cO {x1} (h:DA X es t):DE X (.Tuple es x1 pos) (dU t) :=
 PE.mono (TD h) λσ H Q hh=>dQ hh λρ P st q k=>⟨ρ,_,st,q,λds vs H1 hd s1 r=>⟨by rw[<-r.length];exact hd.1.ok,λp hp=>k (.tup ds) (.ref p) _ hd.2 (Same.upd_new s1 (s1.free hp) λ_ z=>by rw[hp] at z;cases z) (by
  have sm:Same H1 (upd H1 p (.tup vs)):=Same.fn λb u e=>by rw[aI (aQ e hp)];exact e
  exact .tup aW (r.keep (.of sm)))⟩⟩
noncomputable def gQ (t:RA):RA:=λρ Q=>t ρ λds=>Sz ds.length/\Q ds
theorem eI (h:DA X es t):DO X (.List es pos) (gQ t) :=
 PE.mono (LM h) λσ H Q hh=>dQ hh λρ P st q k=>⟨ρ,_,st,q,λds vs H1 hd s1 r=>⟨by rw[<-r.length];exact hd.1.ok,λp hp=>k ds p vs H1 hd.2 s1 hp r⟩⟩
end
section
variable {X:Cx} {e a b c:Expr} {pos:Pos} {st:Stmt} {rest:List Stmt} {t u:RS} {te:RE} {tA:RT}
noncomputable def aY (t u:RS):RS:=λE ρ=>t { E with nx:=u E } ρ
noncomputable def cW:RS:=λE ρ=>E.nx ρ
theorem dP:DSs X [] cW:=PSs.mono PF λDe σ H hh=>dX hh λρ E st q n r b c=>n ρ σ H q (Keep.refl H) st
theorem aP (h:DS X st t):DSs X [st] t:=PH h
theorem aF (h1:DS X st t) (h2:DSs X rest u):DSs X (st::rest) (aY t u) :=
 PSs.mono (LT h1 h2) λDe σ H hh=>dX hh λρ E st q n r b c=>⟨ρ,_,st,q,λρ' σ' H' h k s=>⟨ρ',E,s,h,λρ2 σ2 H2 x k2=>n ρ2 σ2 H2 x (k.trans k2),λd v H2 x k2=>r d v H2 x (k.trans k2),λρ2 σ2 H2 x k2=>b ρ2 σ2 H2 x (k.trans k2),λρ2 σ2 H2 x k2=>c ρ2 σ2 H2 x (k.trans k2)⟩,r,b,c⟩
theorem zY:DS X st (λ_ _=>False):=PS.mono LR λDe σ H ⟨ρ,E,st,q,_⟩=>q
noncomputable def bX (te:RE):RS:=λE ρ=>te ρ E.rt
theorem bH (h:DE X e te):DS X (.Return (some e) pos) (bX te) :=
 PS.mono (TN h) λDe σ H hh=>dX hh λρ E st q n r b c=>⟨ρ,_,st,q,λd v H1 hd s1 rr=>r d v H1 hd (.of s1) (st.same.trans s1) rr⟩
noncomputable def wJ (te:RE):RS:=λE ρ=>te ρ λ_=>E.nx ρ
noncomputable def gB (c:RT) (t u:RS):RS:=λE ρ=>c ρ λk=>if k=true then t E ρ else u E ρ
theorem iV {sa sb:List Stmt} (hc:DT X c tA) (ha:DSs X sa t) (hb:DSs X sb u):DS X (.If c sa sb pos) (gB tA t u) :=
 PS.mono (VZ hc ha hb) λDe σ H hh=>dX hh λρ E st q n r b c=>⟨ρ,_,st,q,λk H1 hk s1=>by
  cases k with
  | true=>rw[if_pos rfl] at hk ⊢;exact⟨ρ,E,st.ext s1,hk,λρ2 σ2 H2 x k2=>n ρ2 σ2 H2 x ((Keep.of s1).trans k2),λd v H2 x k2=>r d v H2 x ((Keep.of s1).trans k2),λρ2 σ2 H2 x k2=>b ρ2 σ2 H2 x ((Keep.of s1).trans k2),λρ2 σ2 H2 x k2=>c ρ2 σ2 H2 x ((Keep.of s1).trans k2)⟩
  | false=>rw[if_neg Bool.false_ne_true] at hk ⊢;exact⟨ρ,E,st.ext s1,hk,λρ2 σ2 H2 x k2=>n ρ2 σ2 H2 x ((Keep.of s1).trans k2),λd v H2 x k2=>r d v H2 x ((Keep.of s1).trans k2),λρ2 σ2 H2 x k2=>b ρ2 σ2 H2 x ((Keep.of s1).trans k2),λρ2 σ2 H2 x k2=>c ρ2 σ2 H2 x ((Keep.of s1).trans k2)⟩⟩
noncomputable def aR (i:Nat):RG:=λd ρ Q=>Q (ρ.set i (some (.d d)))
theorem bC {i:Nat} {x:Str} (hN:X.N.Nodup) (hi:X.N[i]? = some x:=by rfl) (hx:Loc X.env.scope x:=by walk_at "vis") (hf:X.fn x=true\/X.env.scope.names.lookup x=some .local:=by walk_at "loc"):DG X (.Name x pos) (aR i) :=
 PG.mono (OX hN hi hx hf) λv σ H Q hh=>xZ hh λd ρ P r st q k=>k _ _ H q (Keep.refl H) (st.set_d r)
noncomputable abbrev RGs:=List D->En->(En->Prop)->Prop
noncomputable def SX (X:Cx) (g:RGs):TGs:=λvs σ H Q=>∃ds ρ P,Reps X.K H ds vs/\StOk X ρ σ H/\g ds ρ P/\∀ρ' σ' H',P ρ'->Keep H H'->StOk X ρ' σ' H'->Q σ' H'
noncomputable def DGs (X:Cx) (ts:List Expr) (g:RGs):Prop:=PGs X ts (SX X g)
theorem PGs.mono {X:Cx} {e:List Expr} {t t':TGs} (h:PGs X e t) (m:∀v σ H Q,t' v σ H Q->t v σ H Q):PGs X e t':=λpins s σ H v u Q I r q=>h pins s σ H v u Q I r (m v σ H Q q)
noncomputable def fW:RGs:=λds ρ Q=>match ds with
 | []=>Q ρ
 | _=>False
noncomputable def cE (g:RG) (u:RGs):RGs:=λds ρ Q=>match ds with
 | []=>False
 | d::r=>g d ρ λρ'=>u r ρ' Q
theorem kC:DGs X [] fW:=PGs.mono OY λvs σ H Q hh=>xZ hh λds ρ P r st q k=>by
 cases r with
 | nil=>exact⟨rfl,k ρ σ H q (Keep.refl H) st⟩
 | cons _ _=>exact q.elim
theorem cQ {es:List Expr} {g:RG} {u:RGs} (h1:DG X e g) (h2:DGs X es u) (hs:(assignEach (e::es) X.env).map (·.2)=assign e X.env::(assignEach es X.env).map (·.2):=by rfl):DGs X (e::es) (cE g u) :=
 PGs.mono (LO h1 h2 hs) λvs σ H Q hh=>xZ hh λds ρ P r st q k=>by
  cases r with
  | nil=>exact q.elim
  | cons r rs =>
   refine⟨_,_,rfl,_,ρ,_,r,st,q,λρ' σ' H' hq k1 st1=>⟨_,ρ',P,rs.keep k1,st1,hq,λρ2 σ2 H2 p k2 s2=>k ρ2 σ2 H2 p (k1.trans k2) s2⟩⟩
noncomputable def fX (n:Nat) (g:RGs):RG:=λd ρ Q=>match d with
 | .tup ds=>ds.length=n/\g ds ρ Q
 | _=>False
theorem mZ {es:List Expr} {k:Nat} {g:RGs} {n:Nat} (hc:X.calm=true) (h:DGs X es g) (hn:(assignEach es X.env).length=n:=by rfl) (hst:(assignEach es X.env).findIdx? (·.1)=none:=by rfl):DG X (.Tuple es k pos) (fX n g) :=
 PG.mono (TH hc h hn hst) λv σ H Q hh=>xZ hh λd ρ P r st q kk=>by
  cases d with
  | tup ds =>
   cases r with
   | tup h r=>exact⟨_,_,rfl,SqT.of h,by rw[<-r.length];exact q.1,ds,ρ,P,r,st,q.2,kk⟩
  | _=>exact q.elim
noncomputable def yN (te:RE) (g:RG):RS:=λE ρ=>te ρ λd=>g d ρ E.nx
theorem JU {tg:Expr} {g:RG} (he:DE X e te) (hg:DG X tg g) (hs:swapsWithSole [tg] e pos.line X.env=pure false:=by rfl) (hw:swappedStores [tg] e X.env=pure none:=by rfl)
  (h1:(assignEach [tg] X.env).map (·.2)=[assign tg X.env]:=by rfl):DS X (.Assign [tg] e pos) (yN te g) :=
 PS.mono (TK he hg hs hw h1) λDe σ H hh=>dX hh λρ E st q n r b c=>⟨ρ,_,st,q,λd v H1 hd s1 rr=>⟨d,ρ,_,rr,st.ext s1,hd,λρ2 σ2 H2 x k2 s2=>n ρ2 σ2 H2 x ((Keep.of s1).trans k2) s2⟩⟩
noncomputable def bD (i:Nat) (te:RE):RS:=λE ρ=>te ρ λd=>E.nx (ρ.set i (some (.d d)))
theorem aX {i:Nat} {x:Str} {pos':Pos} (hN:X.N.Nodup) (he:DE X e te) (hi:X.N[i]? = some x:=by rfl) (hx:Loc X.env.scope x:=by walk_at "vis") (hs:swapsWith e (some (.Name x pos')) pos.line X.env=pure false:=by rfl)
  (hf:X.fn x=true\/X.env.scope.names.lookup x=some .local:=by walk_at "loc"):DS X (.Assign [.Name x pos'] e pos) (bD i te) :=
 PS.mono (yM hN hi hx he hs hf) λDe σ H hh=>dX hh λρ E st q n r b c=>⟨ρ,_,st,q,λd v H1 hd s1 rr=>n _ _ H1 hd (.of s1) ((st.ext s1).set_d rr)⟩
noncomputable def dE (i:Nat) (t:RA):RS:=λE ρ=>t ρ λds=>E.nx (ρ.set i (some (.own ds)))
theorem fJ {i:Nat} {x:Str} {pos':Pos} {t:RA} (hN:X.N.Nodup) (he:DO X e t) (hi:X.N[i]? = some x:=by rfl) (hx:Loc X.env.scope x:=by walk_at "vis") (hs:swapsWith e (some (.Name x pos')) pos.line X.env=pure false:=by rfl)
  (hf:X.fn x=true\/X.env.scope.names.lookup x=some .local:=by walk_at "loc"):DS X (.Assign [.Name x pos'] e pos) (dE i t) :=
 PS.mono (yM hN hi hx he hs hf) λDe σ H hh=>dX hh λρ E st q n r b c=>⟨ρ,_,st,q,λds p vs H1 hd s1 hp rr=>n _ _ _ hd ((Keep.of s1).trans (.of (.fn λb o h=>by rw[aI (aQ h hp)];exact h))) ((st.ext s1).set_own hp rr)⟩
noncomputable def BD (i j:Nat) (t:RA):RS:=λE ρ=>t ρ λds=>match ds with
 | [x,y]=>E.nx ((ρ.set i (some (.d x))).set j (some (.d y)))
 | _=>False
theorem SC {i j:Nat} {x y:Str} {t:RA} {px py pt:Pos} {kt k2 pt2} (hc:X.calm=true) (hN:X.N.Nodup) (ha:DA X [a,b] t) (hi:X.N[i]? = some x:=by rfl) (hj:X.N[j]? = some y:=by rfl) (hij:i≠j:=by decide)
  (hx:X.env.scope.names.lookup x=some .local:=by rfl) (hy:X.env.scope.names.lookup y=some .local:=by rfl)
  (hw:swappedStores [.Tuple [.Name x px,.Name y py] kt pt] (.Tuple [a,b] k2 pt2) X.env=pure (some [x,y]):=by rfl)
  (hs:swapsWithSole [.Tuple [.Name x px,.Name y py] kt pt] (.Tuple [a,b] k2 pt2) pos.line X.env=pure false:=by rfl) :
  DS X (.Assign [.Tuple [.Name x px,.Name y py] kt pt] (.Tuple [a,b] k2 pt2) pos) (BD i j t) :=
 PS.mono (TM hc hN hi hj hij hx hy ha hw hs) λDe σ H hh=>dX hh λρ E st q n r b c=>⟨ρ,_,st,q,λds vs H1 hd s1 rr=>by
  cases rr with
  | nil=>exact hd.elim
  | cons r1 t1 =>
   cases t1 with
   | nil=>exact hd.elim
   | cons r2 t2 =>
    cases t2 with
    | nil=>exact⟨_,_,rfl,n _ _ H1 hd (.of s1) (((st.ext s1).set_d r1).set_d r2)⟩
    | cons _ _=>exact hd.elim⟩
noncomputable def dY (i:Nat) (ρ:En):En:=match ρ[i]? with
 | some (some x)=>ρ.set i (some x.fz)
 | _=>ρ
theorem jR (i:Nat) (h:DS X st t):DS X st (λE ρ=>t E (dY i ρ)):=by
 intro pins s σ H De I ⟨ρ,E,so,q,n,r,b,c⟩
 have q:t E (dY i ρ):=q
 unfold dY at q
 split at q
 ·rename_i x e
  obtain⟨H2,I2,so2,kp⟩:=so.fz I e
  exact h pins s σ _ De I2 ⟨_,E,so2,q,λρ2 σ2 H2 x k2=>n ρ2 σ2 H2 x (kp.trans k2),λd v H2 x k2=>r d v H2 x (kp.trans k2),λρ2 σ2 H2 x k2=>b ρ2 σ2 H2 x (kp.trans k2),λρ2 σ2 H2 x k2=>c ρ2 σ2 H2 x (kp.trans k2)⟩
 ·exact h pins s σ H De I ⟨ρ,E,so,q,n,r,b,c⟩
noncomputable def kH (c:RT) (t:RS):Nat->RS
 | 0,_,_=>False
 | n+1,E,ρ=>c ρ λk=>if k=true then t { E with nx:=kH c t n E,ct:=kH c t n E,bk:=E.nx } ρ else E.nx ρ
noncomputable def uJ (c:RT) (t:RS):RS:=λE ρ=>∃n,kH c t n E ρ
theorem zZ {body:List Stmt} (hp:PassesOwn (model X.prog X.w) X.A X.env X.xe) (hc:DT X c tA) (hb:DSs X body t):DS X (.While c body [] pos) (uJ tA t) :=
 PS.mono (LS hp hc hb) λDe σ H hh=>dX hh λρ E st mq n r b c=>by
  obtain⟨m,q⟩:=mq
  refine⟨λm σ' H'=>∃ρ',StOk X ρ' σ' H'/\Keep H H'/\kH tA t m E ρ',⟨m,ρ,st,Keep.refl H,q⟩,?_⟩
  rintro m σ' H' ⟨ρ',st',kp,hw⟩
  cases m with
  | zero=>exact hw.elim
  | succ m =>
   refine⟨ρ',_,st',hw,λk H1 hk s1=>?_⟩
   have kp1:=kp.trans (.of s1)
   cases k with
   | true =>
    dsimp only at hk ⊢
    rw[if_pos rfl] at hk ⊢
    refine⟨λσ2 H2=>∃ρ2,StOk X ρ2 σ2 H2/\Keep H H2/\kH tA t m E ρ2,λσ2 H2 ⟨ρ2,a1,a2,a3⟩=>⟨m,Nat.lt_succ_self m,ρ2,a1,a2,a3⟩,?_⟩
    exact⟨ρ',_,st'.ext s1,hk,λρ2 σ2 H2 x k2 s2=>⟨ρ2,s2,kp1.trans k2,x⟩,λd v H2 x k2=>r d v H2 x (kp1.trans k2),λρ2 σ2 H2 x k2=>n ρ2 σ2 H2 x (kp1.trans k2),λρ2 σ2 H2 x k2 s2=>⟨ρ2,s2,kp1.trans k2,x⟩⟩
   | false =>
    dsimp only at hk ⊢
    rw[if_neg Bool.false_ne_true] at hk ⊢
    exact n ρ' σ' H1 hk kp1 (st'.ext s1)
noncomputable def CB (X:Cx) (J:It) (xs:List D) (H0:Hp):Prop:=∀i H,Keep H0 H ->
 (∀d,xs[i]? = some d->J.go i H/\∀x H',J.yld i H x H'->Same H H'/\Rep X.K H' d x)/\(xs.length<=i->J.stop i H)
noncomputable def VI (X:Cx) (t:RA):TI:=λσ H R=>∃ρ P,StOk X ρ σ H/\t ρ P/\∀xs J H',P xs->Same H H'->CB X J xs H'->R J H'
noncomputable def DI (X:Cx) (tg iter:Expr) (t:RA):Prop:=PI X tg iter (VI X t)
theorem PI.mono {X:Cx} {tg e:Expr} {t t':TI} (h:PI X tg e t) (m:∀σ H Q,t' σ H Q->t σ H Q):PI X tg e t':=λpins s σ H Q I q=>h pins s σ H Q I (m σ H Q q)
noncomputable def tK (g:RG) (t:RS):List D->RS
 | [],E,ρ=>E.nx ρ
 | x::xs,E,ρ=>g x ρ λρ1=>t { E with nx:=tK g t xs E,ct:=tK g t xs E,bk:=E.nx } ρ1
noncomputable def cL (ti:RA) (g:RG) (t:RS):RS:=λE ρ=>ti ρ λxs=>tK g t xs E ρ
theorem cT {tg iter:Expr} {body:List Stmt} {ti:RA} {g:RG} (hp:PassesOwn (model X.prog X.w) X.A X.env X.xe) (hc:X.calm=true) (hi:DI X tg iter ti) (hg:DG X tg g) (hb:DSs X body t)
  (hs:∀x,foldedSetIterable iter X.env x=pure x:=by intro _;rfl):DS X (.For tg iter body [] pos) (cL ti g t) :=
 PS.mono (TL hp hc hi hg hb hs) λDe σ H hh=>dX hh λρ E st q n r b c=>by
  refine⟨ρ,_,st,q,λxs J H1 hx s1 ok=>?_⟩
  refine⟨λi m σ' H'=>m=xs.length-i/\i<=xs.length/\∃ρ',StOk X ρ' σ' H'/\Keep H1 H'/\tK g t (xs.drop i) E ρ',⟨xs.length,by simp,Nat.zero_le _,ρ,st.ext s1,Keep.refl H1,by simpa using hx⟩,?_⟩
  rintro i m σ' H' ⟨rfl,hi,ρ',st',kp,hf⟩
  obtain⟨o1,o2⟩:=ok i H' kp
  have kp1:Keep H H':=(Keep.of s1).trans kp
  by_cases hlt:i<xs.length
  ·have e:xs.drop i=xs[i]::xs.drop (i+1):=List.drop_eq_getElem_cons hlt
   rw[e] at hf
   obtain⟨go,yl⟩:=o1 xs[i] (List.getElem?_eq_getElem hlt)
   refine .inr ⟨go,λσ2 H2=>∃ρ2,StOk X ρ2 σ2 H2/\Keep H1 H2/\tK g t (xs.drop (i+1)) E ρ2,λσ2 H2 hh=>⟨xs.length-(i+1),by omega,rfl,hlt,hh⟩,λx H2 y=>?_⟩
   obtain⟨s2,rx⟩:=yl x H2 y
   refine⟨xs[i],ρ',_,rx,st'.ext s2,hf,λρ3 σ3 H3 h3 k3 s3=>?_⟩
   have k13:Keep H1 H3:=(kp.trans (.of s2)).trans k3
   have k03:Keep H H3:=(kp1.trans (.of s2)).trans k3
   exact⟨ρ3,_,s3,h3,λρ4 σ4 H4 x4 k4 s4=>⟨ρ4,s4,k13.trans k4,x4⟩,λd v H4 x4 k4=>r d v H4 x4 (k03.trans k4),λρ4 σ4 H4 x4 k4=>n ρ4 σ4 H4 x4 (k03.trans k4),λρ4 σ4 H4 x4 k4 s4=>⟨ρ4,s4,k13.trans k4,x4⟩⟩
  ·have e:i=xs.length:=by omega
   subst e
   rw[List.drop_length] at hf
   exact .inl ⟨o2 (Nat.le_refl _),n ρ' σ' H' hf kp1 st'⟩
end
section
variable {X:Cx} {tg e:Expr} {te:RE} {pos p:Pos}
noncomputable def riL (te:RE):RA:=λρ Q=>te ρ λd=>match d with
 | .lst ds=>Q ds
 | _=>False
theorem dO (h:DE X e te):DI X tg e (riL te):=by
 refine PI.mono (OZ h) λσ H R hh=>dQ hh λρ P st q k=>⟨ρ,_,st,q,λd v H1 hd s1 r=>?_⟩
 cases d with
 | lst ds =>
  cases r with
  | @lst a vs _ hz r =>
   refine⟨a,rfl,⟨vs,hz.sq⟩,k ds _ H1 hd s1 λi H2 kp=>⟨λd e=>?_,λhl=>⟨vs,(hz.keep kp).sq,by rw[<-r.length];exact hl⟩⟩⟩
   obtain⟨v,h1,h2⟩:=(r.keep kp).get e
   refine⟨⟨vs,v,(hz.keep kp).sq,h1⟩,λx H' y=>?_⟩
   obtain⟨e1,e2⟩:=y
   subst e1
   have e3:=e2 vs (hz.keep kp).sq
   rw[h1] at e3;cases e3
   exact⟨Same.refl _,h2⟩
 | _=>exact hd.elim
noncomputable def riT (te:RE):RA:=λρ Q=>te ρ λd=>match d with
 | .tup ds=>Q ds
 | _=>False
theorem SA (h:DE X e te):DI X tg e (riT te):=by
 refine PI.mono (TJ h) λσ H R hh=>dQ hh λρ P st q k=>⟨ρ,_,st,q,λd v H1 hd s1 r=>?_⟩
 cases d with
 | tup ds =>
  cases r with
  | @tup a vs _ hz r =>
   refine⟨a,rfl,⟨vs,SqT.of hz⟩,k ds _ H1 hd s1 λi H2 kp=>⟨λd e=>?_,λhl=>⟨vs,SqT.of (kp.tups _ _ hz),by rw[<-r.length];exact hl⟩⟩⟩
   obtain⟨v,h1,h2⟩:=(r.keep kp).get e
   refine⟨⟨vs,v,SqT.of (kp.tups _ _ hz),h1⟩,λx H' y=>?_⟩
   obtain⟨e1,e2⟩:=y
   subst e1
   have e3:=e2 vs (SqT.of (kp.tups _ _ hz))
   rw[h1] at e3;cases e3
   exact⟨Same.refl _,h2⟩
 | _=>exact hd.elim
noncomputable def cP (lo:Int) (n:Nat):List D:=(List.range n).map λk:Nat=>D.int (lo+(k:Int))
theorem CN {H0:Hp} (lo:Int) (n:Nat):CB X (Itr lo n) (cP lo n) H0:=λi H kp=>by
 refine⟨λd e=>?_,λhl=>by show n<=i;simpa [cP] using hl⟩
 unfold cP at e
 rw[List.getElem?_map] at e
 by_cases hi:i<n
 ·rw[List.getElem?_range hi] at e
  cases e
  exact⟨hi,λx H' y=>by obtain⟨rfl,rfl⟩:=y;exact⟨Same.refl _,.int _⟩⟩
 ·rw[List.getElem?_eq_none (by simpa using hi)] at e;cases e
structure RngOk (j:Int):Prop where
 lo:-(2 ^ 62)<=j
 hi:j<2 ^ 62
noncomputable def oX (t:RA):RA:=λρ Q=>t ρ λds=>match ds with
 | [.int j]=>RngOk j/\Q (cP 0 j.toNat)
 | _=>False
noncomputable def BH (t:RA):RA:=λρ Q=>t ρ λds=>match ds with
 | [.int i,.int j]=>(RngOk i/\RngOk j)/\Q (cP i (j-i).toNat)
 | _=>False
theorem fY {a:Expr} {t:RA} (hm:X.mg "range" = none) (ha:DA X [a] t) (hg:Gl X "range":=by rfl) (hs:starEach [a] X.env=[(false,eval a X.env)]:=by rfl):DI X tg (.Call (.Name "range" p) [a] [] pos) (oX t):=by
 refine PI.mono (HJ hg hm ha hs) λσ H R hh=>dQ hh λρ P st q k=>⟨ρ,_,st,q,λds vs H1 hd s1 r=>?_⟩
 split at hd
 ·rename_i j
  rw[Reps.ints_inv (ns:=[j]) r]
  exact⟨j,rfl,hd.1.lo,hd.1.hi,k _ _ H1 hd.2 s1 (CN 0 _)⟩
 ·exact hd.elim
theorem GH {a b:Expr} {t:RA} (hm:X.mg "range" = none) (ha:DA X [a,b] t) (hg:Gl X "range":=by rfl) (hs:starEach [a,b] X.env=[(false,eval a X.env),(false,eval b X.env)]:=by rfl) (hs2:starEach [b] X.env=[(false,eval b X.env)]:=by rfl):DI X tg (.Call (.Name "range" p) [a,b] [] pos) (BH t):=by
 refine PI.mono (HK hg hm ha hs hs2) λσ H R hh=>dQ hh λρ P st q k=>⟨ρ,_,st,q,λds vs H1 hd s1 r=>?_⟩
 split at hd
 ·rename_i i j
  rw[Reps.ints_inv (ns:=[i,j]) r]
  exact⟨i,j,rfl,⟨hd.1.1.lo,hd.1.1.hi,hd.1.2.lo,hd.1.2.hi⟩,k _ _ H1 hd.2 s1 (CN i _)⟩
 ·exact hd.elim
end
noncomputable abbrev FD:=List D->(D->Prop)->Prop
noncomputable def spD (K:PySem.W.Frag) (F:FD):Sp:=λvs H Q _=>TabsIn K H/\∃ds P,Reps K H ds vs/\F ds P/\∀d v H',P d->Same H H'->Rep K H' d v->Q v H'
noncomputable def aU (F:FD) (t:RA):RE:=λρ Q=>t ρ λds=>F ds Q
section
variable {X:Cx} {k:Nat} {f:Addr} {fd:FuncData} {ps:List Str} {F:FD} {x:Str} {p pos:Pos} {e:Expr} {es:List Expr} {t:RA}
theorem NJ (G:FnOk X.prog X.w X.K X.mg X.base CX0 k f fd ps (spD X.K F)) (hr:Room k X.A) (hm:X.mg x=some (.ref f)) (hk:PySem.W.keepIn X.K (.ref f)=true) (hb:Binds X.K fd ps []) (ha:DA X (e::es) t) (hg:Gl X x:=by rfl)
  (hdb:(x == ("__debug__":Str))=false:=by decide) (he:starEach (e::es) X.env=(false,eval e X.env)::starEach es X.env:=by rfl) (hpl:(backTo pos (starEach es X.env)).any (·.1)=false:=by rfl) :
  DE X (.Call (.Name x p) (e::es) [] pos) (aU F t) :=
 PE.mono (OV (E:=E0) G hr hg hm hk hb .nil VU ha hdb he hpl) λσ H Q hh=>dQ hh λρ P st q kk=>⟨ρ,_,st,q,λds vs H1 hd s1 r=>by
  show spD X.K F (vs++[]) H1 Q E0
  rw[List.append_nil]
  exact⟨(st.ext s1).tabs,ds,P,r,hd,λd v H2 hp s2 r2=>kk d v H2 hp (s1.trans s2) r2⟩⟩
end
noncomputable def aO (N:List Str) (ds:List D):En:=ds.map (λd=>some (.d d))++List.replicate (N.length-ds.length) none
section
variable {P:Program} {w:World} {K:PySem.W.Frag} {mg:Str->Option Value} {base:Heap}
theorem BQ {X:Cx} {N:List Str} {ds:List D} {vs:List V} (tb:TabsIn X.K X.H₀) (r:Reps X.K X.H₀ ds vs):StOk X (aO N ds) (lU N vs) X.H₀:=by
 have hl:=r.length
 have own:∀(i:Nat) (x:S),(aO N ds)[i]? = some (some x)->∃d,x = .d d:=λi x e=>by
  unfold aO at e
  by_cases hi:i<ds.length
  ·rw[List.getElem?_append_left (by simpa using hi),List.getElem?_map,List.getElem?_eq_getElem hi] at e
   cases e;exact⟨_,rfl⟩
  ·rw[List.getElem?_append_right (by simpa using hi),List.getElem?_replicate] at e
   split at e <;> cases e
 refine⟨by simp[aO,lU,hl],Same.refl _,λi x e=>?_,λi j x y v u a e1 _ _ _ o _=>by
  obtain⟨d,rfl⟩:=own i x e1
  exact o.elim,tb⟩
 unfold aO at e
 by_cases hi:i<ds.length
 ·rw[List.getElem?_append_left (by simpa using hi),List.getElem?_map,List.getElem?_eq_getElem hi] at e
  cases e
  obtain⟨v,h1,h2⟩:=r.get (List.getElem?_eq_getElem hi)
  refine⟨v,?_,h2⟩
  unfold lU
  rw[List.getElem?_append_left (by simpa [<-hl] using hi),List.getElem?_map,h1];rfl
 ·rw[List.getElem?_append_right (by simpa using hi),List.getElem?_replicate] at e
  split at e <;> cases e
theorem QJ {x qual:Str} {st:Stmt} {f:Addr} {fd:FuncData} {N ps:List Str} {k:Nat} {F:FD} {t:RS} (Fu:Fun K x qual st f fd) (Sc:FnScope N ps (aC st))
  (hbody:∀(cdv:Value) (A:Around) (outer:List Env) (s:Shared) (H:Hp) (E:XK),Room k (A.deeper (envOfC qual (aC st) s.heap.objs.size f cdv)) ->
   DSs (cN CX0 P w K mg base N qual (aC st) f cdv A outer s H E).nox (aM st) t)
  (len:∀ds Q,F ds Q->ds.length=ps.length) (pure:∀ds Q,F ds Q->t { nx:=λ_=>Q .non,rt:=Q } (aO N ds)):FnOk P w K mg base CX0 (k+1) f fd ps (spD K F):=by
 refine Fu.ok Sc (λvs H Q E ⟨_,ds,P,r,h,_⟩=>by rw[<-r.length];exact len ds P h) λcdv A outer s H vs Q E hr ⟨tb,ds,P',r,h,kk⟩=>⟨_,hbody cdv A outer s H E hr,?_⟩
 exact⟨aO N ds,_,BQ (X:=(cN CX0 P w K mg base N qual (aC st) f cdv A outer s H E).nox) tb r,pure ds P' h,λρ' σ' H' hq k s'=>kk .non .non H' hq s'.same .non,λd v H' hq k sm rv=>kk d v H' hq sm rv,λ_ _ _ z=>z.elim,λ_ _ _ z=>z.elim⟩
end
noncomputable def BL (n:Nat) (i:Int):Prop:=i.natAbs<2 ^ n
theorem BL.bits {n:Nat} {i:Int} (h:BL n i):Builtin.Int.intBits i<=n:=intBits_le_iff.mpr h
theorem BL.of {n:Nat} {i:Int} (h:Builtin.Int.intBits i<=n):BL n i:=intBits_le_iff.mp h
theorem BL.mono {m n:Nat} {i:Int} (h:BL m i) (l:m<=n):BL n i:=BL.of (Nat.le_trans h.bits l)
theorem BL.add {m n:Nat} {i j:Int} (a:BL m i) (b:BL n j):BL (max m n+1) (i+j):=BL.of (intBits_add_le a.bits b.bits)
theorem BL.sub {m n:Nat} {i j:Int} (a:BL m i) (b:BL n j):BL (max m n+1) (i-j):=BL.of (intBits_sub_le a.bits b.bits)
theorem BL.mul {m n:Nat} {i j:Int} (a:BL m i) (b:BL n j):BL (m+n) (i*j):=BL.of (intBits_mul_le a.bits b.bits)
theorem BL.neg {m:Nat} {i:Int} (a:BL m i):BL m (-i):=BL.of (intBits_neg_le a.bits)
theorem BL.fdiv {m:Nat} {i j:Int} (a:BL m i):BL m (i.fdiv j):=BL.of (intBits_fdiv_le a.bits)
theorem BL.le {m:Nat} {i j:Int} (a:BL m j) (h:i.natAbs<=j.natAbs):BL m i:=Nat.lt_of_le_of_lt h a
theorem BL.of_lt {m:Nat} {i:Int} (h1:-(2 ^ m:Nat)<i) (h2:i<(2 ^ m:Nat)):BL m i:=by unfold BL;omega
theorem BL.intMulOk {m n:Nat} {i j:Int} (a:BL m i) (b:BL n j) (h:m+n<=134217728):IntMulOk i j:=IntMulOk.of_le a.bits b.bits h
theorem BL.noPy {i j:Int} (h:BL 9000 j):Builtin.divisionGoesByPylong i j=false:=by
 refine PyProof.noPylong_of_log2 ?_
 by_cases h0:j.natAbs=0
 ·rw[h0];decide +kernel
 ·exact (Nat.log2_lt h0).mpr h
section
variable {X:Cx} {e a b c:Expr} {pos:Pos}
theorem RepB.int_inv {K:PySem.W.Frag} {H:Hp} {i:Int} {v:V} (h:RepB K H (.int i) v):v = .int i:=by
 rcases h with h | ⟨ds,a,vs,e1,_⟩
 ·exact h.int_inv
 ·cases e1
theorem RepB.bl_inv {K:PySem.W.Frag} {H:Hp} {i:Bool} {v:V} (h:RepB K H (.bl i) v):v = .bl i:=by
 rcases h with h | ⟨ds,a,vs,e1,_⟩
 ·exact h.bl_inv
 ·cases e1
structure MulOk (i j:Int):Prop where
 ok:IntMulOk i j
structure DivOk (i j:Int):Prop where
 nz:j≠0
 np:Builtin.divisionGoesByPylong i j=false
structure ModOk (j:Int):Prop where
 nz:j≠0
structure PowOk (i j:Int):Prop where
 ok:0<=j/\j<=1000000/\i.natAbs<2 ^ 64
theorem BL.mulOk {m n:Nat} {i j:Int} (a:BL m i) (b:BL n j) (h:m+n<=134217728:=by decide):MulOk i j:=⟨a.intMulOk b h⟩
theorem BL.divOk {i j:Int} (h:BL 9000 j) (nz:j≠0):DivOk i j:=⟨nz,h.noPy⟩
noncomputable def bQ:R22:=λx y Q=>match x,y with
 | .int i,.int j=>Q (.int (i+j))
 | _,_=>False
noncomputable def eL:R22:=λx y Q=>match x,y with
 | .int i,.int j=>Q (.int (i-j))
 | _,_=>False
noncomputable def cB:R22:=λx y Q=>match x,y with
 | .int i,.int j=>MulOk i j/\Q (.int (i*j))
 | _,_=>False
noncomputable def cG:R22:=λx y Q=>match x,y with
 | .int i,.int j=>DivOk i j/\Q (.int (i.fdiv j))
 | _,_=>False
noncomputable def bV:R22:=λx y Q=>match x,y with
 | .int i,.int j=>ModOk j/\Q (.int (i.fmod j))
 | _,_=>False
noncomputable def kB:R22:=λx y Q=>match x,y with
 | .int i,.int j=>PowOk i j/\Q (.int (i ^ j.toNat))
 | _,_=>False
theorem HH {f:Value->Value->Sem Value} {C:Int->Int->Prop} {g:Int->Int->Int} {r:R22} (h:OpR X f (rI C λi j=>.int (g i j)))
  (hr:∀x y Q,r x y Q->∃i j,x = .int i/\y = .int j/\C i j/\Q (.int (g i j))):OpD X f r:=by
 intro pins s σ H x y v u Q I rx ry hh_0
 obtain⟨d,e,P,r1,r2,q,k⟩:=hh_0
 obtain⟨i,j,rfl,rfl,hc,q⟩:=hr _ _ _ q
 exact h pins s σ H x y v u Q I rx ry ⟨i,j,r1.int_inv,r2.int_inv,hc,k _ _ H q (Same.refl H) (.int _)⟩
theorem bW:OpD X (binaryOp .Add) bQ:=HH (C:=λ_ _=>True) (g:=λi j=>i+j) (opI λ_ _ _ _ _ _ _ _ q=>add_int q) λx y Q q=>by
 unfold bQ at q;split at q
 ·exact⟨_,_,rfl,rfl,trivial,q⟩
 ·exact q.elim
theorem dG:OpD X (binaryOp .Sub) eL:=HH (C:=λ_ _=>True) (g:=λi j=>i-j) (opI λ_ _ _ _ _ _ _ _ q=>sub_int q) λx y Q q=>by
 unfold eL at q;split at q
 ·exact⟨_,_,rfl,rfl,trivial,q⟩
 ·exact q.elim
theorem bS:OpD X (binaryOp .Mult) cB:=HH (C:=λi j=>IntMulOk i j) (g:=λi j=>i*j) (opI λ_ _ _ _ _ _ _ hc q=>mul_int q hc) λx y Q q=>by
 unfold cB at q;split at q
 ·exact⟨_,_,rfl,rfl,q.1.ok,q.2⟩
 ·exact q.elim
theorem cY:OpD X (binaryOp .FloorDiv) cG:=HH (C:=λi j=>j≠0/\Builtin.divisionGoesByPylong i j=false) (g:=λi j=>i.fdiv j) (opI λ_ _ _ _ _ _ _ hc q=>floordiv_int hc.1 q (.inl hc.2)) λx y Q q=>by
 unfold cG at q;split at q
 ·exact⟨_,_,rfl,rfl,⟨q.1.nz,q.1.np⟩,q.2⟩
 ·exact q.elim
theorem bR:OpD X (binaryOp .Mod) bV:=HH (C:=λ_ j=>j≠0) (g:=λi j=>i.fmod j) (opI λ_ _ _ _ _ _ _ hc q=>mod_int' hc q) λx y Q q=>by
 unfold bV at q;split at q
 ·exact⟨_,_,rfl,rfl,q.1.nz,q.2⟩
 ·exact q.elim
theorem nH:OpD X (binaryOp .Pow) kB:=HH (C:=λi j=>0<=j/\j<=1000000/\i.natAbs<2 ^ 64) (g:=λi j=>i ^ j.toNat) (opI λ_ _ _ _ _ _ _ hc q=>pow_int_small hc.1 hc.2.1 hc.2.2 q) λx y Q q=>by
 unfold kB at q;split at q
 ·exact⟨_,_,rfl,rfl,q.1.ok,q.2⟩
 ·exact q.elim
noncomputable def mI:D->(D->Prop)->Prop:=λx Q=>match x with
 | .int i=>Q (.int (-i))
 | _=>False
theorem lW:UnD X (unaryOp .USub) mI:=by
 intro pins s σ H x v Q I rx hh_0
 obtain⟨d,P,r,q,k⟩:=hh_0
 unfold mI at q;split at q
 ·rename_i i
  exact UM pins s σ H x v Q I rx ⟨i,r.int_inv,k _ _ H q (Same.refl H) (.int _)⟩
 ·exact q.elim
noncomputable def jD (p:Int->Int->Bool):R22:=λx y Q=>match x,y with
 | .int i,.int j=>Q (.bl (p i j))
 | _,_=>False
theorem VR {f:Value->Value->Sem Value} {p:Int->Int->Bool} (h:OpR X f (rI0 λi j=>.bl (p i j))):OpD X f (jD p):=by
 intro pins s σ H x y v u Q I rx ry hh_0
 obtain⟨d,e,P,r1,r2,q,k⟩:=hh_0
 unfold jD at q;split at q
 ·rename_i i j
  exact h pins s σ H x y v u Q I rx ry ⟨i,j,r1.int_inv,r2.int_inv,k _ _ H q (Same.refl H) (.bl _)⟩
 ·exact q.elim
theorem wH:OpD X (compareOp .Lt) (jD λi j=>decide (i<j)):=VR VT
theorem QQ:OpD X (compareOp .Gt) (jD λi j=>decide (j<i)):=VR VS
noncomputable def hU (neg:Bool):R22:=λx y Q=>match x,y with
 | .int i,.int j=>Q (.bl (if neg then !decide (i=j) else decide (i=j)))
 | .bl i,.bl j=>Q (.bl (if neg then !decide (i=j) else decide (i=j)))
 | _,_=>False
theorem lH:OpD X (compareOp .Eq) (hU false):=by
 intro pins s σ H x y v u Q I rx ry hh_0
 obtain⟨d,e,P,r1,r2,q,k⟩:=hh_0
 unfold hU at q;split at q
 ·rename_i i j
  rw[r1.int_inv] at rx;rw[r2.int_inv] at ry
  exact QR pins s σ H _ _ v u Q I rx ry ⟨rfl,by
   have e:decide (V.int i=V.int j)=decide (i=j):=by simp
   rw[e];exact k _ _ H q (Same.refl H) (.bl _)⟩
 ·rename_i i j
  rw[r1.bl_inv] at rx;rw[r2.bl_inv] at ry
  exact QR pins s σ H _ _ v u Q I rx ry ⟨rfl,by
   have e:decide (V.bl i=V.bl j)=decide (i=j):=by simp
   rw[e];exact k _ _ H q (Same.refl H) (.bl _)⟩
 ·exact q.elim
theorem DC:OpD X (compareOp .NotEq) (hU true):=by
 intro pins s σ H x y v u Q I rx ry hh_0
 obtain⟨d,e,P,r1,r2,q,k⟩:=hh_0
 unfold hU at q;split at q
 ·rename_i i j
  rw[r1.int_inv] at rx;rw[r2.int_inv] at ry
  exact QS pins s σ H _ _ v u Q I rx ry ⟨rfl,by
   have e:decide (V.int i=V.int j)=decide (i=j):=by simp
   rw[e];exact k _ _ H q (Same.refl H) (.bl _)⟩
 ·rename_i i j
  rw[r1.bl_inv] at rx;rw[r2.bl_inv] at ry
  exact QS pins s σ H _ _ v u Q I rx ry ⟨rfl,by
   have e:decide (V.bl i=V.bl j)=decide (i=j):=by simp
   rw[e];exact k _ _ H q (Same.refl H) (.bl _)⟩
 ·exact q.elim
noncomputable def qJ:D->Bool
 | .non=>true
 | _=>false
noncomputable def GB (neg:Bool):R22:=λx y Q=>match y with
 | .non=>Q (.bl (if neg then !qJ x else qJ x))
 | _=>False
noncomputable def dIx:R22:=λx y Q=>match x,y with
 | .lst ds,.int i=>match atI ds i with
  | some d=>Q d
  | none=>False
 | .tup ds,.int i=>match atI ds i with
  | some d=>Q d
  | none=>False
 | _,_=>False
theorem zB {K:PySem.W.Frag} {H:Hp} {ds:List D} {vs:List V} {i:Int} {d:D} (r:Reps K H ds vs) (h:atI ds i=some d):∃v,atI vs i=some v/\Rep K H d v:=by
 unfold atI at h ⊢
 rw[<-r.length]
 cases e:ixN ds.length i with
 | none=>rw[e] at h;cases h
 | some j =>
  rw[e] at h
  exact r.get h
theorem aT {ta tb:RE} (ha:DB X a ta) (hb:DB X b tb) (hs:xC b:=by intro _ _;rfl):DE X (.Subscript a b pos) (r2 dIx ta tb):=by
 refine PE.mono (VW (OA.or SK) ha hb hs) λσ H Q h=>?_
 obtain⟨ρ,P,st,ht,hP⟩:=h
 refine⟨ρ,_,st,ht,λx v H1 h1 s1 r1=>⟨ρ,_,st.ext s1,h1,λy u H2 h2 s2 r2=>?_⟩⟩
 have r1':=r1.same s2
 unfold dIx at h2;split at h2
 ·rename_i ds i
  split at h2
  ·rename_i d e
   obtain⟨p,vs,rfl,hq,rr⟩:=r1'.lst
   obtain⟨w',e',rw'⟩:=zB rr e
   exact .inl ⟨p,vs,i,w',rfl,r2.int_inv,hq,e',hP d w' H2 h2 (s1.trans s2) rw'⟩
  ·exact h2.elim
 ·rename_i ds i
  split at h2
  ·rename_i d e
   obtain⟨p,vs,rfl,hq,rr⟩:=r1'.tup
   obtain⟨w',e',rw'⟩:=zB rr e
   exact .inr ⟨p,vs,i,w',rfl,r2.int_inv,SqT.of hq,e',hP d w' H2 h2 (s1.trans s2) rw'⟩
  ·exact h2.elim
 ·exact h2.elim
noncomputable abbrev RO:=En->(Option Int->Prop)->Prop
noncomputable def VL (X:Cx) (t:RO):TO:=λσ H Q=>∃ρ P,StOk X ρ σ H/\t ρ P/\∀o H',P o->Same H H'->Q o H'
noncomputable def DP (X:Cx) (e:Option Expr) (t:RO):Prop:=PO X e (VL X t)
noncomputable def cZ:RO:=λ_ Q=>Q none
noncomputable def iH (t:RE):RO:=λρ Q=>t ρ λd=>match d with
 | .int i=>Q (some i)
 | _=>False
theorem oD:DP X none cZ:=λpins s σ H Q I hh=>dQ hh λρ P st q k=>FF pins s σ H Q I (k none H q (Same.refl H))
theorem oE {t:RE} (h:DE X e t):DP X (some e) (iH t):=λpins s σ H Q I hh=>dQ hh λρ P st q k=>yL h pins s σ H Q I ⟨ρ,_,st,q,λd v H1 hd s1 r=>by
 cases d with
 | int i=>exact⟨i,r.int_inv,k (some i) H1 hd s1⟩
 | _=>exact hd.elim⟩
noncomputable def gW (xs:List D) (lo hi:Option Int):List D:=(xs.drop (HT.sIx xs.length 0 lo)).take (HT.sIx xs.length xs.length hi-HT.sIx xs.length 0 lo)
noncomputable def wM (te:RE) (tl th:RO):RA:=λρ Q=>te ρ λx=>tl ρ λl=>th ρ λu=>match x with
 | .lst ds=>Q (gW ds l u)
 | _=>False
noncomputable def SW (X:Cx) (r:List D->(D->Prop)->Prop):List V->Hp->VK->Prop:=λxs H Q=>∃ds P,Reps X.K H ds xs/\r ds P/\∀z v H',P z->Same H H'->Rep X.K H' z v->Q v H'
noncomputable def yX (X:Cx) (f:Value) (r:List D->(D->Prop)->Prop):Prop:=sQ X f (SW X r)
noncomputable def rCB (r:List D->(D->Prop)->Prop) (t:RA):RE:=λρ Q=>t ρ λds=>r ds Q
variable {x:Str} {p:Pos} {es:List Expr} {t:RA} {id T:String} {r:List D->(D->Prop)->Prop}
theorem lA (hc:yX X (.builtin id) r) (hm:X.mg x=none) (hv:bootBuiltins x=some (.builtin id)) (ha:DA X (e::es) t) (hg:Gl X x:=by rfl) (hn:x≠"__name__":=by decide) (hdb:(x == ("__debug__":Str))=false:=by decide)
  (he:starEach (e::es) X.env=(false,eval e X.env)::starEach es X.env:=by rfl) (hpl:(backTo pos (starEach es X.env)).any (·.1)=false:=by rfl):DE X (.Call (.Name x p) (e::es) [] pos) (rCB r t) :=
 PE.mono (AX hc hg hm hv ha hn hdb he hpl) λσ H Q hh=>dQ hh λρ P st q k=>⟨ρ,_,st,q,λds vs H1 hd s1 rr=>⟨ds,P,rr,hd,λz v H2 hz s2 r2=>k z v H2 hz (s1.trans s2) r2⟩⟩
theorem GG (hc:yX X (.type T) r) (hm:X.mg x=none) (hv:bootBuiltins x=some (.type T)) (ha:DA X (e::es) t) (hg:Gl X x:=by rfl) (hn:x≠"__name__":=by decide) (hdb:(x == ("__debug__":Str))=false:=by decide)
  (he:starEach (e::es) X.env=(false,eval e X.env)::starEach es X.env:=by rfl) (hpl:(backTo pos (starEach es X.env)).any (·.1)=false:=by rfl):DE X (.Call (.Name x p) (e::es) [] pos) (rCB r t) :=
 PE.mono (HI hc hg hm hv ha hn hdb he hpl) λσ H Q hh=>dQ hh λρ P st q k=>⟨ρ,_,st,q,λds vs H1 hd s1 rr=>⟨ds,P,rr,hd,λz v H2 hz s2 r2=>k z v H2 hz (s1.trans s2) r2⟩⟩
noncomputable def rF:List D->(D->Prop)->Prop:=λds Q=>match ds with
 | [.int i]=>Q (.int (if i<0 then -i else i))
 | _=>False
theorem xL:yX X (.builtin "abs") rF:=by
 intro pins s σ H xs us Q I rv hh_0
 obtain⟨ds,P,r,q,k⟩:=hh_0
 unfold rF at q;split at q
 ·rename_i i
  cases r with
  | cons r1 r2 =>
   cases r2
   rw[r1.int_inv] at rv
   exact IZ pins s σ H _ us Q I rv ⟨i,rfl,k _ _ H q (Same.refl H) (.int _)⟩
 ·exact q.elim
noncomputable def xO:List D->(D->Prop)->Prop:=λds Q=>match ds with
 | [.bl b]=>Q (.int (if b then 1 else 0))
 | [.int i]=>Q (.int i)
 | _=>False
theorem RN:yX X (.type "int") xO:=by
 intro pins s σ H xs us Q I rv hh_0
 obtain⟨ds,P,r,q,k⟩:=hh_0
 unfold xO at q;split at q
 ·rename_i i
  cases r with
  | cons r1 r2 =>
   cases r2
   rw[r1.bl_inv] at rv
   exact vR pins s σ H _ us Q I rv (.inr ⟨i,rfl,k _ _ H q (Same.refl H) (.int _)⟩)
 ·rename_i i
  cases r with
  | cons r1 r2 =>
   cases r2
   rw[r1.int_inv] at rv
   exact vR pins s σ H _ us Q I rv (.inl ⟨i,rfl,k _ _ H q (Same.refl H) (.int _)⟩)
 ·exact q.elim
noncomputable def vW:List D->(D->Prop)->Prop:=λds Q=>match ds with
 | [.int i,.int j]=>Q (.int (if j > i then j else i))
 | _=>False
noncomputable def kZ:List D->(D->Prop)->Prop:=λds Q=>match ds with
 | [.int i,.int j]=>Q (.int (if j<i then j else i))
 | _=>False
theorem NE (hc:X.calm=true:=by rfl):yX X (.builtin "min") kZ:=by
 intro pins s σ H xs us Q I rv hh_0
 obtain⟨ds,P,r,q,k⟩:=hh_0
 unfold kZ at q;split at q
 ·rename_i i j
  ·rw[Reps.ints_inv (ns:=[i,j]) r] at rv
   exact FZ hc pins s σ H _ us Q I rv ⟨i,j,rfl,k _ _ H q (Same.refl H) (.int _)⟩
 ·exact q.elim
noncomputable def fI:D->(D->Prop)->Prop:=λd Q=>match d with
 | .lst ds=>Q (.int ds.length)
 | .tup ds=>Q (.int ds.length)
 | _=>False
theorem jE {t:TE} (h:PE X e t) (hs:starEach [e] X.env=[(false,eval e X.env)]:=by rfl) (hn:starEach [] X.env=[]:=by rfl):PA X [e] (λσ H Q=>t σ H λv H'=>Q [v] H') :=
 PA.mono (iX h pP (by rw[hs,hn])) λσ H Q q=>q
theorem eY {te:RE} (hm:X.mg "len" = none) (h:DB X e te) (hg:Gl X "len":=by rfl) (hs:starEach [e] X.env=[(false,eval e X.env)]:=by rfl) (hn:starEach [] X.env=[]:=by rfl):DE X (.Call (.Name "len" p) [e] [] pos) (r1 fI te):=by
 refine PE.mono (AX xJ hg hm PySem.boot_len (jE h hs hn) (by decide) (by decide) (by rw[hs,hn]) (by rw[hn];rfl)) λσ H Q hh=>dQ hh λρ P st q k=>⟨ρ,_,st,q,λd v H1 hd s1 r=>?_⟩
 unfold fI at hd;split at hd
 ·obtain⟨p,vs,rfl,hq,rr⟩:=r.lst
  exact⟨p,vs,rfl,.inl hq,by rw[<-rr.length];exact k _ _ H1 hd s1 (.int _)⟩
 ·obtain⟨p,vs,rfl,hq,rr⟩:=r.tup
  exact⟨p,vs,rfl,.inr (SqT.of hq),by rw[<-rr.length];exact k _ _ H1 hd s1 (.int _)⟩
 ·exact hd.elim
end
section
variable {X:Cx} {pins:List (Addr × Obj)} {σ:St} {H:Hp} {s:Shared} {h':Heap}
theorem _root_.L2.Inv.turnedL {t':Nat} {ch:List Addr} (I:Inv X pins σ H s) (k:∀b o,b ∉ ch->s.heap.get? b=some o->h'.get? b=some o) (f:∀b∈ch,nV X pins H b):Inv X pins σ H { s with heap:=h',toks:=t' }:=by
 have nit:∀b u,H b=some u->b ∉ ch:=λb u e z=>by rw[(f b z).1] at e;cases e
 refine I.step (g':=s.gens) (d':=s.drawn) (ch:=ch) (λb hb=>⟨(f b hb).2.2.2.1,(f b hb).2.1,(f b hb).2.2.2.2.1,(f b hb).2.2.2.2.2⟩) (λb o _ _ hc e _=>k b o hc e) (λb o _ _ hc e _=>⟨o.slots,k b o hc e⟩) (λ_ _ _ _ n=>n)
  (λb o hc e=>⟨o,k b o hc e⟩) (λ_ _ e=>e) (λ_ _ _ e=>e) (λb ps e=>⟨#[],by rw[e];simp⟩) (λm hm=>?_) (λb u e=>?_) I.bare
 ·obtain⟨o,es,ep,ho,r⟩:=hm
  exact⟨o,es,ep,k _ o (λz=>(f _ z).2.1 rfl) ho,r⟩
 ·refine (I.hok b u e).stay (λc v hc q=>k c v ?_ q) (λ_ q=>q) λ_ _ q=>q
  rcases hc with z | z
  ·rw[z];exact nit b u e
  ·exact nit c _ z
theorem _root_.L2.Inv.turnedT {t':Nat} {ch:List Addr} {T:Addr} {xs:List V} {its:List Value} (I:Inv X pins σ H s) (k:∀b o,b ∉ ch->s.heap.get? b=some o->h'.get? b=some o) (f:∀b∈ch,nV X pins H b)
  (hT:s.heap.objs.size<=T) (ht:h'.IsTuple T its.toArray) (rv:Vals xs its) (hz:xs.length<=sizeLine):Inv X pins σ (upd H T (.tup xs)) { s with heap:=h',toks:=t' }:=by
 have nit:∀b u,H b=some u->b ∉ ch:=λb u e z=>by rw[(f b z).1] at e;cases e
 have hn:H T=none:=I.hok.fresh hT
 have ne:∀{b:Addr} {o:Obj},s.heap.get? b=some o->b≠T:=λe=>Nat.ne_of_lt (Nat.lt_of_lt_of_le (Heap.lt_size e) hT)
 refine I.step (g':=s.gens) (d':=s.drawn) (ch:=ch) (λb hb=>⟨(f b hb).2.2.2.1,(f b hb).2.1,(f b hb).2.2.2.2.1,(f b hb).2.2.2.2.2⟩) (λb o _ _ hc e _=>k b o hc e) (λb o _ _ hc e _=>⟨o.slots,k b o hc e⟩) (λb o _ e n=>by rw[aI (ne e)];exact n)
  (λb o hc e=>⟨o,k b o hc e⟩) (λb ys e=>by rw[aI (aQ e hn)];exact e) (λb o u e=>by rw[aI (aQ e hn)];exact e) (λb ps e=>⟨#[],by rw[aI (aQ e hn),e];simp⟩) (λm hm=>?_) (λb u e=>?_) I.bare
 ·obtain⟨o,es,ep,ho,r⟩:=hm
  exact⟨o,es,ep,k _ o (λz=>(f _ z).2.1 rfl) ho,r⟩
 ·by_cases hb:b=T
  ·subst hb
   rw[aW] at e;cases e
   exact⟨hz,its,rv,ht⟩
  ·rw[aI hb] at e
   refine (I.hok b u e).stay (λc v hc q=>k c v ?_ q) (λc q=>by rw[aI (aQ q hn)];exact q) λc ys q=>by rw[aI (aQ q hn)];exact q
   rcases hc with z | z
   ·rw[z];exact nit b u e
   ·exact nit c _ z
end
noncomputable def UZ (ds:List D):List D:=ds.zipIdx.map λp=>D.tup [.int (p.2:Int),p.1]
section
variable {X:Cx} {e:Expr} {te:RE} {pos p:Pos} {elts:List Expr} {k:Nat} {tp:Pos}
noncomputable def HX (te:RE):RA:=λρ Q=>te ρ λd=>match d with
 | .lst ds=>Q (UZ ds)
 | _=>False
end
noncomputable def GP (T:String):D->Option Bool
 | .non=>some (T == "NoneType")
 | .bl _=>some (T == "bool" || T == "int")
 | .int _=>some (T == "int")
 | .str _=>some (T == "str")
 | .tup _=>some (T == "tuple")
 | .lst _=>some (T == "list")
 | .dct _ _=>none
 | .dtt _ _=>none
noncomputable def GC (T:String):D->(D->Prop)->Prop:=λd Q=>match GP T d with
 | some b=>Q (.bl b)
 | none=>False
section
variable {X:Cx} {e:Expr} {te:RE} {pos p p2:Pos} {T:String} {x:Str}
end
theorem mB:bootBuiltins "abs" = some (.builtin "abs"):=by decide +kernel
theorem FY:bootBuiltins "min" = some (.builtin "min"):=by decide +kernel
theorem FX:bootBuiltins "int" = some (.type "int"):=by decide +kernel
theorem gY {P:List Value->Prop} (h:∀a,P [a]):∀us:List Value,us.length=1->P us
 | [a],_=>h a
theorem iC {P:List Value->Prop} (h:∀a b,P [a,b]) (us:List Value) (hl:us.length=2):P us:=by
 cases us with
 | nil=>cases hl
 | cons a us=>exact gY (P:=λus=>P (a::us)) (h a) us (Nat.succ.inj hl)
theorem zG {P:List Value->Prop} (h:∀a b c,P [a,b,c]) (us:List Value) (hl:us.length=3):P us:=by
 cases us with
 | nil=>cases hl
 | cons a us=>exact iC (P:=λus=>P (a::us)) (h a) us (Nat.succ.inj hl)
theorem UU {P:List Value->Prop} (h:∀a b c d,P [a,b,c,d]) (us:List Value) (hl:us.length=4):P us:=by
 cases us with
 | nil=>cases hl
 | cons a us=>exact zG (P:=λus=>P (a::us)) (h a) us (Nat.succ.inj hl)
theorem UV {P:List Value->Prop} (h:∀a b c d e,P [a,b,c,d,e]) (us:List Value) (hl:us.length=5):P us:=by
 cases us with
 | nil=>cases hl
 | cons a us=>exact UU (P:=λus=>P (a::us)) (h a) us (Nat.succ.inj hl)
structure FnAt (P:Program) (w:World) (K:PySem.W.Frag) (mg:Str->Option Value) (base:Heap) (x:Str) (ps:List Str) (k:Nat) (F:FD):Prop where
 ex:∃f fd,FnOk P w K mg base CX0 k f fd ps (spD K F)/\Binds K fd ps []/\PySem.W.keepIn K (.ref f)=true/\mg x=some (.ref f)
structure DefAt (K:PySem.W.Frag) (mg:Str->Option Value) (x:Str) (st:Stmt) (ps:List Str):Prop where
 ex:∃f fd,Fun K x x st f fd/\mg x=some (.ref f)/\∀us:List Value,us.length=ps.length->bindArgs fd ⟨us,[]⟩=pure (ps.zip us)
section
variable {P:Program} {w:World} {K:PySem.W.Frag} {mg:Str->Option Value} {base:Heap}
theorem DefAt.ok {x:Str} {st:Stmt} {N ps:List Str} {k:Nat} {F:FD} {t:RS} (Z:DefAt K mg x st ps) (Sc:FnScope N ps (aC st))
  (hbody:∀{f:Addr} (cdv:Value) (A:Around) (outer:List Env) (s:Shared) (H:Hp) (E:XK),Room k (A.deeper (envOfC x (aC st) s.heap.objs.size f cdv)) ->
   DSs (cN CX0 P w K mg base N x (aC st) f cdv A outer s H E).nox (aM st) t)
  (len:∀ds Q,F ds Q->ds.length=ps.length) (pure:∀ds Q,F ds Q->t { nx:=λ_=>Q .non,rt:=Q } (aO N ds)):FnAt P w K mg base x ps (k+1) F:=by
 obtain⟨f,fd,a,b,c⟩:=Z.ex
 exact⟨f,fd,QJ a Sc (λcdv A outer s H E hr=>hbody cdv A outer s H E hr) len pure,.all c,a.kp,b⟩
end
section
variable {X:Cx} {k:Nat} {ps:List Str} {F:FD} {x:Str} {p pos:Pos} {e:Expr} {es:List Expr} {t:RA}
theorem aN (C:FnAt X.prog X.w X.K X.mg X.base x ps k F) (hr:Room k X.A) (ha:DA X (e::es) t) (hg:Gl X x:=by rfl)
  (hdb:(x == ("__debug__":Str))=false:=by decide) (he:starEach (e::es) X.env=(false,eval e X.env)::starEach es X.env:=by rfl) (hpl:(backTo pos (starEach es X.env)).any (·.1)=false:=by rfl) :
  DE X (.Call (.Name x p) (e::es) [] pos) (aU F t):=by
 obtain⟨f,fd,G,hb,hk,hm⟩:=C.ex
 exact NJ G hr hm hk hb ha hg hdb he hpl
end
noncomputable def FV (n:Nat):FD:=λds Q=>∃ns:List Int,ds=[.lst (ns.map .int)]/\ns.length<=n/\Q (.bl true)
noncomputable def eqL (f:D->D->Option Bool):List D->List D->Option Bool
 | [],[]=>some true
 | [],_::_=>some false
 | _::_,[]=>some false
 | x::xs,y::ys=>match f x y,eqL f xs ys with
  | some a,some b=>some (a && b)
  | _,_=>none
noncomputable def eqF:Nat->D->D->Option Bool
 | 0,_,_=>none
 | n+1,d,e=>match d,e with
  | .int a,.int b=>some (decide (a=b))
  | .bl a,.bl b=>some (decide (a=b))
  | .non,.non=>some true
  | .non,.tup _=>some false
  | .tup _,.non=>some false
  | .tup xs,.tup ys=>eqL (eqF n) xs ys
  | .lst xs,.lst ys=>eqL (eqF n) xs ys
  | _,_=>none
theorem sH {f:D->D->Option Bool}:∀{xs ys:List D} {b:Bool},eqL f xs ys=some b->∀(j:Nat) (x y:D),xs[j]? = some x->ys[j]? = some y->∃c,f x y=some c
 | [],_,_,_,j,x,y,e,_=>by simp at e
 | _::_,[],_,_,j,x,y,_,e=>by simp at e
 | a::xs,c::ys,b,h,j,x,y,e1,e2=>by
  unfold eqL at h
  split at h
  ·rename_i p q hp hq
   cases j with
   | zero=>simp at e1 e2;subst e1 e2;exact⟨p,hp⟩
   | succ j=>exact sH hq j x y (by simpa using e1) (by simpa using e2)
  ·cases h
theorem oK {f:D->D->Option Bool}:∀{xs ys:List D} {b:Bool},eqL f xs ys=some b ->
  ((List.range (min xs.length ys.length)).all (λj=>match xs[j]?,ys[j]? with | some x,some y=>(f x y).getD false | _,_=>false) && xs.length == ys.length)=b
 | [],[],b,h=>by cases h;rfl
 | [],_::_,b,h=>by cases h;rfl
 | _::_,[],b,h=>by cases h;rfl
 | x::xs,y::ys,b,h=>by
  unfold eqL at h
  split at h
  ·rename_i p q hp hq
   cases h
   have ih:=oK hq
   rw[<-ih]
   simp only[List.length_cons,Nat.succ_min_succ,List.range_succ_eq_map,List.all_cons,List.getElem?_cons_zero,hp,Option.getD_some,List.all_map]
   rw[Bool.and_assoc]
   congr 1
   congr 1
   rw[Bool.eq_iff_iff];simp
  ·cases h
section
variable {X:Cx} {pins:List (Addr × Obj)} {σ:St} {H:Hp} {s:Shared}
theorem tI {f:D->D->Option Bool} (hf:∀{d e:D} {v:V} {b:Bool},f d e=some b->Rep X.K H d v->Rep X.K H e v->b=true):∀{xs ys:List D} {vs:List V} {b:Bool},eqL f xs ys=some b->Reps X.K H xs vs->Reps X.K H ys vs->b=true:=by
 intro xs
 induction xs with
 | nil=>intro ys vs b h q1 q2;cases q1;cases q2;cases h;rfl
 | cons x xs ih =>
  intro ys vs b h q1 q2
  cases q1 with
  | cons r t =>
   cases q2 with
   | cons r' t' =>
    unfold eqL at h
    split at h
    ·rename_i p q hp hq
     cases h
     rw[hf hp r r',ih hq t t'];rfl
    ·cases h
theorem oJ (I:Inv X pins σ H s):∀(n:Nat) {d e:D} {v:V} {b:Bool},eqF n d e=some b->Rep X.K H d v->Rep X.K H e v->b=true
 | 0,_,_,_,_,h,_,_=>by cases h
 | n+1,d,e,v,b,h,r1,r2=>by
  unfold eqF at h
  split at h
  ·rw[r1.int_inv] at r2;cases r2;cases h;simp
  ·rw[r1.bl_inv] at r2;cases r2;cases h;simp
  ·cases h;rfl
  ·cases r1;cases r2
  ·cases r2;cases r1
  ·rename_i xs ys
   cases r1 with
   | @tup a vs _ h1 q1 =>
    cases r2 with
    | @tup _ ws _ h2 q2 =>
     rw[h1] at h2;cases h2
     exact tI (λ{d e v b}=>oJ I n) h q1 q2
  ·rename_i xs ys
   cases r1 with
   | @lst a vs _ h1 q1 =>
    cases r2 with
    | @lst _ ws _ h2 q2 =>
     rw[I.list_inj h2.sq h1.sq] at q2
     exact tI (λ{d e v b}=>oJ I n) h q1 q2
  ·cases h
theorem AA (I:Inv X pins σ H s) {n:Nat} {xs ys:List D} {a c:Addr} {vs ws:List V} {b:Bool} {A:Around} (h:eqL (eqF n) xs ys=some b) (h1:SqL X.K H a vs) (q1:Reps X.K H xs vs) (h2:SqL X.K H c ws) (q2:Reps X.K H ys ws) (hu:A.units<cLine)
  (at':∀{d e:D} {v u:V} {x y:Value} {b:Bool},eqF n d e=some b->Rep X.K H d v->Rep X.K H e u->RelV v x->RelV u y->SeqAt.EqAt A.in1 s x y b):SeqAt.RcAt A s (.ref a) (.ref c) b/\SeqAt.EqAt A s (.ref a) (.ref c) b:=by
 obtain⟨its,rv,ht,_⟩:=I.list h1
 obtain⟨its2,rv2,ht2,_⟩:=I.list h2
 have l1:xs.length=its.length:=q1.length.trans rv.length
 have l2:ys.length=its2.length:=q2.length.trans rv2.length
 have rc:SeqAt.RcAt A s (.ref a) (.ref c) b:=by
  by_cases hl:xs.length=ys.length
  ·have:=SeqAt.RcAt.lists (A:=A) (s:=s) (e:=λj=>match xs[j]?,ys[j]? with | some x,some y=>(eqF n x y).getD false | _,_=>false) ht.isList ht2.isList (by simp;omega) hu (λj g1 g2=>?_)
   ·have al:=oK h
    simp only[List.size_toArray,<-l1] at this
    rw[<-hl,Nat.min_self,beq_self_eq_true,Bool.and_true] at al
    rw[al] at this
    exact this
   ·simp only[List.size_toArray] at g1 g2
    have e1:xs[j]? = some (xs[j]'(by omega)):=List.getElem?_eq_getElem _
    have e2:ys[j]? = some (ys[j]'(by omega)):=List.getElem?_eq_getElem _
    obtain⟨k,hk⟩:=sH h j _ _ e1 e2
    rw[e1,e2]
    simp only[hk,Option.getD_some]
    obtain⟨v1,f1,f2⟩:=q1.get e1
    obtain⟨v2,f3,f4⟩:=q2.get e2
    obtain⟨u1,g3,g4⟩:=rv.get f1
    obtain⟨u2,g5,g6⟩:=rv2.get f3
    have a1:its.toArray[j]=u1:=by
     have:=List.getElem?_eq_getElem g1
     rw[this] at g3
     simpa using Option.some.inj g3
    have a2:its2.toArray[j]=u2:=by
     have:=List.getElem?_eq_getElem g2
     rw[this] at g5
     simpa using Option.some.inj g5
    rw[a1,a2]
    exact at' hk f2 f4 g4 g6
  ·have al:=oK h
   have:(xs.length == ys.length)=false:=by simpa using hl
   rw[this,Bool.and_false] at al
   rw[<-al]
   exact SeqAt.RcAt.lists_lengths ht.isList ht2.isList (by simp;omega) hu
 refine⟨rc,?_⟩
 by_cases hac:a=c
 ·subst hac
  rw[I.list_inj h2 h1] at q2
  rw[tI (λ{d e v b}=>oJ I n) h q1 q2]
  exact SeqAt.EqAt.same _
 ·exact SeqAt.EqAt.of_refs hac rc
theorem tH (I:Inv X pins σ H s):∀(n:Nat) {d e:D} {v u:V} {x y:Value} {b:Bool} {A:Around},eqF n d e=some b->Rep X.K H d v->Rep X.K H e u->RelV v x->RelV u y->A.units+n<cLine ->
  SeqAt.RcAt A s x y b/\SeqAt.EqAt A s x y b
 | 0,_,_,_,_,_,_,_,_,h,_,_,_,_,_=>by cases h
 | n+1,d,e,v,u,x,y,b,A,h,r1,r2,rx,ry,hu=>by
  have same:=λ(hvu:v=u)=>oJ I (n+1) h r1 (hvu ▸ r2)
  unfold eqF at h
  split at h
  ·rename_i i j
   rw[r1.int_inv] at rx;rw[r2.int_inv] at ry
   obtain⟨t,rfl⟩:=rx
   obtain⟨t',rfl⟩:=ry
   cases h
   have e:decide (i=j)=(i == j):=by rw[Bool.beq_eq_decide_eq]
   rw[e]
   exact⟨SeqAt.RcAt.int_int _ _ _ _,SeqAt.EqAt.int_int _ _ _ _⟩
  ·rename_i i j
   rw[r1.bl_inv] at rx;rw[r2.bl_inv] at ry
   cases rx;cases ry
   cases h
   have e:decide (i=j)=(i == j):=by rw[Bool.beq_eq_decide_eq]
   rw[e]
   exact⟨SeqAt.RcAt.bool_bool _ _,SeqAt.EqAt.bool_bool _ _⟩
  ·cases r1;cases r2;cases rx;cases ry;cases h
   exact⟨SeqAt.RcAt.none_none,SeqAt.EqAt.same _⟩
  ·cases r1
   cases r2 with
   | tup h2 q2 =>
    cases rx;cases ry;cases h
    obtain⟨its,rv,ht,_⟩:=I.tuple (SqT.of h2)
    exact⟨SeqAt.RcAt.none_tuple ht (by omega),SeqAt.EqAt.none_tuple ht (by omega)⟩
  ·cases r2
   cases r1 with
   | tup h2 q2 =>
    cases rx;cases ry;cases h
    obtain⟨its,rv,ht,_⟩:=I.tuple (SqT.of h2)
    exact⟨SeqAt.RcAt.tuple_none ht (by omega),SeqAt.EqAt.tuple_none ht (by omega)⟩
  ·rename_i xs ys
   cases r1 with
   | @tup a vs _ h1 q1 =>
    cases r2 with
    | @tup c ws _ h2 q2 =>
     cases rx;cases ry
     obtain⟨its,rv,ht,_⟩:=I.tuple (SqT.of h1)
     obtain⟨its2,rv2,ht2,_⟩:=I.tuple (SqT.of h2)
     have l1:xs.length=its.length:=q1.length.trans rv.length
     have l2:ys.length=its2.length:=q2.length.trans rv2.length
     have rc:SeqAt.RcAt A s (.ref a) (.ref c) b:=by
      have:=SeqAt.RcAt.tuples (A:=A) (s:=s) (e:=λj=>match xs[j]?,ys[j]? with | some x,some y=>(eqF n x y).getD false | _,_=>false) ht ht2 (by omega) (λj g1 g2=>?_)
      ·simp only[List.size_toArray,<-l1,<-l2] at this
       rw[oK h] at this
       exact this
      ·simp only[List.size_toArray] at g1 g2
       have e1:xs[j]? = some (xs[j]'(by omega)):=List.getElem?_eq_getElem _
       have e2:ys[j]? = some (ys[j]'(by omega)):=List.getElem?_eq_getElem _
       obtain⟨k,hk⟩:=sH h j _ _ e1 e2
       rw[e1,e2]
       simp only[hk,Option.getD_some]
       obtain⟨v1,f1,f2⟩:=q1.get e1
       obtain⟨v2,f3,f4⟩:=q2.get e2
       obtain⟨u1,g3,g4⟩:=rv.get f1
       obtain⟨u2,g5,g6⟩:=rv2.get f3
       have a1:its.toArray[j]=u1:=by
        have:=List.getElem?_eq_getElem g1
        rw[this] at g3
        simpa using Option.some.inj g3
       have a2:its2.toArray[j]=u2:=by
        have:=List.getElem?_eq_getElem g2
        rw[this] at g5
        simpa using Option.some.inj g5
       rw[a1,a2]
       exact (tH I n hk f2 f4 g4 g6 (by show A.units+1+n<cLine;omega)).2
     refine⟨rc,?_⟩
     by_cases hac:a=c
     ·subst hac
      rw[same rfl]
      exact SeqAt.EqAt.same _
     ·exact SeqAt.EqAt.of_refs hac rc
  ·rename_i xs ys
   cases r1 with
   | @lst a vs _ h1 q1 =>
    cases r2 with
    | @lst c ws _ h2 q2 =>
     cases rx;cases ry
     exact AA I h h1.sq q1 h2.sq q2 (by omega) λ{d e v u x y b} hk f2 f4 g4 g6=>(tH I n hk f2 f4 g4 g6 (by show A.units+1+n<cLine;omega)).2
  ·cases h
end
noncomputable def dEq:R22:=λx y Q=>match eqF 6 x y with
 | some b=>Q (.bl b)
 | none=>False
section
variable {X:Cx}
theorem SF {X:Cx} {pins:List (Addr × Obj)} {σ:St} {H:Hp} {s:Shared} (I:Inv X pins σ H s) {d e:D} {v u:V} {x y:Value} {b:Bool} {A:Around} (h:eqF 6 d e=some b) (r1:RepB X.K H d v) (r2:RepB X.K H e u) (rx:RelV v x) (ry:RelV u y) (hu:A.units+6<cLine):SeqAt.RcAt A s x y b:=by
 by_cases hl:∃xs ys,d = .lst xs/\e = .lst ys
 ·obtain⟨xs,ys,rfl,rfl⟩:=hl
  obtain⟨a,vs,rfl,h1,q1⟩:=r1.lst
  obtain⟨c,ws,rfl,h2,q2⟩:=r2.lst
  cases rx;cases ry
  exact (AA I (n:=5) h h1 q1 h2 q2 (by omega) λ{d e v u x y b} hk f2 f4 g4 g6=>(tH I 5 hk f2 f4 g4 g6 (by show A.units+1+5<cLine;omega)).2).1
 ·have p1:Rep X.K H d v:=by
   rcases r1 with r | ⟨ds,a,vs,e1,_⟩
   ·exact r
   ·subst e1;cases e <;> first | (cases h;done) | exact absurd ⟨_,_,rfl,rfl⟩ hl
  have p2:Rep X.K H e u:=by
   rcases r2 with r | ⟨ds,a,vs,e1,_⟩
   ·exact r
   ·subst e1;cases d <;> first | (cases h;done) | exact absurd ⟨_,_,rfl,rfl⟩ hl
  exact (tH I 6 h p1 p2 rx ry hu).1
theorem QP {k:Nat} (hr:Room k X.A):OpD X (compareOp .Eq) dEq:=by
 intro pins s σ H x y v u Q I rx ry hh_0
 obtain⟨d,e,P,r1,r2,q,kk⟩:=hh_0
 unfold dEq at q
 split at q
 ·rename_i b hb
  have hu:=hr.units
  exact SF I (A:=X.A) hb r1 r2 rx ry (by omega) _ _ _ _ ⟨.bl b,H,I,rfl,kk _ _ H q (Same.refl H) (.bl b)⟩
 ·exact q.elim
end
theorem kY (env:Env):∀(names:List (Str × NameKind)) (acc:List (Str × Addr)),(∀y∈names,y.2 = .free->∃c,env.cells.lookup y.1=some c) ->
  ∃cl:List (Str × Addr),(do
   let mut cs:=acc
   for (name,kind) in names do
    if kind == .free then cs:=(name,<-cellOf env name)::cs
   return cs:Sem (List (Str × Addr)))=pure cl/\(∀p∈cl,p∈acc\/env.cells.lookup p.1=some p.2)/\(∀p∈acc,p∈cl)/\∀y∈names,y.2 = .free->∃c,(y.1,c)∈cl
 | [],acc,_=>⟨acc,by simp,λp h=>.inl h,λp h=>h,λy h=>by simp at h⟩
 | (n,k)::r,acc,h=>by
  by_cases hk:k = .free
  ·subst hk
   obtain⟨c,hc⟩:=h _ List.mem_cons_self rfl
   obtain⟨cl,e,h1,h2,h3⟩:=kY env r ((n,c)::acc) λy hy=>h y (List.mem_cons_of_mem _ hy)
   refine⟨cl,?_,λp hp=>?_,λp hp=>h2 p (List.mem_cons_of_mem _ hp),λy hy hf=>?_⟩
   ·rw[<-e]
    have hcell:cellOf env n=pure c:=by unfold cellOf;rw[hc]
    simp only[List.forIn_cons,hcell,beq_self_eq_true,if_true,pure_bind]
   ·rcases h1 p hp with q | q
    ·rcases List.mem_cons.mp q with rfl | q
     ·exact .inr hc
     ·exact .inl q
    ·exact .inr q
   ·rcases List.mem_cons.mp hy with rfl | hy
    ·exact⟨c,h2 _ List.mem_cons_self⟩
    ·exact h3 y hy hf
  ·obtain⟨cl,e,h1,h2,h3⟩:=kY env r acc λy hy=>h y (List.mem_cons_of_mem _ hy)
   refine⟨cl,?_,h1,h2,λy hy hf=>?_⟩
   ·rw[<-e]
    have hb:(k == NameKind.free)=false:=by simpa using hk
    simp only[List.forIn_cons,hb,Bool.false_eq_true,if_false,pure_bind]
   ·rcases List.mem_cons.mp hy with rfl | hy
    ·exact absurd hf hk
    ·exact h3 y hy hf
theorem mO {α:Type}:∀{l:List (Str × α)} {x:Str} {c:α},(x,c)∈l->∃c',l.lookup x=some c'
 | [],_,_,h=>by simp at h
 | (y,d)::r,x,c,h=>by
  rw[List.lookup_cons]
  cases e:x == y with
  | true=>exact⟨d,rfl⟩
  | false =>
   rcases List.mem_cons.mp h with q | q
   ·cases q;rw[beq_self_eq_true] at e;cases e
   ·exact mO q
theorem mX {scope:Scope} {env:Env} (h:∀y∈scope.names,y.2 = .free->∃c,env.cells.lookup y.1=some c) :
  ∃cl,closureFor scope env=pure cl/\(∀x c,cl.lookup x=some c->env.cells.lookup x=some c)/\∀y∈scope.names,y.2 = .free->∃c,cl.lookup y.1=some c:=by
 obtain⟨cl,e,h1,_,h3⟩:=kY env scope.names [] h
 refine⟨cl,e,λx c hx=>?_,λy hy hf=>?_⟩
 ·rcases h1 _ (PySem.mem_of_lookup hx) with q | q
  ·simp at q
  ·exact q
 ·obtain⟨c,hc⟩:=h3 y hy hf
  exact mO hc
noncomputable def dW (X:Cx) (scope:Scope) (N:List Str) (cl:List (Str × Addr)) (C:Addr) (s:Shared) (H:Hp) (fp:List Addr):Cx where
 prog:=X.prog
 w:=X.w
 K:=X.K
 mg:=X.mg
 base:=X.base
 A:=X.A
 N:=N
 s₀:=s
 H₀:=H
 env:=compEnvC scope cl C X.env
 outer:=X.stack
 stack:=X.stack
 ex:=fp
 fn:=λ_=>false
 calm:=X.calm
 pn:=[]
 xe:=λ_ _=>False
structure CScope (X:Cx) (scope:Scope):Prop where
 kind:scope.kind = .function
 nocell:∀y∈scope.names,y.2≠.cell
 locs:∀y∈scope.names,y.2 = .local->scope.names.lookup y.1=some .local
 frees:∀y∈scope.names,y.2 = .free->X.env.kindOf y.1=some .cell\/X.env.kindOf y.1=some .free
theorem fK {env:Env}:∀{names:List (Str × NameKind)} {x:Str} {k:NameKind},(names.map λ(n,k)=>if (k == NameKind.free && env.scope.kind == .function && env.kindOf n == some .cell) then (n,NameKind.cell) else (n,k)).lookup x=some k ->
  (k = .cell\/k = .free)->(∀y∈names,y.2≠.cell)->(x,.free)∈names
 | [],_,_,h,_,_=>by simp at h
 | (n,j)::r,x,k,h,hk,hn=>by
  have h:List.lookup x ((if (j == NameKind.free && env.scope.kind == .function && env.kindOf n == some .cell)=true then (n,NameKind.cell) else (n,j))::r.map λ(n,k)=>if (k == NameKind.free && env.scope.kind == .function && env.kindOf n == some .cell) then (n,NameKind.cell) else (n,k))=some k:=h
  have hn':∀y∈r,y.2≠.cell:=λy hy=>hn y (List.mem_cons_of_mem _ hy)
  cases hx:x == n with
  | true =>
   have e:x=n:=eq_of_beq hx
   subst e
   by_cases hc:(j == NameKind.free && env.scope.kind == .function && env.kindOf x == some .cell)=true
   ·have hj:j = .free:=by
     rw[Bool.and_eq_true,Bool.and_eq_true] at hc
     exact eq_of_beq hc.1.1
    subst hj
    exact List.mem_cons_self
   ·rw[if_neg hc,List.lookup_cons,beq_self_eq_true] at h
    cases h
    rcases hk with rfl | rfl
    ·exact absurd rfl (hn _ List.mem_cons_self)
    ·exact List.mem_cons_self
  | false =>
   by_cases hc:(j == NameKind.free && env.scope.kind == .function && env.kindOf n == some .cell)=true
   ·rw[if_pos hc,List.lookup_cons,hx] at h
    exact List.mem_cons_of_mem _ (fK h hk hn')
   ·rw[if_neg hc,List.lookup_cons,hx] at h
    exact List.mem_cons_of_mem _ (fK h hk hn')
section
variable {X:Cx} {pins:List (Addr × Obj)} {σ:St} {H:Hp} {s:Shared} {scope:Scope} {N:List Str} {cl:List (Str × Addr)} {C:Addr} {fp:List Addr}
theorem NG (I:Inv X pins σ H s) (Sc:CScope X scope) (hcl:∀x c,cl.lookup x=some c->X.env.cells.lookup x=some c) (hall:∀y∈scope.names,y.2 = .free->∃c,cl.lookup y.1=some c)
  (hC:s.heap.objs.size<=C) (hf:∀b∈fp,nV X pins H b) (hlt:∀b∈fp,b<s.heap.objs.size):(dW X scope N cl C s H fp).Ok:=by
 refine⟨I.ok.mod,Sc.kind,I.ok.glob,I.ok.blt,hC,λx y c h1 h2=>I.ok.inj x y c (hcl x c h1) (hcl y c h2),λx hx=>?_,λx c hx=>absurd (show false=true from hx) Bool.false_ne_true,I.ok.hd,I.ok.frames,.inl rfl,λb hb=>?_,I.bs,Nat.le_trans I.ok.bsz I.sz,λb o e hb=>?_,λb hb hfs=>?_,I.stack,I.stkFree⟩
 ·have hx:(scope.names.map λ(n,k)=>if (k == NameKind.free && X.env.scope.kind == .function && X.env.kindOf n == some .cell) then (n,NameKind.cell) else (n,k)).lookup x=some .cell\/(scope.names.map λ(n,k)=>if (k == NameKind.free && X.env.scope.kind == .function && X.env.kindOf n == some .cell) then (n,NameKind.cell) else (n,k)).lookup x=some .free:=hx
  have:(x,NameKind.free)∈scope.names:=by
   rcases hx with hx | hx
   ·exact fK hx (.inl rfl) Sc.nocell
   ·exact fK hx (.inr rfl) Sc.nocell
  exact hall _ this rfl
 ·obtain⟨f0,f1,f2,f3,f4,f5⟩:=hf b hb
  exact⟨Nat.ne_of_lt (Nat.lt_of_lt_of_le (hlt b hb) hC),λx c e=>f4 x c (hcl x c e)⟩
 ·obtain⟨f0,f1,f2,f3,f4,f5⟩:=hf b hb
  rcases f3 with z | z
  ·exact I.ok.noex b o e z
  ·have h1:=(Heap.lt_size e)
   have h2:=I.ok.bsz
   exact absurd (Nat.lt_of_lt_of_le h1 (Nat.le_trans h2 z)) (Nat.lt_irrefl _)
 ·obtain⟨f0,f1,f2,f3,f4,f5⟩:=hf b hb
  rcases List.mem_cons.mp (I.stkSub b hfs) with e | e
  ·exact f1 e
  ·exact f2 e
noncomputable def xK (σ:St) (k:Nat) (ix:List Nat):St:=List.replicate k none++ix.map λi=>(σ[i]?).join
theorem JC (I:Inv X pins σ H s) (Sc:CScope X scope) (hcl:∀x c,cl.lookup x=some c->X.env.cells.lookup x=some c) (hall:∀y∈scope.names,y.2 = .free->∃c,cl.lookup y.1=some c)
  {s4:Shared} {m:Str->Option Value} {k:Nat} {ix:List Nat} {ys:List Str} (hC:s.heap.objs.size<=C) (hf:∀b∈fp,nV X pins H b) (hlt:∀b∈fp,b<s.heap.objs.size)
  (hk4:∀b o,s.heap.get? b=some o->s4.heap.get? b=some o) (hos:s4.os=s.os) (hb:AllBare s4.gens) (hns:s4.heap.Ns C m)
  (hN:N.length=k+ys.length) (hdrop:N.drop k=ys) (hix:ix.length=ys.length) (hiy:∀(j:Nat) (y:Str) (i:Nat),ys[j]? = some y->ix[j]? = some i->X.N[i]? = some y/\(y,NameKind.free)∈scope.names)
  (hkind:∀y∈ys,(relabel scope X.env).names.lookup y=some .cell\/(relabel scope X.env).names.lookup y=some .free) :
  Inv (dW X scope N cl C s H fp) [] (xK σ k ix) H s4:=by
 have hfr:H C=none:=I.hok.fresh hC
 refine⟨NG I Sc hcl hall hC hf hlt,hos,hb,Un.kept hk4,⟨m,hns,λi x v e1 e2 e3=>?_⟩,λx c e=>?_,hfr,λx c e=>I.freeC x c (hcl x c e),λp hp=>absurd (show p∈([]:List (Addr × Obj)) from hp) (by simp),I.hok.kept hk4,?_⟩
 ·unfold xK at e2
  by_cases hik:i<k
  ·rw[List.getElem?_append_left (by simpa using hik),List.getElem?_replicate,if_pos hik] at e2
   cases e2
  ·rw[List.getElem?_append_right (by simpa using hik),List.length_replicate,List.getElem?_map] at e2
   cases eo:ix[i-k]? with
   | none=>rw[eo] at e2;cases e2
   | some o =>
    rw[eo] at e2
    have e2:some ((σ[o]?).join)=some (some v):=e2
    have e2':σ[o]? = some (some v):=by
     cases q:σ[o]? with
     | none=>rw[q] at e2;cases e2
     | some z=>rw[q] at e2;cases e2;rfl
    have ey:ys[i-k]? = some x:=by
     rw[<-hdrop,List.getElem?_drop]
     rw[show k+(i-k)=i by omega]
     exact e1
    obtain⟨h1,h2⟩:=hiy _ _ _ ey eo
    have hv:Vis X.env.scope x:=by
     rcases Sc.frees _ h2 rfl with q | q
     ·exact .inr (.inl q)
     ·exact .inr (.inr q)
    obtain⟨m0,hn0,hl0⟩:=I.loc
    obtain⟨u,ru,lu⟩:=hl0 o x v h1 e2' hv
    refine⟨u,ru,.inr ⟨hkind x (List.mem_of_getElem? ey),?_⟩⟩
    obtain⟨c,hc⟩:=hall _ h2 rfl
    refine⟨c,hc,?_⟩
    rcases lu with ⟨q,_⟩ | ⟨_,c',hc',hcell⟩
    ·rcases Sc.frees _ h2 rfl with z | z
     ·rw[z] at q;cases q
     ·rw[z] at q;cases q
    ·have:=hcl x c hc
     rw[this] at hc';cases hc'
     obtain⟨oc,ho,hd⟩:=hcell
     exact⟨oc,hk4 _ _ ho,hd⟩
 ·obtain⟨v,oc,ho,hd⟩:=I.cell x c (hcl x c e)
  exact⟨v,oc,hk4 _ _ ho,hd⟩
 ·unfold xK
  show _=N.length
  rw[List.length_append,List.length_replicate,List.length_map,hix,hN]
end
noncomputable abbrev QM (ifs:List Expr) (env:Env):Sem Bool:=forIn ifs true λc r=>if r=true then do let ok <-isTrue c env (eval c env);pure (ForInStep.yield ok) else pure (ForInStep.yield r)
theorem GA {prog:Program} {w:World} {A:Around} {R:Result->Shared->Prop} {s:Shared} {elt target iter:Expr} {ifs:List Expr} {scope:Scope} {pos:Pos} {it acc:Value} {env:Env} (I:Nat->Shared->Prop)
  (turn:∀n s,I n s->∀E:Value->Shared->Prop,wpAny (model prog w) A (pyNext it) (λr s₁=>match r with
   | none=>R (.ok .next) s₁
   | some v=>wpAny (model prog w) A (letOwnedTupleGo target it v) (λ_ s₁=>wpAny (model prog w) A (assign target env v) (λ_ s₂=>wpAny (model prog w) A (QM ifs env) (λok s₂=>if ok=true then wpAny (model prog w) A (eval elt env) (λx s₃ =>
     wpAny (model prog w) A (call (.builtin "list.append") [acc,x]) (λ_ s₄=>∃m,m<n/\I m s₄) E s₃) E s₂ else ∃m,m<n/\I m s₂) E s₂) E s₁) E s₁) E s)
  (n:Nat) (h:I n s):codeAny (model prog w) A (.compLoop (.ListComp elt [⟨target,iter,ifs,0⟩] scope pos) 0 it acc env) R s:=by
 refine codeAny_loop rfl I (λn s hI=>?_) n h
 show wpAny _ _ ((compTurn (.ListComp elt [⟨target,iter,ifs,0⟩] scope pos) 0 it acc env).onRaise (λx=>do noteFrame x env;theTreesLotGoes x)) _ _ s
 refine wpAny_noted ?_
 rw[compTurn_list]
 refine wpAny_bind (wpAny_standAt (wpAny_bind (wpAny_mono (turn n s hI _) (λr s₁ h₁=>?_) λ_ _ h'=>h')))
 cases r with
 | none=>exact wpAny_pure h₁
 | some v =>
  refine wpAny_bind (wpAny_mono h₁ (λ_ s₁' h₁'=>wpAny_bind (wpAny_mono h₁' (λ_ s₂ h₂=>wpAny_bind (wpAny_mono h₂ (λok s₃ h₃=>?_) λ_ _ h'=>h')) λ_ _ h'=>h')) λ_ _ h'=>h')
  cases ok with
  | false=>exact wpAny_pure ⟨rfl,h₃⟩
  | true=>exact wpAny_bind (wpAny_bind (wpAny_mono h₃ (λx s₄ h₄=>wpAny_bind (wpAny_mono h₄ (λ_ s₅ h₅=>wpAny_pure (wpAny_pure ⟨rfl,h₅⟩)) λ_ _ h'=>h')) λ_ _ h'=>h'))
noncomputable def IH (X:Cx) (ifs:List Expr) (t:RT):Prop:=∀(pins:List (Addr × Obj)) (s:Shared) (σ:St) (H:Hp) (Q:Bool->Hp->Prop),Inv X pins σ H s->KU X t σ H Q->wpAny (model X.prog X.w) X.A (QM ifs X.env) (TP X pins σ Q) X.xe s
noncomputable def MC:RT:=λ_ Q=>Q true
theorem zU {X:Cx}:IH X [] MC:=λpins s σ H Q I ⟨ρ,P,st,q,k⟩=>wpAny_tests_nil ⟨H,I,k true H q (Same.refl H)⟩
theorem zV {X:Cx} {c:Expr} {t:RT} (h:DT X c t):IH X [c] t:=λpins s σ H Q I q=>wpAny_tests_one (h pins s σ H Q I q)
noncomputable def gK (g:RG) (te:RE):List D->En->List D->(List D->Prop)->Prop
 | [],_,acc,Q=>Q acc
 | x::xs,ρ,acc,Q=>g x ρ λρ'=>te ρ' λd=>gK g te xs ρ' (acc++[d]) Q
noncomputable def cM (g:RG) (tt:RT) (te:RE):List D->En->List D->(List D->Prop)->Prop
 | [],_,acc,Q=>Q acc
 | x::xs,ρ,acc,Q=>g x ρ λρ'=>tt ρ' λb=>if b=true then te ρ' λd=>cM g tt te xs ρ' (acc++[d]) Q else cM g tt te xs ρ' acc Q
theorem vT {g:RG} {te:RE}:∀{xs:List D} {ρ:En} {acc:List D} {Q:List D->Prop},cM g MC te xs ρ acc Q=gK g te xs ρ acc Q
 | [],_,_,_=>rfl
 | x::xs,ρ,acc,Q=>by
  show (g x ρ λρ'=>if true=true then te ρ' λd=>cM g MC te xs ρ' (acc++[d]) Q else cM g MC te xs ρ' acc Q)=g x ρ λρ'=>te ρ' λd=>gK g te xs ρ' (acc++[d]) Q
  congr 1
  funext ρ'
  rw[if_pos rfl]
  congr 1
  funext d
  exact vT
noncomputable def sY (ρ:En) (i:Nat):Option S:=match ρ[i]? with
 | some (some (.d d))=>some (.d d)
 | _=>none
noncomputable def kR (ρ:En) (k:Nat) (ix:List Nat):En:=List.replicate k none++ix.map (sY ρ)
theorem RL {X X':Cx} {ρ:En} {σ:St} {H:Hp} {k:Nat} {ix:List Nat} (so:StOk X ρ σ H) (hK:X'.K=X.K) (hH:X'.H₀=H):StOk X' (kR ρ k ix) (xK σ k ix) H:=by
 have own:∀(i:Nat) (x:S),(kR ρ k ix)[i]? = some (some x)->∃d,x = .d d:=λi x e=>by
  unfold kR at e
  by_cases hik:i<k
  ·rw[List.getElem?_append_left (by simpa using hik),List.getElem?_replicate,if_pos hik] at e;cases e
  ·rw[List.getElem?_append_right (by simpa using hik),List.getElem?_map] at e
   cases eo:ix[i-(List.replicate k (none:Option S)).length]? with
   | none=>rw[eo] at e;cases e
   | some o =>
    rw[eo] at e
    have e:some (sY ρ o)=some (some x):=e
    have e:=Option.some.inj e
    unfold sY at e
    split at e <;> cases e
    exact⟨_,rfl⟩
 refine⟨by simp[kR,xK],by rw[hH];exact Same.refl H,λi x e=>?_,λi j x y v u a e1 _ _ _ o _=>by
  obtain⟨d,rfl⟩:=own i x e1
  exact o.elim,by rw[hK,hH];exact so.tabs⟩
 unfold kR at e
 by_cases hik:i<k
 ·rw[List.getElem?_append_left (by simpa using hik),List.getElem?_replicate,if_pos hik] at e;cases e
 ·rw[List.getElem?_append_right (by simpa using hik),List.getElem?_map,List.length_replicate] at e
  cases eo:ix[i-k]? with
  | none=>rw[eo] at e;cases e
  | some o =>
   rw[eo] at e
   have e:some (sY ρ o)=some (some x):=e
   have e:=Option.some.inj e
   unfold sY at e
   split at e
   ·rename_i d ed
    cases e
    obtain⟨v,h1,h2⟩:=so.rel o _ ed
    refine⟨v,?_,by rw[hK];exact h2⟩
    unfold xK
    rw[List.getElem?_append_right (by simpa using hik),List.getElem?_map,List.length_replicate,eo,Option.map_some,h1];rfl
   ·cases e
section
variable {X:Cx} {pins:List (Addr × Obj)} {σ:St} {H:Hp} {s2:Shared} {scope:Scope} {N:List Str} {cl:List (Str × Addr)} {fp:List Addr} {it:Addr} {tn:Nat->Heap->Prop} {J:It} {xs:List D} {ρ:En}
 {elt target iter:Expr} {ifs:List Expr} {pos:Pos} {g:RG} {tt:RT} {te:RE} {k:Nat} {ix:List Nat} {ys:List Str} {P:List D->Prop}
theorem _root_.L2.Inv.track {s s':Shared} {H H':Hp} {a:Addr} {vs:List V} {its:List Value} {n:Nat} (I:Inv X pins σ H s) (I':Inv X pins σ H' s') (ha:s.heap.objs.size<=a) (hn:H' a=none)
  (e:s'.heap.get? a=some { cls:=.type "list",data:=.seq its.toArray n }) (rv:Vals vs its) (hz:vs.length<=sizeLine):Inv X pins σ (upd H' a (.lst vs)) s':=by
 have hL:X.env.locals≠a:=Nat.ne_of_lt (Nat.lt_of_lt_of_le I.lt ha)
 have hcell:∀x c,X.env.cells.lookup x=some c->c≠a:=λx c q z=>by
  obtain⟨v,hv⟩:=I.cell x c q
  exact absurd (Nat.lt_of_lt_of_le hv.lt (by rw[z];exact ha)) (Nat.lt_irrefl _)
 have hs0:∀{b:Addr} {o:Obj},X.s₀.heap.get? b=some o->b≠a:=λ{b o} q=>Nat.ne_of_lt (Nat.lt_of_lt_of_le (Heap.lt_size q) (Nat.le_trans I.sz ha))
 refine⟨I'.ok,I'.os,I'.bare,⟨I'.base.keep,I'.base.slot,λb o q n hx=>?_,I'.base.there,λb ys q=>?_,λb o u q=>?_,λb ps q=>?_⟩,I'.loc,I'.cell,?_,λx c q=>?_,λp hp=>?_,λb u q=>?_,I'.len⟩
 ·rw[aI (hs0 q)];exact I'.base.free b o q n hx
 ·rw[aI (aQ (I'.base.tups b ys q) hn)];exact I'.base.tups b ys q
 ·rw[aI (aQ (I'.base.frzs b o u q) hn)];exact I'.base.frzs b o u q
 ·obtain⟨m,q2⟩:=I'.base.tbls b ps q
  exact⟨m,by rw[aI (aQ q2 hn)];exact q2⟩
 ·rw[aI hL];exact I'.free
 ·rw[aI (hcell x c q)];exact I'.freeC x c q
 ·obtain⟨q1,q2,q3,q4,q5⟩:=I'.pin p hp
  have hp1:p.1≠a:=Nat.ne_of_lt (Nat.lt_of_lt_of_le (Heap.lt_size (I.pin p hp).1) ha)
  exact⟨q1,by rw[aI hp1];exact q2,q3,q4,q5⟩
 ·by_cases hb:b=a
  ·subst hb
   rw[aW] at q;cases q
   exact⟨hz,its,n,rv,e⟩
  ·rw[aI hb] at q
   exact (I'.hok b u q).stay (λc v _ w=>w) (λc w=>by rw[aI (aQ w hn)];exact w) λc ys w=>by rw[aI (aQ w hn)];exact w
theorem vU (hc:X.calm=true) (Sc:CScope X scope) (hcl:∀x c,cl.lookup x=some c->X.env.cells.lookup x=some c) (hall:∀y∈scope.names,y.2 = .free->∃c,cl.lookup y.1=some c)
  (hN:N.length=k+ys.length) (hdrop:N.drop k=ys) (hix:ix.length=ys.length) (hiy:∀(j:Nat) (y:Str) (i:Nat),ys[j]? = some y->ix[j]? = some i->X.N[i]? = some y/\(y,NameKind.free)∈scope.names)
  (hkind:∀y∈ys,(relabel scope X.env).names.lookup y=some .cell\/(relabel scope X.env).names.lookup y=some .free)
  (hg:∀C s H fp,DG (dW X scope N cl C s H fp) target g) (hif:∀C s H fp,IH (dW X scope N cl C s H fp) ifs tt) (he:∀C s H fp,DE (dW X scope N cl C s H fp) elt te)
  (I2:Inv X pins σ H s2) (so:StOk X ρ σ H) (T:Turn X.prog X.w X.K target J fp it tn) (st:tn 0 s2.heap) (hf:∀b∈fp,nV X pins H b) (ok:CB X J xs H) (hz:xs.length<=sizeLine)
  (hP:cM g tt te xs (kR ρ k ix) [] P) {RR:Value->Addr->Result->Shared->Prop} {E:Value->Shared->Prop}
  (post:∀(ds:List D) (vs:List V) (its:List Value) (n:Nat) (C:Addr) (s':Shared) (H':Hp),P ds->Same H H'->H' s2.heap.objs.size=none->Reps X.K H' ds vs->Vals vs its->vs.length<=sizeLine ->
   s'.heap.get? s2.heap.objs.size=some { cls:=.type "list",data:=.seq its.toArray n }->Inv X pins σ H' s'->(∃m,s'.heap.Ns C m)->s2.heap.objs.size<C->H' C=none->RR (.ref s2.heap.objs.size) C (.ok .next) s') :
  wpAny (model X.prog X.w) X.A (newList []) (λacc s₃=>wpAny (model X.prog X.w) X.A (newFunctionEnv scope X.env.globals cl [] X.env.qual none .none (some X.env)) (λcenv s₄ =>
   codeAny (model X.prog X.w) X.A (.compStart (.ListComp elt [⟨target,iter,ifs,0⟩] scope pos) 0 (.ref it) acc { cenv with scope:=relabel scope X.env }) (RR acc cenv.locals) s₄) E s₃) E s2:=by
 refine wpAny_newObj_type (wpAny_newFunctionEnv Sc.nocell (by intro y hy;simp at hy) (λh₁ hns₁ hsb₁=>?_) Sc.kind)
 dsimp only at hns₁ hsb₁ ⊢
 generalize hH2:s2.heap.push { cls:=.type "list",dict:=none,data:=.seq ([]:List Value).toArray } = HP2 at hns₁ hsb₁ ⊢
 have hCs:HP2.objs.size=s2.heap.objs.size+1:=by rw[<-hH2,Heap.size_push]
 have hltC:s2.heap.objs.size<HP2.objs.size:=by rw[hCs];exact Nat.lt_succ_self _
 have hlt:∀b∈fp,b<s2.heap.objs.size:=λb hb=>by
  obtain⟨o,ho,_⟩:=T.obj 0 _ st b hb
  exact Heap.lt_size ho
 have old:∀b o,s2.heap.get? b=some o->h₁.get? b=some o:=λb o e =>
  hsb₁.extBut b o (Nat.ne_of_lt (Nat.lt_trans (Heap.lt_size e) hltC)) (Heap.get?_push_of_some _ (hH2 ▸ Heap.get?_push_of_some _ e))
 have hacc:h₁.get? s2.heap.objs.size=some { cls:=.type "list",data:=.seq ([]:List Value).toArray 0 } :=
  hsb₁.extBut _ _ (Nat.ne_of_lt hltC) (Heap.get?_push_of_some _ (hH2 ▸ Heap.get?_push_size _ rfl))
 have hfr:H s2.heap.objs.size=none:=I2.hok.fresh (Nat.le_refl _)
 let X':=dW X scope N cl HP2.objs.size s2 H fp
 have J0:Inv X' [] (xK σ k ix) H { s2 with heap:=h₁,toks:=s2.toks+([]:List (Str × Value)).length } :=
  JC I2 Sc hcl hall (Nat.le_of_lt hltC) hf hlt old rfl I2.bare hns₁ hN hdrop hix hiy hkind
 have S0:StOk X' (kR ρ k ix) (xK σ k ix) H:=RL so rfl rfl
 have hD0fs:s2.heap.objs.size ∉ X'.fs:=λhb=>by
  have hb:s2.heap.objs.size∈frs X.stack:=hb
  rcases List.mem_cons.mp (I2.stkSub _ hb) with e | e
  ·exact absurd (show X.env.locals<X.env.locals from Nat.lt_of_lt_of_eq I2.lt e) (Nat.lt_irrefl _)
  ·exact I2.nofs (Nat.le_refl _) e
 have fpok:∀{H':Hp} {o:Obj},(∀b∈fp,H' b=none)->∀b∈fp,nV X' [(s2.heap.objs.size,o)] H' b:=λ{H' o} hn b hb=>by
  obtain⟨f0,f1,f2,f3,f4,f5⟩:=hf b hb
  refine⟨hn b hb,Nat.ne_of_lt (Nat.lt_trans (hlt b hb) hltC),λhfs=>?_,.inl hb,λx c e=>f4 x c (hcl x c e),λp hp=>?_⟩
  ·rcases List.mem_cons.mp (I2.stkSub b hfs) with e | e
   ·exact f1 e
   ·exact f2 e
  ·have:p=(s2.heap.objs.size,o):=by simpa [X',dW] using hp
   subst this
   exact Nat.ne_of_gt (hlt b hb)
 have pinD:∀{σ':St} {H':Hp} {s':Shared} {its:List Value} {n:Nat},Inv X' [] σ' H' s'->H' s2.heap.objs.size=none->s'.heap.get? s2.heap.objs.size=some { cls:=.type "list",data:=.seq its.toArray n }->Inv X' [(s2.heap.objs.size,{ cls:=.type "list",data:=.seq its.toArray n })] σ' H' s':=λI' hn e =>
  I'.pins_of λp hp=>by
   have:=List.mem_singleton.mp hp
   subst this
   exact⟨e,hn,Nat.ne_of_lt hltC,hD0fs,λv z=>by cases z⟩
 have loop:∀s₃:Shared,s₃ = { s2 with heap:=h₁,toks:=s2.toks+([]:List (Str × Value)).length } ->
   codeAny (model X.prog X.w) X.A (.compLoop (.ListComp elt [⟨target,iter,ifs,0⟩] scope pos) 0 (.ref it) (.ref s2.heap.objs.size) (compEnvC scope cl HP2.objs.size X.env)) (RR (.ref s2.heap.objs.size) HP2.objs.size) s₃:=by
  rintro s₃ rfl
  refine GA (λm s'=>∃(i:Nat) (ρ':En) (σ':St) (H':Hp) (ds:List D) (vs:List V) (its:List Value) (n:Nat),m=xs.length-i/\i<=xs.length/\Inv X' [] σ' H' s'/\StOk X' ρ' σ' H'/\tn i s'.heap/\(∀b∈fp,H' b=none) /\
   H' s2.heap.objs.size=none/\s'.heap.get? s2.heap.objs.size=some { cls:=.type "list",data:=.seq its.toArray n }/\Reps X.K H' ds vs/\Vals vs its/\vs.length<=i/\cM g tt te (xs.drop i) ρ' ds P) ?_ xs.length
   ⟨0,kR ρ k ix,xK σ k ix,H,[],[],[],0,rfl,Nat.zero_le _,J0,S0,T.keep _ _ _ st (λb hb o e=>old b o e),λb hb=>(hf b hb).1,hfr,hacc,.nil,.nil,Nat.le_refl _,by simpa using hP⟩
  rintro m s' ⟨i,ρ',σ',H',ds,vs,its,n,rfl,hi,I',S',st',fr',hn',e',rr,rv,hl,hD⟩ E'
  obtain⟨o1,o2⟩:=ok i H' (.of S'.same)
  have I1:=pinD I' hn' e'
  by_cases hlt':i<xs.length
  ·have e:xs.drop i=xs[i]::xs.drop (i+1):=List.drop_eq_getElem_cons hlt'
   rw[e] at hD
   obtain⟨go,yl⟩:=o1 xs[i] (List.getElem?_eq_getElem hlt')
   refine thn (T.item X' rfl rfl rfl hc i _ s' σ' H' E' I1 (fpok fr') st' go) λr s4 ⟨u,hr,h4⟩=>?_
   subst hr
   refine thn h4 λ_ s5 ⟨x,H5,I5,r5,y5,st5,fr5⟩=>?_
   obtain⟨s45,rx5⟩:=yl x H5 y5
   have I5':=I5.pinned (fpok fr5) (T.obj _ _ st5)
   refine wpAny_mono (hg _ _ _ _ _ s5 σ' H5 x u (λσ6 H6=>∃ρ6,tt ρ6 (λb=>if b=true then te ρ6 (λd=>cM g tt te (xs.drop (i+1)) ρ6 (ds++[d]) P) else cM g tt te (xs.drop (i+1)) ρ6 ds P)/\Keep H5 H6/\StOk X' ρ6 σ6 H6) I5' r5 ⟨xs[i],ρ',_,rx5,S'.ext s45,hD,λρ6 σ6 H6 q6 k6 s6=>⟨ρ6,q6,k6,s6⟩⟩) (λ_ s6' ⟨σ6,H6',I6',ρ6,q6',k6',S6'⟩=>?_) λ_ _ z=>z.elim
   refine wpAny_mono (hif _ _ _ _ _ s6' σ6 H6' (λb H6=>(if b=true then te ρ6 (λd=>cM g tt te (xs.drop (i+1)) ρ6 (ds++[d]) P) else cM g tt te (xs.drop (i+1)) ρ6 ds P)/\Same H6' H6) I6' ⟨ρ6,_,S6',q6',λb H6 hb s6=>⟨hb,s6⟩⟩) (λokb s6 ⟨H6,I6,q6,s66⟩=>?_) λ_ _ z=>z.elim
   have k6:Keep H5 H6:=k6'.trans (.of s66)
   have S6:StOk X' ρ6 σ6 H6:=S6'.ext s66
   cases okb with
   | false =>
    have q6:cM g tt te (xs.drop (i+1)) ρ6 ds P:=q6
    show ∃m,m<xs.length-i/\_
    obtain⟨e7,n7,_,_,_⟩:=I6.pin (s2.heap.objs.size,_) (List.mem_append_right _ (List.mem_append_left _ List.mem_cons_self))
    refine⟨xs.length-(i+1),by omega,i+1,ρ6,σ6,H6,ds,vs,its,n,rfl,hlt',I6.pins_of λp hp=>absurd hp (by simp),S6,?_,λb hb=>?_,n7,e7,rr.keep ((Keep.of s45).trans k6),rv,Nat.le_succ_of_le hl,q6⟩
    ·exact T.keep _ _ _ st5 λb hb o q=>(I6.pin (b,o) (List.mem_append_right _ (List.mem_append_right _ (gA hb q)))).1
    ·obtain⟨o,q,_⟩:=T.obj _ _ st5 b hb
     exact (I6.pin (b,o) (List.mem_append_right _ (List.mem_append_right _ (gA hb q)))).2.1
   | true =>
   have q6:te ρ6 (λd=>cM g tt te (xs.drop (i+1)) ρ6 (ds++[d]) P):=q6
   show wpAny _ _ (eval elt _) _ _ s6
   refine wpAny_mono (he _ _ _ _ _ s6 σ6 H6 (λv H7=>∃d,cM g tt te (xs.drop (i+1)) ρ6 (ds++[d]) P/\Same H6 H7/\Rep X.K H7 d v) I6 ⟨ρ6,_,S6,q6,λd v H7 q7 s7 r7=>⟨d,q7,s7,r7⟩⟩) (λu7 s7 ⟨v7,H7,I7,rv7,d,q7,s67,r7⟩=>?_) λ_ _ z=>z.elim
   obtain⟨e7,n7,_,_,_⟩:=I7.pin (s2.heap.objs.size,_) (List.mem_append_right _ (List.mem_append_left _ List.mem_cons_self))
   have hsz:its.toArray.size+1<=sizeLine:=by
    rw[List.size_toArray,<-rv.length]
    omega
   refine call_meets F.slot_list_append ⟨_,e7,rfl⟩ F.entry_list_append (F.args_list_append_2 _ _) (PySem.list_append s2.heap.objs.size its.toArray n u7 (by omega)) ⟨e7,?_⟩
   have e8:=PySem.IsL.update e7 (λa=>a.push u7)
   have I8:Inv X' [] σ6 H7 s7:=I7.pins_of λp hp=>absurd hp (by simp)
   have upd8:∀b o,b≠s2.heap.objs.size->s7.heap.get? b=some o->(s7.heap.update s2.heap.objs.size (Obj.mapSeq λa=>a.push u7)).get? b=some o:=λb o hb q=>(Heap.get?_update_other s7.heap _ (Ne.symm hb)).trans q
   have I9:Inv X' [] σ6 H7 { s7 with heap:=s7.heap.update s2.heap.objs.size (Obj.mapSeq λa=>a.push u7) } :=
    I8.turned (t':=s7.toks) upd8 n7 (Nat.ne_of_lt hltC) (.inr (Nat.le_refl _)) (λx c q z=>by
     obtain⟨v,hv⟩:=I2.cell x c (hcl x c q)
     exact absurd hv.lt (by rw[z];exact Nat.lt_irrefl _)) (λp hp=>absurd (show p∈([]:List (Addr × Obj)) from hp) (by simp))
   have k57:Keep H5 H7:=k6.trans (.of s67)
   have k':Keep H' H7:=(Keep.of s45).trans k57
   refine⟨xs.length-(i+1),by omega,i+1,ρ6,σ6,H7,ds++[d],vs++[v7],its++[u7],_,rfl,hlt',I9,S6.ext s67,?_,λb hb=>?_,n7,by simpa using e8,(rr.keep k').append (.cons r7 .nil),rv.append (.cons rv7 .nil),by rw[List.length_append];exact Nat.succ_le_succ hl,q7⟩
   ·refine T.keep _ _ _ st5 λb hb o q=>?_
    have q7':=(I7.pin (b,o) (List.mem_append_right _ (List.mem_append_right _ (gA hb q)))).1
    exact upd8 b o (Nat.ne_of_lt (hlt b hb)) q7'
   ·obtain⟨o,q,_⟩:=T.obj _ _ st5 b hb
    exact (I7.pin (b,o) (List.mem_append_right _ (List.mem_append_right _ (gA hb q)))).2.1
  ·have hie:i=xs.length:=by omega
   subst hie
   rw[List.drop_length] at hD
   refine thn (T.done X' rfl rfl rfl hc _ _ s' σ' H' E' I1 (fpok fr') st' (o2 (Nat.le_refl _))) λr s4 ⟨hr,I4⟩=>?_
   subst hr
   obtain⟨e4,n4,_,_,_⟩:=I4.pin (s2.heap.objs.size,_) (List.mem_append_right _ List.mem_cons_self)
   obtain⟨m4,hn4,_⟩:=I4.loc
   have I5:Inv X pins σ H' s4:=I2.call' (ch:=fp) I4.os I4.base I4.hok I4.bare λb hb=>by
    obtain⟨f0,f1,f2,f3,f4,f5⟩:=hf b hb
    exact⟨f3,f1,f4,f5⟩
   exact post ds vs its n HP2.objs.size s4 H' hD S'.same n4 rr rv (Nat.le_trans hl hz) e4 I5 ⟨m4,hn4⟩ hltC I4.free
 exact codeAny_compStart_list (loop _ rfl) (T.self X.A 0 _ _ _ (T.keep _ _ _ st λb hb o e=>old b o e) (loop _ rfl))
end
noncomputable def vS (X:Cx) (scope:Scope) (N:List Str) (k:Nat) (ix:List Nat):Bool :=
 scope.kind == .function && scope.names.all (λy=>y.2 != .cell) && scope.names.all (λy=>y.2 != .local || scope.names.lookup y.1 == some .local) &&
 scope.names.all (λy=>y.2 != .free || X.env.kindOf y.1 == some .cell || X.env.kindOf y.1 == some .free) &&
 N.length == k+ix.length && ((N.drop k).zip ix).all (λp=>X.N[p.2]? == some p.1 && scope.names.contains (p.1,.free)) &&
 (N.drop k).all (λy=>(relabel scope X.env).names.lookup y == some .cell || (relabel scope X.env).names.lookup y == some .free)
structure CompF (X:Cx) (scope:Scope) (N:List Str) (k:Nat) (ix:List Nat):Prop where
 sc:CScope X scope
 hN:N.length=k+(N.drop k).length
 hix:ix.length=(N.drop k).length
 hiy:∀(j:Nat) (y:Str) (i:Nat),(N.drop k)[j]? = some y->ix[j]? = some i->X.N[i]? = some y/\(y,NameKind.free)∈scope.names
 hkind:∀y∈N.drop k,(relabel scope X.env).names.lookup y=some .cell\/(relabel scope X.env).names.lookup y=some .free
theorem zK {X:Cx} {scope:Scope} {N:List Str} {k:Nat} {ix:List Nat} (h:vS X scope N k ix=true):CompF X scope N k ix:=by
 unfold vS at h
 simp only[Bool.and_eq_true,List.all_eq_true,bne_iff_ne,ne_eq,Bool.or_eq_true,beq_iff_eq] at h
 obtain⟨⟨⟨⟨⟨⟨h1,h2⟩,h3⟩,h4⟩,h5⟩,h6⟩,h7⟩:=h
 have hl:(N.drop k).length=ix.length:=by rw[List.length_drop];omega
 refine⟨⟨h1,h2,λy hy e=>?_,λy hy e=>?_⟩,by omega,hl.symm,λj y i e1 e2=>?_,h7⟩
 ·rcases h3 y hy with q | q
  ·exact absurd e q
  ·exact q
 ·rcases h4 y hy with (q | q) | q
  ·exact absurd e q
  ·exact .inl q
  ·exact .inr q
 ·have hm:(y,i)∈(N.drop k).zip ix:=by
   refine List.mem_of_getElem? (i:=j) ?_
   rw[List.getElem?_zip_eq_some]
   exact⟨e1,e2⟩
  obtain⟨q1,q2⟩:=h6 _ hm
  exact⟨q1,List.contains_iff_mem.mp q2⟩
noncomputable def eF (ti:RA) (k:Nat) (ix:List Nat) (g:RG) (te:RE):RA:=λρ Q=>ti ρ λxs=>Sz xs.length/\gK g te xs (kR ρ k ix) [] Q
noncomputable def lK (ti:RA) (k:Nat) (ix:List Nat) (g:RG) (tt:RT) (te:RE):RA:=λρ Q=>ti ρ λxs=>Sz xs.length/\cM g tt te xs (kR ρ k ix) [] Q
theorem wI {ti:RA} {k:Nat} {ix:List Nat} {g:RG} {te:RE}:lK ti k ix g MC te=eF ti k ix g te:=by
 funext ρ Q
 unfold lK eF
 congr 1
 funext xs
 rw[vT]
section
variable {X:Cx} {scope:Scope} {elt target iter:Expr} {ifs:List Expr} {pos:Pos} {g:RG} {tt:RT} {te:RE} {ti:RA}
theorem qI {pins:List (Addr × Obj)} {σ:St} {H H':Hp} {s s':Shared} {C:Addr} {h':Heap} {t':Nat} (I2:Inv X pins σ H s) {σ':St} (I':Inv X pins σ' H' s') (hC:s.heap.objs.size<=C) (hn:H' C=none) (hs:Heap.SameBut C s'.heap h') :
  Inv X pins σ' H' { s' with heap:=h',toks:=t' } :=
 I'.turned (λb o hb e=>(hs.2 b hb).trans e) hn (Nat.ne_of_gt (Nat.lt_of_lt_of_le I2.lt hC)) (.inr (Nat.le_trans I2.sz hC)) (λx c e z=>by
  obtain⟨v,hv⟩:=I2.cell x c e
  exact absurd (Nat.lt_of_lt_of_le hv.lt (by rw[z];exact hC)) (Nat.lt_irrefl _)) λp hp z=>absurd (Nat.lt_of_lt_of_le (Heap.lt_size (I2.pin p hp).1) (by rw[z];exact hC)) (Nat.lt_irrefl _)
theorem tE (N:List Str) (k:Nat) (ix:List Nat) (hi:DI X target iter ti) (hg:∀cl C s H fp,DG (dW X scope N cl C s H fp) target g) (hif:∀cl C s H fp,IH (dW X scope N cl C s H fp) ifs tt) (he:∀cl C s H fp,DE (dW X scope N cl C s H fp) elt te)
  (hc:X.calm=true:=by rfl) (hB:vS X scope N k ix=true:=by rfl) (hs:∀x,foldedSetIterable iter X.env x=pure x:=by intro _;rfl):DO X (.ListComp elt [⟨target,iter,ifs,0⟩] scope pos) (lK ti k ix g tt te):=by
 intro pins s σ H Q I hh_0
 obtain⟨ρ,P,so,q,kk⟩:=hh_0
 have F:=zK hB
 obtain⟨cl,hclos,hcl,hall⟩:=mX (scope:=scope) (env:=X.env) λy hy hf=>I.ok.has _ (F.sc.frees y hy hf)
 rw[eval_ListComp]
 refine wpAny_comprehension_free (use:=none) rfl hs hclos F.sc.kind F.sc.locs (thn (hi pins s σ H (λJ H'=>∃xs,Same H H'/\CB X J xs H'/\xs.length<=sizeLine/\cM g tt te xs (kR ρ k ix) [] P) I ⟨ρ,_,so,q,λxs J H' hx s1 ok=>⟨xs,s1,ok,hx.1.ok,hx.2⟩⟩) λv s1 h1=>thn h1 λitv s2 h2=>?_)
 obtain⟨it,fp,tn,J,H',rfl,I2,T,st,hf,xs,s01,ok,hz,hD⟩:=h2
 refine vU (RR:=λacc C=>compPost (model X.prog X.w) X.A X.xe none (EP X pins σ Q) acc C) hc F.sc hcl hall F.hN rfl F.hix F.hiy F.hkind (hg cl) (hif cl) (he cl) I2 (so.ext s01) T st hf ok hz hD ?_
 intro ds vs its n C s' H2 hP s12 hn rr rv hl e I' ⟨m,hns⟩ hltC hnC
 refine⟨m,hns,λh' hs'=>?_⟩
 have I3:Inv X pins σ H2 { s' with heap:=h' }:=qI (t':=s'.toks) I2 I' (Nat.le_of_lt hltC) hnC hs'
 have e3:h'.get? s2.heap.objs.size=some { cls:=.type "list",data:=.seq its.toArray n }:=(hs'.2 _ (Nat.ne_of_lt hltC)).trans e
 exact⟨.ref s2.heap.objs.size,_,I2.track I3 (Nat.le_refl _) hn e3 rv hl,rfl,kk ds _ vs H2 hP (s01.trans s12) hn rr⟩
theorem JV {i:Nat} {y:Str} {pos' spos:Pos} (N:List Str) (k:Nat) (ix:List Nat) (hN:X.N.Nodup) (hi:DI X target iter ti) (hg:∀cl C s H fp,DG (dW X scope N cl C s H fp) target g) (hif:∀cl C s H fp,IH (dW X scope N cl C s H fp) ifs tt) (he:∀cl C s H fp,DE (dW X scope N cl C s H fp) elt te)
  (hy:X.N[i]? = some y:=by rfl) (hx:X.env.scope.names.lookup y=some .local:=by rfl) (hc:X.calm=true:=by rfl) (hB:vS X scope N k ix=true:=by rfl) (hs:∀x,foldedSetIterable iter X.env x=pure x:=by intro _;rfl)
  (hsw:swapsWith (.ListComp elt [⟨target,iter,ifs,0⟩] scope pos) (some (.Name y pos')) spos.line X.env=pure true:=by rfl) :
  DS X (.Assign [.Name y pos'] (.ListComp elt [⟨target,iter,ifs,0⟩] scope pos) spos) (dE i (lK ti k ix g tt te)):=by
 intro pins s σ H De I hh_0
 obtain⟨ρ,E,so,q,nn,rt,bk,ct⟩:=hh_0
 have F:=zK hB
 obtain⟨cl,hclos,hcl,hall⟩:=mX (scope:=scope) (env:=X.env) λy hy hf=>I.ok.has _ (F.sc.frees y hy hf)
 rw[exec_Assign_Name_used _ _ _ _ hsw]
 refine wpAny_bind (wpAny_standAt (wpAny_bind ?_))
 show wpAny _ X.A (do let _ <-comprehension (.ListComp elt [⟨target,iter,ifs,0⟩] scope pos) scope X.env _ (newList []) false (eval iter X.env) (some (assign (.Name y pos') X.env))) _ _ s
 refine wpAny_bind (wpAny_mono (wpAny_comprehension_free (use:=some (assign (.Name y pos') X.env)) (Q:=λ_ s'=>SP X pins De .next s') rfl hs hclos F.sc.kind F.sc.locs
  (thn (hi pins s σ H (λJ H'=>∃xs,Same H H'/\CB X J xs H'/\xs.length<=sizeLine/\cM g tt te xs (kR ρ k ix) [] (λds=>E.nx (ρ.set i (some (.own ds))))) I ⟨ρ,_,so,q,λxs J H' hx s1 ok=>⟨xs,s1,ok,hx.1.ok,hx.2⟩⟩) λv s1 h1=>thn h1 λitv s2 h2=>?_)) (λ_ s' hq=>wpAny_pure (wpAny_pure hq)) λ_ _ e=>e)
 obtain⟨it,fp,tn,J,H',rfl,I2,T,st,hf,xs,s01,ok,hz,hD⟩:=h2
 refine vU (RR:=λacc C=>compPost (model X.prog X.w) X.A X.xe (some (assign (.Name y pos') X.env)) (λ_ s'=>SP X pins De .next s') acc C) hc F.sc hcl hall F.hN rfl F.hix F.hiy F.hkind (hg cl) (hif cl) (he cl) I2 (so.ext s01) T st hf ok hz hD ?_
 intro ds vs its n C s' H2 hP s12 hn rr rv hl e I' ⟨m,hns⟩ hltC hnC
 have I3:=I2.track I' (Nat.le_refl _) hn e rv hl
 have hneC:s2.heap.objs.size≠C:=Nat.ne_of_lt hltC
 have so3:StOk X (ρ.set i (some (.own ds))) (σ.set i (some (.ref s2.heap.objs.size))) (upd H2 s2.heap.objs.size (.lst vs)):=(so.ext (s01.trans s12)).set_own hn rr
 have k3:Keep H (upd H2 s2.heap.objs.size (.lst vs)):=(Keep.of (s01.trans s12)).trans (.ofF λb o h=>by rw[aI (aQ h hn)];exact h)
 show wpAny (model X.prog X.w) X.A (assign (.Name y pos') X.env (.ref s2.heap.objs.size)) _ _ s'
 refine wpAny_assign_Name (wW I3 hN hy (.inl hx) (v:=.ref s2.heap.objs.size) rfl (λs4 I4 ⟨a,sb,ha⟩=>?_) (.inr hx))
 have hCa:C≠a:=by
  rcases ha with rfl | ha
  ·exact Nat.ne_of_gt (Nat.lt_trans I2.lt hltC)
  ·obtain⟨v,hv⟩:=I2.cell _ a ha
   exact Nat.ne_of_gt (Nat.lt_trans hv.lt hltC)
 refine⟨m,hns.sameBut sb hCa,λh' hs'=>⟨_,_,qI (t':=s4.toks) I2 I4 (Nat.le_of_lt hltC) (by rw[aI (Ne.symm hneC)];exact hnC) hs',nn _ _ _ hP k3 so3⟩⟩
theorem oC (N:List Str) (k:Nat) (ix:List Nat) (hi:DI X target iter ti) (hg:∀cl C s H fp,DG (dW X scope N cl C s H fp) target g) (he:∀cl C s H fp,DE (dW X scope N cl C s H fp) elt te)
  (hc:X.calm=true:=by rfl) (hB:vS X scope N k ix=true:=by rfl) (hs:∀x,foldedSetIterable iter X.env x=pure x:=by intro _;rfl):DO X (.ListComp elt [⟨target,iter,[],0⟩] scope pos) (eF ti k ix g te):=by
 rw[<-wI];exact tE N k ix hi hg (λ_ _ _ _ _=>zU) he hc hB hs
theorem xT {i:Nat} {y:Str} {pos' spos:Pos} (N:List Str) (k:Nat) (ix:List Nat) (hN:X.N.Nodup) (hi:DI X target iter ti) (hg:∀cl C s H fp,DG (dW X scope N cl C s H fp) target g) (he:∀cl C s H fp,DE (dW X scope N cl C s H fp) elt te)
  (hy:X.N[i]? = some y:=by rfl) (hx:X.env.scope.names.lookup y=some .local:=by rfl) (hc:X.calm=true:=by rfl) (hB:vS X scope N k ix=true:=by rfl) (hs:∀x,foldedSetIterable iter X.env x=pure x:=by intro _;rfl)
  (hsw:swapsWith (.ListComp elt [⟨target,iter,[],0⟩] scope pos) (some (.Name y pos')) spos.line X.env=pure true:=by rfl) :
  DS X (.Assign [.Name y pos'] (.ListComp elt [⟨target,iter,[],0⟩] scope pos) spos) (dE i (eF ti k ix g te)):=by
 rw[<-wI];exact JV N k ix hN hi hg (λ_ _ _ _ _=>zU) he hy hx hc hB hs hsw
end
section
variable {X:Cx} {e a b:Expr} {pos apos cpos npos:Pos} {te:RE} {x:Str}
noncomputable def iG (i:Nat) (te:RE):RS:=λE ρ=>match ρ[i]? with
 | some (some (.own xs))=>te ρ λd=>Sz (xs.length+1)/\E.nx (ρ.set i (some (.own (xs++[d]))))
 | _=>False
theorem fZ (i:Nat) (he:DE X e te) (hN:X.N[i]? = some x:=by rfl) (hv:Vis X.env.scope x:=by walk_at "vis") (hd:(x == ("__debug__":Str))=false:=by decide) (hcd:(x == ("__classdict__":Str))=false:=by decide)
  (hbase:attributeBase (.Name x npos) "append" X.env (eval (.Name x npos) X.env)=eval (.Name x npos) X.env:=by rfl)
  (hfew:((backTo cpos (starEach [e] X.env)).all (λx=>!x.1) && (backToKw cpos (keywordEach [] X.env)).all (λx=>x.1.isSome) && decide (([e]:List Expr).length+([]:List Keyword).length+(if ([]:List Keyword).isEmpty then 0 else 1)<30))=true:=by rfl)
  (hline:(apos.endLine == cpos.line)=true:=by rfl) (hs:starEach [e] X.env=[(false,eval e X.env)]:=by rfl) (hn:starEach [] X.env=[]:=by rfl) (hsw:swapsWith (.Call (.Attribute (.Name x npos) "append" apos) [e] [] cpos) none pos.line X.env=pure false:=by rfl) :
  DS X (.Expr (.Call (.Attribute (.Name x npos) "append" apos) [e] [] cpos) pos) (iG i te):=by
 refine PS.mono (sK (AW PySem.F.plainAttrs_list PySem.F.slot_list_append PySem.F.type_list_append wF (pv i hN hv hd hcd) (jE he hs hn) hbase hfew hline (by rw[hs,hn]) (by rw[hn];rfl)) hsw) λDe σ H hh=>dX hh λρ E so q n r bk ct=>?_
 unfold iG at q
 split at q
 ·rename_i xs ex
  obtain⟨v,h1,p,vs,ev,hp,h0,rr⟩:=so.rel i _ ex
  subst ev
  refine⟨.ref p,h1,.inl ⟨rfl,vs,SqL.of hp⟩,ρ,_,so,q,λd v H1 hd s1 rd=>?_⟩
  have hp1:=s1.get _ _ hp trivial
  obtain⟨so2,k2⟩:=(so.ext s1).upd_own ex h1 hp1 h0 ((rr.keep (.of s1)).append (.cons rd .nil))
  have hsz:xs.length+1<=sizeLine:=hd.1.ok
  exact⟨p,vs,v,rfl,rfl,hp1,by rw[<-rr.length];omega,n _ _ _ hd.2 ((Keep.of s1).trans k2) so2⟩
 ·exact q.elim
noncomputable def wL (i:Nat):RS:=λE ρ=>match ρ[i]? with
 | some (some (.own xs))=>xs≠[]/\E.nx (ρ.set i (some (.own xs.dropLast)))
 | _=>False
noncomputable def lM (i:Nat) (te tk:RE):RS:=λE ρ=>match ρ[i]? with
 | some (some (.own xs))=>te ρ λd=>tk ρ λkd=>match kd with
  | .int k=>match ixN xs.length k with
   | some j=>E.nx (ρ.set i (some (.own (xs.set j d))))
   | none=>False
  | _=>False
 | _=>False
end
section
variable {X:Cx} {e a b:Expr} {pos p:Pos}
theorem OT:OpR X (binaryOp .Add) (λx y H Q=>∃l b xs zs,x = .ref l/\y = .ref b/\SqL X.K H l xs/\SqL X.K H b zs/\xs.length+zs.length<=sizeLine/\∀p,H p=none->Q (.ref p) (upd H p (.lst (xs++zs)))):=by
 intro pins s σ H x y v u Q I rx ry h
 obtain⟨l,b,xs,zs,rfl,rfl,hH,hB,hz,q⟩:=h
 cases rx
 cases ry
 obtain⟨its,r,⟨o,n,e,hc,hd,hs⟩,hl⟩:=I.list hH
 obtain⟨its2,r2,⟨o2,n2,e2,hc2,hd2,hs2⟩,hl2⟩:=I.list hB
 obtain⟨c,d,dt,sl⟩:=o
 obtain⟨c2,d2,dt2,sl2⟩:=o2
 dsimp only at hc hs hd hc2 hs2 hd2
 subst hc hs hd hc2 hs2 hd2
 have hl1:=r.length
 have hl2:=r2.length
 refine concat_meets (T:="list") (id:="list.__add__") ⟨_,e,rfl⟩ ⟨_,e2,rfl⟩ (by kernel_rfl) (by kernel_rfl) PySem.F.slot_list_add PySem.F.entry_list_add (PySem.F.args_list_add_2 _ _)
  (list_addW l b its.toArray its2.toArray n n2 none none sl sl2 (by rw[List.size_toArray,List.size_toArray];omega)) ⟨e,e2,?_⟩
 have ea:its.toArray++its2.toArray=(its++its2).toArray:=by simp
 rw[ea]
 exact⟨.ref _,_,I.lnew (t':=s.toks) (r.append r2) (by rw[List.length_append];omega),rfl,q _ I.fresh⟩
noncomputable def FzQ (X:Cx) (Q:VK):VK:=λv H'=>Q v H'\/∃p vs H1,v = .ref p/\H'=upd H1 p (.lst vs)/\H1 p=none/\∀H2,Same H1 H2->FzL X.K H2 p vs->Q v H2
theorem QF {pins:List (Addr × Obj)} {σ:St} {Q:VK} {u:Value} {s:Shared} (h:EP X pins σ (FzQ X Q) u s):EP X pins σ Q u s:=by
 obtain⟨v,H',I,rv,q | ⟨p,vs,H1,rfl,rfl,hn,q⟩⟩:=h
 ·exact⟨v,H',I,rv,q⟩
 ·obtain⟨o,I2⟩:=Inv.freeze I (a:=p) (xs:=vs) aW
  exact⟨.ref p,_,I2,rv,q _ (.fn λb u e=>by rw[aI (aQ e hn),aI (aQ e hn)];exact e) (.inl ⟨o,aW⟩)⟩
theorem PE.frz {t:TE} (h:PE X e t):PE X e (λσ H Q=>t σ H (FzQ X Q)):=λpins s σ H Q I q=>thn (h pins s σ H _ I q) λ_ _=>QF
theorem OpR.frz {f:Value->Value->Sem Value} {r:R2} (h:OpR X f r):OpR X f (λx y H Q=>r x y H (FzQ X Q)):=λpins s σ H x y v u Q I rx ry q=>thn (h pins s σ H x y v u _ I rx ry q) λ_ _=>QF
noncomputable def gL:R22:=λx y Q=>match x,y with
 | .int i,.int j=>Q (.int (i+j))
 | .lst xs,.lst ys=>Sz (xs.length+ys.length)/\Q (.lst (xs++ys))
 | .tup xs,.tup ys=>xs≠[]/\Sz (xs.length+ys.length)/\Q (.tup (xs++ys))
 | _,_=>False
theorem upd_new {H:Hp} {p:Addr} {o:HO} (hp:H p=none):Same H (upd H p o):=Same.fn λb u e=>by rw[aI (aQ e hp)];exact e
theorem mE:OpD X (binaryOp .Add) gL:=by
 intro pins s σ H x y v u Q I rx ry hh_0
 obtain⟨d,e,P,r1,r2,q,k⟩:=hh_0
 unfold gL at q;split at q
 ·exact bW pins s σ H x y v u Q I rx ry ⟨_,_,P,r1,r2,q,k⟩
 ·rename_i xs ys
  obtain⟨a,vs,rfl,ha,ra⟩:=r1.lst
  obtain⟨b,ws,rfl,hb,rb⟩:=r2.lst
  have hsz:xs.length+ys.length<=sizeLine:=q.1.ok
  refine OpR.frz OT pins s σ H _ _ v u Q I rx ry ⟨a,b,vs,ws,rfl,rfl,ha,hb,by rw[<-ra.length,<-rb.length];exact hsz,λp hp=>.inr ⟨p,_,H,rfl,rfl,hp,λH2 s2 fz=>k _ _ H2 q.2 s2 (.lst fz ((ra.append rb).keep (.of s2)))⟩⟩
 ·rename_i xs ys
  obtain⟨a,vs,rfl,ha,ra⟩:=r1.tup
  obtain⟨b,ws,rfl,hb,rb⟩:=r2.tup
  have hsz:xs.length+ys.length<=sizeLine:=q.2.1.ok
  have hl:=ra.length
  refine OU pins s σ H _ _ v u Q I rx ry ⟨a,b,vs,ws,rfl,rfl,SqT.of ha,SqT.of hb,λz=>q.1 (List.length_eq_zero_iff.mp (by rw[hl,z];rfl)),by rw[<-ra.length,<-rb.length];exact hsz,λz=>?_,λz p hp=>?_⟩
  ·subst z
   cases rb
   have:=k _ (.ref a) H q.2.2 (Same.refl H)
   rw[List.append_nil] at this
   exact this (.tup ha ra)
  ·exact k _ _ _ q.2.2 (upd_new hp) (.tup aW ((ra.append rb).keep (.of (upd_new hp))))
 ·exact q.elim
noncomputable def nQ (te:RE) (tl th:RO):RE:=λρ Q=>te ρ λx=>tl ρ λl=>th ρ λu=>match x with
 | .lst ds=>Q (.lst (gW ds l u))
 | .tup ds=>¬(HT.sIx ds.length 0 l=0/\HT.sIx ds.length ds.length u=ds.length)/\Q (.tup (gW ds l u))
 | _=>False
theorem zQ {K:PySem.W.Frag} {H:Hp} {ds:List D} {vs:List V} (l u:Option Int) (rr:Reps K H ds vs):Reps K H (gW ds l u) (zP vs l u):=by
 unfold gW zP
 rw[<-rr.length]
 exact (rr.drop _).take _
theorem lB {lo hi:Option Expr} {te:RE} {tl th:RO} {p2:Pos} (he:DB X e te) (hl:DP X lo tl) (hu:DP X hi th):DE X (.Subscript e (.Slice lo hi none p2) pos) (nQ te tl th):=by
 refine PE.mono (PE.frz (LN (PN.or UD) he hl hu)) λσ H Q hh=>dQ hh λρ P st q k=>?_
 refine⟨ρ,_,st,q,λd v H1 hd s1 r1=>⟨ρ,_,st.ext s1,hd,λl H2 h2 s2=>⟨ρ,_,(st.ext s1).ext s2,h2,λu H3 h3 s3=>?_⟩⟩⟩
 have s03:=(s1.trans s2).trans s3
 cases d with
 | lst ds =>
  obtain⟨p,vs,rfl,hq,rr⟩:=(r1.same (s2.trans s3)).lst
  exact .inl ⟨p,vs,rfl,hq,λp' hp'=>.inr ⟨p',_,H3,rfl,rfl,hp',λH4 s4 fz=>k _ _ H4 h3 (s03.trans s4) (.lst fz ((zQ l u rr).keep (.of s4)))⟩⟩
 | tup ds =>
  obtain⟨p,vs,rfl,hq,rr⟩:=(r1.same (s2.trans s3)).tup
  refine .inr ⟨p,vs,rfl,SqT.of hq,by rw[<-rr.length];exact h3.1,λp' hp'=>.inl ?_⟩
  exact k _ _ _ h3.2 (s03.trans (upd_new hp')) (.tup aW ((zQ l u rr).keep (.of (upd_new hp'))))
 | _=>exact h3.elim
variable {te:RE}
noncomputable def mD:D->(D->Prop)->Prop:=λd Q=>match d with
 | .lst ds=>Q (.lst ds)
 | .tup ds=>Q (.lst ds)
 | _=>False
theorem pE:bootBuiltins "list" = some (.type "list"):=by decide +kernel
noncomputable def pG:D->(D->Prop)->Prop:=λd Q=>match d with
 | .lst ds=>Q (.tup ds)
 | .tup ds=>Q (.tup ds)
 | _=>False
noncomputable def GD:D->(D->Prop)->Prop:=λd Q=>match d with
 | .lst ds=>∃ns:List Int,ds=ns.map D.int/\Q (.int ns.sum)
 | _=>False
noncomputable def UW:D->(D->Prop)->Prop:=λd Q=>match d with
 | .lst ds=>∃ns:List Int,ds=ns.map D.int/\ns≠[]/\∀M,M∈ns->(∀a∈ns,a<=M)->Q (.int M)
 | _=>False
noncomputable def dMinL:D->(D->Prop)->Prop:=λd Q=>match d with
 | .lst ds=>∃ns:List Int,ds=ns.map D.int/\ns≠[]/\∀M,M∈ns->(∀a∈ns,M<=a)->Q (.int M)
 | _=>False
end
section
variable {X:Cx} {tg e:Expr} {te:RE} {pos p:Pos}
noncomputable def uM (te:RE):RA:=λρ Q=>te ρ λd=>match d with
 | .lst ds=>Q ds.reverse
 | _=>False
theorem mL:bootBuiltins "reversed" = some (.type "reversed"):=by decide +kernel
end
section
variable {prog:Program} {w:World} {A:Around} {E:Value->Shared->Prop} {s:Shared}
end
section
variable {prog:Program} {w:World} {A:Around} {E:Value->Shared->Prop} {s:Shared} {z TI TO i1 i2 a1 a2:Addr} {vs us:List Value} {T1 T2:Nat->Heap->Prop}
end
section
variable {prog:Program} {w:World} {A:Around} {E:Value->Shared->Prop} {s:Shared}
theorem JZ {R:Result->Shared->Prop} {S I:Addr} {n:Nat} {J F:List Value->Heap->Prop} {s0:Shared} (res:Value) (hn:n<=sizeLine)
  (stay:∀acc h h',J acc h->(∃o,h.get? S=some o/\o.cls = .type "list")->h'.objs.size=h.objs.size->(∀b o,b≠S->h.get? b=some o->h'.get? b=some o)->J acc h')
  (item:∀acc (s:Shared) (o:Obj) (Q:Option Value->Shared->Prop) (E:Value->Shared->Prop),acc.length<n->J acc s.heap->s.heap.get? S=some o->(∀v h',J (acc++[v]) h'->h'.get? S=some o->Q (some v) { s with heap:=h' })->wpAny (model prog w) A.in1 (pyNext (.ref I)) Q E s)
  (done:∀acc (s:Shared) (o:Obj) (Q:Option Value->Shared->Prop) (E:Value->Shared->Prop),acc.length=n->J acc s.heap->s.heap.get? S=some o->(∀h',F acc h'->h'.get? S=some o->Q none { s with heap:=h' })->wpAny (model prog w) A.in1 (pyNext (.ref I)) Q E s)
  (hR:∀h' acc c,acc.size=n->F acc.toList h'->h'.get? S=some { cls:=.type "list",dict:=none,data:=.seq acc c,slots:=#[] }->R (.ok (.ret res)) { s0 with heap:=h' }) :
  ∀(k:Nat) (acc:Array Value) (h:Heap) (c:Nat),k=n-acc.size->acc.size<=n->J acc.toList h->h.get? S=some { cls:=.type "list",dict:=none,data:=.seq acc c,slots:=#[] } ->
   codeAny (model prog w) A (.builtin "list.extend.loop" ⟨[.ref S,.ref I,res],[]⟩) R { s0 with heap:=h }:=by
 intro k
 induction k with
 | zero =>
  intro acc h c hk hle hJ hS
  refine codeAny_builtin PySem.F.entry_extend_loop ?_
  rw[Around.under_plainId PySem.F.plain_extend_loop _]
  show wpAny _ A.in1 (pyNext (.ref I) >>= _) _ _ _
  apply wpAny_bind;refine done acc.toList { s0 with heap:=h } _ _ _ (by simp;omega) hJ hS λh' hF hS'=>?_
  exact wpAny_pure (hR h' acc c (by omega) hF hS')
 | succ k ih =>
  intro acc h c hk hle hJ hS
  refine codeAny_builtin PySem.F.entry_extend_loop ?_
  rw[Around.under_plainId PySem.F.plain_extend_loop _]
  show wpAny _ A.in1 (pyNext (.ref I) >>= _) _ _ _
  apply wpAny_bind;refine item acc.toList { s0 with heap:=h } _ _ _ (by simp;omega) hJ hS λv h' hJ' hS'=>?_
  show wpAny _ A.in1 (updateSeq S (·.push v) >>= _) _ _ _
  have hs2:acc.size<n:=by omega
  have e1:(acc.push v).size=acc.size+1:=Array.size_push ..
  apply wpAny_bind;refine wpAny_updateSeq hS' rfl ?_ (by omega) (by show (acc.push v).size<=sizeLine+1;omega)
  apply wpAny_pure;refine⟨plainId_quiet PySem.F.plain_extend_loop _,?_⟩
  refine ih (acc.push v) _ _ (by omega) (by omega) (stay _ _ _ (by simpa using hJ') ⟨_,hS',rfl⟩ (Heap.SameBut.update ..).1 λb o hb e=>(Heap.get?_update_other _ _ (Ne.symm hb)).trans e) (Heap.get?_update_self _ hS' rfl)
end
section
variable {prog:Program} {w:World} {A:Around} {E:Value->Shared->Prop} {s:Shared} {z TI TO i1 i2 a1 a2:Addr} {vs us:List Value} {T1 T2:Nat->Heap->Prop}
end
section
variable {X:Cx} {pins:List (Addr × Obj)} {σ:St}
theorem _root_.L2.Inv.trackO {s s':Shared} {H H':Hp} {a:Addr} {w:HO} (I:Inv X pins σ H s) (I':Inv X pins σ H' s') (ha:s.heap.objs.size<=a) (hn:H' a=none) (new:ObjOk X.prog X.w (upd H' a w) s'.heap a w):Inv X pins σ (upd H' a w) s':=by
 have nL:X.env.locals≠a:=Nat.ne_of_lt (Nat.lt_of_lt_of_le I.lt ha)
 have nC:∀x c,X.env.cells.lookup x=some c->c≠a:=λx c q z=>by
  obtain⟨v,hv⟩:=I.cell x c q
  exact absurd (Nat.lt_of_lt_of_le hv.lt (by rw[z];exact ha)) (Nat.lt_irrefl _)
 have n0:∀{b:Addr} {o:Obj},X.s₀.heap.get? b=some o->b≠a:=λ{b o} q=>Nat.ne_of_lt (Nat.lt_of_lt_of_le (Heap.lt_size q) (Nat.le_trans I.sz ha))
 refine⟨I'.ok,I'.os,I'.bare,⟨I'.base.keep,I'.base.slot,λb o q n hx=>by rw[aI (n0 q)];exact I'.base.free b o q n hx,I'.base.there,λb ys q=>by rw[aI (aQ (I'.base.tups b ys q) hn)];exact I'.base.tups b ys q,λb o u q=>by rw[aI (aQ (I'.base.frzs b o u q) hn)];exact I'.base.frzs b o u q,λb ps q=>?_⟩,I'.loc,I'.cell,by rw[aI nL];exact I'.free,λx c q=>by rw[aI (nC x c q)];exact I'.freeC x c q,λp hp=>?_,λb u q=>?_,I'.len⟩
 ·obtain⟨m,q2⟩:=I'.base.tbls b ps q
  exact⟨m,by rw[aI (aQ q2 hn)];exact q2⟩
 ·obtain⟨q1,q2,q3,q4,q5⟩:=I'.pin p hp
  have hp1:p.1≠a:=Nat.ne_of_lt (Nat.lt_of_lt_of_le (Heap.lt_size (I.pin p hp).1) ha)
  exact⟨q1,by rw[aI hp1];exact q2,q3,q4,q5⟩
 ·by_cases hb:b=a
  ·subst hb
   rw[aW] at q;cases q
   exact new
  ·rw[aI hb] at q
   exact (I'.hok b u q).stay (λc v _ w=>w) (λc w=>by rw[aI (aQ w hn)];exact w) λc ys w=>by rw[aI (aQ w hn)];exact w
end
noncomputable def vK:D->Option (List D)
 | .lst xs=>some xs
 | .tup xs=>some xs
 | _=>none
noncomputable def HR (ta tb:RE):RA:=λρ Q=>ta ρ λx=>tb ρ λy=>∃xs ys,vK x=some xs/\vK y=some ys/\xs.length=ys.length/\Q (xs.zipWith (λa b=>D.tup [a,b]) ys)
theorem IY:bootBuiltins "zip" = some (.type "zip"):=by decide +kernel
section
variable {X:Cx} {a b:Expr} {ta tb:RE} {p pz pos posz:Pos}
end
noncomputable def Itz (K:PySem.W.Frag) (l m:Addr):It :=
 ⟨λi H=>∃xs ys x y,SqL K H l xs/\SqL K H m ys/\xs[i]? = some x/\ys[i]? = some y,λi H x H'=>∃p a b,H p=none/\x = .ref p/\H'=upd H p (.tup [a,b])/\(∀xs,SqL K H l xs->xs[i]? = some a)/\∀ys,SqL K H m ys->ys[i]? = some b,
  λi H=>∃xs ys,SqL K H l xs/\SqL K H m ys/\(xs.length<=i\/ys.length<=i)⟩
noncomputable def ZSt (z TI TO i1 i2 l m:Addr) (i:Nat) (h:Heap):Prop:=IsZip h z TI TO .none/\IsPair h TI (.ref i1) (.ref i2)/\(∃a b,IsPair h TO a b)/\h.IsListIter i1 l i/\h.IsListIter i2 m i
theorem MR {P:Program} {w:World} {K:PySem.W.Frag} {elts:List Expr} {k:Nat} {pos:Pos} (z TI TO i1 i2 l m:Addr) (D:ZipApart z TI TO i1 i2 l m) :
  Turn P w K (.Tuple elts k pos) (Itz K l m) [z,TI,TO,i1,i2] z (ZSt z TI TO i1 i2 l m) where
 mem:=by simp
 obj:=λi h st b hb=>by
  obtain⟨hz,hI,⟨a,c,hO⟩,⟨o1,e1,c1,d1⟩,o2,e2,c2,d2⟩:=st
  simp only[List.mem_cons,List.not_mem_nil,or_false] at hb
  rcases hb with rfl | rfl | rfl | rfl | rfl
  ·exact⟨_,hz,λv z=>by cases z⟩
  ·exact⟨_,hI,λv z=>by cases z⟩
  ·exact⟨_,hO,λv z=>by cases z⟩
  ·exact⟨o1,e1,λv z=>by rw[d1] at z;cases z⟩
  ·exact⟨o2,e2,λv z=>by rw[d2] at z;cases z⟩
 keep:=λi h h' st kk=>by
  obtain⟨hz,hI,⟨a,c,hO⟩,h1,h2⟩:=st
  exact⟨kk z (by simp) _ hz,kk TI (by simp) _ hI,⟨a,c,kk TO (by simp) _ hO⟩,h1.at λo x=>kk i1 (by simp) o x,h2.at λo x=>kk i2 (by simp) o x⟩
 item:=by
  intro X hP hw hK hc i pins s σ H E I hf st hg
  subst hP hw hK
  obtain⟨xs,ys,x,y,hq,hr,hx,hy⟩:=hg
  obtain⟨its,rv,p,hzl⟩:=I.list hq
  obtain⟨jts,rw',p',hzm⟩:=I.list hr
  obtain⟨u,hu,ru⟩:=rv.get hx
  obtain⟨u',hu',ru'⟩:=rw'.get hy
  have W:=WalksT.zip2 (prog:=X.prog) (w:=X.w) (A:=X.A) (I.ok.hd hc) z TI TO i1 i2 l m D its.toArray jts.toArray
  have hlt:i<min its.toArray.size jts.toArray.size:=by
   have a1:=(List.getElem?_eq_some_iff.mp hu).1
   have a2:=(List.getElem?_eq_some_iff.mp hu').1
   simp;omega
  obtain⟨g1,g2,g3,g4,g5⟩:=id st
  refine W.item i s _ _ hlt ⟨g1,g2,g3,g4,g5,p.isList,p'.isList⟩ λT vals h1 tk hv hT ht hm kk=>?_
  obtain⟨v1,v2,e1,e2,rfl⟩:=hv
  have q1:v1=u:=by
   have:its.toArray[i]? = some u:=by simpa using hu
   rw[e1] at this;exact Option.some.inj this
  have q2:v2=u':=by
   have:jts.toArray[i]? = some u':=by simpa using hu'
   rw[e2] at this;exact Option.some.inj this
  subst q1 q2
  refine⟨_,rfl,?_⟩
  have sub:∀{b:Addr},b ∉ [z,TI,TO,i1,i2]->b ∉ [z,TO,i1,i2]:=λh h'=>h (by simp at h' ⊢;rcases h' with a | a | a | a <;> simp[a])
  have I1:Inv X pins σ (upd H T (.tup [x,y])) { s with heap:=h1,toks:=tk } :=
   I.turnedT (its:=[v1,v2]) (ch:=[z,TI,TO,i1,i2]) (λb o hb e=>kk b o (sub hb) e) hf hT (by simpa using ht) (.cons ru (.cons ru' .nil)) (by show 2<=sizeLine;decide)
  have hn:H T=none:=I.hok.fresh hT
  refine W.go elts k pos i T _ _ _ hm λh2 st2 kk2=>?_
  have hf1:∀b∈[z,TI,TO,i1,i2],nV X pins (upd H T (.tup [x,y])) b:=λb hb=>by
   obtain⟨f0,f1⟩:=hf b hb
   have:∃o,s.heap.get? b=some o:=by
    obtain⟨hz,hI,⟨a,c,hO⟩,⟨o1,w1,c1,d1⟩,o2,w2,c2,d2⟩:=st
    simp only[List.mem_cons,List.not_mem_nil,or_false] at hb
    rcases hb with rfl | rfl | rfl | rfl | rfl
    ·exact⟨_,hz⟩
    ·exact⟨_,hI⟩
    ·exact⟨_,hO⟩
    ·exact⟨_,w1⟩
    ·exact⟨_,w2⟩
   obtain⟨o,ho⟩:=this
   exact⟨by rw[aI (Nat.ne_of_lt (Nat.lt_of_lt_of_le (Heap.lt_size ho) hT))];exact f0,f1⟩
  refine⟨.ref T,_,I1.turnedL (ch:=[z,TI,TO,i1,i2]) (t':=tk) (λb o hb e=>kk2 b o (sub hb) e) hf1,rfl,⟨T,x,y,hn,rfl,rfl,λys' h'=>by rw[I.list_inj h' hq];exact hx,λys' h'=>by rw[I.list_inj h' hr];exact hy⟩,⟨st2.1,st2.2.1,st2.2.2.1,st2.2.2.2.1,st2.2.2.2.2.1⟩,λb hb=>(hf1 b hb).1⟩
 done:=by
  intro X hP hw hK hc i pins s σ H E I hf st hg
  subst hP hw hK
  obtain⟨xs,ys,hq,hr,hx⟩:=hg
  obtain⟨its,rv,p,hzl⟩:=I.list hq
  obtain⟨jts,rw',p',hzm⟩:=I.list hr
  obtain⟨g1,g2,⟨a,b,g3⟩,g4,g5⟩:=st
  have l1:=rv.length
  have l2:=rw'.length
  refine wpAny_pyNext_zip_end (I.ok.hd hc) D g1 g2 g3 g4 g5 p.isList p'.isList ?_ λh1 kk=>⟨rfl,I.turnedL (ch:=[z,TI,TO,i1,i2]) (t':=s.toks) (λb o hb q=>kk b o (λe=>hb (by simp[e])) (λe=>hb (by simp[e])) (λe=>hb (by simp[e])) (λe=>hb (by simp[e])) q) hf⟩
  rcases hx with hx | hx
  ·exact .inl (by rw[List.getElem?_toArray];exact List.getElem?_eq_none (by omega))
  ·exact .inr (by rw[List.getElem?_toArray];exact List.getElem?_eq_none (by omega))
 self:=λ_ _ _ _ _ st h=>wpAny_pyIter_zip st.1 h
section
variable {X:Cx} {a b:Expr} {ta tb:RE} {pos p:Pos} {elts:List Expr} {k:Nat} {tp:Pos}
noncomputable def iN (ta tb:RE):RA:=λρ Q=>ta ρ λx=>tb ρ λy=>match x,y with
 | .lst xs,.lst ys=>Q (xs.zipWith (λa b=>D.tup [a,b]) ys)
 | _,_=>False
theorem CJ (hm:X.mg "zip" = none) (ha:DE X a ta) (hb:DE X b tb) (hg:Gl X "zip":=by rfl) (h2:starEach [a,b] X.env=(false,eval a X.env)::starEach [b] X.env:=by rfl) (h1:starEach [b] X.env=[(false,eval b X.env)]:=by rfl) (hn:starEach [] X.env=[]:=by rfl) :
  DI X (.Tuple elts k tp) (.Call (.Name "zip" p) [a,b] [] pos) (iN ta tb):=by
 intro pins s σ H R I hh_0
 obtain⟨ρ,P,st,q,kk⟩:=hh_0
 refine Call_ (eJ I hg hm IY (PyProof.Rows.callWith_type1 (thn (iX ha (iX hb pP (by rw[h1,hn])) h2 pos pins s σ H (λvs H1=>∃l m xs ys us ws,vs=[V.ref l,V.ref m]/\Same H H1/\P (xs.zipWith (λa b=>D.tup [a,b]) ys)/\FzL X.K H1 l us/\Reps X.K H1 xs us/\FzL X.K H1 m ws/\Reps X.K H1 ys ws) I
  ⟨ρ,_,st,q,λx v H1 hx s1 r1=>⟨ρ,_,st.ext s1,hx,λy u H2 hy s2 r2=>?_⟩⟩) λus s1 ⟨vs,H1,I1,r1,q1⟩=>?_) h2 (by rw[h1];rfl)))
 ·cases x with
  | lst xs =>
   cases y with
   | lst ys =>
    cases r1 with
    | @lst l us _ z1 t1 =>
     cases r2 with
     | @lst m ws _ z2 t2=>exact⟨l,m,xs,ys,us,ws,rfl,s1.trans s2,hy,z1.keep (.of s2),t1.keep (.of s2),z2,t2⟩
   | _=>exact hy.elim
  | _=>exact hy.elim
 obtain⟨l,m,xs,ys,us,ws,rfl,s01,hp,z1,t1,z2,t2⟩:=q1
 obtain⟨w1,w2,rfl,rv,ru⟩:=QY r1
 cases rv;cases ru
 obtain⟨its,rv,pl,hzz⟩:=I1.list z1.sq
 obtain⟨jts,rv',pl',hzz'⟩:=I1.list z2.sq
 have lt1:l<s1.heap.objs.size:=by obtain⟨o,n,e,_⟩:=pl;exact Heap.lt_size e
 have lt2:m<s1.heap.objs.size:=by obtain⟨o,n,e,_⟩:=pl';exact Heap.lt_size e
 refine call_zip_2 pl.isList pl'.isList λh' hz hTI hTO hi1 hi2 hsz kk'=>?_
 have I2:Inv X pins σ H1 { s1 with heap:=h' }:=I1.kept (t':=s1.toks) kk'
 refine wpAny_pyIter_zip hz ⟨s1.heap.objs.size+4,[s1.heap.objs.size+4,s1.heap.objs.size+2,s1.heap.objs.size+3,s1.heap.objs.size,s1.heap.objs.size+1],_,_,H1,rfl,I2,MR (s1.heap.objs.size+4) (s1.heap.objs.size+2) (s1.heap.objs.size+3) s1.heap.objs.size (s1.heap.objs.size+1) l m (zipApart_new lt1 lt2),⟨hz,hTI,⟨_,_,hTO⟩,hi1,hi2⟩,λb hb=>?_,?_⟩
 ·have:s1.heap.objs.size<=b:=by
   simp only[List.mem_cons,List.not_mem_nil,or_false] at hb
   rcases hb with rfl | rfl | rfl | rfl | rfl <;> simp
  exact I1.fpOk this (I1.hok.fresh this)
 ·refine kk _ _ H1 hp s01 λi H2 kp=>⟨λd ed=>?_,λhl=>⟨us,ws,(z1.keep kp).sq,(z2.keep kp).sq,by rw[<-t1.length,<-t2.length];simp at hl;omega⟩⟩
  rw[List.getElem?_zipWith] at ed
  cases e1:xs[i]? with
  | none=>rw[e1] at ed;cases ed
  | some d1 =>
   cases e2:ys[i]? with
   | none=>rw[e1,e2] at ed;cases ed
   | some d2 =>
    rw[e1,e2] at ed
    cases ed
    obtain⟨v,f1,f2⟩:=(t1.keep kp).get e1
    obtain⟨u,f3,f4⟩:=(t2.keep kp).get e2
    refine⟨⟨us,ws,v,u,(z1.keep kp).sq,(z2.keep kp).sq,f1,f3⟩,λx H' y=>?_⟩
    obtain⟨pp,y1,y2,hn,rfl,rfl,ha',hb'⟩:=y
    have e3:=ha' us (z1.keep kp).sq
    have e4:=hb' ws (z2.keep kp).sq
    rw[f1] at e3;rw[f3] at e4;cases e3;cases e4
    have sm:Same H2 (upd H2 pp (.tup [v,u])):=Same.fn λb o e=>by rw[aI (aQ e hn)];exact e
    exact⟨sm,.tup aW (.cons (f2.keep (.of sm)) (.cons (f4.keep (.of sm)) .nil))⟩
end
section
variable {prog:Program} {w:World} {A:Around} {E:Value->Shared->Prop} {s:Shared}
end
noncomputable abbrev dM (ns:List Int):D:=.tup (ns.map .int)
theorem Reps.tupI_inv {K:PySem.W.Frag} {H:Hp} {ns:List Int} {v:V} (r:Rep K H (dM ns) v):∃a,v = .ref a/\H a=some (.tup (ns.map V.int)):=by
 cases r with
 | tup h rr=>rw[rr.ints_inv] at h;exact⟨_,rfl,h⟩
section
variable {X:Cx} {e a b:Expr} {te ta tb:RE} {p pos:Pos}
noncomputable def dLtT:R22:=λx y Q=>∃ns ms:List Int,x=dM ns/\y=dM ms/\Q (.bl (HT.lexLt ns ms))
noncomputable def dMinT:D->(D->Prop)->Prop:=λd Q=>match d with
 | .lst ds=>∃nss:List (List Int),ds=nss.map dM/\nss≠[]/\∀M,M∈nss->(∀x∈nss,HT.lexLt x M=false)->Q (dM M)
 | .tup ds=>∃nss:List (List Int),ds=nss.map dM/\nss≠[]/\∀M,M∈nss->(∀x∈nss,HT.lexLt x M=false)->Q (dM M)
 | _=>False
noncomputable def dNe:R22:=λx y Q=>match x,y with
 | .int i,.int j=>Q (.bl !(decide (i=j)))
 | .bl i,.bl j=>Q (.bl !(decide (i=j)))
 | .tup xs,.tup ys=>match eqL (eqF 5) xs ys with
  | some b=>Q (.bl !b)
  | none=>False
 | .non,.non=>Q (.bl false)
 | _,_=>False
theorem VP {k:Nat} (hr:Room k X.A):OpD X (compareOp .NotEq) dNe:=by
 intro pins s σ H x y v u Q I rx ry hh_0
 obtain⟨d,e,P,r1,r2,q,kk⟩:=hh_0
 have hu:=hr.un
 unfold dNe at q
 split at q
 ·rename_i i j
  rw[r1.int_inv] at rx;rw[r2.int_inv] at ry
  obtain⟨t,rfl⟩:=rx
  obtain⟨t',rfl⟩:=ry
  have e:(!(decide (i=j))) = !(i == j):=by rw[Bool.beq_eq_decide_eq]
  rw[e] at q
  exact SeqAt.RcNeAt.int_int i t j t' _ _ _ _ ⟨.bl _,H,I,rfl,kk _ _ H q (Same.refl H) (.bl _)⟩
 ·rename_i i j
  rw[r1.bl_inv] at rx;rw[r2.bl_inv] at ry
  cases rx;cases ry
  have e:(!(decide (i=j))) = !(i == j):=by rw[Bool.beq_eq_decide_eq]
  rw[e] at q
  exact SeqAt.RcNeAt.bool_bool i j _ _ _ _ ⟨.bl _,H,I,rfl,kk _ _ H q (Same.refl H) (.bl _)⟩
 ·rename_i xs ys
  split at q
  ·rename_i b h
   obtain⟨a,vs,rfl,h1,q1⟩:=r1.tup
   obtain⟨c,ws,rfl,h2,q2⟩:=r2.tup
   cases rx;cases ry
   obtain⟨its,rv,ht,_⟩:=I.tuple (SqT.of h1)
   obtain⟨its2,rv2,ht2,_⟩:=I.tuple (SqT.of h2)
   have l1:xs.length=its.length:=q1.length.trans rv.length
   have l2:ys.length=its2.length:=q2.length.trans rv2.length
   have rc:SeqAt.RcNeAt X.A s (.ref a) (.ref c) (!b):=by
    have:=SeqAt.RcNeAt.tuples (A:=X.A) (s:=s) (e:=λj=>match xs[j]?,ys[j]? with | some x,some y=>(eqF 5 x y).getD false | _,_=>false) ht ht2 (by omega) (λj g1 g2=>?_)
    ·simp only[List.size_toArray,<-l1,<-l2] at this
     have al:=oK h
     rw[<-al]
     exact this
    ·simp only[List.size_toArray] at g1 g2
     have e1:xs[j]? = some (xs[j]'(by omega)):=List.getElem?_eq_getElem _
     have e2:ys[j]? = some (ys[j]'(by omega)):=List.getElem?_eq_getElem _
     obtain⟨k,hk⟩:=sH h j _ _ e1 e2
     rw[e1,e2]
     simp only[hk,Option.getD_some]
     obtain⟨v1,f1,f2⟩:=q1.get e1
     obtain⟨v2,f3,f4⟩:=q2.get e2
     obtain⟨u1,g3,g4⟩:=rv.get f1
     obtain⟨u2,g5,g6⟩:=rv2.get f3
     have a1:its.toArray[j]=u1:=by
      have:=List.getElem?_eq_getElem g1
      rw[this] at g3
      simpa using Option.some.inj g3
     have a2:its2.toArray[j]=u2:=by
      have:=List.getElem?_eq_getElem g2
      rw[this] at g5
      simpa using Option.some.inj g5
     rw[a1,a2]
     exact (tH I 5 hk f2 f4 g4 g6 (by show X.A.units+1+5<cLine;omega)).2
   exact rc _ _ _ _ ⟨.bl _,H,I,rfl,kk _ _ H q (Same.refl H) (.bl _)⟩
  ·exact q.elim
 ·have non:∀{v:V},RepB X.K H .non v->v = .non:=λr=>by
   rcases r with r | ⟨_,_,_,e,_⟩
   ·cases r;rfl
   ·cases e
  rw[non r1] at rx;rw[non r2] at ry
  cases rx;cases ry
  exact SeqAt.RcNeAt.none_none _ _ _ _ ⟨.bl _,H,I,rfl,kk _ _ H q (Same.refl H) (.bl _)⟩
 ·exact q.elim
noncomputable def RU:R22:=λx y Q=>match x with
 | .lst xs=>∃j:Nat,(∃d,xs[j]? = some d/\eqF 6 d y=some true)/\(∀(i:Nat) d,i<j->xs[i]? = some d->eqF 6 d y=some false)/\(∀d∈xs,∃b,eqF 6 d y=some b)/\Q (.int (j:Int))
 | _=>False
end
section
variable {X:Cx} {pins:List (Addr × Obj)} {σ:St} {H:Hp} {s:Shared}
end
section
variable {X:Cx} {e a b:Expr} {te ta tb:RE} {p pos:Pos}
noncomputable def pV (ta tb:RE):RE:=λρ Q=>ta ρ λx=>(∃xs,x = .lst xs)/\tb ρ λy=>RU x y Q
end
end L2.R2
set_option Elab.async false
set_option linter.all false
set_option maxRecDepth 100000
set_option maxHeartbeats 1000000
namespace L2.R2
open PySem PySem.SetTable
noncomputable def nxP (mask:Nat) (p:Probe):Probe:=if p.more > 0 then { p with j:=p.j+1,more:=p.more-1 } else
 { p with j:=(leap mask p.i p.perturb).1,more:=runEnd mask (leap mask p.i p.perturb).1-(leap mask p.i p.perturb).1,i:=(leap mask p.i p.perturb).1,perturb:=(leap mask p.i p.perturb).2 }
inductive Via (mask:Nat) (O:Nat->Prop) (j:Nat):Probe->Prop
 | here {p:Probe} (e:p.j=j):Via mask O j p
 | on {p:Probe} (o:O p.j) (v:Via mask O j (nxP mask p)):Via mask O j p
theorem Via.mono {mask j:Nat} {O O':Nat->Prop} {p:Probe} (h:Via mask O j p) (m:∀x,O x->O' x):Via mask O' j p:=by
 induction h with
 | here e=>exact .here e
 | on o v ih=>exact .on (m _ o) ih
section
variable {prog:Program} {w:World} {A:Around} {E:Value->Shared->Prop} {s:Shared}
noncomputable def EsOk (prog:Program) (w:World) (h:Heap) (es:Array (Int × Value)):Prop:=∀e∈es.toList,∃ks b,e=(tupleKeyHash (intKind prog w) ks,.ref b)/\IsTupleKey (intKind prog w) h ks b
noncomputable def KeyL (prog:Program) (w:World) (h:Heap):List (Int × Value)->List (List Int)->Prop
 | [],[]=>True
 | e::es,k::ks=>(∃b,e=(tupleKeyHash (intKind prog w) k,.ref b)/\IsTupleKey (intKind prog w) h k b)/\KeyL prog w h es ks
 | _,_=>False
theorem KeyL.mono {h h':Heap}:∀{es:List (Int × Value)} {kss:List (List Int)},KeyL prog w h es kss->(∀k b,(∃e∈es,e.2 = .ref b)->IsTupleKey (intKind prog w) h k b->IsTupleKey (intKind prog w) h' k b)->KeyL prog w h' es kss
 | [],[],_,_=>trivial
 | _::_,_::_,⟨⟨b,e,hb⟩,K⟩,m=>⟨⟨b,e,m _ b ⟨_,.head _,by rw[e]⟩ hb⟩,K.mono λk b ⟨x,hx,ex⟩ q=>m k b ⟨x,.tail _ hx,ex⟩ q⟩
end
end L2.R2
set_option Elab.async false
set_option linter.all false
set_option maxRecDepth 100000
set_option maxHeartbeats 3200000
namespace L2.R2
open PySem PySem.SetTable PyProof.Rows
section
variable {prog:Program} {w:World} {A:Around} {E:Value->Shared->Prop} {s:Shared}
end
section
variable {prog:Program} {w:World} {A:Around} {E:Value->Shared->Prop} {s:Shared}
end
section
variable {prog:Program} {w:World} {A:Around} {E:Value->Shared->Prop} {s:Shared}
end
end L2.R2
set_option Elab.async false
set_option linter.all false
set_option maxRecDepth 100000
set_option maxHeartbeats 1000000
namespace L2.R2
open PySem PySem.W PyProof.Rows
noncomputable def bK {α:Type} (lt:Nat->Nat->Bool):KasT α->α
 | .ret a=>a
 | .ask i j k=>bK lt (k (lt i j))
theorem iB {α β:Type} {lt:Nat->Nat->Bool} {f:α->KasT β}:∀t:KasT α,bK lt (t.bind f)=bK lt (f (bK lt t))
 | .ret _=>rfl
 | .ask i j k=>iB (k (lt i j))
noncomputable def kIn {α:Type} (lt:Nat->Nat->Bool) (n:Nat):KasT α->Prop
 | .ret _=>True
 | .ask i j k=>i<n/\j<n/\kIn lt n (k (lt i j))
theorem dZ {α β:Type} {lt:Nat->Nat->Bool} {n:Nat} {f:α->KasT β}:∀t:KasT α,kIn lt n t->kIn lt n (f (bK lt t))->kIn lt n (t.bind f)
 | .ret _,_,h=>h
 | .ask i j k,⟨h1,h2,h3⟩,h=>⟨h1,h2,dZ (k (lt i j)) h3 h⟩
theorem tN {α:Type} {cmp:Nat->Nat->(Bool->Shared->Prop)->Shared->Prop} {lt:Nat->Nat->Bool} {n:Nat} {s:Shared} {Q:α->Shared->Prop} (hc:∀i j (C:Bool->Shared->Prop),i<n->j<n->C (lt i j) s->cmp i j C s) :
  ∀t:KasT α,kIn lt n t->Q (bK lt t) s->t.kasWp cmp Q s
 | .ret _,_,h=>h
 | .ask i j k,⟨h1,h2,h3⟩,h=>hc i j _ h1 h2 (tN hc (k (lt i j)) h3 h)
section
variable {O:KeyOrd} {key:Nat->O.α} {N:Nat}
noncomputable def ltK (O:KeyOrd) (key:Nat->O.α) (i j:Nat):Bool:=O.blt (key i) (key j)
noncomputable def kk (O:KeyOrd) (key:Nat->O.α) (p:Array Nat) (i:Nat):O.α:=key (p.getD i 0)
noncomputable def Up (O:KeyOrd) (key:Nat->O.α) (p:Array Nat) (n:Nat):Prop:=∀i j,i<=j->j<n->O.kle (kk O key p i) (kk O key p j)
noncomputable def Dn (O:KeyOrd) (key:Nat->O.α) (p:Array Nat) (n:Nat):Prop:=∀i j,i<=j->j<n->O.kle (kk O key p j) (kk O key p i)
noncomputable def Lo (p:Array Nat) (N:Nat):Prop:=∀i,p.getD i 0<N
theorem kE {p q:Array Nat} (h:p.Perm q) (hq:Lo q N):Lo p N:=by
 intro i
 by_cases hi:i<p.size
 ·have m:p[i]∈p:=Array.getElem_mem hi
  have m2:p[i]∈q:=h.mem_iff.mp m
  obtain⟨j,hj,e⟩:=Array.getElem_of_mem m2
  have:=hq j
  simp[Array.getD,hj] at this
  simp[Array.getD,hi]
  rw[<-e];exact this
 ·have h0:=hq q.size
  simp[Array.getD] at h0
  simp[Array.getD,hi];exact h0
theorem lD {p q:Array Nat} {i j:Nat} (h:p[i]? = q[j]?):kk O key p i=kk O key q j:=by
 unfold kk;rw[Array.getD_eq_getD_getElem?,Array.getD_eq_getD_getElem?,h]
theorem CP {p:Array Nat} {i j:Nat} (hj:j<=p.size) (k:Nat):kk O key (kas_rev p i j) k=if i<=k/\k<j then kk O key p (i+j-1-k) else kk O key p k:=by
 have e:=getElem?_mirror_all (i:=i) hj k
 unfold kas_rev
 by_cases h1:i<=k/\k<j
 ·rw[if_pos h1] at e ⊢;exact lD e
 ·rw[if_neg h1] at e ⊢;exact lD e
theorem pN {p:Array Nat} {i j:Nat} (hj:j<=p.size) (h:∀k,i<=k->k<j->kk O key p k=kk O key p (j-1)) (k:Nat):kk O key (kas_rev p i j) k=kk O key p k:=by
 rw[CP hj]
 split
 ·rw[h _ (by omega) (by omega),h k (by omega) (by omega)]
 ·rfl
theorem GU {p:Array Nat} {src d:Nat} (hs:src<p.size) (hd:d<=src) (k:Nat) :
  kk O key (bubble p src d) k=if k=src-d then kk O key p src else if src-d<k/\k<=src then kk O key p (k-1) else kk O key p k:=by
 have e:=getElem?_bubble hs d hd k
 by_cases h1:k=src-d
 ·rw[if_pos h1] at e ⊢;exact lD e
 ·rw[if_neg h1] at e ⊢
  by_cases h2:src-d<k/\k<=src
  ·rw[if_pos h2] at e ⊢;exact lD e
  ·rw[if_neg h2] at e ⊢;exact lD e
theorem fU (p:Array Nat) (i j:Nat):(kas_rev p i j).Perm p:=mirror_perm _ _ _ _
theorem PY {p:Array Nat} {n:Nat} (h1:1<=n) (h:Up O key p n) (hl:O.kle (kk O key p (n-1)) (kk O key p n)):Up O key p (n+1):=by
 intro i j hij hj
 by_cases hjx:j<n
 ·exact h i j hij hjx
 ·have hj':j=n:=by omega
  subst hj'
  by_cases hi':i=j
  ·subst hi';exact KeyOrd.kle_refl _
  ·exact KeyOrd.kle_trans (h i (j-1) (by omega) (by omega)) hl
theorem xS {p:Array Nat} {n:Nat} (h1:1<=n) (h:Dn O key p n) (hl:O.kle (kk O key p n) (kk O key p (n-1))):Dn O key p (n+1):=by
 intro i j hij hj
 by_cases hjx:j<n
 ·exact h i j hij hjx
 ·have hj':j=n:=by omega
  subst hj'
  by_cases hi':i=j
  ·subst hi';exact KeyOrd.kle_refl _
  ·exact KeyOrd.kle_trans hl (h i (j-1) (by omega) (by omega))
theorem CG {p:Array Nat} (lo:Lo p N):∀(f n:Nat),1<=n->Up O key p n->kIn (ltK O key) N (kas_asc p f n)/\n<=bK (ltK O key) (kas_asc p f n)/\bK (ltK O key) (kas_asc p f n)<=n+f/\Up O key p (bK (ltK O key) (kas_asc p f n)) /\
  (bK (ltK O key) (kas_asc p f n)=n+f\/O.klt (kk O key p (bK (ltK O key) (kas_asc p f n))) (kk O key p (bK (ltK O key) (kas_asc p f n)-1)))
 | 0,n,_,h=>⟨trivial,Nat.le_refl _,Nat.le_refl _,h,Or.inl rfl⟩
 | f+1,n,h1,h=>by
  simp only[kas_asc,bK,kIn]
  cases hb:ltK O key (p.getD n 0) (p.getD (n-1) 0) with
  | true =>
   simp only[if_true]
   exact⟨⟨lo _,lo _,trivial⟩,Nat.le_refl _,by simp only[bK];omega,h,Or.inr hb⟩
  | false =>
   simp only[Bool.false_eq_true,if_false]
   obtain⟨i1,i2,i3,i4,i5⟩:=CG lo f (n+1) (by omega) (PY h1 h hb)
   refine⟨⟨lo _,lo _,i1⟩,by omega,by omega,i4,?_⟩
   rcases i5 with e | e
   ·exact Or.inl (by omega)
   ·exact Or.inr e
theorem BR {p:Array Nat} (lo:Lo p N) {n nrem:Nat} (h1:1<=n) (hn:n<=nrem) (hz:nrem<=p.size) (h:Dn O key p n) :
  kIn (ltK O key) N (kas_tail3 n nrem p)/\1<=(bK (ltK O key) (kas_tail3 n nrem p)).1/\(bK (ltK O key) (kas_tail3 n nrem p)).1<=nrem/\(bK (ltK O key) (kas_tail3 n nrem p)).2.Perm p/\Up O key (bK (ltK O key) (kas_tail3 n nrem p)).2 (bK (ltK O key) (kas_tail3 n nrem p)).1:=by
 unfold kas_tail3
 have up:Up O key (kas_rev p 0 n) n:=by
  intro i j hij hj
  rw[CP (by omega),CP (by omega),if_pos (by omega),if_pos (by omega)]
  exact h _ _ (by omega) (by omega)
 obtain⟨i1,i2,i3,i4,_⟩:=CG (kE (fU p 0 n) lo) (nrem-n) n h1 up
 rw[iB]
 refine⟨dZ _ i1 trivial,?_,?_,fU p 0 n,i4⟩
 ·show 1<=_;simp only[bK];omega
 ·simp only[bK];omega
theorem sG:∀(f:Nat) (p:Array Nat) (n q:Nat),Lo p N->1<=n->n+f<=p.size->Dn O key p n->q+1<=n->(∀i,n-(q+1)<=i->i<n->kk O key p i=kk O key p (n-1)) ->
  kIn (ltK O key) N (kas_desc f p n q)/\(bK (ltK O key) (kas_desc f p n q)).1.Perm p/\n<=(bK (ltK O key) (kas_desc f p n q)).2.1/\(bK (ltK O key) (kas_desc f p n q)).2.1<=n+f /\
  Dn O key (bK (ltK O key) (kas_desc f p n q)).1 (bK (ltK O key) (kas_desc f p n q)).2.1/\(bK (ltK O key) (kas_desc f p n q)).2.2+1<=(bK (ltK O key) (kas_desc f p n q)).2.1 /\
  (∀i,(bK (ltK O key) (kas_desc f p n q)).2.1-((bK (ltK O key) (kas_desc f p n q)).2.2+1)<=i->i<(bK (ltK O key) (kas_desc f p n q)).2.1->kk O key (bK (ltK O key) (kas_desc f p n q)).1 i=kk O key (bK (ltK O key) (kas_desc f p n q)).1 ((bK (ltK O key) (kas_desc f p n q)).2.1-1))
 | 0,p,n,q,lo,h1,hz,h,hq,he=>⟨trivial,Array.Perm.refl _,Nat.le_refl _,Nat.le_refl _,h,hq,he⟩
 | f+1,p,n,q,lo,h1,hz,h,hq,he=>by
  simp only[kas_desc,bK,kIn]
  cases hb:ltK O key (p.getD n 0) (p.getD (n-1) 0) with
  | true =>
   simp only[if_true]
   by_cases h0:q > 0
   ·simp only[if_pos h0]
    have hk:=pN (O:=O) (key:=key) (p:=p) (i:=n-(q+1)) (j:=n) (by omega) he
    have pm:=fU p (n-(q+1)) n
    have dn:Dn O key (kas_rev p (n-(q+1)) n) (n+1):=by
     have d0:=xS h1 h (KeyOrd.kle_of_klt hb)
     intro i j hij hj
     rw[hk,hk];exact d0 i j hij hj
    obtain⟨i1,i2,i3,i4,i5,i6,i7⟩:=sG f (kas_rev p (n-(q+1)) n) (n+1) 0 (kE pm lo) (by omega) (by rw[pm.size_eq];omega) dn (by omega) (λi a b=>by congr 1;omega)
    exact⟨⟨lo _,lo _,i1⟩,i2.trans pm,by omega,by omega,i5,i6,i7⟩
   ·simp only[if_neg h0]
    obtain⟨i1,i2,i3,i4,i5,i6,i7⟩:=sG f p (n+1) 0 lo (by omega) (by omega) (xS h1 h (KeyOrd.kle_of_klt hb)) (by omega) (λi a b=>by congr 1;omega)
    exact⟨⟨lo _,lo _,i1⟩,i2,by omega,by omega,i5,i6,i7⟩
  | false =>
   simp only[Bool.false_eq_true,if_false,bK,kIn]
   cases hc:ltK O key (p.getD (n-1) 0) (p.getD n 0) with
   | true =>
    simp only[if_true]
    exact⟨⟨lo _,lo _,lo _,lo _,trivial⟩,Array.Perm.refl _,Nat.le_refl _,by simp only[bK];omega,h,hq,he⟩
   | false =>
    simp only[Bool.false_eq_true,if_false]
    have e:kk O key p n=kk O key p (n-1):=KeyOrd.kle_antisymm hc hb
    obtain⟨i1,i2,i3,i4,i5,i6,i7⟩:=sG f p (n+1) (q+1) lo (by omega) (by omega) (xS h1 h (by rw[e];exact KeyOrd.kle_refl _)) (by omega) (λi a b=>by
     rw[show n+1-1=n by omega]
     by_cases hi:i=n
     ·subst hi;rfl
     ·rw[e];exact he i (by omega) (by omega))
    exact⟨⟨lo _,lo _,lo _,lo _,i1⟩,i2,by omega,by omega,i5,i6,i7⟩
theorem qF {p:Array Nat} (lo:Lo p N) {n nrem:Nat} (hn:n+1<=nrem) (hz:nrem<=p.size) (h:Dn O key p (n+1)) :
  kIn (ltK O key) N (kas_descPart n nrem p)/\1<=(bK (ltK O key) (kas_descPart n nrem p)).1/\(bK (ltK O key) (kas_descPart n nrem p)).1<=nrem/\(bK (ltK O key) (kas_descPart n nrem p)).2.Perm p/\Up O key (bK (ltK O key) (kas_descPart n nrem p)).2 (bK (ltK O key) (kas_descPart n nrem p)).1:=by
 unfold kas_descPart
 obtain⟨i1,i2,i3,i4,i5,i6,i7⟩:=sG (N:=N) (nrem-(n+1)) p (n+1) 0 lo (by omega) (by omega) h (by omega) (λi a b=>by congr 1;omega)
 rw[iB]
 generalize hr:bK (ltK O key) (kas_desc (nrem-(n+1)) p (n+1) 0)=r at *
 by_cases h0:r.2.2 > 0
 ·have sz:r.1.size=p.size:=i2.size_eq
  have hk:=pN (O:=O) (key:=key) (p:=r.1) (i:=r.2.1-(r.2.2+1)) (j:=r.2.1) (by omega) i7
  have pm:=(fU r.1 (r.2.1-(r.2.2+1)) r.2.1).trans i2
  have t:=BR (O:=O) (key:=key) (N:=N) (kE pm lo) (n:=r.2.1) (nrem:=nrem) (by omega) (by omega) (by rw[pm.size_eq];omega) (λi j hij hj=>by rw[hk,hk];exact i5 i j hij hj)
  rw[if_pos h0]
  refine⟨dZ _ i1 ?_,t.2.1,t.2.2.1,t.2.2.2.1.trans pm,t.2.2.2.2⟩
  rw[hr,if_pos h0];exact t.1
 ·have t:=BR (O:=O) (key:=key) (N:=N) (kE i2 lo) (n:=r.2.1) (nrem:=nrem) (by omega) (by omega) (by rw[i2.size_eq];omega) i5
  rw[if_neg h0]
  refine⟨dZ _ i1 ?_,t.2.1,t.2.2.1,t.2.2.2.1.trans i2,t.2.2.2.2⟩
  rw[hr,if_neg h0];exact t.1
theorem JD {p:Array Nat} (lo:Lo p N) {nrem:Nat} (h1:1<=nrem) (hz:nrem<=p.size) :
  kIn (ltK O key) N (kas_count nrem p)/\1<=(bK (ltK O key) (kas_count nrem p)).1/\(bK (ltK O key) (kas_count nrem p)).1<=nrem/\(bK (ltK O key) (kas_count nrem p)).2.Perm p/\Up O key (bK (ltK O key) (kas_count nrem p)).2 (bK (ltK O key) (kas_count nrem p)).1:=by
 unfold kas_count
 obtain⟨i1,i2,i3,i4,i5⟩:=CG (O:=O) (key:=key) lo (nrem-1) 1 (Nat.le_refl _) (λi j hij hj=>by have:i=j:=(by omega);subst this;exact KeyOrd.kle_refl _)
 rw[iB]
 generalize hr:bK (ltK O key) (kas_asc p (nrem-1) 1)=n at *
 by_cases hn:n=nrem
 ·rw[if_pos (by simpa using hn)]
  exact⟨dZ _ i1 (by rw[hr,if_pos (by simpa using hn)];trivial),i2,by show n<=nrem;omega,Array.Perm.refl _,i4⟩
 ·rw[if_neg (by simpa using hn)]
  have hlt:O.klt (kk O key p n) (kk O key p (n-1)):=i5.resolve_left (by omega)
  by_cases hg:n > 1
  ·rw[if_pos hg]
   simp only[bK]
   cases hb:ltK O key (p.getD 0 0) (p.getD (n-1) 0) with
   | true =>
    simp only[if_true]
    exact⟨dZ _ i1 (by rw[hr,if_neg (by simpa using hn),if_pos hg];exact⟨lo _,lo _,by rw[hb];trivial⟩),by show 1<=n;omega,by show n<=nrem;omega,Array.Perm.refl _,i4⟩
   | false =>
    simp only[Bool.false_eq_true,if_false]
    have hall:∀k,0<=k->k<n->kk O key p k=kk O key p (n-1):=by
     intro k _ hk
     have a1:=i4 0 k (by omega) hk
     have a2:=i4 k (n-1) (by omega) (by omega)
     exact KeyOrd.kle_antisymm a2 (KeyOrd.kle_trans hb a1)
    have hk:=pN (O:=O) (key:=key) (p:=p) (i:=0) (j:=n) (by omega) hall
    have pm:=fU p 0 n
    have t:=qF (O:=O) (key:=key) (N:=N) (kE pm lo) (n:=n) (nrem:=nrem) (by omega) (by rw[pm.size_eq];omega) (λi j hij hj=>by
     rw[hk,hk]
     by_cases hjn:j<n
     ·rw[hall i (by omega) (by omega),hall j (by omega) hjn];exact KeyOrd.kle_refl _
     ·have hj':j=n:=by omega
      subst hj'
      by_cases hi':i=j
      ·subst hi';exact KeyOrd.kle_refl _
      ·rw[hall i (by omega) (by omega)];exact KeyOrd.kle_of_klt hlt)
    exact⟨dZ _ i1 (by rw[hr,if_neg (by simpa using hn),if_pos hg];exact⟨lo _,lo _,by rw[hb];exact t.1⟩),t.2.1,t.2.2.1,t.2.2.2.1.trans pm,t.2.2.2.2⟩
  ·rw[if_neg hg]
   have n1:n=1:=by omega
   have t:=qF (O:=O) (key:=key) (N:=N) lo (n:=n) (nrem:=nrem) (by omega) hz (λi j hij hj=>by
    by_cases hi':i=j
    ·subst hi';exact KeyOrd.kle_refl _
    ·have e1:i=n-1:=by omega
     have e2:j=n:=by omega
     rw[e1,e2];exact KeyOrd.kle_of_klt hlt)
   exact⟨dZ _ i1 (by rw[hr,if_neg (by simpa using hn),if_neg hg];exact t.1),t.2⟩
theorem uF {p:Array Nat} (lo:Lo p N) {k:Nat} (hs:Up O key p k):∀(f l r:Nat),l<=r->r<=k->r-l<=f->(∀i,i<l->O.kle (kk O key p i) (kk O key p k))->(∀i,r<=i->i<k->O.klt (kk O key p k) (kk O key p i)) ->
  kIn (ltK O key) N (kas_place p k f l r)/\bK (ltK O key) (kas_place p k f l r)<=k/\(∀i,i<bK (ltK O key) (kas_place p k f l r)->O.kle (kk O key p i) (kk O key p k))/\(∀i,bK (ltK O key) (kas_place p k f l r)<=i->i<k->O.klt (kk O key p k) (kk O key p i))
 | 0,l,r,hlr,hrk,hf,a,b=>by
  have:l=r:=by omega
  subst this
  exact⟨trivial,hrk,a,b⟩
 | f+1,l,r,hlr,hrk,hf,a,b=>by
  simp only[kas_place]
  by_cases hge:l ≥ r
  ·have:l=r:=by omega
   subst this
   rw[if_pos hge]
   exact⟨trivial,hrk,a,b⟩
  ·rw[if_neg hge]
   simp only[bK,kIn]
   cases hb:ltK O key (p.getD k 0) (p.getD ((l+r) / 2) 0) with
   | true =>
    simp only[if_true]
    have t:=uF lo hs f l ((l+r) / 2) (by omega) (by omega) (by omega) a (λi h1 h2=>KeyOrd.klt_of_klt_of_kle hb (hs _ _ h1 h2))
    exact⟨⟨lo _,lo _,t.1⟩,t.2⟩
   | false =>
    simp only[Bool.false_eq_true,if_false]
    have t:=uF lo hs f ((l+r) / 2+1) r (by omega) hrk (by omega) (λi h1=>KeyOrd.kle_trans (hs i ((l+r) / 2) (by omega) (by omega)) hb) b
    exact⟨⟨lo _,lo _,t.1⟩,t.2⟩
theorem IW:∀(f:Nat) (p:Array Nat) (k:Nat),Lo p N->k+f<=p.size->Up O key p k->kIn (ltK O key) N (kas_bin f p k)/\(bK (ltK O key) (kas_bin f p k)).Perm p/\Up O key (bK (ltK O key) (kas_bin f p k)) (k+f)
 | 0,p,k,lo,hz,h=>⟨trivial,Array.Perm.refl _,h⟩
 | f+1,p,k,lo,hz,h=>by
  simp only[kas_bin]
  obtain⟨i1,i2,i3,i4⟩:=uF lo h k 0 k (by omega) (by omega) (by omega) (λi hi=>absurd hi (by omega)) (λi h1 h2=>absurd h2 (by omega))
  rw[iB]
  generalize hr:bK (ltK O key) (kas_place p k k 0 k)=l at *
  have pm:=bubble_perm p k (k-l)
  have hb:=λi=>GU (O:=O) (key:=key) (p:=p) (src:=k) (d:=k-l) (by omega) (by omega) i
  have up:Up O key (bubble p k (k-l)) (k+1):=by
   intro i j hij hj
   rw[hb,hb,show k-(k-l)=l by omega]
   by_cases e1:i=l
   ·rw[if_pos e1]
    by_cases e2:j=l
    ·rw[if_pos e2];exact KeyOrd.kle_refl _
    ·rw[if_neg e2,if_pos (by omega)];exact KeyOrd.kle_of_klt (i4 _ (by omega) (by omega))
   ·rw[if_neg e1]
    by_cases e2:j=l
    ·rw[if_pos e2,if_neg (by omega)];exact i3 _ (by omega)
    ·rw[if_neg e2]
     by_cases e3:l<i/\i<=k
     ·rw[if_pos e3,if_pos (by omega)];exact h _ _ (by omega) (by omega)
     ·rw[if_neg e3]
      by_cases e4:l<j/\j<=k
      ·rw[if_pos e4];exact h _ _ (by omega) (by omega)
      ·rw[if_neg e4];exact h _ _ (by omega) (by omega)
  obtain⟨t1,t2,t3⟩:=IW f (bubble p k (k-l)) (k+1) (kE pm lo) (by rw[pm.size_eq];omega) up
  refine⟨dZ _ i1 (by rw[hr];exact t1),t2.trans pm,?_⟩
  rw[show k+(f+1)=k+1+f by omega];exact t3
theorem PQ {n:Nat} (h1:1<=n):kIn (ltK O key) n (kas_sort n)/\(bK (ltK O key) (kas_sort n)).Perm (List.toArray (List.range n))/\Up O key (bK (ltK O key) (kas_sort n)) n:=by
 have lo:Lo (List.toArray (List.range n)) n:=by
  intro i
  by_cases hi:i<n
  ·simp[Array.getD,hi]
  ·simp[Array.getD,hi];omega
 unfold kas_sort
 obtain⟨i1,i2,i3,i4,i5⟩:=JD (O:=O) (key:=key) lo (nrem:=n) h1 (by simp)
 rw[iB]
 generalize hr:bK (ltK O key) (kas_count n (List.toArray (List.range n)))=r at *
 have sz:r.2.size=n:=by rw[i4.size_eq];simp
 by_cases h:r.1<n
 ·have t:=IW (O:=O) (key:=key) (N:=n) (n-max r.1 1) r.2 (max r.1 1) (kE i4 lo) (by omega) (by rw[show max r.1 1=r.1 by omega];exact i5)
  rw[if_pos h]
  refine⟨dZ _ i1 (by rw[hr,if_pos h];exact t.1),t.2.1.trans i4,?_⟩
  have:=t.2.2
  rwa [show max r.1 1+(n-max r.1 1)=n by omega] at this
 ·rw[if_neg h]
  refine⟨dZ _ i1 (by rw[hr,if_neg h];trivial),i4,?_⟩
  rw[show n=r.1 by omega];exact i5
end
end L2.R2
set_option Elab.async false
set_option linter.all false
set_option maxRecDepth 100000
set_option maxHeartbeats 3200000
namespace L2.R2
open PySem PySem.W PySem.SetTable PyProof.Rows
noncomputable def eK:List Int->List Int->Bool
 | [],[]=>false
 | [],_::_=>true
 | _::_,[]=>false
 | a::as,b::bs=>if a=b then eK as bs else decide (a<b)
theorem AI:∀a,eK a a=false
 | []=>rfl
 | a::as=>by simp only[eK,if_true];exact AI as
theorem nE:∀a b c,eK a b=true->eK b c=true->eK a c=true
 | [],[],c,h,_=>by simp[eK] at h
 | [],_::_,[],_,h=>by simp[eK] at h
 | [],_::_,_::_,_,_=>rfl
 | _::_,[],_,h,_=>by simp[eK] at h
 | _::_,_::_,[],_,h=>by simp[eK] at h
 | a::as,b::bs,c::cs,h,k=>by
  simp only[eK] at h k ⊢
  by_cases e1:a=b
  ·subst e1
   rw[if_pos rfl] at h
   by_cases e2:a=c
   ·subst e2;rw[if_pos rfl] at k ⊢;exact nE as bs cs h k
   ·rw[if_neg e2] at k ⊢;exact k
  ·rw[if_neg e1] at h
   by_cases e2:b=c
   ·subst e2;rw[if_neg e1];exact h
   ·rw[if_neg e2] at k
    simp only[decide_eq_true_eq] at h k
    rw[if_neg (by omega)]
    simp only[decide_eq_true_eq];omega
theorem nD:∀a b,eK a b=false->eK b a=false->a=b
 | [],[],_,_=>rfl
 | [],_::_,h,_=>by simp[eK] at h
 | _::_,[],_,h=>by simp[eK] at h
 | a::as,b::bs,h,k=>by
  simp only[eK] at h k
  by_cases e:a=b
  ·subst e;rw[if_pos rfl] at h k;rw[nD as bs h k]
  ·rw[if_neg e] at h;rw[if_neg (Ne.symm e)] at k
   simp only[decide_eq_false_iff_not] at h k;omega
theorem KP (a b c:List Int) (h:eK a c=true):eK a b=true\/eK b c=true:=by
 cases h1:eK a b with
 | true=>exact Or.inl rfl
 | false =>
  right
  cases h2:eK b a with
  | true=>exact nE b a c h2 h
  | false=>rw[<-nD a b h1 h2];exact h
noncomputable def OL:KeyOrd:=⟨List Int,eK,AI,nE,KP,nD⟩
section
variable {prog:Program} {w:World} {A:Around} {E:Value->Shared->Prop} {s:Shared}
theorem int_inv {k:Int} {v:Value} (h:(intKind prog w).is k v=true):∃t,v = .int k t:=by
 cases v <;> simp[intKind,Value.isInt] at h
 exact⟨_,by rw[h]⟩
theorem OM {fin:Bool} {Q:Bool->Shared->Prop}:∀(ns ms:List Int) (vs us:List Value) (i:Nat),ItemsAre (intKind prog w) ns vs->ItemsAre (intKind prog w) ms us->fin=decide (vs.length<us.length)->Q (eK ns ms) s->KatLex prog w A true fin Q (vs.zip us) i s:=by
 intro ns
 induction ns with
 | nil =>
  intro ms vs us i h1 h2 hf q
  cases h1
  cases h2 with
  | nil=>simp at hf;subst hf;exact kat_nil q
  | cons _ _=>simp at hf;subst hf;exact kat_nil q
 | cons n ns ih =>
  intro ms vs us i h1 h2 hf q
  cases h1 with
  | cons h1 t1 =>
   cases h2 with
   | nil=>simp at hf;subst hf;exact kat_nil q
   | @cons m u ms us h2 t2 =>
    rw[List.zip_cons_cons]
    refine kat_cons ((intKind prog w).eqBool h1 h2 ?_)
    by_cases e:n=m
    ·subst e
     rw[decide_eq_true rfl]
     exact kat_yes (ih ms _ us (i+1) t1 t2 (by simpa using hf) (by simpa [eK] using q))
    ·rw[decide_eq_false e]
     obtain⟨tn,rfl⟩:=int_inv h1
     obtain⟨tm,rfl⟩:=int_inv h2
     have q':Q (decide (n<m)) s:=by simpa [eK,e] using q
     refine kat_no ?_
     cases hi:(i == 0) with
     | true=>exact oneLt_int q'
     | false=>exact kat_one _ _ (PySem.wpAny_lt_int (by exact q'))
noncomputable def KeysAt (prog:Program) (w:World) (h:Heap) (vs:List Value) (nss:List (List Int)):Prop:=vs.length=nss.length/\∀i v,vs[i]? = some v->∃a,v = .ref a/\IsTupleKey (intKind prog w) h (nss.getD i []) a
theorem tO {h:Heap}:∀(vs:List Value) (nss:List (List Int)),KeysAt prog w h vs nss->(∀ns∈nss,ns≠[])->∃fs:List Value,KatTups h vs fs/\fs.length=vs.length/\∀f∈fs,∃k t,f = .int k t
 | [],nss,_,_=>⟨[],trivial,rfl,λf hf=>by cases hf⟩
 | v::vs,nss,H,hn=>by
  match nss,H with
  | [],H=>exact absurd H.1 (by simp)
  | ns::nss,H =>
   obtain⟨a,rfl,o,items,n,ho,hc,hd,hi⟩:=H.2 0 v rfl
   obtain⟨fs,f1,f2,f3⟩:=tO vs nss ⟨by have:=H.1;simpa using this,λi v e=>H.2 (i+1) v e⟩ λms hm=>hn ms (List.mem_cons_of_mem _ hm)
   simp only[List.getD_cons_zero] at hi
   match ns,hi,hn ns (List.mem_cons_self ..) with
   | [],_,h=>exact absurd rfl h
   | k::ks,hi,_ =>
    generalize e:items.toList=its at hi
    cases hi with
    | cons h1 h2 =>
     obtain⟨t,rfl⟩:=int_inv h1
     refine⟨.int k t::fs,⟨⟨a,o,items,n,rfl,ho,hc,hd,?_⟩,f1⟩,by simp[f2],λf hf=>?_⟩
     ·rw[<-Array.getElem?_toList,e];rfl
     ·rcases List.mem_cons.mp hf with rfl | hf
      ·exact⟨k,t,rfl⟩
      ·exact f3 f hf
theorem KeysAt.other {h h':Heap} {vs:List Value} {nss:List (List Int)} {a:Addr} {xs:Array Value} {n:Nat} (K:KeysAt prog w h vs nss) (ho:h.get? a=some (seqObj "list" xs n)) (up:∀b o,b≠a->h.get? b=some o->h'.get? b=some o):KeysAt prog w h' vs nss:=by
 refine⟨K.1,λi v e=>?_⟩
 obtain⟨b,rfl,o,its,m,h1,h2,h3,h4⟩:=K.2 i v e
 refine⟨b,rfl,o,its,m,up b o ?_ h1,h2,h3,h4⟩
 rintro rfl
 rw[ho] at h1;cases h1
 exact absurd h2 (by simp[seqObj])
theorem DY {α:Type} (d:α) (xs:List α):(List.range xs.length).map (λi=>xs.getD i d)=xs:=by
 apply List.ext_getElem (by simp)
 intro i h1 h2
 simp[h2]
theorem IB {a:Addr} {vs:List Value} {nss:List (List Int)} {n:Nat} {P:PySem.Fin->Shared->Prop} (ho:s.heap.get? a=some (seqObj "list" vs.toArray n)) (K:KeysAt prog w s.heap vs nss) (hn:∀ns∈nss,ns≠[]) (h64:vs.length<64)
  (q:∀h' out mss c,h'.get? a=some (seqObj "list" (List.toArray out) c)->KeysAt prog w h' out mss->(∀v∈out,v∈vs)->mss.Perm nss->mss.Pairwise (λx y=>eK y x=false)->(∀b o,b≠a->s.heap.get? b=some o->h'.get? b=some o)->P (.done (.ret .none)) { s with heap:=h' }) :
  wpAny (model prog w) A (Builtin.«list.sort» ⟨[.ref a],[]⟩) P E s:=by
 have lt:a<s.heap.objs.size:=Heap.lt_size ho
 rw[list_sort_plain]
 apply wpAny_bind;refine listItems_at ho rfl ?_
 apply wpAny_bind;refine listUpdate_at ho rfl ?_ (by rw[List.size_toArray,sizeLine_eq];omega) (Nat.zero_le _)
 obtain⟨e1,ho1⟩:∃e1,(s.heap.update a (Obj.mapSeq λ_=>(#[]:Array Value))).get? a=some (seqObj "list" #[] e1):=⟨_,get?_update_seq ho λ_=>#[]⟩
 have up1:∀b o,b≠a->s.heap.get? b=some o->(s.heap.update a (Obj.mapSeq λ_=>(#[]:Array Value))).get? b=some o:=λb o hb e=>(Heap.get?_update_other _ _ (Ne.symm hb)).trans e
 generalize s.heap.update a (Obj.mapSeq λ_=>(#[]:Array Value))=h1 at ho1 up1
 apply wpAny_bind;refine seqEpoch_at ho1 rfl ?_
 apply wpAny_bind;refine wpAny_newTuple ?_ (by show vs.length<=_;rw[sizeLine_eq];omega)
 apply wpAny_bind;refine wpAny_newList ?_ (Nat.zero_le _)
 apply wpAny_holding
 show wpAny (model prog w) A _ P E { s with heap:=(h1.push (seqObj "tuple" vs.toArray 0)).push (seqObj "list" #[] 0) }
 have up2:∀b o,b≠a->s.heap.get? b=some o->((h1.push (seqObj "tuple" vs.toArray 0)).push (seqObj "list" #[] 0)).get? b=some o:=λb o hb e=>Heap.get?_push_of_some _ (Heap.get?_push_of_some _ (up1 b o hb e))
 have ho2:((h1.push (seqObj "tuple" vs.toArray 0)).push (seqObj "list" #[] 0)).get? a=some (seqObj "list" #[] e1):=Heap.get?_push_of_some _ (Heap.get?_push_of_some _ ho1)
 generalize (h1.push (seqObj "tuple" vs.toArray 0)).push (seqObj "list" #[] 0)=h2 at up2 ho2
 have K2:=K.other ho up2
 have fin:∀(out:List Value) (mss:List (List Int)) (st':SortSt),(arrOf st').map (·.2)=out.toArray->failedOf st'=none->KeysAt prog w h2 out mss->(∀v∈out,v∈vs)->mss.Perm nss->mss.Pairwise (λx y=>eK y x=false)->out.length<=64 ->
   wpAny (model prog w) A (do
    let sorted:=(arrOf st').map (·.2)
    let touched:=(<-seqEpoch a) != e1
    Builtin.List.listUpdate (.ref a) λ_=>sorted
    if let some e:=failedOf st' then rule "list.sort.comparison-raised";throw e
    if touched then rule "list.sort.modified";raiseError "ValueError" "list modified during sort"
    ret .none) P E { s with heap:=h2 }:=by
  intro out mss st' h1 hf KO hv hp hs hlen
  dsimp only
  apply wpAny_bind;refine seqEpoch_at (s:={ s with heap:=h2 }) ho2 rfl ?_
  rw[h1]
  apply wpAny_bind;refine listUpdate_at (s:={ s with heap:=h2 }) ho2 rfl ?_ (Nat.zero_le _) (by show out.toArray.size<=_;rw[List.size_toArray,sizeLine_eq];omega)
  obtain⟨c,hc⟩:∃c,(h2.update a (Obj.mapSeq λ_=>out.toArray)).get? a=some (seqObj "list" out.toArray c):=⟨_,get?_update_seq ho2 λ_=>out.toArray⟩
  have up3:∀b o,b≠a->h2.get? b=some o->(h2.update a (Obj.mapSeq λ_=>out.toArray)).get? b=some o:=λb o hb e=>(Heap.get?_update_other _ _ (Ne.symm hb)).trans e
  generalize h2.update a (Obj.mapSeq λ_=>out.toArray)=h3 at hc up3
  rw[hf]
  simp only[bne_self_eq_false,Bool.false_eq_true,if_false]
  exact wpAny_pure (q h3 out mss c hc (KO.other ho2 up3) hv hp hs λb o hb e=>up3 b o hb (up2 b o hb e))
 have ln:=K.1
 dsimp only
 by_cases h2':vs.length<2
 ·have c2:vs.toArray.size<2:=by rw[List.size_toArray];exact h2'
  rw[if_pos c2,if_pos c2]
  apply wpAny_bind;apply wpAny_pure
  apply wpAny_bind
  show wpAny _ _ (pure ((),SortSt.mk' general' (vs.toArray.zip vs.toArray) #[] 7 none)) _ _ _
  apply wpAny_pure
  refine fin vs nss _ ?_ rfl K2 (λ_ h=>h) (List.Perm.refl _) ?_ (by omega)
  ·show (vs.toArray.zip vs.toArray).map (·.2)=vs.toArray
   apply Array.toList_inj.mp
   simp[List.map_snd_zip]
  ·match nss,ln with
   | [],_=>exact List.Pairwise.nil
   | [x],_=>exact List.pairwise_singleton _ _
   | _::_::_,ln=>simp at ln;omega
 ·have c2:¬vs.toArray.size<2:=by rw[List.size_toArray];exact h2'
  rw[if_neg c2,if_neg c2]
  obtain⟨fs,f1,f2,f3⟩:=tO vs nss K2 hn
  apply wpAny_bind
  refine kat_kind (s:={ s with heap:=h2 }) (T:=.type "int") f1 (by omega) (λv hv=>?_) (by decide) ?_
  ·obtain⟨k,t,rfl⟩:=f3 v hv
   exact Looks.now
  have hT:(Value.type "int" != Value.type "tuple")=true:=by decide
  rw[hT]
  obtain⟨i1,i2,i3⟩:=PQ (O:=OL) (key:=λi=>nss.getD i []) (n:=vs.length) (by omega)
  have psz:(bK (ltK OL λi=>nss.getD i []) (kas_sort vs.length)).size=vs.length:=by rw[i2.size_eq];simp
  generalize hp:bK (ltK OL λi=>nss.getD i []) (kas_sort vs.length)=p at i2 i3 psz
  apply wpAny_bind
  refine wpAny_mono (kat_run (ks:=vs) (vs:=vs) (Q:=λst' s'=>s' = { s with heap:=h2 }/\arrOf st'=p.map (kas_item (vs.toArray.zip vs.toArray))/\failedOf st'=none) (G:=λp' s'=>p'=p/\s' = { s with heap:=h2 }) rfl (by omega) h64 (λp' st' s' a1 a2 a3 a4=>⟨a4.2,by rw[a2,a4.1],a3⟩) ?_) ?_ λ_ _ e=>e
  ·refine tN (lt:=ltK OL λi=>nss.getD i []) (n:=vs.length) (s:={ s with heap:=h2 }) (λi j C hi hj c=>?_) _ i1 ⟨hp,rfl⟩
   unfold kas_ask
   obtain⟨x,ex,ox,xs,nx,hx1,hx2,hx3,hx4⟩:=K2.2 i (vs.getD i Value.none) (by simp[hi])
   obtain⟨y,ey,oy,ys,ny,hy1,hy2,hy3,hy4⟩:=K2.2 j (vs.getD j Value.none) (by simp[hj])
   rw[ex,ey]
   refine kat_lt (s:={ s with heap:=h2 }) hx1 hx3 hy1 hy3 (OM _ _ _ _ 0 hx4 hy4 (by simp) ?_)
   exact c
  ·rintro⟨⟨⟩,st'⟩ s' ⟨rfl,har,hf⟩
   have hout:=kat_snds (ks:=vs) (vs:=vs) rfl har
   refine fin (p.toList.map λi=>vs.getD i Value.none) (p.toList.map λi=>nss.getD i []) st' hout hf ⟨by simp,λi v e=>?_⟩ (λv hv=>?_) ?_ ?_ (by simp[psz];omega)
   ·rw[List.getElem?_map] at e
    cases e2:p.toList[i]? with
    | none=>rw[e2] at e;simp at e
    | some j =>
     rw[e2] at e
     simp only[Option.map_some,Option.some.injEq] at e
     have hj:j<vs.length:=by
      have m:j∈p.toList:=List.mem_of_getElem? e2
      have:=(Array.Perm.mem_iff i2).mp (Array.mem_toList_iff.mp m)
      simpa using this
     obtain⟨b,hb1,hb2⟩:=K2.2 j v (by rw[<-e];simp[hj])
     refine⟨b,hb1,?_⟩
     have g:(p.toList.map λi=>nss.getD i []).getD i []=nss.getD j []:=by
      rw[List.getD_eq_getElem?_getD,List.getElem?_map,e2];rfl
     rw[g];exact hb2
   ·obtain⟨j,m,rfl⟩:=List.mem_map.mp hv
    have hj:j<vs.length:=by
     have:=(Array.Perm.mem_iff i2).mp (Array.mem_toList_iff.mp m)
     simpa using this
    simp[hj]
   ·have pl:p.toList.Perm (List.range vs.length):=by simpa using i2.toList
    refine (pl.map _).trans ?_
    rw[ln,DY]
   ·refine List.pairwise_map.mpr (List.pairwise_iff_getElem.mpr λi j hi hj hij=>?_)
    have:=i3 i j (by omega) (by simp at hj;omega)
    unfold kk at this
    simp only[Array.length_toList] at hi hj
    have e1:p.getD i 0=p[i]:=by simp[Array.getD,hi]
    have e2:p.getD j 0=p[j]:=by simp[Array.getD,hj]
    rw[e1,e2] at this
    exact this
end
end L2.R2
set_option Elab.async false
set_option linter.all false
set_option maxRecDepth 100000
set_option maxHeartbeats 3200000
namespace L2.R2
open PySem PySem.W PyProof.Rows
theorem CT:typeLookup (.type "list_reverseiterator") "__len__" = pure none:=by rw[typeLookup_type,builtinLookup_eq_fast];kernel_rfl
theorem KW:typeLookup (.type "list_reverseiterator") "__length_hint__" = pure (some (.builtin "list_reverseiterator.__length_hint__")):=by rw[typeLookup_type,builtinLookup_eq_fast];kernel_rfl
theorem yU:isSubtype (.type "list_reverseiterator") (.type "list_reverseiterator")=pure true:=by rw[isSubtype_type];kernel_rfl
section
variable {prog:Program} {w:World} {A:Around} {E:Value->Shared->Prop} {s:Shared}
theorem MF {I:Addr} {Q:Bool->Shared->Prop} (ty:s.TypeIs (.ref I) "list_reverseiterator") (q:Q false s):wpAny (model prog w) A (Builtin.List.listLengthHint (.ref I)) Q E s:=by
 unfold Builtin.List.listLengthHint
 apply wpAny_bind;refine wpAny_specialOf ty CT ?_
 show wpAny _ _ (specialOf (Value.ref I) (Str.ofString "__length_hint__") >>= _) _ _ _
 apply wpAny_bind;refine wpAny_specialOf ty KW ?_
 dsimp only
 have sp:splitId "list_reverseiterator.__length_hint__" = some ("list_reverseiterator","__length_hint__"):=by decide +kernel
 rw[sp]
 dsimp only
 apply wpAny_bind;refine wpAny_isInstance (b:=true) ty yU ?_
 simp only[Bool.not_true,Bool.false_eq_true,if_false]
 have key:∀(c:Bool) (X Y:Sem Bool),c=true->wpAny (model prog w) A X Q E s->wpAny (model prog w) A (if c=true then X else Y) Q E s:=λc X Y hc h=>by rw[if_pos hc];exact h
 refine key _ _ _ (by decide +kernel) ?_
 rw[if_neg (by decide +kernel)]
 exact wpAny_pure q
theorem uX {I l:Addr} {items:Array Value} {Q:Value->Shared->Prop} (hh:A.handled=none) (ne:l≠I) (hz:items.size<=sizeLine) (hi:s.heap.IsRevIter I l ((items.size:Int)-1)) (hl:s.heap.IsList l items)
  (q:∀h' c,h'.get? s.heap.objs.size=some (seqObj "list" items.toList.reverse.toArray c)->(∀b o,b≠I->s.heap.get? b=some o->h'.get? b=some o)->Q (.ref s.heap.objs.size) { s with heap:=h' }) :
  wpAny (model prog w) A (call (.type "list") [.ref I]) Q E s:=by
 have ltI:I<s.heap.objs.size:=by obtain⟨o,e,_⟩:=hi;exact Heap.lt_size e
 have ltl:l<s.heap.objs.size:=by obtain⟨o,e,_⟩:=hl;exact Heap.lt_size e
 refine callType_codes (Q₁:=λobj s₁=>obj = .ref s.heap.objs.size/\s₁ = { s with heap:=s.heap.push { cls:=.type "list",data:=.seq #[] } }) F.called_list (F.typeCall_list_1 _) F.entry_list_init (code_list_new _ ⟨rfl,rfl⟩) λobj s₁ h₁=>?_
 obtain⟨rfl,rfl⟩:=h₁
 have hS:(s.heap.push { cls:=.type "list",data:=.seq #[] }).get? s.heap.objs.size=some { cls:=.type "list",data:=.seq #[] }:=Heap.get?_push_size _ rfl
 refine⟨⟨_,hS,rfl⟩,F.args_list_init_2 _ _,?_⟩
 show wpAny _ _ (do let old <-Builtin.List.listItems (.ref s.heap.objs.size);Builtin.List.listUpdate (.ref s.heap.objs.size) (λ_=>#[]);letGo old.toList.reverse;Builtin.List.listExtendWith (.ref s.heap.objs.size) (.ref I) .none) _ _ _
 apply wpAny_bind;unfold Builtin.List.listItems
 apply wpAny_bind;apply wpAny_seqItems hS rfl;apply wpAny_pure
 show wpAny _ _ (updateSeq s.heap.objs.size (λ_=>#[]) >>= λ_=>letGo (#[]:Array Value).toList.reverse >>= λ_=>Builtin.List.listExtendWith (.ref s.heap.objs.size) (.ref I) .none) _ _ _
 apply wpAny_bind;refine wpAny_updateSeq hS rfl ?_
 have hS2:=Heap.get?_update_self (Obj.mapSeq (λ_=>(#[]:Array Value))) hS rfl
 have up2:∀b o,b≠s.heap.objs.size->s.heap.get? b=some o->((s.heap.push { cls:=.type "list",data:=.seq #[] }).update s.heap.objs.size (Obj.mapSeq (λ_=>(#[]:Array Value)))).get? b=some o :=
  λb o hb e=>(Heap.get?_update_other _ _ (Ne.symm hb)).trans (Heap.get?_push_of_some _ e)
 generalize (s.heap.push { cls:=.type "list",data:=.seq #[] }).update s.heap.objs.size (Obj.mapSeq (λ_=>(#[]:Array Value)))=h2 at hS2 up2
 apply wpAny_bind;apply wpAny_letGo
 have neI:I≠s.heap.objs.size:=Nat.ne_of_lt ltI
 have nel:l≠s.heap.objs.size:=Nat.ne_of_lt ltl
 have hi2:h2.IsRevIter I l ((items.size:Int)-1):=hi.at λo e=>up2 _ o neI e
 have hl2:h2.IsList l items:=hl.at λo e=>up2 _ o nel e
 unfold Builtin.List.listExtendWith
 apply wpAny_bind;refine wpAny_typeOf (T:="list_reverseiterator") hi2.typeIs ?_
 have g1:Builtin.List.listSameRef (.ref s.heap.objs.size) (.ref I)=false:=by simp[Builtin.List.listSameRef,Nat.ne_of_gt ltI]
 have g2:(Value.type "list_reverseiterator" == Value.type "list")=false:=by decide
 have g3:(Value.type "list_reverseiterator" == Value.type "tuple")=false:=by decide
 simp only[g1,g2,g3,Bool.or_false,Bool.false_eq_true,if_false]
 apply wpAny_bind;refine wpAny_pyIter_revIter hi2 ?_
 apply wpAny_bind;apply wpAny_holding;refine MF hi2.typeIs ?_
 have key:∀(c:Bool) (X Y:Sem Fin) {Q':Fin->Shared->Prop} {E':Value->Shared->Prop} {s':Shared} {A':Around},c=false->wpAny (model prog w) A' Y Q' E' s'->wpAny (model prog w) A' (if c=true then X else Y) Q' E' s':=λc X Y _ _ _ _ hc h=>by rw[hc,if_neg Bool.false_ne_true];exact h
 refine key _ _ _ (by decide +kernel) ?_
 apply wpAny_pure;refine⟨plainId_quiet PySem.F.plain_extend_loop _,?_⟩
 refine JZ (s0:=s) (n:=items.size) (J:=λacc h=>h.IsRevIter I l ((items.size:Int)-1-(acc.length:Int))/\h.IsList l items/\acc=items.toList.reverse.take acc.length/\∀b o,b≠I->b≠s.heap.objs.size->s.heap.get? b=some o->h.get? b=some o)
  (F:=λacc h=>acc=items.toList.reverse/\∀b o,b≠I->b≠s.heap.objs.size->s.heap.get? b=some o->h.get? b=some o) .none hz ?_ ?_ ?_ (λh' acc c hsz hF hS'=>⟨rfl,?_⟩) items.size #[] h2 _ rfl (Nat.zero_le _) ?_ hS2
 ·rintro acc h h' ⟨J1,J2,J3,J4⟩ hSo hz up
  exact⟨J1.at λo e=>up _ o neI e,J2.at λo e=>up _ o nel e,J3,λb o n1 n2 e=>up b o n2 (J4 b o n1 n2 e)⟩
 ·rintro acc s' o Q' E' hlt ⟨J1,J2,J3,J4⟩ hSo k
  have e:items[items.size-1-acc.length]? = some (items[items.size-1-acc.length]'(by omega)):=Array.getElem?_eq_getElem _
  refine wpAny_pyNext_rev_item (i:=items.size-1-acc.length) (by rw[show ((items.size-1-acc.length:Nat):Int)=(items.size:Int)-1-(acc.length:Int) by omega];exact J1) J2 e λh' it' sb=>k _ h' ⟨?_,J2.at λo e=>?_,?_,λb o n1 n2 e=>?_⟩ ?_
  ·rw[show ((items.size-1-acc.length:Nat):Int)-1=(items.size:Int)-1-((acc++[items[items.size-1-acc.length]'(by omega)]).length:Int) by simp;omega] at it'
   exact it'
  ·rw[sb.2 _ ne];exact e
  ·rw[List.length_append,List.length_singleton,List.take_succ,<-J3]
   congr 1
   rw[List.getElem?_eq_getElem (by simp;omega),List.getElem_reverse]
   simp
  ·rw[sb.2 b n1];exact J4 b o n1 n2 e
  ·rw[sb.2 _ (Ne.symm neI)];exact hSo
 ·rintro acc s' o Q' E' hlen ⟨J1,J2,J3,J4⟩ hSo k
  rw[hlen] at J3
  refine wpAny_pyNext_rev_end (l:=l) (by simp[hh]) (by rw[show (-1:Int)=(items.size:Int)-1-(acc.length:Int) by omega];exact J1) λh' eb=>k h' ⟨?_,λb o n1 n2 e=>eb b o n1 (J4 b o n1 n2 e)⟩ (eb _ _ (Ne.symm neI) hSo)
  rw[J3,List.take_of_length_le]
  simp
 ·exact⟨by simpa using hi2,hl2,rfl,λb o _ n2 e=>up2 b o n2 e⟩
 ·refine q h' c ?_ λb o n1 e=>hF.2 b o n1 (Nat.ne_of_lt (Heap.lt_size e)) e
  rw[hS',<-hF.1]
end
end L2.R2
set_option Elab.async false
set_option linter.all false
set_option maxRecDepth 100000
set_option maxHeartbeats 1000000
namespace L2.R2
open PySem PySem.Spec PyProof.Rows L2
theorem kX:bootBuiltins "sorted" = some (.builtin "sorted"):=by decide +kernel
theorem AC {prog:Program} {w:World}:∀{ns:List Int} {us:List Value},Vals (ns.map V.int) us->ItemsAre (intKind prog w) ns us
 | [],_,h=>by cases h;exact .nil
 | n::ns,_,h=>by
  cases h with
  | cons h1 t =>
   obtain⟨t',rfl⟩:=h1
   exact .cons (intKind_is _ _ _ _) (AC t)
noncomputable def lL (te:RE):RA:=λρ Q=>te ρ λx=>∃ds:List D,x = .lst ds/\Q ds.reverse
theorem BG {K:PySem.W.Frag} {H:Hp}:∀(out:List Value) (mss:List (List Int)),out.length=mss.length->(∀(i:Nat) (v:Value),out[i]? = some v->∃a,v = .ref a/\H a=some (.tup ((mss.getD i []).map V.int)))->∃ws:List V,Vals ws out/\Reps K H (mss.map dM) ws
 | [],[],_,_=>⟨[],.nil,.nil⟩
 | [],_::_,h,_=>by simp at h
 | _::_,[],h,_=>by simp at h
 | v::out,ms::mss,h,k=>by
  obtain⟨ws,h1,h2⟩:=BG (K:=K) (H:=H) out mss (by simpa using h) λi v e=>k (i+1) v (by simpa using e)
  obtain⟨a,rfl,ha⟩:=k 0 v rfl
  exact⟨.ref a::ws,.cons rfl h1,.cons (.tup ha Reps.ints) h2⟩
section
variable {X:Cx} {e:Expr} {te:RE} {p pz pos posz:Pos}
theorem tF (hml:X.mg "list" = none) (hmz:X.mg "reversed" = none) (hc:X.calm=true) (h:DB X e te) (hgl:Gl X "list":=by rfl) (hgz:Gl X "reversed":=by rfl)
  (hs:starEach [.Call (.Name "reversed" pz) [e] [] posz] X.env=[(false,eval (.Call (.Name "reversed" pz) [e] [] posz) X.env)]:=by rfl) (hn:starEach [] X.env=[]:=by rfl) (h1:starEach [e] X.env=[(false,eval e X.env)]:=by rfl) :
  DO X (.Call (.Name "list" p) [.Call (.Name "reversed" pz) [e] [] posz] [] pos) (lL te):=by
 intro pins s σ H Q I hh_0
 obtain⟨ρ,P,st,q,kq⟩:=hh_0
 refine wpAny_Call_Name_kw (eJ I hgl hml pE ?_)
 refine PyProof.Rows.callWith_type1 ?_ (by rw[hs,hn]) (by rw[hn];rfl)
 rw[hs]
 show wpAny _ _ (spliced ((false,eval (.Call (.Name "reversed" pz) [e] [] posz) X.env)::backTo pos [])) _ _ s
 refine Calls.spliced_cons (wpAny_Call_Name_kw (eJ I hgz hmz mL ?_))
 refine PyProof.Rows.callWith_type1 (thn (jE h h1 hn posz pins s σ H (λvs H1=>∃(ds:List D) (v:V),vs=[v]/\Same H H1/\RepB X.K H1 (.lst ds) v/\P ds.reverse) I
  ⟨ρ,_,st,q,λx v H1 hx s1 r1=>?_⟩) λus s1 ⟨vs,H1,I1,r1,q1⟩=>?_) (by rw[h1,hn]) (by rw[hn];rfl)
 ·obtain⟨ds,rfl,a1⟩:=hx
  exact⟨ds,v,rfl,s1,r1,a1⟩
 obtain⟨ds,v,rfl,s01,rb,hP⟩:=q1
 obtain⟨l,vs,rfl,hq,rr⟩:=rb.lst
 obtain⟨u,rfl,rx⟩:=lX r1
 cases rx
 obtain⟨its,rv,pl,hz⟩:=I1.list hq
 have l1:=rr.length
 have l2:=rv.length
 have lt:l<s1.heap.objs.size:=by obtain⟨o,e,_⟩:=pl.isList;exact Heap.lt_size e
 refine call_reversed_list pl.isList ?_
 refine Calls.spliced_nil ?_
 have g0:(s1.heap.push (revObj l ((its.toArray.size:Int)-1))).get? s1.heap.objs.size=some (revObj l ((its.toArray.size:Int)-1)):=Heap.get?_push_size _ rfl
 have k1:∀b o,s1.heap.get? b=some o->(s1.heap.push (revObj l ((its.toArray.size:Int)-1))).get? b=some o:=λb o e=>Heap.get?_push_of_some _ e
 have z1:(s1.heap.push (revObj l ((its.toArray.size:Int)-1))).objs.size=s1.heap.objs.size+1:=Heap.size_push ..
 generalize s1.heap.push (revObj l ((its.toArray.size:Int)-1))=h2 at g0 k1 z1
 refine uX (s:={ s1 with heap:=h2 }) (A:=X.A) (l:=l) (I1.ok.hd hc) (Nat.ne_of_lt lt) (by simp;omega) ⟨_,g0,rfl,rfl⟩ (pl.isList.at λo e=>k1 _ o e) λh3 c g1 up=>?_
 show EP X pins σ Q (.ref h2.objs.size) _
 rw[show (Shared.heap { s1 with heap:=h2 }).objs.size=s1.heap.objs.size+1 from z1] at g1
 rw[z1]
 have kp:∀b o,s1.heap.get? b=some o->h3.get? b=some o:=λb o e=>up b o (Nat.ne_of_lt (Heap.lt_size e)) (k1 b o e)
 have I3:Inv X pins σ H1 { s1 with heap:=h3 }:=I1.kept (t':=s1.toks) kp
 have hS0:H1 (s1.heap.objs.size+1)=none:=I1.hok.fresh (Nat.le_succ _)
 have VV:Vals vs.reverse its.reverse:=by
  clear hq pl hz l1 l2 rr g1 g0
  induction rv with
  | nil=>exact .nil
  | cons r t ih =>
   simp only[List.reverse_cons]
   exact Vals.append ih (.cons r .nil)
 have I4:=I1.trackO (a:=s1.heap.objs.size+1) (w:=.lst vs.reverse) I3 (Nat.le_succ _) hS0 ⟨by simp;omega,its.reverse,c,VV,by simpa using g1⟩
 exact⟨.ref (s1.heap.objs.size+1),_,I4,rfl,kq _ _ _ H1 hP s01 hS0 rr.reverse⟩
end
noncomputable def MZ (lo:Int) (n:Nat):It:=⟨λi _=>i<n,λi H x H'=>H'=H/\x = .int (lo+i*2),λi _=>n<=i⟩
theorem BU {P:Program} {w:World} {K:PySem.W.Frag} {tg:Expr} (it:Addr) (lo:Int) (n:Nat):Turn P w K tg (MZ lo n) [it] it (λi h=>IsRangeIter h it (lo+(i:Nat)*2) ((n:Int)-(i:Nat)) 2) where
 mem:=by simp
 obj:=λi h st b hb=>by
  have e:b=it:=by simpa using hb
  subst e
  exact⟨_,st,λv z=>by have z':Data.fields _=Data.cell v:=z;cases z'⟩
 keep:=λi h h' st k=>k it (by simp) _ st
 item:=by
  intro X hP hw hK hc i pins s σ H E I hf st hg
  subst hP hw hK
  obtain⟨f0,f1,f2,f3,f4,f5⟩:=hf it (by simp)
  have W:=Walks.range (prog:=X.prog) (w:=X.w) (I.ok.hd hc) it lo 2 n
  refine W.item i s _ _ hg st λv h' tk hv st' kk=>?_
  obtain⟨t,rfl⟩:=hv
  have I1:Inv X pins σ H { s with heap:=h',toks:=tk }:=I.turned (λb o hb e=>kk b o (by simpa using hb) e) f0 f1 f3 f4 f5
  exact⟨_,rfl,wB (s:={ s with heap:=h',toks:=tk }) (n:="range_iterator") st' rfl rfl (by decide) ⟨.int (lo+i*2),H,I1,⟨t,rfl⟩,⟨rfl,rfl⟩,st',λb hb=>(hf b hb).1⟩⟩
 done:=by
  intro X hP hw hK hc i pins s σ H E I hf st hg
  subst hP hw hK
  obtain⟨f0,f1,f2,f3,f4,f5⟩:=hf it (by simp)
  exact wpAny_pyNext_range_end (I.ok.hd hc) st (by have:n<=i:=hg;omega) λh' eb=>⟨rfl,I.turned (t':=s.toks) (λb o hb e=>eb b o hb e) f0 f1 f3 f4 f5⟩
 self:=λ_ _ _ _ _ st h=>wpAny_pyIter_rangeiter st h
theorem MJ (a b:Int):Builtin.Range.rangeSize a b 2=if a<b then (b-a-1) / 2+1 else 0:=by
 unfold Builtin.Range.rangeSize
 simp only[show (2:Int) > 0 by decide,if_true]
theorem UE {a b:Int} (ha:-(2 ^ 60)<=a) (ha':a<2 ^ 60) (hb:-(2 ^ 60)<=b) (hb':b<2 ^ 60):Builtin.Range.small a b 2=true:=by
 unfold Builtin.Range.small
 rw[MJ]
 simp only[Builtin.Range.rangeFitsLong,Bool.and_eq_true,Bool.or_eq_true,decide_eq_true_eq,beq_iff_eq,show (2:Int) > 0 by decide,if_true]
 split <;> omega
section
variable {X:Cx} {tg:Expr}
theorem HS {pins:List (Addr × Obj)} {σ:St} {H:Hp} {s:Shared} {R:It->Hp->Prop} {E:Value->Shared->Prop} {lo hi:Int} {t u v:Tok} {tk:Nat} (I:Inv X pins σ H s) (h1:-(2 ^ 60)<=lo) (h2:lo<2 ^ 60) (h3:-(2 ^ 60)<=hi) (h4:hi<2 ^ 60)
  (q:R (MZ lo ((hi-lo+1) / 2).toNat) H):wpAny (model X.prog X.w) X.A (pyIter (.ref s.heap.objs.size)) (PIE X pins σ tg R) E { s with heap:=s.heap.push { cls:=.type "range",data:=.fields #[.int lo t,.int hi u,.int 2 v] },toks:=tk }:=by
 refine wpAny_pyIter_range (IsRange.new ..) (UE h1 h2 h3 h4) ?_
 have I1:Inv X pins σ H { s with heap:=s.heap.push { cls:=.type "range",data:=.fields #[.int lo t,.int hi u,.int 2 v] },toks:=tk }:=I.kept λb o e=>Heap.get?_push_of_some _ e
 have e1:lo+((0:Nat):Int)*2=lo:=by simp
 have e2:((((hi-lo+1) / 2).toNat:Nat):Int)-((0:Nat):Int)=Builtin.Range.rangeSize lo hi 2:=by rw[MJ];split <;> omega
 generalize hh:s.heap.push { cls:=.type "range",data:=.fields #[.int lo t,.int hi u,.int 2 v] } = h1 at I1
 refine⟨h1.objs.size,[h1.objs.size],_,_,H,rfl,I1.kept (t':=tk) λb o e=>Heap.get?_push_of_some _ e,BU _ lo ((hi-lo+1) / 2).toNat,?_,λb hb=>?_,q⟩
 ·show IsRangeIter _ _ (lo+((0:Nat):Int)*2) (((((hi-lo+1) / 2).toNat:Nat):Int)-((0:Nat):Int)) 2
  rw[e1,e2]
  exact Heap.get?_push_size _ rfl
 ·have e:b=h1.objs.size:=by simpa using hb
  subst e
  exact I1.fpOk (Nat.le_refl _) (I1.hok.fresh (Nat.le_refl _))
noncomputable def pC (lo:Int) (n:Nat):List D:=(List.range n).map λk:Nat=>D.int (lo+(k:Int)*2)
theorem NX {H0:Hp} (lo:Int) (n:Nat):CB X (MZ lo n) (pC lo n) H0:=λi H kp=>by
 refine⟨λd e=>?_,λhl=>by show n<=i;simpa [pC] using hl⟩
 unfold pC at e
 rw[List.getElem?_map] at e
 by_cases hi:i<n
 ·rw[List.getElem?_range hi] at e
  cases e
  exact⟨hi,λx H' y=>by obtain⟨rfl,rfl⟩:=y;exact⟨Same.refl _,.int _⟩⟩
 ·rw[List.getElem?_eq_none (by simpa using hi)] at e;cases e
structure StpOk (j:Int):Prop where
 lo:-(2 ^ 60)<=j
 hi:j<2 ^ 60
noncomputable def lO (t:RA):RA:=λρ Q=>t ρ λds=>match ds with
 | [.int i,.int j,.int c]=>(StpOk i/\StpOk j/\c=2)/\Q (pC i ((j-i+1) / 2).toNat)
 | _=>False
noncomputable def VE (ta:TA):TI:=λσ H R=>ta σ H λvs H1=>∃i j:Int,vs=[.int i,.int j,.int 2]/\(-(2 ^ 60)<=i/\i<2 ^ 60/\-(2 ^ 60)<=j/\j<2 ^ 60)/\R (MZ i ((j-i+1) / 2).toNat) H1
theorem PB {a b c:Expr} {ta:TA} {p pos:Pos} (hg:Gl X "range") (hm:X.mg "range" = none) (ha:PA X [a,b,c] ta) (hs:starEach [a,b,c] X.env=(false,eval a X.env)::starEach [b,c] X.env) (hs2:(backTo pos (starEach [b,c] X.env)).any (·.1)=false) :
  PI X tg (.Call (.Name "range" p) [a,b,c] [] pos) (VE ta):=by
 intro pins s σ H R I h
 refine Call_ (eJ I hg hm boot_range (PyProof.Rows.callWith_type1 (thn (ha pos pins s σ H _ I h) λus s1 ⟨vs,H1,I1,r1,q1⟩=>?_) hs hs2))
 obtain⟨i,j,e,⟨q1,q2,q3,q4⟩,q⟩:=q1
 subst e
 cases r1 with
 | cons r rr =>
  cases rr with
  | cons r' rr =>
   cases rr with
   | cons r'' rr =>
    cases rr
    obtain⟨t,rfl⟩:=r
    obtain⟨t',rfl⟩:=r'
    obtain⟨t'',rfl⟩:=r''
    exact call_range_3 (by decide) (HS I1 q1 q2 q3 q4 q) (Or.inl (BL.noPy (show BL 9000 2 from (by exact Nat.lt_of_lt_of_le (show 2<2 ^ 2 by decide) (Nat.pow_le_pow_right (by decide) (by decide))))))
theorem NL {a b c:Expr} {t:RA} {p pos:Pos} (hm:X.mg "range" = none) (ha:DA X [a,b,c] t) (hg:Gl X "range":=by rfl)
  (hs:starEach [a,b,c] X.env=(false,eval a X.env)::starEach [b,c] X.env:=by rfl) (hs2:(backTo pos (starEach [b,c] X.env)).any (·.1)=false:=by rfl):DI X tg (.Call (.Name "range" p) [a,b,c] [] pos) (lO t):=by
 refine PI.mono (PB hg hm ha hs hs2) λσ H R hh=>dQ hh λρ P st q k=>⟨ρ,_,st,q,λds vs H1 hd s1 r=>?_⟩
 split at hd
 ·rename_i i j c
  rw[Reps.ints_inv (ns:=[i,j,c]) r,hd.1.2.2]
  exact⟨i,j,rfl,⟨hd.1.1.lo,hd.1.1.hi,hd.1.2.1.lo,hd.1.2.1.hi⟩,k _ _ H1 hd.2 s1 (NX i _)⟩
 ·exact hd.elim
end
end L2.R2
set_option Elab.async false
set_option linter.all false
set_option maxRecDepth 100000
namespace L2
open PySem PySem.Spec PyProof.Rows
section
variable {κ:Type} [DecidableEq κ]
noncomputable def fE (kvs:List (κ × V)) (k:κ):Option V:=(kvs.find? λkv=>decide (kv.1=k)).map (·.2)
noncomputable def nP (kvs:List (κ × V)) (k:κ) (v:V):List (κ × V) :=
 if (kvs.any λkv=>decide (kv.1=k))=true then kvs.map (λkv=>if kv.1=k then (kv.1,v) else kv) else kvs++[(k,v)]
theorem fV {p:κ × V} {r:List (κ × V)} {k:κ} (e:p.1=k):fE (p::r) k=some p.2:=by simp[fE,List.find?_cons,e]
theorem eO {p:κ × V} {r:List (κ × V)} {k:κ} (e:¬p.1=k):fE (p::r) k=fE r k:=by simp[fE,List.find?_cons,e]
theorem uR (k:κ):∀kvs:List (κ × V),(kvs.any λkv=>decide (kv.1=k))=(fE kvs k).isSome
 | []=>rfl
 | p::r=>by
  rw[List.any_cons]
  by_cases e:p.1=k
  ·simp only[fV e,decide_eq_true e,Bool.true_or,Option.isSome_some]
  ·rw[eO e,decide_eq_false e,Bool.false_or];exact uR k r
theorem qM (kvs:List (κ × V)) (k:κ) (v:V):(nP kvs k v).length<=kvs.length+1:=by
 unfold nP
 split
 ·rw[List.length_map];omega
 ·rw[List.length_append,List.length_cons,List.length_nil];omega
theorem LV {kvs:List (κ × V)} {k:κ} (v:V) (h:fE kvs k=none):nP kvs k v=kvs++[(k,v)]:=by
 unfold nP
 rw[uR,h]
 exact if_neg (by decide)
theorem RelO.isSome_eq {o:Option V} {u:Option Value} (r:RelO o u):o.isSome=u.isSome:=by
 cases o with
 | none=>cases u with
  | none=>rfl
  | some _=>exact (show False from r).elim
 | some _=>cases u with
  | none=>exact (show False from r).elim
  | some _=>rfl
theorem RelO.getD {o:Option V} {u:Option Value} {d:V} {d':Value} (r:RelO o u) (rd:RelV d d'):RelV (o.getD d) (u.getD d'):=by
 cases o with
 | none=>cases u with
  | none=>exact rd
  | some _=>exact (show False from r).elim
 | some _=>cases u with
  | none=>exact (show False from r).elim
  | some _=>exact r
theorem KV.val {kvs:List (κ × V)} {vs:List (κ × Value)} (r:KV kvs vs) (k:κ):RelO (fE kvs k) (valueAt vs k):=by
 unfold KV at r
 induction r with
 | nil=>exact True.intro
 | @cons p q ps qs h t ih =>
  obtain⟨h1,h2⟩:=h
  by_cases e:p.1=k
  ·have e':q.1=k:=h1.symm.trans e
   have b:valueAt (q::qs) k=some q.2:=by simp[valueAt,List.find?_cons,e']
   rw[fV e,b];exact h2
  ·have e':¬q.1=k:=λz=>e (h1.trans z)
   have b:valueAt (q::qs) k=valueAt qs k:=by simp[valueAt,List.find?_cons,e']
   rw[eO e,b];exact ih
theorem KV.any {kvs:List (κ × V)} {vs:List (κ × Value)} (r:KV kvs vs) (k:κ):(kvs.any λkv=>decide (kv.1=k))=vs.any λkv=>decide (kv.1=k):=by
 unfold KV at r
 induction r with
 | nil=>rfl
 | cons h t ih=>rw[List.any_cons,List.any_cons,ih,h.1]
theorem KV.repl {kvs:List (κ × V)} {vs:List (κ × Value)} (r:KV kvs vs) (k:κ) {y:V} {u:Value} (ry:RelV y u) :
  KV (kvs.map λkv=>if kv.1=k then (kv.1,y) else kv) (vs.map λkv=>if kv.1=k then (kv.1,u) else kv):=by
 unfold KV at r ⊢
 induction r with
 | nil=>exact .nil
 | @cons p q ps qs h t ih =>
  rw[List.map_cons,List.map_cons]
  refine .cons ?_ ih
  obtain⟨h1,h2⟩:=h
  by_cases e:p.1=k
  ·rw[if_pos e,if_pos (h1.symm.trans e)];exact⟨h1,ry⟩
  ·rw[if_neg e,if_neg (λz=>e (h1.trans z))];exact⟨h1,h2⟩
theorem KV.put {kvs:List (κ × V)} {vs:List (κ × Value)} (r:KV kvs vs) (k:κ) {y:V} {u:Value} (ry:RelV y u):KV (nP kvs k y) (stored vs k u):=by
 unfold nP stored
 rw[r.any k]
 by_cases e:(vs.any λkv=>decide (kv.1=k))=true
 ·rw[if_pos e,if_pos e];exact r.repl k ry
 ·rw[if_neg e,if_neg e];exact Paired.snoc r ⟨rfl,ry⟩
theorem KV.length {kvs:List (κ × V)} {vs:List (κ × Value)} (r:KV kvs vs):kvs.length=vs.length:=Paired.length r
end
theorem AE {P:Program} {w:World} {k:Key} {u:Value} (r:RelV (kV k) u):(cC P w).is k u=true:=by
 cases k with
 | inl i=>obtain⟨t,e⟩:=(show ∃t,u=Value.int i t from r);subst e;exact AL P w i t
 | inr x=>obtain⟨t,e⟩:=(show ∃t,u=Value.str x t from r);subst e;exact AM P w x t
theorem wC {P:Program} {w:World}:∀{ks:List Key} {us:List Value},Vals (ks.map kV) us->ItemsAre (cC P w) ks us
 | [],_,r=>by rw[List.map_nil] at r;cases r;exact .nil
 | k::ks,_,r=>by
  rw[List.map_cons] at r
  cases r with
  | cons h t=>exact .cons (AE h) (wC t)
noncomputable abbrev KT (H:Hp):List (List Key × V)->List (List Key × Addr × Value)->Prop:=Paired λp q=>p.1=q.1/\H q.2.1=some (.tup (p.1.map kV))/\RelV p.2 q.2.2
theorem KT.val {H:Hp} {kvs:List (List Key × V)} {xs:List (List Key × Addr × Value)} (r:KT H kvs xs) (k:List Key):RelO (fE kvs k) ((atKey xs k).map (·.2)):=by
 induction r with
 | nil=>exact True.intro
 | @cons p q ps qs h t ih =>
  obtain⟨h1,_,h2⟩:=h
  by_cases e:p.1=k
  ·have e':q.1=k:=h1.symm.trans e
   have b:atKey (q::qs) k=some q.2:=by simp[atKey,List.find?_cons,e']
   rw[fV e,b];exact h2
  ·have e':¬q.1=k:=λz=>e (h1.trans z)
   have b:atKey (q::qs) k=atKey qs k:=by simp[atKey,List.find?_cons,e']
   rw[eO e,b];exact ih
theorem KT.repl {H:Hp} {kvs:List (List Key × V)} {xs:List (List Key × Addr × Value)} (r:KT H kvs xs) (k:List Key) {y:V} {u:Value} (ry:RelV y u) :
  KT H (kvs.map λkv=>if kv.1=k then (kv.1,y) else kv) (xs.map (putAt k u)):=by
 induction r with
 | nil=>exact .nil
 | @cons p q ps qs h t ih =>
  rw[List.map_cons,List.map_cons]
  refine .cons ?_ ih
  obtain⟨h1,h2,h3⟩:=h
  unfold putAt
  by_cases e:p.1=k
  ·rw[if_pos e,if_pos (h1.symm.trans e)];exact⟨h1,h2,ry⟩
  ·rw[if_neg e,if_neg (λz=>e (h1.trans z))];exact⟨h1,h2,h3⟩
theorem KT.put {H:Hp} {kvs:List (List Key × V)} {xs:List (List Key × Addr × Value)} (r:KT H kvs xs) (k:List Key) {b:Addr} {y:V} {u:Value} (hb:H b=some (.tup (k.map kV))) (ry:RelV y u) :
  KT H (nP kvs k y) (storedH xs k b u):=by
 have e:(kvs.any λkv=>decide (kv.1=k))=(atKey xs k).isSome:=by
  rw[uR,(r.val k).isSome_eq,Option.isSome_map]
 unfold nP storedH
 rw[e]
 by_cases q:(atKey xs k).isSome=true
 ·rw[if_pos q,if_pos q];exact r.repl k ry
 ·rw[if_neg q,if_neg q];exact Paired.snoc r ⟨rfl,hb,ry⟩
theorem KT.keeps {H H':Hp} {kvs:List (List Key × V)} {xs:List (List Key × Addr × Value)} (r:KT H kvs xs) (ht:∀b ys,H b=some (.tup ys)->H' b=some (.tup ys)):KT H' kvs xs :=
 Paired.mapP r λ_ _ z=>⟨z.1,ht _ _ z.2.1,z.2.2⟩
section
variable {P:Program} {w:World} {H:Hp} {h:Heap} {a:Addr}
theorem QW {u:HO} (ok:HOk P w H h) (e:Rd H a u):ObjOk P w H h a u:=e.ok ok
theorem vX {kvs:List (Key × V)} (ok:HOk P w H h) (e:Rd H a (.dK kvs)):kvs.length<=sizeLine/\(a == sysModules)=false/\∃vs,KV kvs vs/\h.DictOf (cC P w) a vs :=
 show ObjOk P w H h a (.dK kvs) from QW ok e
theorem QD {kvs:List (Key × V)} (ok:HOk P w H h) (e:H a=some (.dK kvs)):kvs.length<=sizeLine/\(a == sysModules)=false/\∃vs,KV kvs vs/\h.DictOf (cC P w) a vs:=vX ok (.inl e)
theorem yC {ks:List Key} (ok:HOk P w H h) (e:H a=some (.tup (ks.map kV))):(tupleKind (cC P w)).is h ks a:=by
 obtain⟨_,its,r,o,h1,h2,n,h3⟩:=(show ObjOk P w H h a (.tup (ks.map kV)) from ok a _ e)
 exact⟨o,its.toArray,n,h1,h2,h3,by simpa using wC r⟩
theorem vY {kvs:List (List Key × V)} (ok:HOk P w H h) (e:Rd H a (.dT kvs)):kvs.length<=sizeLine/\(a == sysModules)=false /\
  ∃xs,KT H kvs xs/\h.DictOfH (tupleKind (cC P w)) a xs:=by
 obtain⟨z,y,xs,r,o,es,ep,h1,h2,h3,h4,h5⟩:=(show ObjOk P w H h a (.dT kvs) from QW ok e)
 refine⟨z,y,xs,r,o,es,ep,h1,h2,h3,h4,λx hx=>?_,h5⟩
 have all:∀{l:List (List Key × V)} {m:List (List Key × Addr × Value)},KT H l m->∀x∈m,(tupleKind (cC P w)).is h x.1 x.2.1:=by
  intro l m q
  induction q with
  | nil=>intro x hx;exact nomatch hx
  | @cons p q ps qs hq t ih =>
   intro x hx
   rcases List.mem_cons.mp hx with e | hx
   ·subst e
    exact yC ok (by rw[<-hq.1];exact hq.2.1)
   ·exact ih x hx
 exact all r x hx
theorem UX {kvs:List (List Key × V)} (ok:HOk P w H h) (e:H a=some (.dT kvs)):kvs.length<=sizeLine/\(a == sysModules)=false /\
  ∃xs,KT H kvs xs/\h.DictOfH (tupleKind (cC P w)) a xs:=vY ok (.inl e)
end
noncomputable def DGet (H:Hp) (a:Addr) (y:V) (r:Option V):Prop :=
 (∃kvs k,Rd H a (.dK kvs)/\y=kV k/\r=fE kvs k)\/∃kvs k b,Rd H a (.dT kvs)/\y = .ref b/\H b=some (.tup (k.map kV))/\r=fE kvs k
noncomputable def DPut (H:Hp) (a:Addr) (y v:V) (H':Hp):Prop :=
 (∃kvs k,H a=some (.dK kvs)/\y=kV k/\kvs.length<sizeLine/\H'=upd H a (.dK (nP kvs k v))) \/
 ∃kvs k b,H a=some (.dT kvs)/\y = .ref b/\H b=some (.tup (k.map kV))/\kvs.length<sizeLine/\H'=upd H a (.dT (nP kvs k v))
theorem DGet.t {H:Hp} {a b:Addr} {kvs:List (List Key × V)} {k:List Key} (e:H a=some (.dT kvs)) (eb:H b=some (.tup (k.map kV))):DGet H a (.ref b) (fE kvs k):=.inr ⟨kvs,k,b,.inl e,rfl,eb,rfl⟩
theorem DPut.t {H:Hp} {a b:Addr} {kvs:List (List Key × V)} {k:List Key} {v:V} (e:H a=some (.dT kvs)) (eb:H b=some (.tup (k.map kV))) (hl:kvs.length<sizeLine) :
  DPut H a (.ref b) v (upd H a (.dT (nP kvs k v))):=.inr ⟨kvs,k,b,e,rfl,eb,hl,rfl⟩
section
variable {X:Cx} {pins:List (Addr × Obj)} {σ:St} {H:Hp} {s:Shared} {a:Addr} {y v:V} {u r:Value} {o:Option V} {A:Around} {E:Value->Shared->Prop}
theorem Inv.big (I:Inv X pins σ H s):sysModules<s.heap.objs.size:=by
 have h:mainGlobals<s.heap.objs.size:=(I.mod.glob.keeps I.bk).lt
 exact Nat.lt_trans (by decide) h
theorem GE {Q:Value->Shared->Prop} (hu:A.units+1<cLine) (I:Inv X pins σ H s) (g:DGet H a y (some v)) (ry:RelV y u) (h:∀w' s',Inv X pins σ H s'->RelV v w'->Q w' s') :
  wpAny (model X.prog X.w) A (getItem (.ref a) u) Q E s:=by
 rcases g with ⟨kvs,k,e,ey,l⟩ | ⟨kvs,k,b,e,ey,eb,l⟩
 ·subst ey
  obtain⟨z,hd,vs,rel,dd⟩:=vX I.hok e
  obtain⟨w',hw,rw'⟩:=RelO.some_of (v:=v) (o:=valueAt vs k) (by rw[l];exact rel.val k)
  exact wpAny_getItem_of (AE ry) dd.mapOf hw (h w' _ (I.tok _) rw')
 ·subst ey
  cases (show u=Value.ref b from ry)
  obtain⟨z,hd,xs,rel,dd⟩:=vY I.hok e
  obtain⟨w',hw,rw'⟩:=RelO.some_of (v:=v) (o:=(atKey xs k).map (·.2)) (by rw[l];exact rel.val k)
  obtain⟨p,hp,hp2⟩:=Option.map_eq_some_iff.mp hw
  refine wpAny_getItem_heap (tupleKind_room_in1 hu) (yC I.hok eb) dd hp ?_
  rw[hp2]
  exact h w' _ (I.tok _) rw'
theorem xP {h':Heap} {t':Nat} {ob:HO} (I:Inv X pins σ H s) (mu:Mut (H a)) (hs:Heap.SameBut a s.heap h') (he:∃q,h'.get? a=some q) (new:ObjOk X.prog X.w (upd H a ob) h' a ob) :
  Inv X pins σ (upd H a ob) { s with heap:=h',toks:=t' } :=
 I.write (x:=a) (e:=a) mu (.inl rfl) (λb q hb z=>(hs.2 b hb).trans z) he new
theorem JM {P:Program} {w:World} {H':Hp} {h':Heap} {kvs:List (Key × V)} {vs:List (Key × Value)} (z:kvs.length<=sizeLine) (hd:(a == sysModules)=false) (rel:KV kvs vs) (dd:h'.DictOf (cC P w) a vs) :
  ObjOk P w H' h' a (.dK kvs):=⟨z,hd,vs,rel,dd⟩
theorem GF {H':Hp} {Q:Unit->Shared->Prop} (hu:A.units+1<cLine) (I:Inv X pins σ H s) (g:DPut H a y v H') (ry:RelV y u) (rv:RelV v r) (h:∀s',Inv X pins σ H' s'->Q () s') :
  wpAny (model X.prog X.w) A (setItem (.ref a) u r) Q E s:=by
 rcases g with ⟨kvs,k,e,ey,l,eH⟩ | ⟨kvs,k,b,e,ey,eb,l,eH⟩
 ·subst ey eH
  obtain⟨z,hd,vs,rel,dd⟩:=QD I.hok e
  have hz:vs.length<=sizeLine:=by rw[<-rel.length];exact z
  have hl:(nP kvs k v).length<=sizeLine:=by have:=qM kvs k v;omega
  refine wpAny_setItem_pairs (hsz:=hz) (AE ry) dd λh' dd' hs=>h _ ?_
  have he:∃q,h'.get? a=some q:=let ⟨q,_,_,hq,_⟩:=dd';⟨q,hq⟩
  exact xP I (by rw[e];exact True.intro) hs he (JM hl hd (rel.put k rv) dd')
 ·subst ey eH
  cases (show u=Value.ref b from ry)
  obtain⟨z,hd,xs,rel,dd⟩:=UX I.hok e
  have hz:xs.length<=sizeLine:=by rw[<-Paired.length rel];exact z
  have hl:(nP kvs k v).length<=sizeLine:=by have:=qM kvs k v;omega
  refine wpAny_setItem_heap (hsz:=hz) (tupleKind_room_in1 hu) (yC I.hok eb) dd λh' dd' hs=>h _ ?_
  obtain⟨q,es,ep,hq,h2,h3,h4,_,h5⟩:=dd'
  refine xP I (by rw[e];exact True.intro) hs ⟨q,hq⟩ ⟨hl,hd,_,(rel.put k eb rv).keeps λc ys ec=>?_,q,es,ep,hq,h2,h3,h4,h5⟩
  rw[aI (VN ec e (λz=>nomatch z))]
  exact ec
end
section
variable {X:Cx} {pins:List (Addr × Obj)} {σ:St} {H:Hp} {s:Shared} {a:Addr} {kvs:List (Key × V)} {k:Key} {u:Value} {A:Around} {E:Value->Shared->Prop}
end
noncomputable def NA (i:Expr):Prop:=∀ov iv,subscripted i false ov iv=operate [ov,iv] (getItem ov iv)
theorem PR {prog:Program} {w:World} {A:Around} {E:Value->Shared->Prop} {s:Shared} {env:Env} {value slice:Expr} {pos:Pos} {T id:String} {Q:Value->Shared->Prop}
  (hl:typeLookup (.type T) "__getitem__" = pure (some (.builtin id))) (hs:NA slice)
  (h:wpAny (model prog w) A (eval value env) (λo s₁=>wpAny (model prog w) A (eval slice env) (λi s₂=>s₂.TypeIs o T/\wpAny (model prog w) A (getItem o i) Q E s₂) E s₁) E s) :
  wpAny (model prog w) A (eval (.Subscript value slice pos) env) Q E s:=by
 refine Subscript_ (wpAny_mono h (λo s₁ h₁=>wpAny_mono h₁ (λi s₂ h₂=>?_) λ_ _ x=>x) λ_ _ x=>x)
 obtain⟨hT,h₂⟩:=h₂
 unfold subscriptTail
 refine wpAny_bind ?_
 rw[getitemInPython_of_ne hT.not_modules]
 refine wpAny_bind (wpAny_specialOf hT hl ?_)
 have fin:wpAny (model prog w) A (subscripted slice false o i) (λr s₃=>wpAny (model prog w) A (letTemporaryGo value o r >>= λ_=>pure r) Q E s₃) E s₂:=by
  rw[hs o i]
  exact wpAny_operating (wpAny_mono h₂ (λr s₃ h₃=>wpAny_bind (wpAny_letTemporaryGo (wpAny_pure h₃))) λ_ _ x=>x)
 first
  | exact wpAny_pure (wpAny_bind fin)
  | exact wpAny_bind (wpAny_pure (wpAny_bind fin))
  | exact wpAny_bind fin
theorem zT {X:Cx} {pins:List (Addr × Obj)} {σ:St} {H:Hp} {s:Shared} {a:Addr} {y:V} {o:Option V} (I:Inv X pins σ H s) (g:DGet H a y o):s.TypeIs (.ref a) "dict":=by
 rcases g with ⟨kvs,k,e,_,_⟩ | ⟨kvs,k,b,e,_,_,_⟩
 ·obtain⟨_,_,vs,_,dd⟩:=vX I.hok e
  exact dd.typeIs
 ·obtain⟨_,_,xs,_,dd⟩:=vY I.hok e
  exact dd.typeIs
noncomputable def WM (td ty:TE):TE:=λσ H Q=>td σ H λx H1=>ty σ H1 λy H2=>∃a v,x = .ref a/\DGet H2 a y (some v)/\Q v H2
noncomputable def WE (td ty tv:TE):TS:=λD σ H=>tv σ H λv H1=>td σ H1 λx H2=>ty σ H2 λy H3=>∃a H4,x = .ref a/\DPut H3 a y v H4/\D.nx σ H4
section
variable {X:Cx} {o i e value:Expr} {pos pos' tpos:Pos} {td ty tv:TE}
theorem FE (hu:X.A.units+1<cLine) (ho:PE X o td) (hi:PE X i ty) (hs:NA i):PE X (.Subscript o i pos) (WM td ty):=by
 intro pins s σ H Q I h
 refine PR PySem.F.slot_dict_getitem.lookup hs (thn (ho pins s σ H _ I h) λu s1 ⟨x,H1,I1,rx,q1⟩=>thn (hi pins s1 σ H1 _ I1 q1) λiv s2 ⟨y,H2,I2,ry,a,v,ex,g,q2⟩=>?_)
 subst ex
 obtain rfl:u=Value.ref a:=rx
 exact⟨zT I2 g,GE hu I2 g ry λw' s3 I3 rw'=>⟨v,H2,I3,rw',q2⟩⟩
theorem PD (hu:X.A.units+1<cLine) (ho:PE X o td) (hi:PE X i ty) (hv:PE X value tv) (hs:swapsWith value (some (.Subscript o i pos')) pos.line X.env=pure false) :
  PS X (.Assign [.Subscript o i pos'] value pos) (WE td ty tv):=by
 intro pins s σ H D I h
 refine wpAny_Assign_Subscript (thn (hv pins s σ H _ I h) λr s1 ⟨v,H1,I1,rv,q1⟩=>thn (ho pins s1 σ H1 _ I1 q1) λu s2 ⟨x,H2,I2,rx,q2⟩=>thn (hi pins s2 σ H2 _ I2 q2) λiv s3 ⟨y,H3,I3,ry,a,H4,ex,g,q3⟩=>?_) hs
 subst ex
 obtain rfl:u=Value.ref a:=rx
 exact GF hu I3 g ry rv λs4 I4=>⟨σ,H4,I4,q3⟩
end
theorem JL {P:Program} {w:World} {H:Hp} (h:Heap) (hb:sysModules<h.objs.size):ObjOk P w H (h.push { cls:=.type "dict",data:=.dict #[] }) h.objs.size (.dK []) :=
 ⟨Nat.zero_le _,beq_eq_false_iff_ne.mpr (Ne.symm (Nat.ne_of_lt hb)),[],.nil,Heap.DictOf.new h⟩
theorem JW {P:Program} {w:World} {H:Hp} (h:Heap) (hb:sysModules<h.objs.size):ObjOk P w H (h.push { cls:=.type "dict",data:=.dict #[] }) h.objs.size (.dT []) :=
 ⟨Nat.zero_le _,beq_eq_false_iff_ne.mpr (Ne.symm (Nat.ne_of_lt hb)),[],.nil,_,#[],0,Heap.get?_push_size _ rfl,⟨rfl,rfl,rfl⟩,rfl,rfl,List.nodup_nil⟩
noncomputable def UG:TE:=λ_ H Q=>∀p,H p=none->Q (.ref p) (upd H p (.dK []))
noncomputable def UH:TE:=λ_ H Q=>∀p,H p=none->Q (.ref p) (upd H p (.dT []))
section
variable {X:Cx} {pos:Pos}
theorem LJ:PE X (.Dict [] [] pos) UG:=λpins s σ H Q I h =>
 wpAny_Dict_empty ⟨.ref s.heap.objs.size,_,I.laid (a:=s.heap.objs.size) (o:=.dK []) (t':=s.toks) (λ_ _ q=>Heap.get?_push_of_some _ q) (Nat.le_refl _) (JL s.heap I.big),rfl,h _ (I.hok.fresh (Nat.le_refl _))⟩
theorem LK:PE X (.Dict [] [] pos) UH:=λpins s σ H Q I h =>
 wpAny_Dict_empty ⟨.ref s.heap.objs.size,_,I.laid (a:=s.heap.objs.size) (o:=.dT []) (t':=s.toks) (λ_ _ q=>Heap.get?_push_of_some _ q) (Nat.le_refl _) (JW s.heap I.big),rfl,h _ (I.hok.fresh (Nat.le_refl _))⟩
end
noncomputable abbrev VV:List (V × V)->List (Value × Value)->Prop:=Paired λp q=>RelV p.1 q.1/\RelV p.2 q.2
structure M2 (X:Cx) (o:Expr) (m:Str) (apos:Pos) (e f:Expr) (cpos:Pos):Prop where
 base:attributeBase o m X.env (eval o X.env)=eval o X.env
 few:((backTo cpos (starEach [e,f] X.env)).all (λx=>!x.1) && (backToKw cpos (keywordEach [] X.env)).all (λx=>x.1.isSome)
  && decide (([e,f]:List Expr).length+([]:List Keyword).length+(if ([]:List Keyword).isEmpty then 0 else 1)<30))=true
 line:(apos.endLine == cpos.line)=true
 trees:backTo cpos (starEach [e,f] X.env)=[(false,eval e X.env),(false,eval f X.env)]
noncomputable def IsD (H:Hp) (a:Addr):Prop:=(∃kvs,Rd H a (.dK kvs))\/∃kvs,Rd H a (.dT kvs)
theorem KH {X:Cx} {pins:List (Addr × Obj)} {σ:St} {H:Hp} {s:Shared} {a:Addr} (I:Inv X pins σ H s) (d:IsD H a) :
  s.TypeIs (.ref a) "dict"/\(∀b,Value.ref a = .ref b->∃ob,s.heap.get? b=some ob/\ob.dict=none)/\(a == sysModules)=false:=by
 rcases d with ⟨kvs,e⟩ | ⟨kvs,e⟩
 ·obtain⟨_,hd,vs,_,dd⟩:=vX I.hok e
  refine⟨dd.typeIs,λb q=>?_,hd⟩
  cases q
  obtain⟨ob,_,_,h1,h2,_⟩:=dd
  exact⟨ob,h1,h2.2.1⟩
 ·obtain⟨_,hd,xs,_,dd⟩:=vY I.hok e
  refine⟨dd.typeIs,λb q=>?_,hd⟩
  cases q
  obtain⟨ob,_,_,h1,h2,_⟩:=dd
  exact⟨ob,h1,h2.2.1⟩
section
variable {X:Cx} {pins:List (Addr × Obj)} {σ:St} {H:Hp} {s:Shared} {a:Addr} {y d:V} {u r:Value} {o:Option V} {A:Around} {E:Value->Shared->Prop}
theorem RV {Q:Value->Shared->Prop} (hu:A.units+1<cLine) (I:Inv X pins σ H s) (g:DGet H a y o) (ry:RelV y u) (rd:RelV d r) (h:∀w' s',Inv X pins σ H s'->RelV (o.getD d) w'->Q w' s') :
  wpAny (model X.prog X.w) A (call (.builtin "dict.get") [.ref a,u,r]) Q E s:=by
 rcases g with ⟨kvs,k,e,ey,l⟩ | ⟨kvs,k,b,e,ey,eb,l⟩
 ·subst ey
  obtain⟨z,hd,vs,rel,dd⟩:=vX I.hok e
  refine call_meetsIn PySem.F.slot_dict_get dd.typeIs PySem.F.entry_dict_get (PySem.F.args_dict_get_3 _ _ _) (meets_dict_get_default (cC X.prog X.w) a (AE ry) hd r) ⟨_,dd.mapOf,h _ _ (I.tok _) ?_⟩
  rw[l]
  exact (rel.val k).getD rd
 ·subst ey
  cases (show u=Value.ref b from ry)
  obtain⟨z,hd,xs,rel,dd⟩:=vY I.hok e
  refine call_meetsIn PySem.F.slot_dict_get dd.typeIs PySem.F.entry_dict_get (PySem.F.args_dict_get_3 _ _ _) (meetsH_dict_get_default (tupleKind (cC X.prog X.w)) a b hd r) ⟨tupleKind_room_in1 hu,k,xs,yC I.hok eb,dd,h _ _ (I.tok _) ?_⟩
  rw[l]
  exact (rel.val k).getD rd
end
noncomputable def UF (td ty tx:TE):TE:=λσ H Q=>td σ H λx H1=>∃a,x = .ref a/\IsD H1 a/\ty σ H1 λy H2=>tx σ H2 λz H3=>∃o,DGet H3 a y o/\Q (o.getD z) H3
section
variable {X:Cx} {o e f:Expr} {apos cpos:Pos} {td ty tx:TE}
theorem LI (hu:X.A.units+1<cLine) (ho:PE X o td) (he:PE X e ty) (hf:PE X f tx) (m:M2 X o "get" apos e f cpos):PE X (.Call (.Attribute o "get" apos) [e,f] [] cpos) (UF td ty tx):=by
 intro pins s σ H Q I h
 refine wpAny_Call_method m.base m.few m.line PySem.F.plainAttrs_dict PySem.F.slot_dict_get PySem.F.type_dict_get (thn (ho pins s σ H _ I h) λu s1 ⟨x,H1,I1,rx,a,ex,d,q1⟩=>?_)
 subst ex
 obtain rfl:u=Value.ref a:=rx
 obtain⟨t1,t2,_⟩:=KH I1 d
 refine⟨t1,t2,?_⟩
 rw[m.trees]
 refine Calls.callWith_builtin rfl (Calls.evalArgs_plain (Calls.spliced_cons (thn (he pins s1 σ H1 _ I1 q1) λiv s2 ⟨y,H2,I2,ry,q2⟩ =>
  Calls.spliced_cons (thn (hf pins s2 σ H2 _ I2 q2) λfv s3 ⟨z,H3,I3,rz,ov,g,q3⟩=>Calls.spliced_nil ?_))))
 exact RV hu I3 g ry rz λw' s4 I4 rw'=>⟨_,H3,I4,rw',q3⟩
end
section
variable {X:Cx} {pins:List (Addr × Obj)} {σ:St} {H:Hp} {s:Shared} {a:Addr} {kvs:List (Key × V)} {A:Around} {E:Value->Shared->Prop}
end
section
variable {X:Cx} {pins:List (Addr × Obj)} {σ:St} {H:Hp} {s:Shared} {a:Addr} {y:V} {u:Value} {A:Around} {E:Value->Shared->Prop}
end
end L2
set_option Elab.async false
set_option linter.all false
set_option maxRecDepth 100000
namespace L2.R2
open PySem PySem.Spec PyProof.Rows L2
noncomputable def PL:V->List V->Hp->VK->Prop:=λx vs H Q=>∃a kvs k y,x = .ref a/\vs=[kV k,y]/\H a=some (.dK kvs)/\kvs.length<sizeLine /\
 (∀v,fE kvs k=some v->Q v H)/\(fE kvs k=none->Q y (upd H a (.dK (kvs++[(k,y)]))))
section
variable {X:Cx}
theorem HC:MtR X "dict.setdefault" PL:=by
 intro pins s σ H x vs v us Q I rx rv h
 obtain⟨a,kvs,k,y,rfl,rfl,hH,hz,h1,h2⟩:=h
 cases rx
 obtain⟨u,w,rfl,ru,rw'⟩:=rv.two
 obtain⟨z,hd,ws,rel,dd⟩:=QD I.hok hH
 have val:=rel.val k
 refine call_meetsIn PySem.F.slot_dict_setdefault dd.typeIs PySem.F.entry_dict_setdefault (PySem.F.args_dict_setdefault_3 _ _ _) (kt_meets_setdefault (cC X.prog X.w) a (AE ru) hd w)
  ⟨ws,dd,by rw[<-rel.length];exact z,λv hv=>?_,λhn h' dd' hs=>?_⟩
 ·rw[hv] at val
  cases e:fE kvs k with
  | none=>rw[e] at val;exact (show False from val).elim
  | some v'=>rw[e] at val;exact⟨v',H,I.tok _,val,h1 v' e⟩
 ·rw[hn] at val
  cases e:fE kvs k with
  | some _=>rw[e] at val;exact (show False from val).elim
  | none =>
   have he:∃q,h'.get? a=some q:=let ⟨q,_,_,hq,_⟩:=dd';⟨q,hq⟩
   have r2:=rel.put k rw'
   rw[LV y e] at r2
   exact⟨y,_,xP I (by rw[hH];exact True.intro) hs he (JM (by rw[List.length_append];exact hz) hd r2 dd'),rw',h2 e⟩
end
noncomputable def kU:List (Int × List D)->Int->List (Int × List D)
 | [],k=>[(k,[])]
 | (k',ds)::r,k=>if k'=k then (k',ds)::r else (k',ds)::kU r k
noncomputable def gP:List (Int × List D)->Int->D->List (Int × List D)
 | [],k,d=>[(k,[d])]
 | (k',ds)::r,k,d=>if k'=k then (k',ds++[d])::r else (k',ds)::gP r k d
section
variable {K:PySem.W.Frag} {H₀ H H':Hp} {kvs:List (Int × List D)} {kws:List (Key × V)} {as:List Addr} {k:Int}
theorem DL {v:V} (t:Dcl K H₀ H kvs kws as) (e:fE kws (Sum.inl k)=some v):kU kvs k=kvs:=by
 induction t with
 | nil=>cases e
 | @cons k' b vs ds kvs kws as h h0 r n t ih =>
  unfold kU
  by_cases hk:k'=k
  ·rw[if_pos hk]
  ·rw[if_neg hk,ih (by rw[eO (λz=>hk (by cases z;rfl))] at e;exact e)]
theorem Dcl.there {v:V} (t:Dcl K H₀ H kvs kws as) (e:fE kws (Sum.inl k)=some v):∃b vs ds,v = .ref b/\b∈as/\H b=some (.lst vs)/\Reps K H ds vs/\(∃p∈kvs,p.2=ds) /\
  ∀(H':Hp) (d:D) (w:V),Keep H H'->H' b=some (.lst (vs++[w]))->(∀a o,a∈as->a≠b->H a=some o->H' a=some o)->Rep K H' d w->Dcl K H₀ H' (gP kvs k d) kws as:=by
 induction t with
 | nil=>cases e
 | @cons k' b vs ds kvs kws as h h0 r n t ih =>
  by_cases hk:k'=k
  ·subst hk
   rw[fV rfl] at e
   cases e
   refine⟨b,vs,ds,rfl,.head _,h,r,⟨_,.head _,rfl⟩,λH' d w kp hb ho rd=>?_⟩
   unfold gP
   rw[if_pos rfl]
   exact .cons hb h0 ((r.keep kp).append (.cons rd .nil)) n (t.keep kp λa m o e=>ho a o (.tail _ m) (by rintro rfl;exact n m) e)
  ·rw[eO (λz=>hk (by cases z;rfl))] at e
   obtain⟨c,us,es,e1,m,g1,g2,⟨p,pm,pe⟩,g3⟩:=ih e
   refine⟨c,us,es,e1,.tail _ m,g1,g2,⟨p,.tail _ pm,pe⟩,λH' d w kp hb ho rd=>?_⟩
   unfold gP
   rw[if_neg hk]
   exact .cons (ho b _ (.head _) (by rintro rfl;exact n m) h) h0 (r.keep kp) n (g3 H' d w kp hb (λa o q=>ho a o (.tail _ q)) rd)
theorem Dcl.fresh {p:Addr} (t:Dcl K H₀ H kvs kws as) (e:fE kws (Sum.inl k)=none) (kp:Keep H H') (ho:∀a o,a∈as->H a=some o->H' a=some o) (hp:H' p=some (.lst [])) (h0:H₀ p=none) (np:p ∉ as) :
  Dcl K H₀ H' (kU kvs k) (kws++[(Sum.inl k,.ref p)]) (as++[p]):=by
 induction t with
 | nil=>exact .cons hp h0 .nil (by simp) .nil
 | @cons k' b vs ds kvs kws as h h1 r n t ih =>
  have hk:¬k'=k:=λz=>by rw[fV (by rw[z])] at e;cases e
  rw[eO (λz=>hk (by cases z;rfl))] at e
  unfold kU
  rw[if_neg hk]
  rw[List.mem_cons,not_or] at np
  exact .cons (ho b _ (.head _) h) h1 (r.keep kp) (λz=>(List.mem_append.mp (show b∈as++[p] from z)).elim n λz=>np.1 (List.mem_singleton.mp z).symm) (ih e (λa o q=>ho a o (.tail _ q)) np.2)
theorem IG {p:V} (t:Dcl K H₀ H kvs kws as) (e:fE kws (Sum.inl k)=none):fE (kws++[(Sum.inl k,p)]) (Sum.inl k)=some p:=by
 induction t with
 | nil=>exact fV rfl
 | @cons k' b vs ds kvs kws as h h1 r n t ih =>
  have hk:¬(Sum.inl k':Key)=Sum.inl k:=λz=>by rw[fV z] at e;cases e
  rw[eO hk] at e
  rw[List.cons_append,eO hk]
  exact ih e
theorem LW:∀(kvs:List (Int × List D)) (k:Int) (d:D),gP (kU kvs k) k d=gP kvs k d
 | [],k,d=>by simp[kU,gP]
 | (k',ds)::r,k,d=>by
  unfold kU
  by_cases hk:k'=k
  ·rw[if_pos hk]
  ·rw[if_neg hk];simp only[gP,if_neg hk];rw[LW r k d]
theorem AZ:∀(kvs:List (Int × List D)) (k:Int) {p:Int × List D},p∈kU kvs k->p∈kvs\/p.2=[]
 | [],k,p,h=>by rw[kU,List.mem_singleton] at h;subst h;exact .inr rfl
 | (k',ds)::r,k,p,h=>by
  unfold kU at h
  by_cases hk:k'=k
  ·rw[if_pos hk] at h;exact .inl h
  ·rw[if_neg hk] at h
   rcases List.mem_cons.mp h with h | h
   ·exact .inl (h ▸ .head _)
   ·exact (AZ r k h).imp (.tail _) id
theorem Dcl.len (t:Dcl K H₀ H kvs kws as):kvs.length=kws.length:=by
 induction t with
 | nil=>rfl
 | cons _ _ _ _ _ ih=>simp[ih]
end
section
variable {X:Cx} {e k:Expr} {pos pos' p apos cpos npos spos dpos lpos:Pos} {te tk:RE} {x:Str}
noncomputable def BC (i:Nat):RS:=λE ρ=>E.nx (ρ.set i (some (.dcl [])))
theorem NP {i:Nat} (hN:X.N.Nodup) (hi:X.N[i]? = some x:=by rfl) (hx:Loc X.env.scope x:=by walk_at "vis") (hs:swapsWith (.Dict [] [] p) (some (.Name x pos')) pos.line X.env=pure false:=by rfl)
  (hf:X.fn x=true\/X.env.scope.names.lookup x=some .local:=by walk_at "loc"):DS X (.Assign [.Name x pos'] (.Dict [] [] p) pos) (BC i) :=
 PS.mono (yM hN hi hx LJ hs hf) λDe σ H hh=>dX hh λρ E st q n r b c=>λa ha=>by
  have sm:Same H (upd H a (.dK [])):=Same.fn λb o h=>by rw[aI (aQ h ha)];exact h
  refine n _ _ _ q (.of sm) (st.put sm ⟨a,[],[],rfl,aW,st.same.free ha,.nil⟩ λc o=>?_)
  obtain⟨p,kws,e1,e2,e3⟩:=o
  cases e1
  rw[aW] at e2;cases e2
  rcases e3 with rfl | ⟨_,z⟩
  ·exact ha
  ·cases z
noncomputable def BB (i:Nat) (tk te:RE):RS:=λE ρ=>match ρ[i]? with
 | some (some (.dcl kvs))=>tk ρ λkd=>match kd with
  | .int k=>Sz (kvs.length+1)/\te (ρ.set i (some (.dcl (kU kvs k)))) λd=>(∀p∈kvs,Sz (p.2.length+1))/\E.nx (ρ.set i (some (.dcl (gP kvs k d))))
  | _=>False
 | _=>False
theorem NO (i:Nat) (hk:DE X k tk) (he:DE X e te) (hN:X.N[i]? = some x:=by rfl) (hv:Vis X.env.scope x:=by walk_at "vis") (hd:(x == ("__debug__":Str))=false:=by decide) (hcd:(x == ("__classdict__":Str))=false:=by decide)
  (hbase:attributeBase (.Name x npos) "setdefault" X.env (eval (.Name x npos) X.env)=eval (.Name x npos) X.env:=by rfl)
  (hfew:((backTo dpos (starEach [k,.List [] lpos] X.env)).all (λx=>!x.1) && (backToKw dpos (keywordEach [] X.env)).all (λx=>x.1.isSome) && decide (([k,.List [] lpos]:List Expr).length+([]:List Keyword).length+(if ([]:List Keyword).isEmpty then 0 else 1)<30))=true:=by rfl)
  (hline:(spos.endLine == dpos.line)=true:=by rfl) (hs1:starEach [k,.List [] lpos] X.env=(false,eval k X.env)::starEach [.List [] lpos] X.env:=by rfl) (hs2:starEach [.List [] lpos] X.env=(false,eval (.List [] lpos) X.env)::starEach [] X.env:=by rfl)
  (hpl:(backTo dpos (starEach [.List [] lpos] X.env)).any (·.1)=false:=by rfl)
  (hbase':attributeBase (.Call (.Attribute (.Name x npos) "setdefault" spos) [k,.List [] lpos] [] dpos) "append" X.env (eval (.Call (.Attribute (.Name x npos) "setdefault" spos) [k,.List [] lpos] [] dpos) X.env)=eval (.Call (.Attribute (.Name x npos) "setdefault" spos) [k,.List [] lpos] [] dpos) X.env:=by rfl)
  (hfew':((backTo cpos (starEach [e] X.env)).all (λx=>!x.1) && (backToKw cpos (keywordEach [] X.env)).all (λx=>x.1.isSome) && decide (([e]:List Expr).length+([]:List Keyword).length+(if ([]:List Keyword).isEmpty then 0 else 1)<30))=true:=by rfl)
  (hline':(apos.endLine == cpos.line)=true:=by rfl) (hs:starEach [e] X.env=[(false,eval e X.env)]:=by rfl) (hn:starEach [] X.env=[]:=by rfl)
  (hsw:swapsWith (.Call (.Attribute (.Call (.Attribute (.Name x npos) "setdefault" spos) [k,.List [] lpos] [] dpos) "append" apos) [e] [] cpos) none pos.line X.env=pure false:=by rfl) :
  DS X (.Expr (.Call (.Attribute (.Call (.Attribute (.Name x npos) "setdefault" spos) [k,.List [] lpos] [] dpos) "append" apos) [e] [] cpos) pos) (BB i tk te):=by
 have inner:=AW (apos:=spos) (cpos:=dpos) PySem.F.plainAttrs_dict PySem.F.slot_dict_setdefault PySem.F.type_dict_setdefault HC (pv (pos:=npos) i hN hv hd hcd) (iX hk (iX (LM (pos:=lpos) pP) pP hs2) hs1) hbase hfew hline hs1 hpl
 refine PS.mono (sK (AW PySem.F.plainAttrs_list PySem.F.slot_list_append PySem.F.type_list_append wF inner (jE he hs hn) hbase' hfew' hline' (by rw[hs,hn]) (by rw[hn];rfl)) hsw) λDe σ H hh=>dX hh λρ E so q n r bk ct=>?_
 unfold BB at q
 split at q
 ·rename_i kvs ex
  obtain⟨v,h1,a,kws,as,ev,ha,h0,t⟩:=so.rel i _ ex
  subst ev
  refine⟨.ref a,h1,.inr (.inr (.inl ⟨rfl,.inl ⟨kws,ha⟩⟩)),ρ,_,so,q,λkd kv H1 hkd s1 rk=>?_⟩
  cases kd with
  | int k =>
   obtain⟨z1,q1⟩:=hkd
   have z1:kvs.length+1<=sizeLine:=z1.ok
   rw[rk.int_inv]
   have so1:=so.ext s1
   have ha1:=s1.get _ _ ha trivial
   have t1:Dcl X.K X.H₀ H1 kvs kws as:=t.same s1
   refine⟨Nat.zero_le _,λp hp=>?_⟩
   have sm2:Same H1 (upd H1 p (.lst [])):=Same.fn λb o h=>by rw[aI (aQ h hp)];exact h
   have kl:=t1.len
   have go:∀(b:Addr) (H2:Hp) (kws2:List (Key × V)),StOk X (ρ.set i (some (.dcl (kU kvs k)))) σ H2->H2 a=some (.dK kws2)->fE kws2 (Sum.inl k)=some (.ref b)->Keep H H2 ->
     tyV X.K "list" (.ref b) H2/\KS X te σ H2 λw H3=>FH (.ref b) [w] H3 λ_ H4=>De.nx σ H4:=λb H2 kws2 so2 ha2 hv2 kp2=>by
    have e2:(ρ.set i (some (.dcl (kU kvs k))))[i]? = some (some (.dcl (kU kvs k))):=List.getElem?_set_self (List.getElem?_eq_some_iff.mp ex).1
    obtain⟨v2,g1,a',kws',as2,ev2,ha',g0,t2⟩:=so2.rel i _ e2
    rw[h1] at g1;cases g1;cases ev2
    rw[ha2] at ha';cases ha'
    obtain⟨b',us,ds',eb,_,hb,_,_,_⟩:=t2.there hv2
    cases eb
    refine⟨.inl ⟨rfl,us,SqL.of hb⟩,_,_,so2,q1,λd w H3 ⟨z2,hd⟩ s3 rd=>?_⟩
    have t3:Dcl X.K X.H₀ H3 (kU kvs k) kws2 as2:=t2.same s3
    obtain⟨b',us3,ds3,eb,mb,hb3,rb3,⟨pp,pm,pe⟩,fin⟩:=t3.there hv2
    cases eb
    have ha3:=s3.get _ _ ha2 trivial
    have ne:a≠b:=by rintro rfl;rw[ha3] at hb3;cases hb3
    have sz:us3.length<sizeLine:=by
     rw[<-rb3.length,<-pe]
     rcases AZ kvs k pm with h | h
     ·exact (z2 pp h).ok
     ·rw[h];exact Nat.lt_of_lt_of_le (Nat.succ_pos _) z1
    refine⟨b,us3,w,rfl,rfl,hb3,sz,?_⟩
    have kpU:Keep H3 (upd H3 b (.lst (us3++[w]))):=Keep.chg1 hb3 (.inl ⟨_,rfl⟩)
    have ow:∀c,Ow H3 (.dcl (kU kvs k)) (.ref a) c↔(c=a\/∃k,(k,V.ref c)∈kws2):=λc=>⟨λ⟨p',kw',e1,e2,e3⟩=>by cases e1;rw[ha3] at e2;cases e2;exact e3,λh=>⟨a,kws2,rfl,ha3,h⟩⟩
    have haU:upd H3 b (.lst (us3++[w])) a=some (.dK kws2):=by rw[aI ne];exact ha3
    obtain⟨so4,k4⟩:=(so2.ext s3).updW (x':=.dcl (gP kvs k d)) (v':=.ref a) e2 h1 (H':=upd H3 b (.lst (us3++[w])))
     (λc o h w'=>by rw[aI (by rintro rfl;exact w' ((ow _).mpr (.inr (t3.mem.mp mb))))];exact h)
     ⟨a,kws2,as2,rfl,haU,h0,by
      rw[<-LW]
      exact fin _ d w kpU aW (λc o _ nc h=>by rw[aI nc];exact h) (rd.keep kpU)⟩
     (λc o=>.inl ((ow c).mpr (by
      obtain⟨p',kw',e1,e2,e3⟩:=o
      cases e1;rw[haU] at e2;cases e2;exact e3)))
    rw[cS h1,List.set_set] at so4
    exact n _ _ _ hd ((kp2.trans (.of s3)).trans k4) so4
   refine⟨a,kws,Sum.inl k,.ref p,rfl,rfl,sm2.get _ _ ha1 trivial,by omega,λv hv=>?_,λhv=>?_⟩
   ·obtain⟨b,_,_,eb,_⟩:=t1.there hv
    subst eb
    refine go b _ kws ?_ (sm2.get _ _ ha1 trivial) hv (.of (s1.trans sm2))
    rw[DL t1 hv,cS ex]
    exact so1.ext sm2
   ·have pa:p≠a:=by rintro rfl;rw[hp] at ha1;cases ha1
    have np:p ∉ as:=λm=>by obtain⟨_,us,q'⟩:=t1.at m;rw[hp] at q';cases q'
    have ow:∀c,Ow H1 (.dcl kvs) (.ref a) c↔(c=a\/∃k,(k,V.ref c)∈kws):=λc=>⟨λ⟨p',kw',e1,e2,e3⟩=>by cases e1;rw[ha1] at e2;cases e2;exact e3,λh=>⟨a,kws,rfl,ha1,h⟩⟩
    have st1:∀c o,c≠a->H1 c=some o->upd (upd H1 p (.lst [])) a (.dK (kws++[(Sum.inl k,.ref p)])) c=some o:=λc o nc h=>by rw[aI nc,aI (aQ h hp)];exact h
    have kpU:Keep H1 (upd (upd H1 p (.lst [])) a (.dK (kws++[(Sum.inl k,.ref p)]))):=(Keep.of sm2).trans (Keep.chg1 (sm2.get _ _ ha1 trivial) (.inr (.inl ⟨_,rfl⟩)))
    obtain⟨so2,k2⟩:=so1.updW (x':=.dcl (kU kvs k)) (v':=.ref a) ex h1 (H':=upd (upd H1 p (.lst [])) a (.dK (kws++[(Sum.inl k,.ref p)])))
     (λc o h w'=>st1 c o (by rintro rfl;exact w' ((ow _).mpr (.inl rfl))) h)
     ⟨a,_,_,rfl,aW,h0,t1.fresh hv kpU (λc o m h=>st1 c o (by rintro rfl;obtain⟨_,us,q'⟩:=t1.at m;rw[ha1] at q';cases q') h) (by rw[aI pa];exact aW) (so1.same.free hp) np⟩
     (λc o=>by
      obtain⟨p',kw',e1,e2,e3⟩:=o
      cases e1;rw[aW] at e2;cases e2
      rcases e3 with rfl | ⟨k',m⟩
      ·exact .inl ((ow _).mpr (.inl rfl))
      ·rcases List.mem_append.mp m with m | m
       ·exact .inl ((ow _).mpr (.inr ⟨k',m⟩))
       ·rw[List.mem_singleton] at m;cases m;exact .inr hp)
    rw[cS h1] at so2
    exact go p _ _ so2 aW (IG t1 hv) ((Keep.of s1).trans k2)
  | _=>exact hkd.elim
 ·exact q.elim
noncomputable def mM:List Int->List D->Int->Option D
 | k'::ks,d::ds,k=>if k'=k then some d else mM ks ds k
 | _,_,_=>none
noncomputable def NI:R22:=λx y Q=>match x,y with
 | .dct ks ds,.int k=>∃d,mM ks ds k=some d/\Q d
 | _,_=>False
theorem JH {K:PySem.W.Frag} {H:Hp} {k:Int}:∀{ks:List Int} {ds:List D} {vs:List V} {d:D},Reps K H ds vs->mM ks ds k=some d->∃v,fE (qK ks vs) (Sum.inl k)=some v/\Rep K H d v
 | [],_,_,_,_,e=>by simp[mM] at e
 | k'::ks,_,_,_,.nil,e=>by simp[mM] at e
 | k'::ks,_,_,d,.cons (v:=v) (vs:=vs) h t,e=>by
  unfold mM at e
  by_cases hk:k'=k
  ·rw[if_pos hk] at e;cases e
   exact⟨v,fV (by rw[hk]),h⟩
  ·rw[if_neg hk] at e
   obtain⟨u,g1,g2⟩:=JH t e
   exact⟨u,by show fE ((Sum.inl k',v)::qK ks vs) _=_;rw[eO (λz=>hk (by cases z;rfl))];exact g1,g2⟩
theorem RX {kk:Nat} {a b:Expr} {ta tb:RE} (hr:Room kk X.A) (ha:DE X a ta) (hb:DE X b tb) (hs:NA b:=by intro _ _;rfl):DE X (.Subscript a b pos) (r2 NI ta tb):=by
 refine PE.mono (FE (by have:=hr.un;omega) ha hb hs) λσ H Q h=>?_
 obtain⟨ρ,P,st,ht,hP⟩:=h
 refine⟨ρ,_,st,ht,λx v H1 h1 s1 r1=>⟨ρ,_,st.ext s1,h1,λy u H2 h2 s2 r2=>?_⟩⟩
 unfold NI at h2
 split at h2
 ·rename_i ks ds k
  obtain⟨d,e,h2⟩:=h2
  rw[r2.int_inv]
  have r1':=Rep.keep (.of s2) r1
  cases r1' with
  | @dct a vs _ _ o hh hl rr =>
   obtain⟨w,g1,g2⟩:=JH rr e
   exact⟨a,w,rfl,.inl ⟨_,Sum.inl k,.inr ⟨o,hh⟩,rfl,g1.symm⟩,hP d w H2 h2 (s1.trans s2) g2⟩
 ·exact h2.elim
end
end L2.R2
set_option Elab.async false
set_option linter.all false
set_option maxRecDepth 100000
set_option maxHeartbeats 1000000
namespace L2.R2
open PySem PySem.Spec PyProof.Rows L2 PySem.W
theorem jZ:∀{ns:List Int} {us:List Value},IntsAre us ns->Vals (ns.map V.int) us
 | [],[],_=>.nil
 | n::ns,u::us,h=>by
  cases h with
  | cons _ t h=>exact .cons ⟨_,rfl⟩ (jZ h)
theorem GT (ks:List Int) (vs:List V):(qK ks vs).length=min ks.length vs.length:=List.length_zipWith
theorem wY {P:Program} {w:World}:∀(ks:List Int) (vs:List V) (ws:List (Key × Value)),ks.length=vs.length->KV (qK ks vs) ws->∀us:List Value,us.length=ks.length ->
  (∀(j:Nat) (v:Value),us[j]? = some v->∃k x,ws[j]? = some (k,x)/\(cC P w).is k v=true)->Vals (ks.map V.int) us
 | [],_,_,_,_,us,h,_=>by rw[List.length_eq_zero_iff.mp h];exact .nil
 | k::ks,[],_,h,_,_,_,_=>by cases h
 | k::ks,v::vs,ws,hl,r,us,h,q=>by
  cases us with
  | nil=>cases h
  | cons u us =>
   cases r with
   | @cons _ b _ bs h1 t =>
    refine .cons ?_ (wY ks vs bs (by simpa using hl) t us (by simpa using h) λj v e=>q (j+1) v (by simpa using e))
    obtain⟨k',x,e,i⟩:=q 0 u rfl
    cases e
    rw[<-show (Sum.inl k:Key)=k' from h1.1] at i
    rcases cH (show tP (Sum.inl k) u=true from i) with ⟨i',t',e1,e2⟩ | ⟨y,t',e1,e2⟩
    ·cases e1;exact⟨t',e2⟩
    ·cases e1
noncomputable def DV (te:RE):RA:=λρ Q=>te ρ λx=>∃ns:List Int,x = .lst (ns.map .int)/\ns.length<64/\∀ms:List Int,ms.Perm ns->ms.Pairwise (·<=·)->Q (ms.map .int)
noncomputable def yP (te:RE):RA:=λρ Q=>te ρ λx=>∃nss:List (List Int),x = .lst (nss.map dM)/\nss.length<64/\(∀ns∈nss,ns≠[])/\∀mss:List (List Int),mss.Perm nss->mss.Pairwise (λx y=>eK y x=false)->Q (mss.map dM)
noncomputable def DR (te:RE):RA:=λρ Q=>te ρ λx=>∃(ks:List Int) (ds:List D),x = .dct ks ds/\ks.length=ds.length/\Q (ks.map .int)
section
variable {X:Cx} {e:Expr} {te:RE} {p pos:Pos}
theorem JS (hms:X.mg "sorted" = none) (h:DB X e te) (hgs:Gl X "sorted":=by rfl) (hs:starEach [e] X.env=[(false,eval e X.env)]:=by rfl) (hn:starEach [] X.env=[]:=by rfl) :
  DO X (.Call (.Name "sorted" p) [e] [] pos) (DV te):=by
 intro pins s σ H Q I hh_0
 obtain⟨ρ,P,st,q,kq⟩:=hh_0
 refine wpAny_Call_Name_kw (eJ I hgs hms kX ?_)
 refine PyProof.Rows.callWith_builtin1 (thn (jE h hs hn pos pins s σ H (λvs H1=>∃(ns:List Int) (v:V),vs=[v]/\Same H H1/\RepB X.K H1 (.lst (ns.map .int)) v/\ns.length<64/\∀ms:List Int,ms.Perm ns->ms.Pairwise (·<=·)->P (ms.map .int)) I
  ⟨ρ,_,st,q,λx v H1 hx s1 r1=>?_⟩) λus s1 ⟨vs,H1,I1,r1,q1⟩=>?_) (by rw[hs,hn]) (by rw[hn];rfl)
 ·obtain⟨ns,rfl,a1,a2⟩:=hx
  exact⟨ns,v,rfl,s1,r1,a1,a2⟩
 obtain⟨ns,v,rfl,s01,rb,h64,hP⟩:=q1
 obtain⟨l,vs,rfl,hq,rr⟩:=rb.lst
 obtain⟨u,rfl,rx⟩:=lX r1
 cases rx
 obtain⟨its,rv,pl,hz⟩:=I1.list hq
 have l2:=rv.length
 rw[rr.ints_inv] at rv l2
 rw[List.length_map] at l2
 refine sorted_ints pl.isList (CM rv) (by omega) λout ms a1 a2 a3=>?_
 obtain⟨c,he⟩:=sortedAll_at s1.heap its out
 have VV:=jZ a1
 have lw:ms.length=ns.length:=a2.length_eq
 have I4:=I1.laid (a:=s1.heap.objs.size+1) (o:=.lst (ms.map V.int)) (h':=sortedAll s1.heap its out) (t':=s1.toks) (λb o=>sortedAll_old) (Nat.le_succ _) ⟨by rw[List.length_map,sizeLine_eq];omega,out.toList,c,VV,by simpa using he⟩
 exact⟨.ref (s1.heap.objs.size+1),_,I4,rfl,kq _ _ _ H1 (hP ms a2 a3) s01 (I1.hok.fresh (Nat.le_succ _)) Reps.ints⟩
theorem JT (hms:X.mg "sorted" = none) (h:DB X e te) (hgs:Gl X "sorted":=by rfl) (hs:starEach [e] X.env=[(false,eval e X.env)]:=by rfl) (hn:starEach [] X.env=[]:=by rfl) :
  DO X (.Call (.Name "sorted" p) [e] [] pos) (yP te):=by
 intro pins s σ H Q I hh_0
 obtain⟨ρ,P,st,q,kq⟩:=hh_0
 refine wpAny_Call_Name_kw (eJ I hgs hms kX ?_)
 refine PyProof.Rows.callWith_builtin1 (thn (jE h hs hn pos pins s σ H (λvs H1=>∃(nss:List (List Int)) (v:V),vs=[v]/\Same H H1/\RepB X.K H1 (.lst (nss.map dM)) v/\nss.length<64/\(∀ns∈nss,ns≠[])/\∀mss:List (List Int),mss.Perm nss->mss.Pairwise (λx y=>eK y x=false)->P (mss.map dM)) I
  ⟨ρ,_,st,q,λx v H1 hx s1 r1=>?_⟩) λus s1 ⟨vs,H1,I1,r1,q1⟩=>?_) (by rw[hs,hn]) (by rw[hn];rfl)
 ·obtain⟨nss,rfl,a1,a2,a3⟩:=hx
  exact⟨nss,v,rfl,s1,r1,a1,a2,a3⟩
 obtain⟨nss,v,rfl,s01,rb,h64,hne,hP⟩:=q1
 obtain⟨l,vs,rfl,hq,rr⟩:=rb.lst
 obtain⟨u,rfl,rx⟩:=lX r1
 cases rx
 obtain⟨its,rv,pl,hz⟩:=I1.list hq
 have l1:=rr.length
 have l2:=rv.length
 rw[List.length_map] at l1
 have each:∀(i:Nat) (u:Value),its[i]? = some u->∃ns a,nss[i]? = some ns/\vs[i]? = some (.ref a)/\u = .ref a/\H1 a=some (.tup (ns.map V.int))/\IsTupleKey (intKind X.prog X.w) s1.heap ns a:=λi u e=>by
  have hi:i<nss.length:=by have:=(List.getElem?_eq_some_iff.mp e).1;omega
  obtain⟨v,e1,e2⟩:=rr.get (i:=i) (d:=dM nss[i]) (by rw[List.getElem?_map,List.getElem?_eq_getElem hi];rfl)
  obtain⟨a,rfl,ha⟩:=Reps.tupI_inv e2
  obtain⟨u',f1,f2⟩:=rv.get e1
  rw[e] at f1;cases f1
  cases f2
  obtain⟨ts,g1,g2,_⟩:=I1.tuple (SqT.of (K:=X.K) ha)
  obtain⟨o,go,gc,n,gd⟩:=g2
  exact⟨_,a,List.getElem?_eq_getElem hi,e1,rfl,ha,o,ts.toArray,n,go,gc,gd,by simpa using AC g1⟩
 refine Calls.call_function_entry kind_sorted plain_sorted entry_sorted (args_sorted1 _) ?_
 unfold Builtin.«sorted»
 refine wpAny_bind (m:=checkCount "sorted" 1 1 _) (wpAny_pure ?_)
 apply wpAny_bind;refine collect_list pl.isList ?_ (by rw[sizeLine_eq];omega)
 apply wpAny_bind;refine wpAny_newList ?_ (by rw[sizeLine_eq];omega)
 generalize hh1:(s1.heap.push (seqObj "list" #[] 0)).update s1.heap.objs.size (Obj.mapSeq (· ++ its.toArray))=h1
 have k1:∀b o,s1.heap.get? b=some o->h1.get? b=some o:=λb o e=>by rw[<-hh1,Heap.get?_update_ne _ _ _ _ (Nat.ne_of_lt (Heap.lt_size e))];exact Heap.get?_push_of_some _ e
 have big:s1.heap.objs.size<=h1.objs.size:=by rw[<-hh1,Heap.size_update,size_push'];exact Nat.le_succ _
 show wpAny _ _ _ _ _ { s1 with heap:=h1.push (seqObj "list" its.toArray 0) }
 have hL:(h1.push (seqObj "list" its.toArray 0)).get? h1.objs.size=some (seqObj "list" its.toArray 0):=Heap.get?_push_size _ rfl
 have k2:∀b o,s1.heap.get? b=some o->(h1.push (seqObj "list" its.toArray 0)).get? b=some o:=λb o e=>Heap.get?_push_of_some _ (k1 b o e)
 generalize h1.push (seqObj "list" its.toArray 0)=h2 at hL k2
 have KA:KeysAt X.prog X.w h2 its nss:=by
  refine⟨by omega,λi v e=>?_⟩
  obtain⟨ns,a,n1,n2,n3,_,o,jts,m,g1,g2⟩:=each i v e
  have:nss.getD i []=ns:=by rw[List.getD_eq_getElem?_getD,n1];rfl
  rw[this]
  exact⟨a,n3,o,jts,m,k2 _ _ g1,g2⟩
 refine wpAny_bind (wpAny_holding (wpAny_call_entry slot_list_sort ⟨_,hL,rfl⟩ entry_list_sort ?body (args_list_sort _)))
 case body =>
  refine IB (s:={ s1 with heap:=h2 }) hL KA hne (by omega) λh3 out mss c g1 g2 g3 g4 g5 g6=>?_
  have kp:∀b o,s1.heap.get? b=some o->h3.get? b=some o:=λb o e=>g6 b o (Nat.ne_of_lt (Nat.lt_of_lt_of_le (Heap.lt_size e) big)) (k2 b o e)
  obtain⟨ws,VV,RR⟩:=BG (K:=X.K) (H:=H1) out mss g2.1 λi v e=>by
   obtain⟨j,hj,ej⟩:=List.getElem_of_mem (g3 v (List.mem_of_getElem? e))
   obtain⟨ns,a,n1,n2,n3,ha,hk⟩:=each j v (by rw[List.getElem?_eq_getElem hj,ej])
   obtain⟨b,eb,hb⟩:=g2.2 i v e
   rw[n3] at eb;cases eb
   refine⟨a,n3,?_⟩
   have hk3:IsTupleKey (intKind X.prog X.w) h3 ns a:=by obtain⟨o,jts,n,q1,q2⟩:=hk;exact⟨o,jts,n,kp _ _ q1,q2⟩
   rw[hb.inj hk3]
   exact ha
  have lw:=VV.length
  have lo:out.length<64:=by rw[g2.1,g4.length_eq];exact h64
  have I4:=I1.laid (a:=h1.objs.size) (o:=.lst ws) (h':=h3) (t':=s1.toks) kp big ⟨by rw[sizeLine_eq];omega,out,c,VV,g1⟩
  exact⟨_,rfl,wpAny_pure ⟨_,rfl,.ref h1.objs.size,_,I4,rfl,kq _ _ _ H1 (hP mss g4 g5) s01 (I1.hok.fresh big) RR⟩⟩
theorem JQ (hml:X.mg "list" = none) (hc:X.calm=true) (h:DE X e te) (hgl:Gl X "list":=by rfl) (hs:starEach [e] X.env=[(false,eval e X.env)]:=by rfl) (hn:starEach [] X.env=[]:=by rfl) :
  DO X (.Call (.Name "list" p) [e] [] pos) (DR te):=by
 intro pins s σ H Q I hh_0
 obtain⟨ρ,P,st,q,kq⟩:=hh_0
 refine wpAny_Call_Name_kw (eJ I hgl hml pE ?_)
 refine PyProof.Rows.callWith_type1 (thn (jE h hs hn pos pins s σ H (λvs H1=>∃(ks:List Int) (ds:List D) (v:V),vs=[v]/\Same H H1/\Rep X.K H1 (.dct ks ds) v/\P (ks.map .int)) I
  ⟨ρ,_,st,q,λx v H1 hx s1 r1=>?_⟩) λus s1 ⟨vs,H1,I1,r1,q1⟩=>?_) (by rw[hs,hn]) (by rw[hn];rfl)
 ·obtain⟨ks,ds,rfl,a1,a2⟩:=hx
  exact⟨ks,ds,v,rfl,s1,r1,a2⟩
 obtain⟨ks,ds,v,rfl,s01,rd,hP⟩:=q1
 obtain⟨u,rfl,rx⟩:=lX r1
 cases rd with
 | @dct a vs _ _ o ha hl rr =>
  cases rx
  obtain⟨z,hd,ws,rel,dd⟩:=vX I1.hok (.inr ⟨o,ha⟩)
  have le:=rel.length
  obtain⟨ep,da⟩:=dd.dictAt
  refine kdl_call (kdl_dict (knd:=cC X.prog X.w) (kvs:=ws) (ep:=ep) hd) (I1.ok.hd hc) da (by rw[<-le];exact z) λh' tk acc c kp g1 it=>?_
  have lk:ks.length=ws.length:=by rw[<-le,GT,<-hl,Nat.min_self]
  have VV:Vals (ks.map V.int) acc.toList:=wY ks vs ws hl rel acc.toList (by rw[Array.length_toList,it.1];exact lk.symm) λj v e=>it.2 j v (by simpa using e)
  have I4:=I1.laid (a:=s1.heap.objs.size) (o:=.lst (ks.map V.int)) (h':=h') (t':=tk) kp (Nat.le_refl _) ⟨by rw[List.length_map,lk,<-le];exact z,acc.toList,c,VV,by simpa using g1⟩
  exact⟨.ref s1.heap.objs.size,_,I4,rfl,kq _ _ _ H1 hP s01 (I1.hok.fresh (Nat.le_refl _)) Reps.ints⟩
end
end L2.R2
set_option Elab.async false
set_option linter.all false
set_option maxRecDepth 100000
set_option maxHeartbeats 1000000
namespace L2.R2
open PySem PySem.Spec PyProof.Rows L2
theorem rH (l:Addr) (items:Array Value) (n:Nat) (b:Addr) (items2:Array Value) (n2:Nat) (sl:Array (Option Value)) (hc0:¬(!items.isEmpty && Builtin.List.listTooLong (items.size+items2.size))=true) (hc1:items.size<=sizeLine) (hs2:items.size+items2.size<=sizeLine+1) :
  Meets (Builtin.«list.extend» ⟨[.ref l,.ref b],[]⟩) (λ_ R s=>s.heap.get? l=some { cls:=.type "list",dict:=none,data:=.seq items n,slots:=#[] }/\s.heap.get? b=some { cls:=.type "list",dict:=none,data:=.seq items2 n2,slots:=sl }/\R (.ok (.ret Value.none)) { s with heap:=s.heap.update l (Obj.mapSeq λx=>x++items2),toks:=s.toks }) :=
 .of_wp λprog w A R s h=>by
  obtain⟨hp,g,d,tk,os⟩:=s;obtain⟨hl,hb,h⟩:=h
  have hz':(items++items2).size<=sizeLine+1:=by rw[Array.size_append];exact hs2
  wp_walk using (wpAny_updateSeq hl rfl (hz:=hc1) (_hz':=hz')),wpAny_loadPart' hl,wpAny_loadPart' hb;exact⟨_,rfl,h⟩
noncomputable def LZ (K:PySem.W.Frag):V->List V->Hp->VK->Prop:=λx vs H Q=>∃l b xs zs,x = .ref l/\vs=[.ref b]/\H l=some (.lst xs)/\SqL K H b zs/\xs.length+zs.length<=sizeLine/\Q .non (upd H l (.lst (xs++zs)))
section
variable {X:Cx} {e:Expr} {pos apos cpos npos p2 p3 p4:Pos} {te:RE} {x:Str}
theorem CW:MtM X "list.extend" (LZ X.K):=by
 intro pins s σ H x vs v us Q I rx rv h
 obtain⟨l,b,xs,zs,rfl,rfl,hH,hB,hz,q⟩:=h
 cases rx
 obtain⟨u,rfl,ru⟩:=rv.one
 cases ru
 obtain⟨z,its,n,r,hl,e⟩:=I.lstM hH
 obtain⟨its2,r2,pl,z2⟩:=I.list hB
 have hl2:=r2.length
 obtain⟨o,n2,e2,c1,c2,c3⟩:=pl
 obtain⟨oc,od,oda,osl⟩:=o
 dsimp only at c1 c2 c3
 subst c1 c2 c3
 have hsz:its.toArray.size+its2.toArray.size<=sizeLine:=by rw[List.size_toArray,List.size_toArray];omega
 have hlong:¬(!its.toArray.isEmpty && Builtin.List.listTooLong (its.toArray.size+its2.toArray.size))=true:=by
  rw[LC hsz,Bool.and_false]
  exact Bool.false_ne_true
 refine call_meets F.slot_list_extend ⟨_,e,rfl⟩ F.entry_list_extend (F.args_list_extend_2 _ _)
  (rH l its.toArray n b its2.toArray n2 osl hlong (by rw[List.size_toArray];omega) (by omega)) ⟨e,e2,?_⟩
 refine⟨.non,_,I.lset (its':=its++its2) hH e (by simp) (r.append r2) ?_,rfl,q⟩
 rw[List.length_append]
 omega
noncomputable def uI (i:Nat) (te:RE):RS:=λE ρ=>match ρ[i]? with
 | some (some (.own xs))=>te ρ λd=>match d with
  | .lst ys=>Sz (xs.length+ys.length)/\E.nx (ρ.set i (some (.own (xs++ys))))
  | _=>False
 | _=>False
theorem GL (i:Nat) (he:DE X e te) (hN:X.N[i]? = some x:=by rfl) (hv:Vis X.env.scope x:=by walk_at "vis") (hd:(x == ("__debug__":Str))=false:=by decide) (hcd:(x == ("__classdict__":Str))=false:=by decide)
  (hbase:attributeBase (.Name x npos) "extend" X.env (eval (.Name x npos) X.env)=eval (.Name x npos) X.env:=by rfl)
  (hfew:((backTo cpos (starEach [e] X.env)).all (λx=>!x.1) && (backToKw cpos (keywordEach [] X.env)).all (λx=>x.1.isSome) && decide (([e]:List Expr).length+([]:List Keyword).length+(if ([]:List Keyword).isEmpty then 0 else 1)<30))=true:=by rfl)
  (hline:(apos.endLine == cpos.line)=true:=by rfl) (hs:starEach [e] X.env=[(false,eval e X.env)]:=by rfl) (hn:starEach [] X.env=[]:=by rfl) (hsw:swapsWith (.Call (.Attribute (.Name x npos) "extend" apos) [e] [] cpos) none pos.line X.env=pure false:=by rfl) :
  DS X (.Expr (.Call (.Attribute (.Name x npos) "extend" apos) [e] [] cpos) pos) (uI i te):=by
 refine PS.mono (sK (AW PySem.F.plainAttrs_list PySem.F.slot_list_extend PySem.F.type_list_extend CW (pv i hN hv hd hcd) (jE he hs hn) hbase hfew hline (by rw[hs,hn]) (by rw[hn];rfl)) hsw) λDe σ H hh=>dX hh λρ E so q n r bk ct=>?_
 unfold uI at q
 split at q
 ·rename_i xs ex
  obtain⟨v,h1,p,vs,ev,hp,h0,rr⟩:=so.rel i _ ex
  subst ev
  refine⟨.ref p,h1,.inl ⟨rfl,vs,SqL.of hp⟩,ρ,_,so,q,λd v H1 hd s1 rd=>?_⟩
  have hp1:=s1.get _ _ hp trivial
  cases d with
  | lst ys =>
   cases rd with
   | @lst b us _ hz rd =>
    obtain⟨so2,k2⟩:=(so.ext s1).upd_own ex h1 hp1 h0 ((rr.keep (.of s1)).append rd)
    have hsz:xs.length+ys.length<=sizeLine:=hd.1.ok
    exact⟨p,b,vs,us,rfl,rfl,hp1,hz.sq,by rw[<-rr.length,<-rd.length];exact hsz,n _ _ _ hd.2 ((Keep.of s1).trans k2) so2⟩
  | _=>exact hd.elim
 ·exact q.elim
noncomputable def alt {α:Type}:List α->List α
 | []=>[]
 | [x]=>[x]
 | x::_::r=>x::alt r
theorem EO {α:Type}:∀(l:List α) (i:Nat),(alt l)[i]? = l[2*i]?
 | [],i=>by simp[alt]
 | [x],0=>rfl
 | [x],i+1=>by simp[alt]
 | x::y::r,0=>rfl
 | x::y::r,i+1=>by
  rw[alt,List.getElem?_cons_succ,EO r i,show 2*(i+1)=2*i+1+1 by omega,List.getElem?_cons_succ,List.getElem?_cons_succ]
theorem sD {α:Type}:∀(l:List α),(alt l).length=(l.length+1) / 2
 | []=>by simp[alt]
 | [x]=>by simp[alt]
 | x::y::r=>by rw[alt,List.length_cons,sD r];simp only[List.length_cons];omega
theorem RH {α:Type} (l:List α):(alt l).length<=l.length:=by rw[sD];omega
theorem Reps.alt {K:PySem.W.Frag} {H:Hp}:∀{ds:List D} {vs:List V},Reps K H ds vs->Reps K H (alt ds) (L2.R2.alt vs)
 | _,_,.nil=>.nil
 | _,_,.cons h .nil=>.cons h .nil
 | _,_,.cons h (.cons _ t)=>.cons h (Reps.alt t)
theorem Vals.alt:∀{vs:List V} {us:List Value},Vals vs us->Vals (alt vs) (L2.R2.alt us)
 | _,_,.nil=>.nil
 | _,_,.cons h .nil=>.cons h .nil
 | _,_,.cons h (.cons _ t)=>.cons h (Vals.alt t)
theorem LP (its:List Value) (k:Nat) (lo:Option Int) (hk:(lo=none/\k=0)\/(lo=some 1/\k=1)):slicePick its.toArray lo none (some 2)=(alt (its.drop k)).toArray:=by
 have e:(sliceBounds lo none (some 2) its.toArray.size)=(((min k its.length:Nat):Int),(its.length:Int),2):=by
  rcases hk with ⟨rfl,rfl⟩ | ⟨rfl,rfl⟩
  ·simp[sliceBounds]
  ·simp[sliceBounds];omega
 unfold slicePick
 rw[e]
 congr 1
 dsimp only
 have c:(if (2:Int) > 0 then (if ((min k its.length:Nat):Int)<(its.length:Int) then ((its.length:Int)-(min k its.length:Nat)+2-1) / 2 else 0) else (if ((min k its.length:Nat):Int) > (its.length:Int) then (((min k its.length:Nat):Int)-(its.length:Int)-2-1) / (-2) else 0)).toNat=(alt (its.drop k)).length:=by
  rw[sD,List.length_drop,if_pos (by decide)]
  split <;> omega
 unfold sliceRange
 dsimp only
 rw[c]
 refine List.ext_getElem? λi=>?_
 have key:∀(n:Nat),n<=(alt (its.drop k)).length->((List.range n).map λ(j:Nat)=>(((min k its.length:Nat):Int)+2*(j:Int)).toNat).filterMap (its.toArray[·]?)=(alt (its.drop k)).take n:=by
  intro n
  induction n with
  | zero=>intro _;rfl
  | succ n ih =>
   intro h
   have hn:n<(alt (its.drop k)).length:=h
   rw[List.range_succ,List.map_append,List.filterMap_append,ih (Nat.le_of_lt hn),List.take_succ]
   congr 1
   have hl:2*n<(its.drop k).length:=by rw[sD] at hn;omega
   rw[List.length_drop] at hl
   have:(((min k its.length:Nat):Int)+2*(n:Int)).toNat=k+2*n:=by omega
   simp only[List.map_cons,List.map_nil,this]
   rw[EO,List.getElem?_drop]
   have hh:k+2*n<its.length:=by omega
   simp[hh]
 rw[key _ (Nat.le_refl _),List.take_length]
noncomputable def DN (k:Nat) (te:RE):RA:=λρ Q=>te ρ λx=>match x with
 | .lst ds=>Q (alt (ds.drop k))
 | _=>False
theorem JP {k:Nat} {lo:Option Expr} {l:Option Int} {j:Nat} (h:DB X e te) (hl:∀(H:Hp),PO X lo (λσ H Q=>Q l H)) (hk:(l=none/\k=0)\/(l=some 1/\k=1)) :
  DO X (.Subscript e (.Slice lo none (some (.Constant (.int 2) j p3)) p2) pos) (DN k te):=by
 intro pins s σ H Q I hh
 obtain⟨ρ,P,st,q,kq⟩:=hh
 refine Subscript_ (thn (h pins s σ H (λv H1=>∃ds,Same H H1/\RepB X.K H1 (.lst ds) v/\P (alt (ds.drop k))) I ⟨ρ,_,st,q,λx v H1 hx s1 r1=>?_⟩) λv s1 ⟨x,H1,I1,r1,q1⟩=>?_)
 ·cases x with
  | lst ds=>exact⟨ds,s1,r1,hx⟩
  | _=>exact hx.elim
 obtain⟨ds,sm,rb,hP⟩:=q1
 obtain⟨a,vs,rfl,hq,rr⟩:=rb.lst
 cases r1
 refine wpAny_Slice (thn (hl H1 pins s1 σ H1 (λo H2=>o=l/\H2=H1) I1 ⟨rfl,rfl⟩) λvl s2 ⟨l',H2,I2,pl,e1,e2⟩=>?_)
 subst e1 e2
 rw[evalPart_none]
 refine wpAny_pure ?_
 refine thn (yL (DD (X:=X) (i:=2) (j:=j) (pos:=p3)) pins s2 σ H2 (λo H3=>o=some 2/\H3=H2) I2 ⟨2,rfl,rfl,rfl⟩) λvst s3 ⟨o3,H3,I3,pst,e3,e4⟩=>?_
 subst e3 e4
 have I4:Inv X pins σ H3 { s3 with heap:=s3.heap.push { cls:=.type "slice",data:=.fields #[vl,.none,vst] } }:=I3.kept (t':=s3.toks) λb ob q=>Heap.get?_push_of_some _ q
 obtain⟨its,rv,pll,hz⟩:=I4.list hq
 have hlen:=rv.length
 show wpAny (model X.prog X.w) X.A (subscriptTail e (.Slice lo none (some (.Constant (.int 2) j p3)) p2) (.ref a) (.ref s3.heap.objs.size)) (EP X pins σ Q) X.xe { s3 with heap:=s3.heap.push { cls:=.type "slice",data:=.fields #[vl,.none,vst] } }
 refine tail_any (ops:=[.ref a,.ref s3.heap.objs.size]) pll.isList.typeIs PySem.slot_list_getitem.lookup ?_ (by with_unfolding_all rfl)
 refine wpAny_getItem_list_slice pll.isList (Heap.IsSliceOf.new ..) pl .none pst (by decide) ?_ (by rw[List.size_toArray,<-hlen];exact hz)
 rw[LP its k l' hk]
 have VV:Vals (alt (vs.drop k)) (alt (its.drop k)):=Vals.alt (Vals.drop k rv)
 have I5:=I4.lnew (t':=s3.toks) VV (Nat.le_trans (RH _) (by rw[List.length_drop];omega))
 exact⟨.ref _,_,I5,rfl,kq _ _ _ H3 hP sm I4.fresh (Reps.alt (rr.drop k))⟩
theorem NM {j:Nat} (h:DB X e te):DO X (.Subscript e (.Slice none none (some (.Constant (.int 2) j p3)) p2) pos) (DN 0 te) :=
 JP h (λH pins s σ H' Q I q=>FF pins s σ H' Q I q) (.inl ⟨rfl,rfl⟩)
theorem NN {j j':Nat} (h:DB X e te):DO X (.Subscript e (.Slice (some (.Constant (.int 1) j' p4)) none (some (.Constant (.int 2) j p3)) p2) pos) (DN 1 te) :=
 JP h (λH pins s σ H' Q I q=>yL (DD (X:=X) (i:=1) (j:=j') (pos:=p4)) pins s σ H' Q I ⟨1,rfl,q⟩) (.inr ⟨rfl,rfl⟩)
end
theorem IF {P:Program} {w:World} {K:PySem.W.Frag} {tg:Expr} (it:Addr) (lo:Int) (n:Nat):Turn P w K tg (Itr lo n) [it] it (λi h=>IsLongIter h it (lo+(i:Nat)*1) ((n:Int)-(i:Nat)) 1) where
 mem:=by simp
 obj:=λi h st b hb=>by
  have e:b=it:=by simpa using hb
  subst e
  exact⟨_,st,λv z=>by have z':Data.fields _=Data.cell v:=z;cases z'⟩
 keep:=λi h h' st k=>k it (by simp) _ st
 item:=by
  intro X hP hw hK hc i pins s σ H E I hf st hg
  subst hP hw hK
  obtain⟨f0,f1,f2,f3,f4,f5⟩:=hf it (by simp)
  have W:=Walks.longrange (prog:=X.prog) (w:=X.w) (I.ok.hd hc) it lo 1 n
  refine W.item i s _ _ hg st λv h' tk hv st' kk=>?_
  obtain⟨t,rfl⟩:=hv
  have I1:Inv X pins σ H { s with heap:=h',toks:=tk }:=I.turned (λb o hb e=>kk b o (by simpa using hb) e) f0 f1 f3 f4 f5
  exact⟨_,rfl,wB (s:={ s with heap:=h',toks:=tk }) (n:="longrange_iterator") st' rfl rfl (by decide) ⟨.int (lo+i),H,I1,⟨t,by rw[Int.mul_one]⟩,⟨rfl,rfl⟩,st',λb hb=>(hf b hb).1⟩⟩
 done:=by
  intro X hP hw hK hc i pins s σ H E I hf st hg
  subst hP hw hK
  obtain⟨f0,f1,f2,f3,f4,f5⟩:=hf it (by simp)
  exact wpAny_pyNext_long_end (I.ok.hd hc) st (by have:n<=i:=hg;omega) λh' eb=>⟨rfl,I.turned (t':=s.toks) (λb o hb e=>eb b o hb e) f0 f1 f3 f4 f5⟩
 self:=λ_ _ _ _ _ st h=>wpAny_pyIter_longiter st h
theorem MI (a b:Int):Builtin.Range.rangeSize a b 1=((b-a).toNat:Int):=by
 unfold Builtin.Range.rangeSize
 simp only[show (1:Int) > 0 by decide,if_true]
 split <;> omega
section
variable {X:Cx} {tg:Expr}
theorem ON {pins:List (Addr × Obj)} {σ:St} {H:Hp} {s:Shared} {R:It->Hp->Prop} {E:Value->Shared->Prop} {lo hi:Int} {t u v:Tok} {tk:Nat} (I:Inv X pins σ H s) (hs:Builtin.Range.small lo hi 1=false)
  (q:R (Itr lo (hi-lo).toNat) H):wpAny (model X.prog X.w) X.A (pyIter (.ref s.heap.objs.size)) (PIE X pins σ tg R) E { s with heap:=s.heap.push { cls:=.type "range",data:=.fields #[.int lo t,.int hi u,.int 1 v] },toks:=tk }:=by
 refine wpAny_pyIter_longrange (IsRange.new ..) hs ?_
 have I1:Inv X pins σ H { s with heap:=s.heap.push { cls:=.type "range",data:=.fields #[.int lo t,.int hi u,.int 1 v] },toks:=tk }:=I.kept λb o e=>Heap.get?_push_of_some _ e
 have e1:lo+((0:Nat):Int)*1=lo:=by simp
 have e2:(((hi-lo).toNat:Nat):Int)-((0:Nat):Int)=Builtin.Range.rangeSize lo hi 1:=by rw[MI];simp
 generalize hh:s.heap.push { cls:=.type "range",data:=.fields #[.int lo t,.int hi u,.int 1 v] } = h1 at I1
 refine⟨h1.objs.size,[h1.objs.size],_,_,H,rfl,I1.kept (t':=tk) λb o e=>Heap.get?_push_of_some _ e,IF _ lo (hi-lo).toNat,?_,λb hb=>?_,q⟩
 ·show IsLongIter _ _ (lo+((0:Nat):Int)*1) ((((hi-lo).toNat:Nat):Int)-((0:Nat):Int)) 1
  rw[e1,e2]
  exact Heap.get?_push_size _ rfl
 ·have e:b=h1.objs.size:=by simpa using hb
  subst e
  exact I1.fpOk (Nat.le_refl _) (I1.hok.fresh (Nat.le_refl _))
theorem SG {pins:List (Addr × Obj)} {σ:St} {H:Hp} {s:Shared} {R:It->Hp->Prop} {E:Value->Shared->Prop} {lo hi:Int} {t u v:Tok} {tk:Nat} (I:Inv X pins σ H s)
  (q:R (Itr lo (hi-lo).toNat) H):wpAny (model X.prog X.w) X.A (pyIter (.ref s.heap.objs.size)) (PIE X pins σ tg R) E { s with heap:=s.heap.push { cls:=.type "range",data:=.fields #[.int lo t,.int hi u,.int 1 v] },toks:=tk }:=by
 cases hs:Builtin.Range.small lo hi 1 with
 | false=>exact ON I hs q
 | true =>
  refine wpAny_pyIter_range (IsRange.new ..) hs ?_
  have I1:Inv X pins σ H { s with heap:=s.heap.push { cls:=.type "range",data:=.fields #[.int lo t,.int hi u,.int 1 v] },toks:=tk }:=I.kept λb o e=>Heap.get?_push_of_some _ e
  have e1:lo+((0:Nat):Int)*1=lo:=by simp
  have e2:(((hi-lo).toNat:Nat):Int)-((0:Nat):Int)=Builtin.Range.rangeSize lo hi 1:=by rw[MI];simp
  generalize hh:s.heap.push { cls:=.type "range",data:=.fields #[.int lo t,.int hi u,.int 1 v] } = h1 at I1
  refine⟨h1.objs.size,[h1.objs.size],_,_,H,rfl,I1.kept (t':=tk) λb o e=>Heap.get?_push_of_some _ e,uP _ lo (hi-lo).toNat,?_,λb hb=>?_,q⟩
  ·show IsRangeIter _ _ (lo+((0:Nat):Int)*1) ((((hi-lo).toNat:Nat):Int)-((0:Nat):Int)) 1
   rw[e1,e2]
   exact Heap.get?_push_size _ rfl
  ·have e:b=h1.objs.size:=by simpa using hb
   subst e
   exact I1.fpOk (Nat.le_refl _) (I1.hok.fresh (Nat.le_refl _))
noncomputable def FJ (t:RA):RA:=λρ Q=>t ρ λds=>match ds with
 | [.int i,.int j]=>Q (cP i (j-i).toNat)
 | _=>False
theorem RZ {a b:Expr} {t:RA} {p pos:Pos} (hm:X.mg "range" = none) (ha:DA X [a,b] t) (hg:Gl X "range":=by rfl) (hs:starEach [a,b] X.env=[(false,eval a X.env),(false,eval b X.env)]:=by rfl) (hs2:starEach [b] X.env=[(false,eval b X.env)]:=by rfl) :
  DI X tg (.Call (.Name "range" p) [a,b] [] pos) (FJ t):=by
 intro pins s σ H R I hh
 obtain⟨ρ,P,st,q,k⟩:=hh
 refine Call_ (eJ I hg hm boot_range (PyProof.Rows.callWith_type1 (thn (ha pos pins s σ H (λvs H1=>∃i j:Int,vs=[.int i,.int j]/\Same H H1/\P (cP i (j-i).toNat)) I ⟨ρ,_,st,q,λds vs H1 hd s1 r=>?_⟩) λus s1 ⟨vs,H1,I1,r1,q1⟩=>?_) (by rw[hs,hs2]) (by rw[hs2];rfl)))
 ·split at hd
  ·rename_i i j
   rw[Reps.ints_inv (ns:=[i,j]) r]
   exact⟨i,j,rfl,s1,hd⟩
  ·exact hd.elim
 obtain⟨i,j,e,sm,q⟩:=q1
 subst e
 cases r1 with
 | cons r rr =>
  cases rr with
  | cons r' rr =>
   cases rr
   obtain⟨t,rfl⟩:=r
   obtain⟨t',rfl⟩:=r'
   exact call_range_2 (SG I1 (k _ _ H1 q sm (CN i _)))
noncomputable def JG:R22:=λx y Q=>match x,y with
 | .bl a,.bl b=>Q (.int ((if a then 1 else 0)-(if b then 1 else 0)))
 | _,_=>False
end
end L2.R2
set_option Elab.async false
set_option linter.all false
set_option maxRecDepth 100000
set_option maxHeartbeats 1000000
namespace HT
open PySem PyProof.Rows
section
open PySem.SeqAt
open PySem.AutoSeq1 (wpAny_loadPart')
open PySem.MeetsSeq PySem.MeetsSeq2 PySem.MeetsSeq3
end
section
variable {prog:Program} {w:World} {A:Around} {E:Value->Shared->Prop} {s:Shared}
end
end HT
namespace L2.R2
open PySem PySem.Spec PyProof.Rows L2
section
variable {prog:Program} {w:World} {A:Around} {E:Value->Shared->Prop} {s:Shared}
end
section
variable {X:Cx}
noncomputable def WZ:List D->(D->Prop)->Prop:=λds Q=>∃ns ms,ds=[dM ns,dM ms]/\Q (dM (if HT.lexLt ms ns=true then ms else ns))
noncomputable def WY:List D->(D->Prop)->Prop:=λds Q=>∃ns ms,ds=[dM ns,dM ms]/\Q (dM (if HT.lexLt ns ms=true then ms else ns))
end
section
variable {X:Cx} {pins:List (Addr × Obj)} {σ:St} {H:Hp} {s:Shared}
theorem Inv.thaw {a:Addr} {xs:List V} {o:Obj} (I:Inv X pins σ H s) (h:H a=some (.frz o (.lst xs))) (h0:X.H₀ a=none):Inv X pins σ (upd H a (.lst xs)) s:=by
 have nn:∀b,H b=none->upd H a (.lst xs) b=none:=λb q=>by rw[aI (by rintro rfl;rw[h] at q;cases q)];exact q
 have ne0:∀b u,X.H₀ b=some u->b≠a:=λb u q z=>by subst z;rw[h0] at q;cases q
 refine⟨I.ok,I.os,I.bare,⟨I.base.keep,I.base.slot,λb o q n x=>nn b (I.base.free b o q n x),I.base.there,λb ys q=>?_,λb o u q=>?_,λb ps q=>?_⟩,I.loc,I.cell,nn _ I.free,λx c e=>nn _ (I.freeC x c e),λp hp=>?_,λb u q=>?_,I.len⟩
 ·rw[aI (ne0 b _ q)];exact I.base.tups b ys q
 ·rw[aI (ne0 b _ q)];exact I.base.frzs b o u q
 ·rw[aI (ne0 b _ q)];exact I.base.tbls b ps q
 ·obtain⟨p1,p2,p3⟩:=I.pin p hp
  exact⟨p1,nn _ p2,p3⟩
 ·have st:∀{b:Addr} {u:HO},ObjOk X.prog X.w H s.heap b u->ObjOk X.prog X.w (upd H a (.lst xs)) s.heap b u:=λ{b u} q =>
   q.stay (λc v _ w=>w) (λc w=>by rw[aI (by rintro rfl;rw[h] at w;cases w)];exact w) λc ys w=>by rw[aI (by rintro rfl;rw[h] at w;cases w)];exact w
  by_cases hb:b=a
  ·subst hb
   rw[aW] at q;cases q
   exact st (show ObjOk X.prog X.w H s.heap b (.frz o (.lst xs)) from I.hok b _ h).2
  ·rw[aI hb] at q
   exact st (I.hok b u q)
end
section
variable {X:Cx} {e:Expr} {t:RT}
noncomputable def OI (i:Nat) (ρ:En):En:=match ρ[i]? with
 | some (some (.own ds))=>ρ.set i (some (.d (.lst ds)))
 | _=>ρ
end
noncomputable def rSeqN (t u:RS):RS:=λE ρ=>t { nx:=u E,rt:=λ_=>False } ρ
noncomputable def rRetO (i:Nat):RS:=λE ρ=>match ρ[i]? with
 | some (some (.own xs))=>E.rt (.lst xs)
 | _=>False
section
variable {X:Cx} {st:Stmt} {rest:List Stmt} {t u:RS} {x:Str} {p pos:Pos}
end
section
variable {P:Program} {w:World} {K:PySem.W.Frag} {mg:Str->Option Value} {base:Heap}
end
noncomputable def XE (F:FD) (t:RA):RA:=λρ Q=>t ρ λds=>F ds λd=>match d with
 | .lst xs=>Q xs
 | _=>False
section
variable {X:Cx} {k:Nat} {ps:List Str} {F:FD} {x:Str} {p pos:Pos} {e:Expr} {es:List Expr} {t:RA}
end
theorem rX:isSubtype (.type "range_iterator") (.type "reversed")=pure false:=by rw[isSubtype_type];kernel_rfl
theorem rW (r:Addr) (a b c:Int) (t u v:Tok) (hc0:¬(!(Builtin.Range.rangeFitsLong a && Builtin.Range.rangeFitsLong b && Builtin.Range.rangeFitsLong c && Builtin.Range.rangeFitsLong (-c) && Builtin.Range.rangeFitsLong (a-c) && Builtin.Range.rangeFitsLong (Builtin.Range.rangeSize a b c)))=true) :
  Meets (Builtin.«range.__reversed__» ⟨[.ref r],[]⟩) (λ_ R s=>IsRange s.heap r a b c t u v/\R (.ok (.ret (Value.ref s.heap.objs.size))) { s with heap:=s.heap.push { cls:=Value.type (if (Builtin.Range.rangeFitsLong a && Builtin.Range.rangeFitsLong b && Builtin.Range.rangeFitsLong c && Builtin.Range.rangeFitsLong (-c) && Builtin.Range.rangeFitsLong (a-c) && Builtin.Range.rangeFitsLong (Builtin.Range.rangeSize a b c))=true then "range_iterator" else "longrange_iterator"),data:=Data.fields #[rawInt (a+(Builtin.Range.rangeSize a b c-1)*c),rawInt (Builtin.Range.rangeSize a b c),rawInt (-c)] } }) :=
 .of_wp λprog w A R s h=>by obtain⟨hp,g,d,tk,os⟩:=s;obtain⟨hl,h⟩:=h;wp_walk;exact⟨_,rfl,h⟩
section
variable {prog:Program} {w:World} {A:Around} {E:Value->Shared->Prop} {s:Shared}
noncomputable def nR (n:Int):Obj:={ cls:=.type "range_iterator",data:=.fields #[rawInt (n-1),rawInt n,rawInt (-1)] }
theorem SH {n:Int} (h1:-(2 ^ 62)<=n) (h2:n<2 ^ 62):Builtin.Range.rangeFitsLong n=true:=by
 unfold Builtin.Range.rangeFitsLong
 simp only[Bool.and_eq_true,decide_eq_true_eq]
 omega
theorem mG {r:Addr} {n:Int} {t u v:Tok} {Q:Value->Shared->Prop} (h0:0<=n) (h2:n<2 ^ 62) (hr:IsRange s.heap r 0 n 1 t u v)
  (h:Q (.ref s.heap.objs.size) { s with heap:=s.heap.push (nR n) }):wpAny (model prog w) A (call (.builtin "range.__reversed__") [.ref r]) Q E s:=by
 have hT:s.TypeIs (.ref r) "range":=⟨_,hr,rfl⟩
 have sz:Builtin.Range.rangeSize 0 n 1=n:=by rw[rangeSize_one];split <;> omega
 have fit:(Builtin.Range.rangeFitsLong 0 && Builtin.Range.rangeFitsLong n && Builtin.Range.rangeFitsLong 1 && Builtin.Range.rangeFitsLong (-1) && Builtin.Range.rangeFitsLong (0-1) && Builtin.Range.rangeFitsLong (Builtin.Range.rangeSize 0 n 1))=true:=by
  rw[sz,SH (n:=n) (by omega) h2];decide
 refine call_meets F.slot_range_reversed hT F.entry_range_reversed (F.args_range_reversed_1 _) (rW r 0 n 1 t u v (by rw[fit];decide)) ⟨hr,?_⟩
 rw[fit,sz]
 have e:(0:Int)+(n-1)*1=n-1:=by omega
 rw[e]
 exact h
theorem mY {r:Addr} {n:Int} {t u v:Tok} {Q₁:Value->Shared->Prop} (h0:0<=n) (h2:n<2 ^ 62) (hr:IsRange s.heap r 0 n 1 t u v)
  (h:Q₁ (.ref s.heap.objs.size) { s with heap:=s.heap.push (nR n) }) :
  codeAny (model prog w) A (.call (.builtin "reversed.__new__") ⟨[.type "reversed",.ref r],[]⟩) (wants Q₁ E) s:=by
 have hT:s.TypeIs (.ref r) "range":=⟨_,hr,rfl⟩
 refine codeAny_of_tree ?_
 show wpAny _ A.in1 (do checkBuiltinCall "reversed.__new__" ⟨[.type "reversed",.ref r],[]⟩;again (.builtin "reversed.__new__" ⟨[.type "reversed",.ref r],[]⟩)) _ _ s
 refine wpAny_bind (wpAny_of_eq (F.newCall_reversed_1 _) (wpAny_pure ⟨plainId_quiet F.plain_reversed_new _,codeAny_builtin F.entry_reversed_new ?_⟩))
 rw[Around.under_plainId F.plain_reversed_new _]
 unfold Builtin.«reversed.__new__»
 refine wpAny_bind (wpAny_of_eq (newClass_reversed _) ?_)
 try dsimp only
 refine wpAny_bind (wpAny_of_eq (a:=()) (by first | rfl | kernel_rfl) ?_)
 refine wpAny_bind (wpAny_of_eq (a:=()) (by first | rfl | kernel_rfl) ?_)
 try dsimp only
 refine wpAny_bind (wpAny_specialOf hT F.slot_range_reversed.lookup ?_)
 try dsimp only
 refine wpAny_bind (wpAny_of_eq (F.slot_range_reversed.bind _) ?_)
 try dsimp only
 first
 | rw[if_neg (show ¬((Value.builtin "range.__reversed__" == Value.none)=true) from Bool.false_ne_true)]
 | (show wpAny _ _ (if (Value.builtin "range.__reversed__" == Value.none)=true then _ else _) _ _ _;rw[if_neg (show ¬((Value.builtin "range.__reversed__" == Value.none)=true) from Bool.false_ne_true)])
 refine wpAny_bind (wpAny_rule ?_)
 refine wpAny_bind (m:=runValue (.call (.builtin "range.__reversed__") ⟨[.ref r],[]⟩)) (show wpAny _ _ (call (.builtin "range.__reversed__") [.ref r]) _ _ _ from mG h0 h2 hr ?_)
 first
 | exact wpAny_pure h
 | exact wpAny_bind (wpAny_pure (wpAny_pure h))
theorem mH {r:Addr} {n:Int} {t u v:Tok} {Q:Value->Shared->Prop} (h0:0<=n) (h2:n<2 ^ 62) (hr:IsRange s.heap r 0 n 1 t u v)
  (h:Q (.ref s.heap.objs.size) { s with heap:=s.heap.push (nR n) }):wpAny (model prog w) A (call (.type "reversed") [.ref r]) Q E s:=by
 refine callType_other (U:="range_iterator") (Q₁:=λobj s₁=>obj = .ref s.heap.objs.size/\s₁ = { s with heap:=s.heap.push (nR n) }) (by decide +kernel) F.create_reversed ⟨_,_,F.mro_reversed⟩ F.made_reversed rX (F.typeCall_reversed_1 _) (mY h0 h2 hr ⟨rfl,rfl⟩) ?_
 rintro obj s₁ ⟨rfl,rfl⟩
 exact⟨⟨_,Heap.get?_push_size _ rfl,rfl⟩,h⟩
end
noncomputable def UP (n:Nat):It:=⟨λi _=>i<n,λi H x H'=>H'=H/\x = .int ((n:Int)-1+i*(-1)),λi _=>n<=i⟩
theorem BV {P:Program} {w:World} {K:PySem.W.Frag} {tg:Expr} (it:Addr) (n:Nat):Turn P w K tg (UP n) [it] it (λi h=>IsRangeIter h it ((n:Int)-1+(i:Nat)*(-1)) ((n:Int)-(i:Nat)) (-1)) where
 mem:=by simp
 obj:=λi h st b hb=>by
  have e:b=it:=by simpa using hb
  subst e
  exact⟨_,st,λv z=>by have z':Data.fields _=Data.cell v:=z;cases z'⟩
 keep:=λi h h' st k=>k it (by simp) _ st
 item:=by
  intro X hP hw hK hc i pins s σ H E I hf st hg
  subst hP hw hK
  obtain⟨f0,f1,f2,f3,f4,f5⟩:=hf it (by simp)
  have W:=Walks.range (prog:=X.prog) (w:=X.w) (I.ok.hd hc) it ((n:Int)-1) (-1) n
  refine W.item i s _ _ hg st λv h' tk hv st' kk=>?_
  obtain⟨t,rfl⟩:=hv
  have I1:Inv X pins σ H { s with heap:=h',toks:=tk }:=I.turned (λb o hb e=>kk b o (by simpa using hb) e) f0 f1 f3 f4 f5
  exact⟨_,rfl,wB (s:={ s with heap:=h',toks:=tk }) (n:="range_iterator") st' rfl rfl (by decide) ⟨.int ((n:Int)-1+i*(-1)),H,I1,⟨t,rfl⟩,⟨rfl,rfl⟩,st',λb hb=>(hf b hb).1⟩⟩
 done:=by
  intro X hP hw hK hc i pins s σ H E I hf st hg
  subst hP hw hK
  obtain⟨f0,f1,f2,f3,f4,f5⟩:=hf it (by simp)
  exact wpAny_pyNext_range_end (I.ok.hd hc) st (by have:n<=i:=hg;omega) λh' eb=>⟨rfl,I.turned (t':=s.toks) (λb o hb e=>eb b o hb e) f0 f1 f3 f4 f5⟩
 self:=λ_ _ _ _ _ st h=>wpAny_pyIter_rangeiter st h
section
variable {X:Cx} {tg a:Expr} {t:RA} {pos p pos2 p2:Pos}
theorem NY {H0:Hp} (n:Nat):CB X (UP n) (cP 0 n).reverse H0:=λi H kp=>by
 have hl:(cP 0 n).length=n:=by simp[cP]
 refine⟨λd e=>?_,λhl2=>by show n<=i;rw[List.length_reverse,hl] at hl2;exact hl2⟩
 by_cases hi:i<n
 ·rw[List.getElem?_reverse (by omega),hl] at e
  unfold cP at e
  rw[List.getElem?_map,List.getElem?_range (by omega)] at e
  cases e
  refine⟨hi,λx H' y=>by
   obtain⟨rfl,rfl⟩:=y
   refine⟨Same.refl _,?_⟩
   rw[show (n:Int)-1+(i:Int)*(-1)=0+((n-1-i:Nat):Int) by omega]
   exact .int _⟩
 ·rw[List.getElem?_eq_none (by rw[List.length_reverse,hl];omega)] at e;cases e
structure RvOk (j:Int):Prop where
 lo:0<=j
 hi:j<2 ^ 62
noncomputable def ED (t:RA):RA:=λρ Q=>t ρ λds=>match ds with
 | [.int j]=>RvOk j/\Q (cP 0 j.toNat).reverse
 | _=>False
theorem NK (hm:X.mg "reversed" = none) (hm2:X.mg "range" = none) (ha:DA X [a] t) (hg:Gl X "reversed":=by rfl) (hg2:Gl X "range":=by rfl) (hs2:starEach [a] X.env=[(false,eval a X.env)]:=by rfl)
  (hs:starEach [.Call (.Name "range" p2) [a] [] pos2] X.env=[(false,eval (.Call (.Name "range" p2) [a] [] pos2) X.env)]:=by rfl) (hn:starEach [] X.env=[]:=by rfl) :
  DI X tg (.Call (.Name "reversed" p) [.Call (.Name "range" p2) [a] [] pos2] [] pos) (ED t):=by
 intro pins s σ H R I hh_0
 obtain⟨ρ,P,st,q,kk⟩:=hh_0
 refine Call_ (eJ I hg hm mL (PyProof.Rows.callWith_type1 ?_ (by rw[hs,hn]) (by rw[hn];rfl)))
 rw[hs]
 show wpAny _ _ (spliced ((false,eval (.Call (.Name "range" p2) [a] [] pos2) X.env)::backTo pos [])) _ _ s
 refine Calls.spliced_cons (wpAny_Call_Name_kw (eJ I hg2 hm2 boot_range ?_))
 refine PyProof.Rows.callWith_type1 (thn (ha pos2 pins s σ H (λvs H1=>∃j:Int,vs=[.int j]/\Same H H1/\RvOk j/\P (cP 0 j.toNat).reverse) I ⟨ρ,_,st,q,λds vs H1 hd s1 r=>?_⟩) λus s1 ⟨vs,H1,I1,r1,q1⟩=>?_) hs2 (by rfl)
 ·split at hd
  ·rename_i j
   rw[Reps.ints_inv (ns:=[j]) r]
   exact⟨j,rfl,s1,hd.1,hd.2⟩
  ·exact hd.elim
 obtain⟨j,rfl,s01,hj,hp⟩:=q1
 obtain⟨u,rfl,⟨tk,rfl⟩⟩:=lX r1
 refine call_range_1 (Calls.spliced_nil ?_)
 have I2:Inv X pins σ H1 { s1 with heap:=s1.heap.push { cls:=.type "range",data:=.fields #[.int 0 s1.toks,.int j tk,.int 1 (s1.toks+1)] },toks:=s1.toks+1+1 }:=I1.kept λb o e=>Heap.get?_push_of_some _ e
 have hR:IsRange (s1.heap.push { cls:=.type "range",data:=.fields #[.int 0 s1.toks,.int j tk,.int 1 (s1.toks+1)] }) s1.heap.objs.size 0 j 1 s1.toks tk (s1.toks+1):=IsRange.new ..
 generalize hh:s1.heap.push { cls:=.type "range",data:=.fields #[.int 0 s1.toks,.int j tk,.int 1 (s1.toks+1)] } = h1 at I2 hR
 refine mH hj.lo hj.hi hR ?_
 have hit:({ s1 with heap:=h1.push (nR j),toks:=s1.toks+1+1 }:Shared).heap.get? h1.objs.size=some (nR j):=Heap.get?_push_size _ rfl
 have en:((j.toNat:Nat):Int)=j:=Int.toNat_of_nonneg hj.lo
 have hit2:IsRangeIter ({ s1 with heap:=h1.push (nR j),toks:=s1.toks+1+1 }:Shared).heap h1.objs.size (((j.toNat:Nat):Int)-1+((0:Nat):Int)*(-1)) (((j.toNat:Nat):Int)-((0:Nat):Int)) (-1):=by
  rw[en,show j-1+((0:Nat):Int)*(-1)=j-1 by omega,show j-((0:Nat):Int)=j by omega]
  exact hit
 refine wpAny_pyIter_rangeiter hit2 ⟨h1.objs.size,[h1.objs.size],_,_,H1,rfl,I2.kept (t':=s1.toks+1+1) λb o e=>Heap.get?_push_of_some _ e,BV _ j.toNat,hit2,λb hb=>?_,kk _ _ H1 hp s01 (NY _)⟩
 rw[List.mem_singleton.mp hb];exact I2.fpOk (Nat.le_refl _) (I2.hok.fresh (Nat.le_refl _))
end
noncomputable def dNeL:R22:=λx y Q=>match x,y with
 | .lst xs,.lst ys=>xs.length=ys.length/\match eqL (eqF 5) xs ys with
  | some b=>Q (.bl !b)
  | none=>False
 | _,_=>False
section
variable {X:Cx}
end
section
variable {K:PySem.W.Frag} {H₀ H:Hp}
end
section
variable {X:Cx} {e k:Expr} {pos pos' p p1 p2 apos cpos npos spos:Pos} {te tk:RE} {x:Str}
noncomputable def rBNew (i:Nat):RS:=λE ρ=>E.nx (ρ.set i (some (.box false [[],[]])))
noncomputable def rBApp (i:Nat) (tk te:RE):RS:=λE ρ=>match ρ[i]? with
 | some (some (.box false xss))=>tk ρ λkd=>match kd with
  | .int k=>∃(j:Nat) (ds:List D),(k=(j:Int)/\xss[j]? = some ds/\Sz (ds.length+1))/\te ρ λd=>E.nx (ρ.set i (some (.box false (xss.set j (ds++[d])))))
  | _=>False
 | _=>False
end
noncomputable abbrev zk (xss:List (List D)):List (Int × List D):=xss.map λx=>(0,x)
noncomputable def rRetB (i:Nat) (ta tb:RA):RS:=λE ρ=>match ρ[i]? with
 | some (some (.own xs))=>ta ρ λys=>tb ρ λzs=>E.rt (.tup [.lst xs,.lst ys,.lst zs])
 | _=>False
section
variable {X:Cx} {st:Stmt} {rest:List Stmt} {t u:RS} {x:Str} {p pos tp:Pos} {j:Nat} {e1 e2:Expr} {ta tb:RA}
end
section
variable {P:Program} {w:World} {K:PySem.W.Frag} {mg:Str->Option Value} {base:Heap}
end
noncomputable def rSetB (j:Nat) (F:FD) (t:RA):RS:=λE ρ=>t ρ λds=>F ds λd=>∃xss:List (List D),d = .tup (xss.map .lst)/\E.nx (ρ.set j (some (.box true xss)))
section
variable {X:Cx} {k j:Nat} {ps:List Str} {F:FD} {x y:Str} {p pos pos' cpos:Pos} {e:Expr} {es:List Expr} {t:RA}
end
section
variable {X:Cx} {pins:List (Addr × Obj)} {σ:St} {s:Shared}
end
section
variable {K:PySem.W.Frag} {H₀ H H':Hp}
end
noncomputable def lendB (i:Nat) (ρ:En):En:=match ρ[i]? with
 | some (some (.box true xss))=>ρ.set i (some (.d (.tup (xss.map .lst))))
 | _=>ρ
section
variable {X:Cx} {e:Expr} {t:RT}
end
section
variable {X:Cx} {ρ:En} {σ:St} {H:Hp}
end
noncomputable def rBFor (i j:Nat):RS:=λE ρ=>match ρ[i]? with
 | some (some (.box true xss))=>(j<ρ.length/\∀ds∈xss,Sz (ds.length+1))/\E.nx ((ρ.set j none).set i (some (.box true (xss.map (· ++ [.non])))))
 | _=>False
section
variable {X:Cx} {x y:Str} {pos cpos apos npos pos' xpos epos:Pos} {jn:Nat}
end
noncomputable def rGet2 (ta tk tf:RE):RE:=λρ Q=>ta ρ λx=>match x with
 | .dct ks ds=>tk ρ λy=>match y with
  | .int k=>tf ρ λz=>Q ((mM ks ds k).getD z)
  | _=>False
 | _=>False
section
variable {X:Cx} {a k f:Expr} {ta tk tf:RE} {apos cpos:Pos}
end
noncomputable def dInI:R22:=λx y Q=>match x,y with
 | .int i,.lst ds=>∃ns:List Int,ds=ns.map .int/\Q (.bl (decide (i∈ns)))
 | _,_=>False
section
variable {X:Cx}
end
section
variable {prog:Program} {w:World} {A:Around} {E:Value->Shared->Prop} {s:Shared}
end
noncomputable def rgLst (n:Nat) (g:RGs):RG:=λd ρ Q=>match d with
 | .lst ds=>ds.length=n/\g ds ρ Q
 | _=>False
section
variable {X:Cx} {pos:Pos}
end
noncomputable def dEqD:R22:=λx y Q=>match eqF 9 x y with
 | some b=>Q (.bl b)
 | none=>False
section
variable {X:Cx}
end
open PySem.W in
section
variable {K:PySem.W.Frag} {prog:Program} {w:World} {A:Around} {E:Value->Shared->Prop} {s:Shared} {x C:Addr} {o:Obj}
open PySem.W Builtin Builtin.ObjectAttr Builtin.Getset_descriptor
end
section
variable {P:Program} {w:World} {H H':Hp} {h h':Heap} {a:Addr} {u:HO}
end
structure FlyAt (P:Program) (w:World) (C:Addr) (outer:List Env) (H:Hp) (s:Shared) (a:Addr) (B:Heap) (a0:Value) (H':Hp) (s':Shared):Prop where
 os:s'.os=s.os
 bare:AllBare s'.gens
 same:Same H H'
 free:∀b o,s.heap.get? b=some o->H b=none->H' b=none
 bT:∀b u,H' b=some u->∀o,s'.heap.get? b=some o->B.get? b=some o
 bU:∀b o,s.heap.get? b=some o->H b=none->b ∉ frs outer->B.get? b=some o
 thr:∀b o,s.heap.get? b=some o->∃o',s'.heap.get? b=some o'
 fr:∀b∈frs outer,∀o,s.heap.get? b=some o->∃sl,s'.heap.get? b=some { o with slots:=sl }
 frn:∀b∈frs outer,H b=none/\∀o,s.heap.get? b=some o->∀vs,o.data≠.fields vs
 hok:HOk P w H' s'.heap
 fly:Heap.FlyingW B outer a (.ref C) a0 s'.heap
section
variable {P:Program} {w:World} {C:Addr} {outer:List Env} {H H':Hp} {s s':Shared} {a:Addr} {B:Heap} {a0:Value} {h6:Heap}
end
section
variable {X:Cx} {pins:List (Addr × Obj)} {σ:St} {H H1:Hp} {s s1:Shared} {C e:Addr} {E:XK} {EE:Value->Shared->Prop}
end
open PySem.W in
section
variable {X:Cx} {C:Addr} {x:Str} {np cpos pos:Pos} {msg:Str} {j:Nat} {p:Pos}
end
section
variable {X:Cx} {C:Addr} {k:Nat} {ps:List Str} {F:List D->Prop} {x:Str} {p pos:Pos} {e:Expr} {es:List Expr} {t:RA}
end
section
variable {X:Cx} {pins:List (Addr × Obj)} {σ:St} {H:Hp} {s:Shared}
end
section
variable {K:PySem.W.Frag}
open PySem.W in
end
section
variable {X:Cx} {C e:Addr} {oe:Obj} {b:Bool}
end
section
variable {X:Cx} {C:Addr} {k:Nat} {ps:List Str} {F:List D->Prop} {g:Str} {ea:Expr} {es:List Expr} {t:RA} {q1 q2 q3 q4 q5 q6 q7 q8 q9 q10 q11 q12 q13 q14 q15 q16 q17 q18 q19 q20 q21 q22 q23 q24 q25 q26 q27 q28 q29 q30 q31:Pos} {j1 j2 j3:Nat}
end
section
variable {P:Program} {w:World} {K:PySem.W.Frag} {mg:Str->Option Value} {base:Heap}
end
section
variable {X:Cx} {C:Addr} {c:Expr} {tc:RT} {x:Str} {np cpos pos pos2 p:Pos} {msg:Str} {j:Nat} {rest:List Stmt}
end
section
variable {prog:Program} {w:World} {A:Around} {E:Value->Shared->Prop} {h:Heap} {g:Array GenState} {d:Drawn} {t:Nat} {os:OsState}
variable {nm qn:Str} {C N:Addr} {bs bm bB:List Value} {hd:Bool} {sn:List Str} {sub:List Value} {ab:Bool} {col:Option Bool} {dd:Option Addr} {k0 k1 k2 k3 k5:Option Value} {B nI iI:String}
end
section
variable {K:PySem.W.Frag} {prog:Program} {w:World} {A:Around} {E:Value->Shared->Prop} {s:Shared} {e C:Addr} {oe:Obj} {x:Str} {v:Value}
open PySem.W Builtin Builtin.ObjectAttr
end
section
variable {prog:Program} {w:World} {A:Around} {E:Value->Shared->Prop} {h:Heap} {g:Array GenState} {d:Drawn} {t:Nat} {os:OsState}
variable {nm qn:Str} {C N:Addr} {bs bm:List Value} {hd:Bool} {sn:List Str} {sub:List Value} {ab:Bool} {col:Option Bool} {dd:Option Addr} {k0 k1 k2 k3 k5:Option Value} {nI:String}
end
noncomputable def Kd (e:Addr) (d:Option Addr) (h:Heap):Prop:=e<h.objs.size/\∀o,h.get? e=some o->o.dict=d
open PySem.W in
open PySem.W in
open PySem.W in
section
variable {P:Program} {w:World} {H:Hp} {h:Heap} {C e dx:Addr}
end
section
variable {X:Cx} {C Cb f:Addr} {x y self:Str} {p p0 p1 p2 apos pos pos':Pos} {msg:Str} {j i:Nat}
end
section
variable {X:Cx} {C Cb f:Addr} {y x:Str} {k:Nat} {p pos:Pos} {a:Expr} {ta:TE}
end
noncomputable def CXD (P:Program) (w:World) (C:Addr):CXT:=λouter H s E e s'=>∃a B a0 H' dx,e = .ref a/\FlyAt P w C outer H s a B a0 H' s'/\(Kd a (some dx) s'.heap/\H dx=none)/\E (.ref C) (some dx) H'
section
variable {X:Cx} {pins:List (Addr × Obj)} {σ:St} {H H1:Hp} {s s1:Shared} {C e dx:Addr} {E:XK} {EE:Value->Shared->Prop}
end
section
variable {M:Model} {A:Around} {E:Value->Shared->Prop} {env:Env} {nm q:Str} {C N:Addr} {bs bm:List Value} {hd:Bool} {sn:List Str} {sub:List Value} {ab:Bool} {col:Option Bool} {dd:Option Addr} {k0 k1 k2 k3 k5:Option Value} {nI:String}
end
theorem CXD.mono {P:Program} {w:World} {C:Addr} {outer:List Env} {H:Hp} {s s':Shared} {E E':XK} {v:Value} (h:CXD P w C outer H s E v s') (k:∀u d H',E u d H'->E' u d H'):CXD P w C outer H s E' v s':=by
 obtain⟨a,B,a0,H',dx,e1,F,kd,hE⟩:=h
 exact⟨a,B,a0,H',dx,e1,F,kd,k _ _ _ hE⟩
noncomputable def XI (PP:Int->Prop) (te:RE):RS:=λ_ ρ=>te ρ λd=>match d with
 | .int c=>PP c
 | _=>False
section
variable {X:Cx} {C Cb f:Addr} {y x:Str} {k:Nat} {p np cpos pos:Pos} {a:Expr} {te:RE} {PP:Int->Prop}
end
noncomputable abbrev FDX:=List D->(D->Prop)->(Int->Prop)->Prop
section
variable {P:Program} {w:World} {K:PySem.W.Frag} {mg:Str->Option Value} {base:Heap} {C:Addr} {y x:Str} {ps:List Str} {k:Nat}
end
noncomputable def XF (F:FDX) (PP:Int->Prop) (t:RA):RE:=λρ Q=>t ρ λds=>F ds Q PP
section
variable {X:Cx} {C:Addr} {y x:Str} {k:Nat} {ps:List Str} {F:FDX} {PP:Int->Prop} {p pos:Pos} {e:Expr} {es:List Expr} {t:RA}
end
section
variable {X:Cx} {pins:List (Addr × Obj)} {σ:St} {H:Hp} {s:Shared} {a:Addr} {φ:Heap->Prop}
end
section
variable {X:Cx} {C:Addr} {y:Str} {k:Nat} {ps:List Str} {F:FDX} {PP:Int->Prop} {x:Str} {p pos:Pos} {e:Expr} {es:List Expr} {t:RA}
end
section
variable {X:Cx} {C:Addr} {k:Nat} {ps:List Str} {F:FDX} {g y vn:Str} {ea:Expr} {es:List Expr} {t:RA} {q1 q2 q3 q4 q5 q6 q7 q8 q9 q10 q11 q12 q13 q14:Pos} {j1:Nat}
end
noncomputable abbrev FDE:=List D->(Int->Prop)->Prop
noncomputable def rSetE (j:Nat) (F:FDE) (C:Addr) (y:Str) (t:RA):RS:=λE ρ=>t ρ λds=>∃PP,F ds PP/\∀c,PP c->E.nx (ρ.set j (some (.exc C y c)))
noncomputable def rIsiE (i:Nat) (C:Addr) (b:Bool):RE:=λρ Q=>match ρ[i]? with
 | some (some (.exc C' _ _))=>C'=C/\Q (.bl b)
 | _=>False
noncomputable def rColE (i:Nat) (C:Addr) (y:Str):RE:=λρ Q=>match ρ[i]? with
 | some (some (.exc C' y' c))=>(C'=C/\y'=y)/\Q (.int c)
 | _=>False
noncomputable def rColN (te:RE):RE:=λρ Q=>te ρ λd=>match d with
 | .int c=>Q (.int c)
 | _=>False
section
variable {X:Cx} {k j i:Nat} {ps:List Str} {F:FDE} {x y z:Str} {p p1 p2 p3 p4 pos pos' cpos:Pos} {e:Expr} {es:List Expr} {t:RA} {C:Addr} {b:Bool}
end
section
variable {X:Cx} {k i:Nat} {x y:Str} {p p1 pos cpos:Pos} {a:Expr} {te:RE} {C Cb f:Addr}
end
end L2.R2
set_option Elab.async false
set_option linter.all false
set_option maxRecDepth 100000
set_option maxHeartbeats 1000000
namespace L2.R2
open PySem PySem.W PyProof.Rows
section
variable {prog:Program} {w:World} {A:Around} {E:Value->Shared->Prop} {s:Shared} {κ:SortKind} {O:KeyOrd} {k:Keyed->O.α} {G:Keyed->Prop}
noncomputable def at' (a:Array Keyed) (i:Nat):Keyed:=a.getD i (Value.none,Value.none)
section
variable {left:Bool} {key:Keyed} {arr:Array Keyed} {base n:Nat} {bey:Nat->Bool} {Q:Option Nat->SortSt->Prop} {st:SortSt}
end
end
section
variable {α:Type} {R:α->α->Prop} {al bl out A A1 A2 B B1 B2:List α}
end
section
variable {prog:Program} {w:World} {A:Around} {E:Value->Shared->Prop} {s:Shared} {κ:SortKind} {O:KeyOrd} {k:Keyed->O.α} {G:Keyed->Prop}
section
variable {a b out:Array Keyed} {ia ib m:Nat}
end
section
variable {a b out:Array Keyed} {ia ib mg ac bc n0:Nat} {st:SortSt} {F:Option Value} {P:Array (Nat × Nat × Nat)} {X:Array Keyed}
end
end
section
variable {prog:Program} {w:World} {A:Around} {E:Value->Shared->Prop} {s:Shared} {κ:SortKind} {O:KeyOrd} {k:Keyed->O.α} {G:Keyed->Prop}
section
variable {a b out:Array Keyed} {na nb q:Nat}
end
section
variable {a b out:Array Keyed} {na nb mg ac bc n0:Nat} {st:SortSt} {F:Option Value} {P:Array (Nat × Nat × Nat)} {X:Array Keyed}
end
end
section
variable {prog:Program} {w:World} {A:Around} {E:Value->Shared->Prop} {s:Shared} {κ:SortKind} {O:KeyOrd} {k:Keyed->O.α} {G:Keyed->Prop}
end
section
variable {prog:Program} {w:World} {A:Around} {E:Value->Shared->Prop} {s:Shared} {κ:SortKind} {O:KeyOrd} {k:Keyed->O.α} {G:Keyed->Prop}
structure SB (κ:SortKind) (P:Array (Nat × Nat × Nat)) (X:Array Keyed) (st:SortSt):Prop where
 kind:PyProof.Rows.kindOf st=κ
 failed:failedOf st=none
 pend:pendingOf st=P
 perm:(arrOf st).Perm X
section
variable {X:Array Keyed} {P:Array (Nat × Nat × Nat)} {st:SortSt}
theorem SB.size (B:SB κ P X st):(arrOf st).size=X.size:=B.perm.size_eq
end
end
section
variable {prog:Program} {w:World} {A:Around} {E:Value->Shared->Prop} {s:Shared} {κ:SortKind} {O:KeyOrd} {k:Keyed->O.α} {G:Keyed->Prop} {X:Array Keyed} {st:SortSt}
end
end L2.R2
set_option Elab.async false
set_option linter.all false
set_option maxRecDepth 100000
set_option maxHeartbeats 3200000
namespace L2.R2
open PySem PySem.W PySem.SetTable PyProof.Rows
section
variable {prog:Program} {w:World} {A:Around} {E:Value->Shared->Prop} {s:Shared}
end
end L2.R2
namespace L2.R2
open PySem PySem.Spec PyProof.Rows L2
noncomputable def UO (te:RE):RA:=λρ Q=>te ρ λx=>∃nss:List (List Int),x = .lst (nss.map dM)/\nss.length<76/\(∀ns∈nss,ns≠[])/\∀mss:List (List Int),mss.Pairwise (λx y=>eK y x=false)->(∀ns,ns∈mss↔ns∈nss)->mss.length<=nss.length->Q (mss.map dM)
section
variable {X:Cx} {e:Expr} {te:RE} {p pz pos posz:Pos}
end
noncomputable def WV (te:RE):RE:=λρ Q=>te ρ λx=>∃nss:List (List Int),x = .lst (nss.map dM)/\nss.length<=75/\∀mss:List (List Int),mss.Nodup->(∀ns,ns∈mss↔ns∈nss)->Q (.int mss.length)
section
variable {X:Cx} {e:Expr} {te:RE} {p pz pos posz:Pos}
end
noncomputable def WU:R22:=λx y Q=>match y with
 | .lst ds=>∃(ks:List Int) (nss:List (List Int)),x=dM ks/\ds=nss.map dM/\Q (.bl (!decide (ks∈nss)))
 | _=>False
section
variable {X:Cx}
end
end L2.R2
set_option Elab.async false
set_option linter.all false
set_option maxRecDepth 100000
namespace L2.R2
open PySem PySem.Spec PyProof.Rows L2 PySem.W
structure DEnt (h:Heap) (d:Addr) (es:Array DictEntry) (ep:Nat):Prop where
 ex:∃o,h.get? d=some o/\o.ExactDict/\o.data = .dict es ep
section
variable {prog:Program} {w:World} {A:Around} {E:Value->Shared->Prop} {s:Shared} {d it:Addr} {es:Array DictEntry} {ep i:Nat}
theorem DEnt.typeIs (x:DEnt s.heap d es ep):s.TypeIs (.ref d) "dict":=let ⟨o,h1,h2,_⟩:=x.ex;⟨o,h1,h2.1⟩
theorem DEnt.at {h h':Heap} (x:DEnt h d es ep) (k:∀o,h.get? d=some o->h'.get? d=some o):DEnt h' d es ep:=let ⟨o,h1,h2⟩:=x.ex;⟨o,k o h1,h2⟩
theorem DEnt.lt {h:Heap} (x:DEnt h d es ep):d<h.objs.size:=let ⟨_,h1,_⟩:=x.ex;Heap.lt_size h1
theorem GI {Q:Value->Shared->Prop} (hd:(d == sysModules)=false) (x:DEnt s.heap d es ep)
  (hQ:Q (.ref s.heap.objs.size) { s with heap:=s.heap.push { cls:=.type "dict_keyiterator",data:=.fields #[.ref d,.int 0 0,.int es.size 0,.int ep 0] } }):wpAny (model prog w) A (pyIter (.ref d)) Q E s:=by
 obtain⟨o,ho,_,hdat⟩:=x.ex
 refine wpAny_pyIter_slot x.typeIs F.slot_dict_iter (wpAny_call_entry F.slot_dict_iter x.typeIs F.entry_dict_iter ?_ (F.args_dict_iter_1 _))
 unfold Builtin.«dict.__iter__» Builtin.Dict.dictSlotNone
 refine wpAny_bind (wpAny_bind (wpAny_notOrdered_dict x.typeIs ?_))
 show wpAny _ _ (pure (Value.ref d)) _ _ s
 refine wpAny_pure ?_
 show wpAny _ _ (Builtin.Dict.showsAll d >>= _) _ _ s
 unfold Builtin.Dict.showsAll
 rw[if_neg (by rw[hd];exact Bool.false_ne_true)]
 exact wpAny_bind (wpAny_pure (wpAny_bind (wpAny_dictEntries ho hdat (wpAny_bind (wpAny_dictEpoch ho hdat (wpAny_bind (wpAny_newObj_type (wpAny_pure ⟨_,rfl,"dict_keyiterator",_,⟨_,Heap.get?_push_size _ rfl,rfl⟩,F.slot_dict_keyiterator_next.lookup,hQ⟩))))))))
theorem GJ {Q:Option Value->Shared->Prop} (hit:s.heap.IsKeyIter it d i es.size ep) (x:DEnt s.heap d es ep) (hi:i<es.size)
  (hQ:∀h',h'.IsKeyIter it d (i+1) es.size ep->Heap.SameBut it s.heap h'->Q (some es[i].key) { s with heap:=h' }):wpAny (model prog w) A (pyNext (.ref it)) Q E s:=by
 obtain⟨o,ho,hc,hd⟩:=id hit
 obtain⟨od,hod,_,hdd⟩:=x.ex
 have ty:=hit.typeIs
 refine wpAny_bind (wpAny_attempt (wpAny_callSpecial?_slot (name:=Str.ofString "__next__") ty F.slot_dict_keyiterator_next (wpAny_call_entry F.slot_dict_keyiterator_next ty F.entry_dict_keyiterator_next ?_ (F.args_dict_keyiterator_next_1 _))))
 refine wpAny_bind (wpAny_pure (wpAny_bind (wpAny_bind ?_)))
 first | refine wpAny_bind (wpAny_typeNameOfWhole_keyiter ty (wpAny_pure ?_)) | refine wpAny_bind (wpAny_typeNameOf_keyiter ty (wpAny_pure ?_))
 refine wpAny_bind (wpAny_fieldsOf ho hd ?_)
 rw[if_neg (show ¬(Builtin.Dict_items.ownsTuple "dict_keyiterator")=true by decide)]
 show wpAny _ _ (if (Value.ref d == Value.none)=true then _ else _) _ _ s
 rw[if_neg (show ¬((Value.ref d == Value.none)=true) from Bool.false_ne_true)]
 refine wpAny_bind (wpAny_pure (wpAny_bind (wpAny_dictEntries hod hdd ?_)))
 rw[if_neg (by simp)]
 refine wpAny_bind (wpAny_pure (wpAny_bind (wpAny_dictEpoch hod hdd ?_)))
 rw[if_neg (by simp)]
 refine wpAny_pure ?_
 simp only[show ¬((i:Int)<0) from by omega,if_false,Int.toNat_natCast,Array.getElem?_eq_getElem hi]
 refine wpAny_bind ?_
 first | refine wpAny_bind (wpAny_typeNameOfWhole_keyiter ty (wpAny_pure ?_)) | refine wpAny_bind (wpAny_typeNameOf_keyiter ty (wpAny_pure ?_))
 refine wpAny_bind (wpAny_isOneOf_keyiter ty ?_)
 show wpAny _ _ (setField (.ref it) 1 (rawInt ((i:Int)+1)) >>= _) _ _ s
 have it':(s.heap.update it (Obj.mapFields (·.setIfInBounds 1 (rawInt ((i:Int)+1))))).IsKeyIter it d (i+1) es.size ep :=
  ⟨_,Heap.get?_update_self _ ho (Obj.isFreed_of_fields (Obj.data_mapFields hd _)),(Obj.cls_mapFields ..).trans hc,by rw[Obj.data_mapFields hd];simp[rawInt]⟩
 refine wpAny_bind (wpAny_setField ho hd (by simp) (wpAny_bind (wpAny_holding (wpAny_bind (wpAny_isOneOf_keyiter (s:={ s with heap:=s.heap.update it (Obj.mapFields (·.setIfInBounds 1 (rawInt ((i:Int)+1)))) }) it'.typeIs ?_)))))
 show wpAny _ _ (pure es[i].key) _ _ _
 exact wpAny_pure (wpAny_pure ⟨_,rfl,wpAny_pure (hQ _ it' (Heap.SameBut.update ..))⟩)
theorem JN {Q:Option Value->Shared->Prop} (hh:A.handled=none) (hit:s.heap.IsKeyIter it d es.size es.size ep) (x:DEnt s.heap d es ep)
  (hQ:∀h',Heap.ExtBut it s.heap h'->Q none { s with heap:=h' }):wpAny (model prog w) A (pyNext (.ref it)) Q E s:=by
 obtain⟨o,ho,hc,hd⟩:=id hit
 obtain⟨od,hod,_,hdd⟩:=x.ex
 have ty:=hit.typeIs
 refine wpAny_bind (wpAny_attempt (wpAny_callSpecial?_slot (name:=Str.ofString "__next__") ty F.slot_dict_keyiterator_next (wpAny_call_entry F.slot_dict_keyiterator_next ty F.entry_dict_keyiterator_next ?_ (F.args_dict_keyiterator_next_1 _))))
 refine wpAny_bind (wpAny_pure (wpAny_bind (wpAny_bind ?_)))
 first | refine wpAny_bind (wpAny_typeNameOfWhole_keyiter ty (wpAny_pure ?_)) | refine wpAny_bind (wpAny_typeNameOf_keyiter ty (wpAny_pure ?_))
 refine wpAny_bind (wpAny_fieldsOf ho hd ?_)
 rw[if_neg (show ¬(Builtin.Dict_items.ownsTuple "dict_keyiterator")=true by decide)]
 show wpAny _ _ (if (Value.ref d == Value.none)=true then _ else _) _ _ s
 rw[if_neg (show ¬((Value.ref d == Value.none)=true) from Bool.false_ne_true)]
 refine wpAny_bind (wpAny_pure (wpAny_bind (wpAny_dictEntries hod hdd ?_)))
 rw[if_neg (by simp)]
 refine wpAny_bind (wpAny_pure (wpAny_bind (wpAny_dictEpoch hod hdd ?_)))
 rw[if_neg (by simp)]
 refine wpAny_pure ?_
 simp only[show ¬((es.size:Int)<0) from by omega,if_false,Int.toNat_natCast,Array.getElem?_eq_none (Nat.le_refl es.size)]
 refine wpAny_bind ?_
 first | refine wpAny_bind (wpAny_typeNameOfWhole_keyiter ty (wpAny_pure ?_)) | refine wpAny_bind (wpAny_typeNameOf_keyiter ty (wpAny_pure ?_))
 show wpAny _ _ (setField (.ref it) 0 .none >>= _) _ _ s
 refine wpAny_bind (wpAny_setField ho hd (by simp) ?_)
 show wpAny _ _ (newExc (.type "StopIteration") [] >>= _) _ _ _
 refine wpAny_bind ?_
 simp only[newExc,newTuple]
 refine wpAny_bind (wpAny_newObj_type ?_ (by size_fits))
 refine wpAny_bind (m:=firstArgMember _ _) (wpAny_of_eq (a:=Value.none) (by first | rfl | (simp only[firstArgMember];rfl)) (wpAny_newObj_type ?_ (by size_fits)))
 simp only[raiseNew]
 refine wpAny_bind (wpAny_handled ?_)
 rw[show A.in1.handled=none from hh]
 refine wpAny_bind (wpAny_pure (wpAny_throw ?_))
 refine wpAny_bind (wpAny_isInstance (T:="StopIteration") (b:=true) ⟨_,Heap.get?_push_size _ rfl,rfl⟩ isSubtype_stop ?_)
 exact wpAny_pure (hQ _ (((Heap.SameBut.update ..).extBut.push _).push _))
theorem CL (hh:A.handled=none) (I:Addr) (ne:d≠I):Walks prog w A I [I,d] [I] es.size (λi v=>∃e,es[i]? = some e/\v=e.key) (λi h=>h.IsKeyIter I d i es.size ep/\DEnt h d es ep) where
 sub:=λb hb=>by simp at hb;simp[hb]
 frame:=λ_ _ _ st hk=>⟨st.1.at λo e=>hk I (by simp) o e,st.2.at λo e=>hk d (by simp) o e⟩
 item:=λi s Q E hi st hQ=>GJ st.1 st.2 hi λh' it' hs'=>hQ _ h' s.toks ⟨_,Array.getElem?_eq_getElem hi,rfl⟩ ⟨it',st.2.at λo e=>hs'.extBut d o ne e⟩ λb o hb e=>hs'.extBut b o (λh=>hb (by simp[h])) e
 done:=λs Q E st hQ=>JN hh st.1 st.2 λh' he'=>hQ h' s.toks λb o hb e=>he' b o (λh=>hb (by simp[h])) e
 self:=λ_ _ _ _ st hQ=>wpAny_pyIter_keyiter st.1 hQ
theorem JO (lo:(d == sysModules)=false):KdlSrc prog w "dict" d d es.size (λi v=>∃e,es[i]? = some e/\v=e.key) (λh=>DEnt h d es ep) where
 type:=λ_ x=>x.typeIs
 there:=λ_ x=>⟨x.lt,x.lt⟩
 keep:=λ_ _ x hk=>x.at λo e=>hk d (.inl rfl) o e
 notList:=by decide
 notTuple:=by decide
 hint:=λ_ _ _ _ x hq=>kdl_hint_dict x.typeIs hq
 iter:=λ_ _ hh x=>⟨_,_,(λ_ _ hq=>GI lo x hq),CL hh _ (Nat.ne_of_lt x.lt),⟨⟨_,Heap.get?_push_size _ rfl,rfl,rfl⟩,x.at λo e=>Heap.get?_push_of_some _ e⟩⟩
end
noncomputable def uU (ks:List (List Int)) (k:List Int):List (List Int):=if k∈ks then ks else ks++[k]
noncomputable def putX {α:Type} (ks:List (List Int)) (xs:List α) (k:List Int) (x:α):List α:=if k∈ks then List.zipWith (λk' y=>if k'=k then x else y) ks xs else xs++[x]
noncomputable def gZ:List (List Int)->List D->List Int->Option D
 | k'::ks,d::ds,k=>if k'=k then some d else gZ ks ds k
 | _,_,_=>none
theorem tM {a b:List Int} (e:a.map (Sum.inl:Int->Key)=b.map Sum.inl):a=b:=by
 have z:=congrArg (List.map λx:Key=>match x with | .inl i=>i | .inr _=>0) e
 rw[List.map_map,List.map_map] at z
 simpa [Function.comp_def] using z
theorem tQ {ks:List (List Int)} {vs:List V}:(bO ks vs).length=min ks.length vs.length:=by simp[bO]
theorem nA:∀{ks:List (List Int)} {vs:List V} {k:List Int},ks.length=vs.length->((bO ks vs).any (λkv=>decide (kv.1=k.map Sum.inl))=true↔k∈ks)
 | [],[],k,_=>by simp[bO]
 | [],_::_,k,h=>by cases h
 | _::_,[],k,h=>by cases h
 | k'::ks,v::vs,k,h=>by
  show (((k'.map Sum.inl,v)::bO ks vs).any _=true↔_)
  rw[List.any_cons,Bool.or_eq_true,nA (ks:=ks) (vs:=vs) (k:=k) (by simpa using h),List.mem_cons,decide_eq_true_iff]
  exact or_congr_left ⟨λe=>(tM e).symm,λe=>by rw[e]⟩
theorem tR:∀{ks:List (List Int)} {vs:List V} {k:List Int} {v:V},(bO ks vs).map (λkv=>if kv.1=k.map Sum.inl then (kv.1,v) else kv)=bO ks (List.zipWith (λk' y=>if k'=k then v else y) ks vs)
 | [],_,k,v=>by simp[bO]
 | _::_,[],k,v=>by simp[bO]
 | k'::ks,u::vs,k,v=>by
  show (if k'.map Sum.inl=k.map Sum.inl then (k'.map Sum.inl,v) else (k'.map Sum.inl,u))::(bO ks vs).map _=(k'.map Sum.inl,if k'=k then v else u)::bO ks _
  rw[tR]
  by_cases e:k'=k
  ·rw[if_pos (by rw[e]),if_pos e]
  ·rw[if_neg (λz=>e (tM z)),if_neg e]
theorem CO {ks:List (List Int)} {vs:List V} {k:List Int} {v:V} (h:ks.length=vs.length):nP (bO ks vs) (k.map Sum.inl) v=bO (uU ks k) (putX ks vs k v):=by
 unfold nP uU putX
 by_cases m:k∈ks
 ·rw[if_pos ((nA h).mpr m),if_pos m,if_pos m,tR]
 ·rw[if_neg (λz=>m ((nA h).mp z)),if_neg m,if_neg m]
  unfold bO
  rw[List.zipWith_append (by exact h)]
  rfl
theorem LX {α:Type} {ks:List (List Int)} {xs:List α} {k:List Int} {x:α} (h:ks.length=xs.length):(uU ks k).length=(putX ks xs k x).length:=by
 unfold uU putX
 by_cases m:k∈ks
 ·rw[if_pos m,if_pos m];simp[h]
 ·rw[if_neg m,if_neg m];simp[h]
theorem Reps.putX {K:PySem.W.Frag} {H:Hp} {k:List Int} {d:D} {v:V} (rv:Rep K H d v):∀{ks:List (List Int)} {ds:List D} {vs:List V},Reps K H ds vs->Reps K H (List.zipWith (λk' y=>if k'=k then d else y) ks ds) (List.zipWith (λk' y=>if k'=k then v else y) ks vs)
 | [],_,_,_=>by simp;exact .nil
 | _::_,_,_,.nil=>by simp;exact .nil
 | k'::ks,_,_,.cons r t=>by
  rw[List.zipWith_cons_cons,List.zipWith_cons_cons]
  refine .cons ?_ (Reps.putX rv t)
  by_cases e:k'=k
  ·rw[if_pos e,if_pos e];exact rv
  ·rw[if_neg e,if_neg e];exact r
theorem xV {K:PySem.W.Frag} {H:Hp} {k:List Int}:∀{ks:List (List Int)} {ds:List D} {vs:List V},Reps K H ds vs->(∀d,gZ ks ds k=some d->∃v,fE (bO ks vs) (k.map Sum.inl)=some v/\Rep K H d v)/\(gZ ks ds k=none->fE (bO ks vs) (k.map Sum.inl)=none)
 | [],_,_,_=>⟨λd e=>(by simp[gZ] at e),λ_=>by simp[bO,fE]⟩
 | _::_,_,_,.nil=>⟨λd e=>(by simp[gZ] at e),λ_=>by simp[bO,fE]⟩
 | k'::ks,d'::ds,v'::vs,.cons r t=>by
  obtain⟨a,b⟩:=xV (k:=k) (ks:=ks) t
  show (∀d,(if k'=k then some d' else gZ ks ds k)=some d->∃v,fE ((k'.map Sum.inl,v')::bO ks vs) _=_/\_)/\((if k'=k then some d' else gZ ks ds k)=none->fE ((k'.map Sum.inl,v')::bO ks vs) _=_)
  by_cases e:k'=k
  ·rw[if_pos e,fV (by rw[e])]
   exact⟨λd z=>by cases z;exact⟨v',rfl,r⟩,λz=>by cases z⟩
  ·rw[if_neg e,eO (λz=>e (tM z))]
   exact⟨a,b⟩
theorem yD {K:PySem.W.Frag} {H:Hp} {kk:List Int} {v:V} (r:Rep K H (.tup (kk.map .int)) v):∃b,v = .ref b/\H b=some (.tup ((kk.map (Sum.inl:Int->Key)).map kV)):=by
 cases r with
 | @tup b vs _ h r =>
  rw[Reps.ints_inv r] at h
  exact⟨b,rfl,by rw[List.map_map];exact h⟩
section
variable {X:Cx} {e k f:Expr} {pos pos' p npos apos cpos spos:Pos} {te tk tf:RE} {x:Str}
noncomputable def MB (i:Nat):RS:=λE ρ=>E.nx (ρ.set i (some (.dt [] [])))
theorem EZ {i:Nat} (hN:X.N.Nodup) (hi:X.N[i]? = some x:=by rfl) (hx:Loc X.env.scope x:=by walk_at "vis") (hs:swapsWith (.Dict [] [] p) (some (.Name x pos')) pos.line X.env=pure false:=by rfl)
  (hf:X.fn x=true\/X.env.scope.names.lookup x=some .local:=by walk_at "loc"):DS X (.Assign [.Name x pos'] (.Dict [] [] p) pos) (MB i) :=
 PS.mono (yM hN hi hx LK hs hf) λDe σ H hh=>dX hh λρ E st q n r b c=>λa ha=>by
  have sm:Same H (upd H a (.dT [])):=Same.fn λb o h=>by rw[aI (aQ h ha)];exact h
  exact n _ _ _ q (.of sm) (st.put sm ⟨a,[],rfl,aW,st.same.free ha,rfl,.nil⟩ λc o=>by cases o;exact ha)
noncomputable def qO (i:Nat) (tk te:RE):RS:=λE ρ=>match ρ[i]? with
 | some (some (.dt ks xs))=>te ρ λd=>tk ρ λkd=>∃kk:List Int,kd = .tup (kk.map .int)/\Sz (ks.length+1)/\E.nx (ρ.set i (some (.dt (uU ks kk) (putX ks xs kk d))))
 | _=>False
theorem xU {n:Nat} (i:Nat) (hr:Room n X.A) (hk:DE X k tk) (he:DE X e te) (hN:X.N[i]? = some x:=by rfl) (hv:Vis X.env.scope x:=by walk_at "vis") (hd:(x == ("__debug__":Str))=false:=by decide) (hcd:(x == ("__classdict__":Str))=false:=by decide)
  (hs:swapsWith e (some (.Subscript (.Name x npos) k pos')) pos.line X.env=pure false:=by rfl):DS X (.Assign [.Subscript (.Name x npos) k pos'] e pos) (qO i tk te):=by
 refine PS.mono (PD (by have:=hr.un;omega) (pv (pos:=npos) i hN hv hd hcd) hk he hs) λDe σ H hh=>dX hh λρ E so q n r bk ct=>?_
 unfold qO at q
 split at q
 ·rename_i ks xs ex
  refine⟨ρ,_,so,q,λd v H1 hd' s1 rv=>?_⟩
  have so1:=so.ext s1
  obtain⟨va,h1,a,vs,ev,ha,h0,hl,rr⟩:=so1.rel i _ ex
  subst ev
  refine⟨.ref a,h1,ρ,_,so1,hd',λkd kv H2 hk' s2 rk=>?_⟩
  obtain⟨kk,rfl,sz,fin⟩:=hk'
  obtain⟨b,rfl,hb⟩:=yD rk
  have ha2:=s2.get _ _ ha trivial
  refine⟨a,_,rfl,DPut.t ha2 hb (by rw[tQ,<-hl,Nat.min_self];exact sz.ok),?_⟩
  rw[CO hl]
  have kpU:Keep H2 (upd H2 a (.dT (bO (uU ks kk) (putX ks vs kk v)))):=Keep.chg1 ha2 (.inr (.inr ⟨_,rfl⟩))
  have rr2:Reps X.K H2 xs vs:=rr.keep (.of s2)
  have rv2:Rep X.K H2 d v:=rv.keep (.of s2)
  have rp:Reps X.K H2 (putX ks xs kk d) (putX ks vs kk v):=by
   unfold putX
   by_cases m:kk∈ks
   ·rw[if_pos m,if_pos m];exact Reps.putX rv2 rr2
   ·rw[if_neg m,if_neg m];exact rr2.append (.cons rv2 .nil)
  obtain⟨so4,k4⟩:=(so1.ext s2).updW (x':=.dt (uU ks kk) (putX ks xs kk d)) (v':=.ref a) ex h1 (H':=upd H2 a (.dT (bO (uU ks kk) (putX ks vs kk v))))
   (λc o h w'=>by rw[aI (by rintro rfl;exact w' rfl)];exact h) ⟨a,_,rfl,aW,h0,LX hl,rp.keep kpU⟩ λc o=>.inl o
  rw[cS h1] at so4
  exact n _ _ _ fin (((Keep.of s1).trans (.of s2)).trans k4) so4
 ·exact q.elim
noncomputable def qN (i:Nat) (tk tf:RE):RE:=λρ Q=>match ρ[i]? with
 | some (some (.dt ks xs))=>tk ρ λkd=>tf ρ λz=>∃kk:List Int,kd = .tup (kk.map .int)/\Q ((gZ ks xs kk).getD z)
 | _=>False
theorem xQ {n:Nat} (i:Nat) (hr:Room n X.A) (hk:DE X k tk) (hf:DE X f tf) (hN:X.N[i]? = some x:=by rfl) (hv:Vis X.env.scope x:=by walk_at "vis") (hd:(x == ("__debug__":Str))=false:=by decide) (hcd:(x == ("__classdict__":Str))=false:=by decide)
  (m:M2 X (.Name x npos) "get" apos k f cpos:=by exact⟨rfl,rfl,rfl,rfl⟩):DE X (.Call (.Attribute (.Name x npos) "get" apos) [k,f] [] cpos) (qN i tk tf):=by
 refine PE.mono (LI (by have:=hr.un;omega) (pv (pos:=npos) i hN hv hd hcd) hk hf m) λσ H Q h=>?_
 obtain⟨ρ,P,so,q,hP⟩:=h
 unfold qN at q
 split at q
 ·rename_i ks xs ex
  obtain⟨va,h1,a,vs,ev,ha,h0,hl,rr⟩:=so.rel i _ ex
  subst ev
  refine⟨.ref a,h1,a,rfl,.inr ⟨_,.inl ha⟩,ρ,_,so,q,λkd kv H1 hk' s1 rk=>⟨ρ,_,so.ext s1,hk',λz zv H2 hz s2 rz=>?_⟩⟩
  obtain⟨kk,rfl,fin⟩:=hz
  obtain⟨b,rfl,hb⟩:=yD (rk.keep (.of s2))
  have sm:=s1.trans s2
  refine⟨_,DGet.t (sm.get _ _ ha trivial) hb,hP _ _ H2 fin sm ?_⟩
  obtain⟨va,vb⟩:=xV (k:=kk) (ks:=ks) (rr.keep (.of sm))
  cases e:gZ ks xs kk with
  | some d=>obtain⟨w,g1,g2⟩:=va d e;rw[g1];exact g2
  | none=>rw[vb e];exact rz
 ·exact q.elim
noncomputable def XM (i:Nat):RA:=λρ Q=>match ρ[i]? with
 | some (some (.dt ks xs))=>Q (ks.map dM)
 | _=>False
theorem kD {P:Program} {w:World} {H:Hp}:∀{ks:List (List Int)} {vs:List V} {xs:List (List Key × Addr × Value)},ks.length=vs.length->KT H (bO ks vs) xs ->
  ∃bs:List Addr,xs.map (λx=>(entryOfKey (tupleKind (cC P w)) x).key)=bs.map Value.ref/\bs.length=ks.length/\∀(K:PySem.W.Frag),Reps K H (ks.map dM) (bs.map V.ref)
 | [],[],_,_,t=>by cases t;exact⟨[],rfl,rfl,λ_=>.nil⟩
 | [],_::_,_,h,_=>by cases h
 | _::_,[],_,h,_=>by cases h
 | k::ks,v::vs,_,h,t=>by
  cases t with
  | @cons _ q _ qs r t =>
   obtain⟨bs,e1,e2,e3⟩:=kD (P:=P) (w:=w) (by simpa using h) t
   refine⟨q.2.1::bs,by rw[List.map_cons,e1];rfl,by simp[e2],λK=>.cons (.tup (vs:=k.map V.int) ?_ .ints) (e3 K)⟩
   have z:=r.2.1
   rw[show ((k.map Sum.inl,v):List Key × V).1=k.map Sum.inl from rfl,List.map_map] at z
   exact z
theorem EI {pins:List (Addr × Obj)} {σ:St} {H:Hp} {s1:Shared} {a:Addr} {ks:List (List Int)} {vs:List V} {Q:Value->Shared->Prop} {E:Value->Shared->Prop} (hc:X.calm=true) (hl:ks.length=vs.length) (ha:Rd H a (.dT (bO ks vs))) (I1:Inv X pins σ H s1)
  (h:∀(ws:List V) (h':Heap) (tk:Nat),Inv X pins σ (upd H s1.heap.objs.size (.lst ws)) { s1 with heap:=h',toks:=tk }->H s1.heap.objs.size=none->Reps X.K H (ks.map dM) ws->Q (.ref s1.heap.objs.size) { s1 with heap:=h',toks:=tk }) :
  wpAny (model X.prog X.w) X.A (call (.type "list") [.ref a]) Q E s1:=by
 obtain⟨z,hsm,ys,kt,dd⟩:=vY I1.hok ha
 obtain⟨o,es,ep,d1,d2,d3,d4,d5,d6⟩:=dd
 obtain⟨bs,b1,b2,b3⟩:=kD (P:=X.prog) (w:=X.w) hl kt
 have sz:es.size=ks.length:=by rw[<-Array.length_toList,d4,List.length_map,<-List.length_map (f:=λx=>(entryOfKey (tupleKind (cC X.prog X.w)) x).key),b1,List.length_map,b2]
 have zk:ks.length<=sizeLine:=by rw[tQ,<-hl,Nat.min_self] at z;exact z
 refine kdl_call (JO (es:=es) (ep:=ep) hsm) (I1.ok.hd hc) ⟨o,d1,d2,d3⟩ (by rw[sz];exact zk) λh' tk acc c kp g1 it=>?_
 have eacc:acc.toList=bs.map Value.ref:=by
  rw[<-b1]
  apply List.ext_getElem?
  intro j
  cases e:acc.toList[j]? with
  | none =>
   have:acc.size<=j:=by simpa using e
   rw[it.1,<-Array.length_toList,d4,List.length_map] at this
   rw[List.getElem?_eq_none (by rw[List.length_map];exact this)]
  | some v =>
   obtain⟨en,e1,e2⟩:=it.2 j v (by simpa using e)
   rw[<-Array.getElem?_toList,d4,List.getElem?_map] at e1
   rw[List.getElem?_map]
   cases q:ys[j]? with
   | none=>rw[q] at e1;cases e1
   | some y=>rw[q] at e1;cases e1;rw[e2];rfl
 have VV:Vals (bs.map V.ref) acc.toList:=by
  rw[eacc]
  clear eacc b1 b2 b3
  induction bs with
  | nil=>exact .nil
  | cons b bs ih=>exact .cons rfl ih
 exact h (bs.map V.ref) h' tk (I1.laid (a:=s1.heap.objs.size) (o:=.lst (bs.map V.ref)) (h':=h') (t':=tk) kp (Nat.le_refl _) ⟨by rw[List.length_map,b2];exact zk,acc.toList,c,VV,by simpa using g1⟩) (I1.hok.fresh (Nat.le_refl _)) (b3 X.K)
end
section
variable {X:Cx} {e a k f:Expr} {pos p apos cpos:Pos} {te ta tk tf:RE}
noncomputable def DU (te:RE):RA:=λρ Q=>te ρ λx=>∃(ks:List (List Int)) (ds:List D),x = .dtt ks ds/\Q (ks.map dM)
theorem JR (hml:X.mg "list" = none) (hc:X.calm=true) (h:DE X e te) (hgl:Gl X "list":=by rfl) (hs:starEach [e] X.env=[(false,eval e X.env)]:=by rfl) (hn:starEach [] X.env=[]:=by rfl) :
  DO X (.Call (.Name "list" p) [e] [] pos) (DU te):=by
 intro pins s σ H Q I hh_0
 obtain⟨ρ,P,so,q,kq⟩:=hh_0
 refine wpAny_Call_Name_kw (eJ I hgl hml pE ?_)
 refine PyProof.Rows.callWith_type1 (thn (jE h hs hn pos pins s σ H (λvs H1=>∃(ks:List (List Int)) (ds:List D) (v:V),vs=[v]/\Same H H1/\Rep X.K H1 (.dtt ks ds) v/\P (ks.map dM)) I
  ⟨ρ,_,so,q,λx v H1 hx s1 r1=>?_⟩) λus s1 ⟨vs,H1,I1,r1,q1⟩=>?_) (by rw[hs,hn]) (by rw[hn];rfl)
 ·obtain⟨ks,ds,rfl,a2⟩:=hx
  exact⟨ks,ds,v,rfl,s1,r1,a2⟩
 obtain⟨ks,ds,v,rfl,s01,rd,hP⟩:=q1
 obtain⟨u,rfl,rx⟩:=lX r1
 cases rd with
 | @dtt a vs _ _ o ha hl rr =>
  cases rx
  exact EI hc hl (.inr ⟨o,ha⟩) I1 λws h' tk I4 hn b3=>⟨.ref s1.heap.objs.size,_,I4,rfl,kq _ _ _ _ hP s01 hn b3⟩
noncomputable def vV:R22:=λx y Q=>match x with
 | .dtt ks ds=>∃(kk:List Int) (d:D),y = .tup (kk.map .int)/\gZ ks ds kk=some d/\Q d
 | _=>False
theorem EV {n:Nat} (hr:Room n X.A) (ha:DE X a ta) (hk:DE X k tk) (hs:NA k:=by intro _ _;rfl):DE X (.Subscript a k pos) (r2 vV ta tk):=by
 refine PE.mono (FE (by have:=hr.un;omega) ha hk hs) λσ H Q h=>?_
 obtain⟨ρ,P,st,ht,hP⟩:=h
 refine⟨ρ,_,st,ht,λx v H1 h1 s1 r1=>⟨ρ,_,st.ext s1,h1,λy u H2 h2 s2 r2=>?_⟩⟩
 unfold vV at h2
 split at h2
 ·rename_i ks ds
  obtain⟨kk,d,rfl,e,h2⟩:=h2
  obtain⟨b,rfl,hb⟩:=yD r2
  have r1':=Rep.keep (.of s2) r1
  cases r1' with
  | @dtt a vs _ _ o hh hl rr =>
   obtain⟨w,g1,g2⟩:=(xV (k:=kk) (ks:=ks) rr).1 d e
   exact⟨a,w,rfl,.inr ⟨_,_,b,.inr ⟨o,hh⟩,rfl,hb,g1.symm⟩,hP d w H2 h2 (s1.trans s2) g2⟩
 ·exact h2.elim
end
section
variable {prog:Program} {w:World} {A:Around} {E:Value->Shared->Prop} {s:Shared} {d it v:Addr} {es:Array DictEntry} {ep i:Nat}
end
section
variable {X:Cx} {e tg:Expr} {te:RE} {apos cpos:Pos}
end
section
variable {prog:Program} {w:World} {A:Around} {E:Value->Shared->Prop} {s:Shared} {d it v:Addr} {es:Array DictEntry} {ep i:Nat} {ok ov:Value}
theorem xR (hd:(d == sysModules)=false):MeetsIn prog w (Builtin.«dict.items» ⟨[.ref d],[]⟩) (λ_ R s=>s.TypeIs (.ref d) "dict"/\R (.ok (.ret (.ref s.heap.objs.size))) { s with heap:=s.heap.push { cls:=.type "dict_items",data:=.fields #[.ref d] } }) :=
 .of_wp λA R s ⟨ty,h⟩=>by
  refine wpAny_bind ?_
  unfold Builtin.Dict.noArgs
  refine wpAny_bind (wpAny_notOrdered_dict ty ?_)
  show wpAny _ _ (pure d) _ _ s
  refine wpAny_pure ?_
  show wpAny _ _ (Builtin.Dict.showsAll d >>= _) _ _ s
  unfold Builtin.Dict.showsAll
  rw[if_neg (by rw[hd];exact Bool.false_ne_true)]
  exact wpAny_bind (wpAny_pure (wpAny_bind (wpAny_newObj_type (wpAny_pure ⟨_,rfl,h⟩))))
theorem zW {Q:Value->Shared->Prop} (hv:s.heap.IsItemsView v d) (x:DEnt s.heap d es ep)
  (hQ:Q (.ref s.heap.objs.size) { s with heap:=s.heap.push { cls:=.type "dict_itemiterator",data:=.fields #[.none,.bool false,.ref d,.int 0 0,.int es.size 0,.int ep 0,.none,.none] } }):wpAny (model prog w) A (pyIter (.ref v)) Q E s:=by
 obtain⟨ov,hov,hcv,hdv⟩:=id hv
 obtain⟨o,ho,_,hdat⟩:=x.ex
 refine wpAny_pyIter_slot hv.typeIs F.slot_dict_items_iter (wpAny_call_entry F.slot_dict_items_iter hv.typeIs F.entry_dict_items_iter ?_ (F.args_dict_items_iter_1 _))
 refine wpAny_bind (wpAny_pure (wpAny_bind (wpAny_bind (wpAny_field hov hdv (x:=.ref d) rfl (wpAny_pure (wpAny_bind ?_))))))
 refine wpAny_bind (wpAny_dictEntries ho hdat (wpAny_bind (wpAny_dictEpoch ho hdat ?_)))
 simp only[show Builtin.Dict_items.ownsTuple "dict_itemiterator" = true by decide,if_true]
 refine wpAny_newObj_type (wpAny_pure ⟨_,rfl,"dict_itemiterator",_,⟨_,Heap.get?_push_size _ rfl,rfl⟩,F.slot_dict_itemiterator_next.lookup,?_⟩) (by simp only[sizeOk,Builtin.Dict_items.ownedTupleFields,List.size_toArray,List.length_append,List.length_cons,List.length_nil,sizeLine_eq];omega)
 simpa [rawInt,Builtin.Dict_items.ownedTupleFields] using hQ
theorem zX {Q:Option Value->Shared->Prop} (hit:IsItemIter s.heap it d i es.size ep ok ov) (x:DEnt s.heap d es ep) (hi:i<es.size)
  (hQ:∀h',IsItemIterOut h' it d (i+1) es.size ep es[i].key es[i].val s.heap.objs.size->h'.get? s.heap.objs.size=some { cls:=.type "tuple",data:=.seq #[es[i].key,es[i].val] }->h'.objs.size=s.heap.objs.size+1 ->
   (∀b o,b≠it->s.heap.get? b=some o->h'.get? b=some o)->Q (some (.ref s.heap.objs.size)) { s with heap:=h' }):wpAny (model prog w) A (pyNext (.ref it)) Q E s:=by
 obtain⟨hp,g,dr,tk,os⟩:=s
 obtain⟨od,hod,_,hdd⟩:=x.ex
 have ty:Shared.TypeIs ⟨hp,g,dr,tk,os⟩ (.ref it) "dict_itemiterator":=⟨_,hit,rfl⟩
 refine wpAny_bind (wpAny_attempt (wpAny_callSpecial?_slot (name:=Str.ofString "__next__") ty F.slot_dict_itemiterator_next (wpAny_call_entry F.slot_dict_itemiterator_next ty F.entry_dict_itemiterator_next ?_ (F.args_dict_itemiterator_next_1 _))))
 refine wpAny_bind (wpAny_pure (wpAny_bind (wpAny_bind ?_)))
 first | refine wpAny_bind (wpAny_typeNameOfWhole_itemiter ty (wpAny_pure ?_)) | refine wpAny_bind (wpAny_typeNameOf_itemiter ty (wpAny_pure ?_))
 refine wpAny_bind (wpAny_fieldsOf hit rfl ?_)
 simp only[show Builtin.Dict_items.ownsTuple "dict_itemiterator" = true by decide,if_true]
 show wpAny _ _ (if (Value.ref d == Value.none)=true then _ else _) _ _ _
 rw[if_neg (show ¬((Value.ref d == Value.none)=true) from Bool.false_ne_true)]
 refine wpAny_bind (wpAny_pure (wpAny_bind (wpAny_dictEntries hod hdd ?_)))
 rw[if_neg (by simp)]
 refine wpAny_bind (wpAny_pure (wpAny_bind (wpAny_dictEpoch hod hdd ?_)))
 rw[if_neg (by simp)]
 refine wpAny_pure ?_
 simp only[show ¬((i:Int)<0) from by omega,if_false,Int.toNat_natCast,Array.getElem?_eq_getElem hi]
 refine wpAny_bind ?_
 first | refine wpAny_bind (wpAny_typeNameOfWhole_itemiter ty (wpAny_pure ?_)) | refine wpAny_bind (wpAny_typeNameOf_itemiter ty (wpAny_pure ?_))
 refine wpAny_bind (wpAny_isOneOf_itemiter ty ?_)
 show wpAny _ _ (setField (.ref it) 3 (rawInt ((i:Int)+1)) >>= _) _ _ ⟨hp,g,dr,tk,os⟩
 refine wpAny_bind (wpAny_setField_rec hit (by simp) λh1 e1 s1=>?_)
 replace s1:Heap.SameBut it hp h1:=s1
 replace e1:IsItemIter h1 it d (i+1) es.size ep ok ov:=by
  have e:((i+1:Nat):Int)=(i:Int)+1:=by omega
  unfold IsItemIter;rw[e];simpa [rawInt] using e1
 have ty1:Shared.TypeIs ⟨h1,g,dr,tk,os⟩ (.ref it) "dict_itemiterator":=⟨_,e1,rfl⟩
 refine wpAny_bind (wpAny_holding (wpAny_bind (wpAny_isOneOf_itemiter ty1 (wpAny_bind (wpAny_isOneOf_itemiter ty1 ?_)))))
 show wpAny _ _ (Builtin.Dict_items.pairFromOwner (.ref it) 6 es[i].key es[i].val) _ _ ⟨h1,g,dr,tk,os⟩
 refine wpAny_bind (wpAny_newTuple ?_)
 have e2:IsItemIter (h1.push { cls:=.type "tuple",data:=.seq #[es[i].key,es[i].val] }) it d (i+1) es.size ep ok ov:=Heap.get?_push_of_some _ e1
 have z1:h1.objs.size=hp.objs.size:=s1.1
 have il:it<hp.objs.size:=Heap.lt_size hit
 have t2:(h1.push { cls:=.type "tuple",data:=.seq #[es[i].key,es[i].val] }).get? hp.objs.size=some { cls:=.type "tuple",data:=.seq #[es[i].key,es[i].val] }:=by rw[<-z1];exact Heap.get?_push_size _ rfl
 have z2:(h1.push { cls:=.type "tuple",data:=.seq #[es[i].key,es[i].val] }).objs.size=hp.objs.size+1:=by rw[Heap.size_push,z1]
 have k2:∀b o,b≠it->hp.get? b=some o->(h1.push { cls:=.type "tuple",data:=.seq #[es[i].key,es[i].val] }).get? b=some o:=λb o hb e=>Heap.get?_push_of_some _ (s1.extBut b o hb e)
 generalize h1.push { cls:=.type "tuple",data:=.seq #[es[i].key,es[i].val] } = h2 at e2 t2 z2 k2
 show wpAny _ _ (Builtin.Dict_items.ownedTupleIsFree (.ref it) >>= _) _ _ ⟨h2,g,dr,tk,os⟩
 rw[z1]
 refine wpAny_bind (wpAny_bind (wpAny_field e2 rfl (x:=.none) rfl (wpAny_pure ?_)))
 simp only[if_true]
 refine wpAny_bind (wpAny_field e2 rfl (x:=ok) rfl (wpAny_bind (wpAny_field e2 rfl (x:=ov) rfl (wpAny_bind (wpAny_setField_rec e2 (by simp) λh3 e3 s3=>?_)))))
 replace s3:Heap.SameBut it h2 h3:=s3
 replace e3:IsItemIter h3 it d (i+1) es.size ep es[i].key ov:=e3
 refine wpAny_bind (wpAny_setField_rec e3 (by simp) λh4 e4 s4=>?_)
 replace s4:Heap.SameBut it h3 h4:=s4
 replace e4:IsItemIter h4 it d (i+1) es.size ep es[i].key es[i].val:=e4
 refine wpAny_bind (wpAny_setField_rec e4 (by simp) λh5 e5 s5=>?_)
 replace s5:Heap.SameBut it h4 h5:=s5
 replace e5:IsItemIterOut h5 it d (i+1) es.size ep es[i].key es[i].val hp.objs.size:=e5
 refine wpAny_bind (wpAny_setField_rec e5 (by simp) λh6 e6 s6=>?_)
 replace s6:Heap.SameBut it h5 h6:=s6
 replace e6:IsItemIterOut h6 it d (i+1) es.size ep es[i].key es[i].val hp.objs.size:=e6
 have up:∀b o,b≠it->h2.get? b=some o->h6.get? b=some o:=λb o hb e=>s6.extBut b o hb (s5.extBut b o hb (s4.extBut b o hb (s3.extBut b o hb e)))
 exact wpAny_bind (wpAny_letGo (wpAny_pure (wpAny_pure ⟨_,rfl,wpAny_pure (hQ h6 e6 (up _ _ (Nat.ne_of_gt il) t2) (by rw[s6.1,s5.1,s4.1,s3.1,z2]) λb o hb e=>up b o hb (k2 b o hb e))⟩)))
theorem CK {Q:Option Value->Shared->Prop} (hh:A.handled=none) (hit:IsItemIter s.heap it d es.size es.size ep ok ov) (x:DEnt s.heap d es ep)
  (hQ:∀h',Heap.ExtBut it s.heap h'->Q none { s with heap:=h' }):wpAny (model prog w) A (pyNext (.ref it)) Q E s:=by
 obtain⟨od,hod,_,hdd⟩:=x.ex
 have ty:s.TypeIs (.ref it) "dict_itemiterator":=⟨_,hit,rfl⟩
 refine wpAny_bind (wpAny_attempt (wpAny_callSpecial?_slot (name:=Str.ofString "__next__") ty F.slot_dict_itemiterator_next (wpAny_call_entry F.slot_dict_itemiterator_next ty F.entry_dict_itemiterator_next ?_ (F.args_dict_itemiterator_next_1 _))))
 refine wpAny_bind (wpAny_pure (wpAny_bind (wpAny_bind ?_)))
 first | refine wpAny_bind (wpAny_typeNameOfWhole_itemiter ty (wpAny_pure ?_)) | refine wpAny_bind (wpAny_typeNameOf_itemiter ty (wpAny_pure ?_))
 refine wpAny_bind (wpAny_fieldsOf hit rfl ?_)
 simp only[show Builtin.Dict_items.ownsTuple "dict_itemiterator" = true by decide,if_true]
 show wpAny _ _ (if (Value.ref d == Value.none)=true then _ else _) _ _ s
 rw[if_neg (show ¬((Value.ref d == Value.none)=true) from Bool.false_ne_true)]
 refine wpAny_bind (wpAny_pure (wpAny_bind (wpAny_dictEntries hod hdd ?_)))
 rw[if_neg (by simp)]
 refine wpAny_bind (wpAny_pure (wpAny_bind (wpAny_dictEpoch hod hdd ?_)))
 rw[if_neg (by simp)]
 refine wpAny_pure ?_
 simp only[show ¬((es.size:Int)<0) from by omega,if_false,Int.toNat_natCast,Array.getElem?_eq_none (Nat.le_refl es.size)]
 refine wpAny_bind ?_
 first | refine wpAny_bind (wpAny_typeNameOfWhole_itemiter ty (wpAny_pure ?_)) | refine wpAny_bind (wpAny_typeNameOf_itemiter ty (wpAny_pure ?_))
 show wpAny _ _ (setField (.ref it) 2 .none >>= _) _ _ s
 refine wpAny_bind (wpAny_setField hit rfl (by simp) ?_)
 show wpAny _ _ (newExc (.type "StopIteration") [] >>= _) _ _ _
 refine wpAny_bind ?_
 simp only[newExc,newTuple]
 refine wpAny_bind (wpAny_newObj_type ?_ (by size_fits))
 refine wpAny_bind (m:=firstArgMember _ _) (wpAny_of_eq (a:=Value.none) (by first | rfl | (simp only[firstArgMember];rfl)) ?_)
 refine wpAny_newObj_type ?_ (by size_fits)
 simp only[raiseNew]
 refine wpAny_bind (wpAny_handled ?_)
 rw[show A.in1.handled=none from hh]
 refine wpAny_bind (wpAny_pure (wpAny_throw ?_))
 refine wpAny_bind (wpAny_isInstance (T:="StopIteration") (b:=true) ⟨_,Heap.get?_push_size _ rfl,rfl⟩ isSubtype_stop ?_)
 exact wpAny_pure (hQ _ (((Heap.SameBut.update ..).extBut.push _).push _))
end
theorem pH:entryFor table "dict_itemiterator.__iter__" = some Builtin.«dict_keyiterator.__iter__»:=entryFor_alias (id':="dict_keyiterator.__iter__") (by kernel_rfl) rfl (by decide +kernel) (by kernel_rfl)
noncomputable def Iti (d:Addr) (o:Obj) (ks vs:List V):It where
 go:=λi H=>(∃u,H d=some (.frz o u))/\i<ks.length
 yld:=λi H x H'=>∃p a b,H p=none/\x = .ref p/\H'=upd H p (.tup [a,b])/\ks[i]? = some a/\vs[i]? = some b
 stop:=λi H=>(∃u,H d=some (.frz o u))/\ks.length<=i
noncomputable def ISt (it d:Addr) (n ep i:Nat) (h:Heap):Prop:=(∃ok ov,IsItemIter h it d i n ep ok ov)/\i<=n
theorem EK {P:Program} {w:World} {K:PySem.W.Frag} {elts:List Expr} {k:Nat} {pos:Pos} {o:Obj} {es:Array DictEntry} {ep:Nat} (d it:Addr) {ks vs:List V} (hk:Vals ks (es.toList.map (·.key))) (hv:Vals vs (es.toList.map (·.val))) (hx:o.ExactDict) (hd:o.data = .dict es ep) :
  Turn P w K (.Tuple elts k pos) (Iti d o ks vs) [it] it (ISt it d es.size ep) where
 mem:=by simp
 obj:=λi h st b hb=>by
  have e:b=it:=by simpa using hb
  subst e
  obtain⟨⟨ok,ov,e⟩,_⟩:=st
  exact⟨_,e,λv z=>by cases z⟩
 keep:=λi h h' ⟨⟨ok,ov,e⟩,l⟩ kk=>⟨⟨ok,ov,kk it (by simp) _ e⟩,l⟩
 item:=by
  intro X hP hw hK hc i pins s σ H E I hf st hg
  subst hP hw hK
  obtain⟨⟨u,hu⟩,hi⟩:=hg
  have ho:s.heap.get? d=some o:=(I.hok d _ hu).1
  obtain⟨⟨ok,ov,e⟩,_⟩:=st
  have lk:ks.length=es.size:=by rw[hk.length,List.length_map];exact Array.length_toList
  have hi':i<es.size:=by omega
  have lv:vs.length=es.size:=by rw[hv.length,List.length_map];exact Array.length_toList
  have hiv:i<vs.length:=by omega
  obtain⟨u1,a1,a2⟩:=hk.get (List.getElem?_eq_getElem hi)
  obtain⟨u2,b1,b2⟩:=hv.get (List.getElem?_eq_getElem (show i<vs.length by omega))
  have ek:es[i].key=u1:=by
   rw[List.getElem?_map,Array.getElem?_toList,Array.getElem?_eq_getElem hi'] at a1
   exact Option.some.inj a1
  have ev:es[i].val=u2:=by
   rw[List.getElem?_map,Array.getElem?_toList,Array.getElem?_eq_getElem hi'] at b1
   exact Option.some.inj b1
  refine zX e ⟨o,ho,hx,hd⟩ hi' λh1 e1 t1 z1 k1=>?_
  have I1:Inv X pins σ (upd H s.heap.objs.size (.tup [ks[i],vs[i]])) { s with heap:=h1 } :=
   I.turnedT (its:=[es[i].key,es[i].val]) (ch:=[it]) (t':=s.toks) (λb o hb e=>k1 b o (λz=>hb (by simp[z])) e) hf (Nat.le_refl _) ⟨_,t1,rfl,_,rfl⟩ (.cons (by rw[ek];exact a2) (.cons (by rw[ev];exact b2) .nil)) (by show 2<=sizeLine;decide)
  have hn:H s.heap.objs.size=none:=I.hok.fresh (Nat.le_refl _)
  refine⟨_,rfl,wpAny_letOwnedTupleGo_items (s:={ s with heap:=h1 }) e1 λh2 e2 s2=>?_⟩
  have hf1:∀b∈[it],nV X pins (upd H s.heap.objs.size (.tup [ks[i],vs[i]])) b:=λb hb=>by
   obtain⟨f0,f1⟩:=hf b hb
   have:b=it:=by simpa using hb
   subst this
   exact⟨by rw[aI (Nat.ne_of_lt (Heap.lt_size e))];exact f0,f1⟩
  exact⟨.ref s.heap.objs.size,_,I1.turnedL (ch:=[it]) (t':=s.toks) (λb o hb e=>s2.extBut b o (λz=>hb (by simp[z])) e) hf1,rfl,⟨_,_,_,hn,rfl,rfl,List.getElem?_eq_getElem hi,List.getElem?_eq_getElem (show i<vs.length by omega)⟩,⟨⟨_,_,e2⟩,hi'⟩,λb hb=>(hf1 b hb).1⟩
 done:=by
  intro X hP hw hK hc i pins s σ H E I hf st hg
  subst hP hw hK
  obtain⟨⟨u,hu⟩,hi⟩:=hg
  obtain⟨⟨ok,ov,e⟩,l⟩:=st
  have lk:ks.length=es.size:=by rw[hk.length,List.length_map];exact Array.length_toList
  have ei:i=es.size:=by omega
  subst ei
  exact CK (I.ok.hd hc) e ⟨o,(I.hok d _ hu).1,hx,hd⟩ λh' eb=>⟨rfl,I.turnedL (ch:=[it]) (t':=s.toks) (λb o hb e=>eb b o (λz=>hb (by simp[z])) e) hf⟩
 self:=λ_ _ _ _ _ st h=>by
  obtain⟨⟨ok,ov,e⟩,_⟩:=st
  have ty:Shared.TypeIs _ (.ref it) "dict_itemiterator":=⟨_,e,rfl⟩
  refine wpAny_pyIter_slot ty F.slot_dict_itemiterator_iter (wpAny_call_entry F.slot_dict_itemiterator_iter ty pH ?_ (F.args_dict_itemiterator_iter_1 _))
  show wpAny _ _ (ret (.ref it)) _ _ _
  exact wpAny_pure ⟨_,rfl,"dict_itemiterator",_,ty,F.slot_dict_itemiterator_next.lookup,h⟩
noncomputable def yQ (te:RE):RA:=λρ Q=>te ρ λd=>match d with
 | .dtt ks ds=>Q (List.zipWith (λk x=>D.tup [dM k,x]) ks ds)
 | _=>False
theorem oI {P:Program} {w:World} {H:Hp}:∀{kvs:List (List Key × V)} {xs:List (List Key × Addr × Value)},KT H kvs xs->Vals (kvs.map (·.2)) (xs.map λx=>(entryOfKey (tupleKind (cC P w)) x).val)
 | [],_,t=>by cases t;exact .nil
 | p::kvs,_,t=>by
  cases t with
  | @cons _ q _ qs r t=>exact .cons r.2.2 (oI t)
theorem qL:∀{ks:List (List Int)} {vs:List V},ks.length=vs.length->(bO ks vs).map (·.2)=vs
 | [],[],_=>rfl
 | [],_::_,h=>by cases h
 | _::_,[],h=>by cases h
 | k::ks,v::vs,h=>by
  show v::(bO ks vs).map (·.2)=_
  rw[qL (by simpa using h)]
theorem wZ:∀bs:List Addr,Vals (bs.map V.ref) (bs.map Value.ref)
 | []=>.nil
 | _::bs=>.cons rfl (wZ bs)
section
variable {X:Cx} {e:Expr} {te:RE} {apos cpos:Pos} {elts:List Expr} {k:Nat} {tp:Pos}
theorem JK (h:DE X e te) (hbase:attributeBase e "items" X.env (eval e X.env)=eval e X.env:=by rfl) (hline:(apos.endLine == cpos.line)=true:=by rfl) (hc:X.calm=true:=by rfl)
  (hfew:((backTo cpos (starEach [] X.env)).all (λx=>!x.1) && (backToKw cpos (keywordEach [] X.env)).all (λx=>x.1.isSome) && decide (([]:List Expr).length+([]:List Keyword).length+(if ([]:List Keyword).isEmpty then 0 else 1)<30))=true:=by rfl):DI X (.Tuple elts k tp) (.Call (.Attribute e "items" apos) [] [] cpos) (yQ te):=by
 intro pins s σ H R I hh_0
 obtain⟨ρ,P,st,q,kk⟩:=hh_0
 refine wpAny_Call_method hbase hfew hline PySem.F.plainAttrs_dict PySem.F.slot_dict_items PySem.F.type_dict_items (thn (h pins s σ H (λv H1=>∃ks ds,Same H H1/\Rep X.K H1 (.dtt ks ds) v/\P (List.zipWith (λk x=>D.tup [dM k,x]) ks ds)) I ⟨ρ,_,st,q,λd v H1 hd s1 r=>?_⟩) λu s1 ⟨v,H1,I1,rv,ks,ds,s01,rd,hp⟩=>?_)
 ·cases d with
  | dtt ks ds=>exact⟨ks,ds,s1,r,hd⟩
  | _=>exact hd.elim
 cases rd with
 | @dtt a vs _ _ o ha hl rr =>
  cases rv
  obtain⟨t1,t2,t3⟩:=KH I1 (.inr ⟨_,.inr ⟨o,ha⟩⟩)
  refine⟨t1,t2,?_⟩
  obtain⟨eo,z,hsm,ys,kt,o',es,ep,d1,d2,d3,d4,d6⟩:=id (I1.hok a _ ha)
  rw[eo] at d1;cases d1
  obtain⟨bs,b1,b2,b3⟩:=kD (P:=X.prog) (w:=X.w) hl kt
  have keys:Vals (bs.map V.ref) (es.toList.map (·.key)):=by
   have:es.toList.map (·.key)=bs.map Value.ref:=by rw[d4,List.map_map];exact b1
   rw[this];exact wZ bs
  have vals:Vals vs (es.toList.map (·.val)):=by
   have:=oI (P:=X.prog) (w:=X.w) kt
   rw[qL hl] at this
   rw[d4,List.map_map];exact this
  refine callWith_method0 (env:=X.env) (call_meetsIn PySem.F.slot_dict_items t1 PySem.F.entry_dict_items (PySem.F.args_dict_items_1 _) (xR hsm) ⟨t1,?_⟩)
  have I2:Inv X pins σ H1 { s1 with heap:=s1.heap.push { cls:=.type "dict_items",data:=.fields #[.ref a] } }:=I1.kept (t':=s1.toks) λb o e=>Heap.get?_push_of_some _ e
  refine zW (s:={ s1 with heap:=s1.heap.push { cls:=.type "dict_items",data:=.fields #[.ref a] } }) ⟨_,Heap.get?_push_size _ rfl,rfl,rfl⟩ ⟨o,Heap.get?_push_of_some _ eo,d2,d3⟩ ?_
  have I3:Inv X pins σ H1 { s1 with heap:=(s1.heap.push { cls:=.type "dict_items",data:=.fields #[.ref a] }).push { cls:=.type "dict_itemiterator",data:=.fields #[.none,.bool false,.ref a,.int 0 0,.int es.size 0,.int ep 0,.none,.none] } }:=I2.kept (t':=s1.toks) λb o e=>Heap.get?_push_of_some _ e
  refine⟨_,[_],_,_,H1,rfl,I3,EK a _ keys vals d2 d3,⟨⟨_,_,Heap.get?_push_size _ rfl⟩,Nat.zero_le _⟩,λb hb=>?_,?_⟩
  ·rw[List.mem_singleton.mp hb];exact I2.fpOk (Nat.le_refl _) (I2.hok.fresh (Nat.le_refl _))
  ·have lr:=rr.length
   refine kk _ _ H1 hp s01 λi H2 kp=>⟨λd ed=>?_,λhl'=>⟨⟨_,kp.frzs _ _ _ ha⟩,by rw[List.length_map,b2];rw[List.length_zipWith] at hl';omega⟩⟩
   have hi:i<ks.length:=by have:=(List.getElem?_eq_some_iff.mp ed).1;rw[List.length_zipWith] at this;omega
   refine⟨⟨⟨_,kp.frzs _ _ _ ha⟩,by rw[List.length_map,b2];exact hi⟩,λx H' y=>?_⟩
   obtain⟨p,va,vb,hn,rfl,rfl,ka,kb⟩:=y
   rw[List.getElem?_zipWith] at ed
   have e1:ks[i]? = some ks[i]:=List.getElem?_eq_getElem hi
   have e2:ds[i]? = some (ds[i]'(by omega)):=List.getElem?_eq_getElem _
   rw[e1,e2] at ed
   cases ed
   obtain⟨v1,f1,f2⟩:=((b3 X.K).keep kp).get (i:=i) (d:=dM ks[i]) (by rw[List.getElem?_map,e1];rfl)
   obtain⟨v2,f3,f4⟩:=(rr.keep kp).get e2
   rw[ka] at f1;cases f1
   rw[kb] at f3;cases f3
   have sm:Same H2 (upd H2 p (.tup [va,vb])):=Same.fn λb o e=>by rw[aI (aQ e hn)];exact e
   exact⟨sm,.tup aW (.cons (f2.keep (.of sm)) (.cons (f4.keep (.of sm)) .nil))⟩
end
end L2.R2
set_option Elab.async false
set_option linter.all false
set_option maxRecDepth 100000
set_option maxHeartbeats 1000000
namespace L2.R2
open PySem PySem.Spec PyProof.Rows L2
noncomputable def MA:V->List V->Hp->VK->Prop:=λx vs H Q=>∃(l:Addr) (j:Int) (k:Nat) (y:V) (xs:List V),x = .ref l/\vs=[.int j,y]/\j=(k:Int)/\H l=some (.lst xs)/\k<=xs.length/\xs.length<sizeLine/\Q .non (upd H l (.lst (xs.take k++y::xs.drop k)))
theorem MS {a b:V} {us:List Value} (h:Vals [a,b] us):∃u w,us=[u,w]/\RelV a u/\RelV b w:=by
 cases h with
 | cons r t =>
  obtain⟨w,rfl,r2⟩:=Vals.one t
  exact⟨_,w,rfl,r,r2⟩
section
variable {X:Cx} {e a:Expr} {pos apos cpos npos:Pos} {te ta:RE} {x:Str}
theorem CY:MtM X "list.insert" MA:=by
 intro pins s σ H x vs v us Q I rx rv h
 obtain⟨l,j,k,y,xs,rfl,rfl,hjk,hH,hk,hz,q⟩:=h
 cases rx
 obtain⟨u,w,rfl,r1,r2⟩:=MS rv
 obtain⟨t,rfl⟩:=r1
 obtain⟨z,its,n,r,hl,e⟩:=I.lstM hH
 have hl':its.length=xs.length:=r.length.symm
 have c1:¬(!Builtin.List.listFitsIndex j)=true:=by
  have:=sizeLine_eq
  unfold Builtin.List.listFitsIndex
  simp
  omega
 have c2:its.toArray.size<=sizeLine:=by rw[List.size_toArray,hl'];exact Nat.le_of_lt hz
 have ek:(if j<0 then (j+(its.toArray.size:Int)).toNat else min j.toNat its.toArray.size)=k:=by
  rw[if_neg (by omega),List.size_toArray];omega
 refine call_meets F.slot_list_insert ⟨_,e,rfl⟩ F.entry_list_insert (F.args_list_insert_3 _ _ _) (PySem.AutoSeq1.list_insert_list_int_val_1 l its.toArray n j t w c1 c2) ⟨e,?_⟩
 refine⟨.non,_,I.lset (its':=its.take k++w::its.drop k) hH e ?_ ((r.take k).append (.cons r2 (r.drop k))) ?_,rfl,q⟩
 ·show (its.toArray.extract 0 (if j<0 then (j+(its.toArray.size:Int)).toNat else min j.toNat its.toArray.size)).push w++its.toArray.extract (if j<0 then (j+(its.toArray.size:Int)).toNat else min j.toNat its.toArray.size)=_
  rw[ek]
  apply Array.toList_inj.mp
  simp
  exact List.take_of_length_le (by simp)
 ·rw[List.length_append,List.length_cons,List.length_take,List.length_drop];omega
noncomputable def FI (i:Nat) (ta te:RE):RS:=λE ρ=>match ρ[i]? with
 | some (some (.own xs))=>ta ρ λk=>te ρ λd=>∃j:Nat,k = .int (j:Int)/\j<=xs.length/\Sz (xs.length+1)/\E.nx (ρ.set i (some (.own (xs.take j++d::xs.drop j))))
 | _=>False
theorem GM (i:Nat) (ha:DE X a ta) (he:DE X e te) (hN:X.N[i]? = some x:=by rfl) (hv:Vis X.env.scope x:=by walk_at "vis") (hd:(x == ("__debug__":Str))=false:=by decide) (hcd:(x == ("__classdict__":Str))=false:=by decide)
  (hbase:attributeBase (.Name x npos) "insert" X.env (eval (.Name x npos) X.env)=eval (.Name x npos) X.env:=by rfl)
  (hfew:((backTo cpos (starEach [a,e] X.env)).all (λx=>!x.1) && (backToKw cpos (keywordEach [] X.env)).all (λx=>x.1.isSome) && decide (([a,e]:List Expr).length+([]:List Keyword).length+(if ([]:List Keyword).isEmpty then 0 else 1)<30))=true:=by rfl)
  (hline:(apos.endLine == cpos.line)=true:=by rfl) (h2:starEach [a,e] X.env=(false,eval a X.env)::starEach [e] X.env:=by rfl) (hs:starEach [e] X.env=[(false,eval e X.env)]:=by rfl) (hn:starEach [] X.env=[]:=by rfl) (hp:(backTo cpos (starEach [e] X.env)).any (·.1)=false:=by rfl)
  (hsw:swapsWith (.Call (.Attribute (.Name x npos) "insert" apos) [a,e] [] cpos) none pos.line X.env=pure false:=by rfl) :
  DS X (.Expr (.Call (.Attribute (.Name x npos) "insert" apos) [a,e] [] cpos) pos) (FI i ta te):=by
 refine PS.mono (sK (AW PySem.F.plainAttrs_list PySem.F.slot_list_insert PySem.F.type_list_insert CY (pv i hN hv hd hcd) (iX ha (iX he pP (by rw[hs,hn])) h2) hbase hfew hline h2 hp) hsw) λDe σ H hh=>dX hh λρ E so q n r bk ct=>?_
 unfold FI at q
 split at q
 ·rename_i xs ex
  obtain⟨v,h1,p,vs,ev,hp,h0,rr⟩:=so.rel i _ ex
  subst ev
  refine⟨.ref p,h1,.inl ⟨rfl,vs,SqL.of hp⟩,ρ,_,so,q,λk vk H1 hk s1 rk=>⟨ρ,_,so.ext s1,hk,λd v H2 hd s2 rd=>?_⟩⟩
  obtain⟨j,rfl,hj,sz,fin⟩:=hd
  have sm:=s1.trans s2
  have hp2:=sm.get _ _ hp trivial
  have lr:=rr.length
  obtain⟨so2,k2⟩:=(so.ext sm).upd_own ex h1 hp2 h0 (((rr.take j).keep (.of sm)).append (.cons rd ((rr.drop j).keep (.of sm))))
  have e1:vk = .int (j:Int):=rk.int_inv
  exact⟨p,_,j,v,vs,rfl,by rw[e1],rfl,hp2,by omega,by have:=sz.ok;omega,n _ _ _ fin ((Keep.of sm).trans k2) so2⟩
 ·exact q.elim
noncomputable def DQ (i:Nat) (te:RE):RE:=λρ Q=>te (OI i ρ) λd=>∃n:Int,d = .int n/\Q d
theorem JI (i:Nat) (h:DE X e te):DE X e (DQ i te):=by
 intro pins s σ H Q I ⟨ρ,P,so,q,k⟩
 have q:te (OI i ρ) λd=>∃n:Int,d = .int n/\P d:=q
 have back:∀{d:D} {v:V} {H1 H2:Hp},(∃n:Int,d = .int n/\P d)->Rep X.K H1 d v->Rep X.K H2 d v:=λ{d v H1 H2} ⟨n,e,_⟩ r=>by
  subst e;rw[r.int_inv];exact .int n
 unfold OI at q
 split at q
 ·rename_i ds ex
  obtain⟨v,h1,p,vs,rfl,hp,h0,rr⟩:=so.rel i _ ex
  obtain⟨o,I2⟩:=Inv.freeze I hp
  have kp:Keep H (upd H p (.frz o (.lst vs))):=Keep.chg1 hp (.inl ⟨_,rfl⟩)
  obtain⟨so2,k2⟩:=so.updW (x':=.d (.lst ds)) (v':=.ref p) ex h1 (H':=upd H p (.frz o (.lst vs))) (λb o h w=>by rw[aI (by rintro rfl;exact w rfl)];exact h) (.lst (.inl ⟨o,aW⟩) (rr.keep kp)) λa o=>o.elim
  rw[cS h1] at so2
  refine thn (h pins s σ _ (λv H3=>∃d,(∃n:Int,d = .int n/\P d)/\Same (upd H p (.frz o (.lst vs))) H3/\Rep X.K H3 d v) I2 ⟨_,_,so2,q,λd v H3 hd s3 r=>⟨d,hd,s3,r⟩⟩) λu s1 ⟨v,H3,I3,rv,d,hd,s3,r⟩=>?_
  have h3:=s3.get _ _ (aW (H:=H) (a:=p) (o:=.frz o (.lst vs))) trivial
  refine⟨v,upd H3 p (.lst vs),Inv.thaw I3 h3 h0,rv,k d v _ (let ⟨_,_,z⟩:=hd;z) ⟨λc u hc nt=>?_,(kp.tbls.trans s3.tbls).trans (.of (λc φ z=>by rw[aI (by rintro rfl;rw[h3] at z;cases z)];exact z) λc ps z=>by rw[aI (by rintro rfl;rw[h3] at z;cases z)];exact z)⟩ (back hd r)⟩
  by_cases hcp:c=p
  ·subst hcp;rw[hp] at hc;cases hc;exact aW
  ·rw[aI hcp];exact s3.get c u (by rw[aI hcp];exact hc) nt
 ·exact h pins s σ H Q I ⟨ρ,_,so,q,λd v H' ⟨n,e,z⟩ s' r=>k d v H' z s' r⟩
end
noncomputable abbrev FM:=List (List Int)->List D->List D->(List Int->D->Prop)->Prop
section
variable {X:Cx} {k:Nat} {ps:List Str} {F:FM} {x y:Str} {p py pos spos:Pos} {es:List Expr} {t:RA}
end
section
variable {X:Cx} {e k f:Expr} {pos pos' p npos apos cpos:Pos} {te tk tf:RE} {x:Str} {a:Addr} {ks:List (List Int)} {xs:List D} {ws:List V}
end
noncomputable abbrev RM:=(List Int->D->Prop)->En->Prop
section
variable {X:Cx} {st:Stmt} {rest:List Stmt} {e k:Expr} {pos pos' npos:Pos} {t:RS} {u:RM} {te tk:RE} {x:Str} {a:Addr} {ks:List (List Int)} {xs:List D} {ws:List V}
end
section
variable {P:Program} {w:World} {K:PySem.W.Frag} {mg:Str->Option Value} {base:Heap}
end
end L2.R2
set_option Elab.async false
set_option linter.all false
set_option maxRecDepth 100000
namespace L2.R2
open PySem PySem.Spec PySem.W PyProof.Rows L2
section
variable {prog:Program} {w:World} {A:Around} {E:Value->Shared->Prop} {s:Shared} {name qual:Str} {params:Arguments} {body:Expr} {scope:Scope} {clos:List (Str × Addr)} {pm ctv v:Value} {f c':Addr} {x:Str} {Q:Value->Shared->Prop}
theorem KJ (hroom:A.depth<recursionLimit) (ho:s.heap.get? f=some (kla_obj name qual params body scope clos pm c' ctv)) (hcd:s.heap.CodeRec (.ref c') qual) (hnl:s.heap.NoLimit)
  (hbind:bindArgs (kla_fn name qual params body scope clos pm (.ref c') ctv) ⟨[v],[]⟩=pure [(x,v)]) (hloc:scope.names.lookup x=some .local) (hco:scope.isCoroutine=false) (hgen:scope.isGenerator=false) (hk:scope.kind = .function) (hcell:∀y∈scope.names,y.2≠.cell)
  (h:∀h₁ tk,h₁.Ns s.heap.objs.size (λy=>[(x,v)].reverse.lookup y)->(∀b o,s.heap.get? b=some o->h₁.get? b=some o) ->
   wpAny (model prog w) (A.deeper (envX qual scope s.heap.objs.size f (.ref c') clos)) (eval body (envX qual scope s.heap.objs.size f (.ref c') clos)) Q (λ_ _=>False) { s with heap:=h₁,toks:=tk }) :
  wpAny (model prog w) A (call (.ref f) [v]) Q E s:=by
 refine wpAny_call (kla_callFunE hroom ho rfl hco hgen rfl hcd ?_)
 rw[hbind]
 refine wpAny_pure (wpAny_newFunctionEnv hcell (λy hy=>by rw[List.mem_singleton.mp hy];exact hloc) (λh₁ hns hsb=>⟨hnl.fresh _ hsb,?_⟩) hk)
 have hk₁:∀b o,s.heap.get? b=some o->h₁.get? b=some o:=λb o e=>hsb.extBut b o (Nat.ne_of_lt (Heap.lt_size e)) (Heap.get?_push_of_some _ e)
 exact kla_codeExpr (wpAny_mono (h h₁ _ hns hk₁) (λu s' hq=>hq) λ_ _ z=>z.elim)
end
noncomputable def QE (prog:Program) (w:World) (A:Around) (env:Env) (h:Heap) (e:Expr) (R:Value->Prop):Prop :=
 ∀(s:Shared) (Q:Value->Shared->Prop),s.heap=h->(∀u tk,R u->Q u { s with toks:=tk })->wpAny (model prog w) A (eval e env) Q (λ_ _=>False) s
noncomputable def IsI (i:Int) (u:Value):Prop:=∃t,u = .int i t
section
variable {prog:Program} {w:World} {A:Around} {env:Env} {h:Heap} {a b:Expr} {pos:Pos} {i j:Int} {m:Str->Option Value} {x:Str}
theorem WB {u:Value} (hk:env.scope.kind = .function) (hx:env.kindOf x=some .local) (hn:h.Ns env.locals m) (hm:m x=some u) (hd:(x == ("__debug__":Str))=false:=by decide):QE prog w A env h (.Name x pos) (· = u):=λs Q e k=>by
 subst e
 exact wpAny_Name (wpAny_loadName_local hk hx hn hm (k u s.toks rfl)) hd
theorem TU {u:Value} {c:Addr} (hk:env.scope.kind = .function) (hx:env.kindOf x=some .free) (hc:env.cells.lookup x=some c) (hi:h.IsCell c (some u)) (hd:(x == ("__debug__":Str))=false:=by decide) (hcd:(x == ("__classdict__":Str))=false:=by decide):QE prog w A env h (.Name x pos) (· = u):=λs Q e k=>by
 subst e
 exact wpAny_Name (wpAny_loadName_free hk hx hc hi (k u s.toks rfl) hcd) hd
theorem QV {n:Nat}:QE prog w A env h (.Constant (.int i) n pos) (IsI i):=λs Q e k=>wpAny_Constant_int (k _ _ ⟨_,rfl⟩)
theorem QU {op:Operator} {r:Int} (rule:∀(t u:Tok) (s:Shared) (Q:Value->Shared->Prop) (E:Value->Shared->Prop),Q (.int r s.toks) { s with toks:=s.toks+1 }->wpAny (model prog w) A (binaryOp op (.int i t) (.int j u)) Q E s)
  (ha:QE prog w A env h a (IsI i)) (hb:QE prog w A env h b (IsI j)):QE prog w A env h (.BinOp a op b pos) (IsI r):=λs Q e k=>by
 refine wpAny_BinOp (ha s _ e λu tk hu=>hb _ _ e λv tk2 hv=>?_)
 obtain⟨t,rfl⟩:=hu
 obtain⟨t2,rfl⟩:=hv
 exact rule t t2 _ Q _ (k _ _ ⟨_,rfl⟩)
theorem WC (hc:IntMulOk i j) (ha:QE prog w A env h a (IsI i)) (hb:QE prog w A env h b (IsI j)):QE prog w A env h (.BinOp a .Mult b pos) (IsI (i*j)):=QU (λ_ _ _ _ _ q=>mul_int q hc) ha hb
theorem TR (hc:DivOk i j) (ha:QE prog w A env h a (IsI i)) (hb:QE prog w A env h b (IsI j)):QE prog w A env h (.BinOp a .FloorDiv b pos) (IsI (i.fdiv j)):=QU (λ_ _ _ _ _ q=>floordiv_int hc.nz q (.inl hc.np)) ha hb
theorem WA {p:Addr} {its:List Value} {n:Nat} {u:Value} (ha:QE prog w A env h a (· = .ref p)) (hb:QE prog w A env h b (IsI (n:Int))) (ht:IsTup h p its.toArray) (hz:its.length<=sizeLine) (hu:its[n]? = some u) (hs:xC b):QE prog w A env h (.Subscript a b pos) (· = u):=λs Q e k=>by
 subst e
 refine Subscript_ (ha s _ rfl λo tk ho=>hb _ _ rfl λv tk2 hv=>?_)
 obtain rfl:o = .ref p:=ho
 obtain⟨t,rfl⟩:=hv
 obtain⟨j,h1,h2,h3,h4,h5⟩:=xE (dN (xs:=its) hu)
 have l63:=yE
 exact subscriptTail_builtinR (x:=u) ht.typeIs slot_tuple_getitem.lookup
  (getItem_tuple (j:=j) (Q:=λr s'=>r=u/\Q r s') ht (by omega) (by omega) (by rw[List.size_toArray];exact h1) (by simpa using h2) ⟨rfl,k u _ rfl⟩) (hs _ _)
end
noncomputable def e0H:Heap:={ objs:=#[] }
section
variable {prog:Program} {w:World} {A:Around} {E:Value->Shared->Prop} {s:Shared} {L l f:Addr} {m:Str->Option Value} {vs:List Value} {kz:List Int} {Q:Value->Shared->Prop}
theorem oG (b:Addr):e0H.get? b=none:=by simp[e0H,Heap.get?]
theorem MQ (hL:s.heap.Ns L m) (hl:s.heap.IsList l vs.toArray) (hlen:kz.length=vs.length) (h64:vs.length<64) (hf:s.heap.objs.size=f+1) (hfo:∃o,s.heap.get? f=some o) (hfL:f≠L)
  (turn:∀(i:Nat) (v:Value) (k:Int),vs[i]? = some v->kz[i]? = some k->∀(h:Heap) (tk:Nat),(∀b o,b≠L->s.heap.get? b=some o->h.get? b=some o)->h.Ns L m ->
   wpAny (model prog w) A.in1.in1 (call (.ref f) [v]) (λu s'=>∃h' tk' t',s' = { s with heap:=h',toks:=tk' }/\u = .int k t'/\∀b o,h.get? b=some o->h'.get? b=some o) (λ_ _=>False) { s with heap:=h,toks:=tk })
  (q:∀D h' tk out c,(∀b o,b≠L->s.heap.get? b=some o->h'.get? b=some o)->h'.Ns L m->s.heap.objs.size<=D->h'.get? D=some (seqObj "list" out c)->KskOut false kz vs out.toList->Q (.ref D) { s with heap:=h',toks:=tk }) :
  wpAny (model prog w) A (call (.builtin "sorted") [.ref l] [(Str.ofString "key",.ref f)]) Q E s:=by
 have F:Fr e0H L s.heap m:=⟨hL,λb o e=>(by rw[oG] at e;cases e),Nat.zero_le _⟩
 have old:∀{h:Heap} {own:List (Addr × Obj)},News e0H L h (nZ e0H s.heap L++own)->∀b o,b≠L->s.heap.get? b=some o->h.get? b=some o:=λ{h own} N b o n e =>
  (N (b,o) (List.mem_append_left _ (lF n (oG b) e))).1
 refine ksk_sorted (kz:=kz) (f:=.ref f) (b:=false) F (KY (g:=e0H) (h:=s.heap) (L:=L)) hl hlen h64 (ksk_s1 _ _) (λx=>ksk_l1 _ _) (λx=>ksk_t1 f x) (λi v k hv hk h tk own Fh N=>?_) λD h' tk out c F' N' hlt ko=>?_
 ·refine wpAny_mono (turn i v k hv hk h tk (old N) Fh.ns) (λu s' hu=>?_) λ_ _ z=>z
  obtain⟨h',tk',t',rfl,rfl,kp⟩:=hu
  exact⟨h',tk',t',rfl,rfl,⟨Fh.ns.keeps kp,λb o e=>(by rw[oG] at e;cases e),Nat.zero_le _⟩,λp hp=>⟨kp _ _ (N p hp).1,(N p hp).2⟩⟩
 ·obtain⟨o,ho⟩:=hfo
  have h1:f<D:=hlt (f,o) (lF hfL (oG f) ho)
  refine q D h' tk out c (λb o n e=>(N' (b,o) (List.mem_cons_of_mem _ (lF n (oG b) e))).1) F'.ns (by rw[hf];exact h1) (N' _ List.mem_cons_self).1 ko
end
end L2.R2
set_option Elab.async false
set_option linter.all false
set_option maxRecDepth 100000
namespace L2.R2
open PySem PySem.Spec PyProof.Rows L2
section
variable {P:Program} {w:World} {K:PySem.W.Frag} {mg:Str->Option Value} {base:Heap}
theorem zJ {x qual:Str} {st:Stmt} {f c T:Addr} {oc kV doc pm cdv ct:Value} {od an:Option Addr} {osl:Array (Option Value)} (M:Mod K mg base) (hm:mg x=some (.ref f))
  (lk:K.lookup f=some ⟨oc,od,.func (PySem.W.fnOf x qual (bA st) (aM st) (aC st) .none kV doc pm an cdv ct),osl⟩) (e:PySem.W.tabIn K x=some (c,T)):cdv = .ref c:=by
 unfold PySem.W.tabIn at e
 split at e
 ·rename_i f' hf
  have e1:=PySem.W.mg_of M.kin M.glob hf
  rw[hm] at e1;cases e1
  rw[lk] at e
  dsimp only at e
  split at e
  ·split at e
   ·split at e
    ·cases e;rfl
    ·cases e
   ·cases e
  ·cases e
 ·cases e
theorem DefAt.okC {x:Str} {st:Stmt} {N ps:List Str} {k:Nat} {F:FD} {t:RS} (Z:DefAt K mg x st ps) (Sc:FnScope N ps (aC st))
  (hbody:∀{f:Addr} (cdv:Value) (A:Around) (outer:List Env) (s:Shared) (H:Hp) (E:XK),(∀c T,PySem.W.tabIn K x=some (c,T)->cdv = .ref c)->Room k (A.deeper (envOfC x (aC st) s.heap.objs.size f cdv)) ->
   DSs (cN CX0 P w K mg base N x (aC st) f cdv A outer s H E).nox (aM st) t)
  (len:∀ds Q,F ds Q->ds.length=ps.length) (pure:∀ds Q,F ds Q->t { nx:=λ_=>Q .non,rt:=Q } (aO N ds)):FnAt P w K mg base x ps (k+1) F:=by
 obtain⟨f,fd,a,b,c⟩:=Z.ex
 obtain⟨oc,od,kV,doc,pm,an,cdv,ct,osl,rfl,lk,hcd⟩:=a.ex
 have main:Mod K mg base->FnOk P w K mg base CX0 (k+1) f (PySem.W.fnOf x x (bA st) (aM st) (aC st) .none kV doc pm an cdv ct) ps (spD K F):=λM =>
  QI lk hcd Sc (λvs H Q E ⟨_,ds,P',r,h,_⟩=>by rw[<-r.length];exact len ds P' h) λA outer s H vs Q E hr ⟨tb,ds,P',r,h,kk⟩ =>
   ⟨_,(hbody cdv A outer s H E (λc T e=>zJ M b lk e) hr).nox,⟨aO N ds,_,BQ (X:=(cN CX0 P w K mg base N x (aC st) f cdv A outer s H E).nox) tb r,pure ds P' h,λρ' σ' H' hq k s'=>kk .non .non H' hq s'.same .non,λd v H' hq k sm rv=>kk d v H' hq sm rv,λ_ _ _ z=>z.elim,λ_ _ _ z=>z.elim⟩⟩
 exact⟨f,_,⟨λvs H Q E ⟨_,ds,P',r,h,_⟩=>by rw[<-r.length];exact len ds P' h,λA outer s H args us vs Q E hr e0 hb r hs=>(main e0.mod).run A outer s H args us vs Q E hr e0 hb r hs⟩,.all c,a.kp,b⟩
end
structure LamW (K:PySem.W.Frag) (mg:Str->Option Value) (base:Heap) (x:Str) (c T:Addr):Prop where
 tab:PySem.W.tabIn K x=some (c,T)
 hd:PySem.W.CodeHd base c T
 blt:base.BuiltinsAt mg T
 ne:mainGlobals≠T
section
variable {X:Cx} {pins:List (Addr × Obj)} {σ:St} {H:Hp} {s:Shared}
theorem JA {P:Program} {w:World} {h:Heap} {c:Addr} {q:Str} {oc:Obj} {vs:Array Value} {t:Tok} (e:h.get? c=some oc) (hd:oc.data = .fields vs) (hv:vs[1]? = some (.str q t)):ObjOk P w H h c (nS c q) :=
 ⟨⟨oc,vs,t,e,hd,hv⟩,⟨_,e⟩,λh1 h2 ⟨oc,vs,t,e,d,v⟩ k=>⟨oc,vs,t,k _ e,d,v⟩⟩
theorem CF {pos pos':Pos} {c cv:Value} (l:List Value) (ht:TriplesOk l) (h:codeAmong pos' (l++[rawInt pos.line,rawInt pos.col,c])=some cv):codeAmong pos' l=some cv\/(cv=c/\pos'.col=pos.col):=by
 fun_induction TriplesOk l with
 | case1 =>
  simp only[List.nil_append,codeAmong,rawInt] at h
  split at h
  ·rename_i hh
   cases h
   refine .inr ⟨rfl,?_⟩
   simp at hh
   omega
  ·cases h
 | case2 a' t b' u x rest ih =>
  simp only[List.cons_append,codeAmong] at h ⊢
  split at h
  ·rename_i hh
   rw[if_pos hh];exact .inl h
  ·rename_i hh
   rw[if_neg hh];exact ih ht h
 | case3 l h1 h2=>exact ht.elim
theorem KL {ρ:En} {x:Str} {c T:Addr} {params:Arguments} {body:Expr} {scope:Scope} {lpos:Pos} {clos:List (Str × Addr)} {Q:Value->Shared->Prop} {E:Value->Shared->Prop} (so:StOk X ρ σ H) (I:Inv X pins σ H s) (W:LamW X.K X.mg X.base x c T) (hx:x∈hX) (hcd:X.env.code = .ref c)
  (hdef:defaultsOf params X.env=([],[])) (hcl:closureFor scope X.env=pure clos) (hqual:X.env.qual ++ "<lambda>" = iE lpos.col)
  (h:∀H2 h' f c' ctv tk,Inv X pins σ H2 { s with heap:=h',toks:=tk }->Same H H2->h'.objs.size=f+1->H2 f=none->s.heap.objs.size<=f->h'.get? f=some (PySem.W.kla_obj "<lambda>" (iE lpos.col) params body scope clos ((X.mg "__name__").getD .none) c' ctv)->h'.CodeRec (.ref c') (iE lpos.col) ->
   Q (.ref f) { s with heap:=h',toks:=tk }):wpAny (model X.prog X.w) X.A (eval (.Lambda params body scope lpos) X.env) Q E s:=by
 obtain⟨ps,hT,ok⟩:=so.tabs x c T hx W.tab
 have hP:s.heap.get? T=some (PySem.W.tabObj ps):=I.hok T _ hT
 have hg:s.heap.Ns mainGlobals X.mg:=I.mod.glob.keeps I.bk
 refine PySem.W.kla_eval hdef ?_
 rw[hqual]
 cases hn:codeAmong lpos ps.toList with
 | none =>
  refine PySem.W.kla_makeFunction hcl I.ok.glob hg hcd (W.hd.keeps I.bk) hP ok.ok hn W.ne (W.blt.keeps I.bk) λc' ctv h' tk hx' hge hlt hrec htb=>?_
  obtain⟨c2,oc,vs,t,e2,hoc,hd,hv⟩:=id hrec
  cases e2
  have nT:∀b o,H b=some o->(∀qs,o≠.tbl qs)->b≠T:=λb o q n z=>by subst z;rw[hT] at q;cases q;exact n _ rfl
  have ncp:H c'=none:=I.hok.fresh hge
  have nTc:T≠c':=aQ hT ncp
  have up:∀b o,b≠T->s.heap.get? b=some o->(h'.push (PySem.W.kla_obj "<lambda>" (iE lpos.col) params body scope clos ((X.mg "__name__").getD .none) c' ctv)).get? b=some o:=λb o n e=>Heap.get?_push_of_some _ (hx' b o n e)
  have size:s.heap.objs.size<=h'.objs.size:=Nat.le_trans hge (Nat.le_of_lt hlt)
  have at2:∀b o,H b=some o->b≠T->upd (upd H c' (nS c' (iE lpos.col))) T (.tbl (ps ++ #[rawInt lpos.line,rawInt lpos.col,.ref c'])) b=some o:=λb o q n=>by
   rw[aI n,aI (aQ q ncp)];exact q
  have codeAt:upd (upd H c' (nS c' (iE lpos.col))) T (.tbl (ps ++ #[rawInt lpos.line,rawInt lpos.col,.ref c'])) c'=some (nS c' (iE lpos.col)):=by rw[aI (Ne.symm nTc),aW]
  have lamk:LamK H (upd (upd H c' (nS c' (iE lpos.col))) T (.tbl (ps ++ #[rawInt lpos.line,rawInt lpos.col,.ref c']))):=λb qs q=>by
   by_cases hb:b=T
   ·subst hb
    rw[hT] at q;cases q
    refine⟨_,aW,λ_=>⟨?_,λpos cv z=>?_⟩⟩
    ·rw[Array.toList_append];exact TriplesOk_snoc _ _ _ _ ok.ok
    ·rw[Array.toList_append] at z
     rcases CF (pos:=lpos) (c:=.ref c') _ ok.ok z with z | ⟨rfl,zc⟩
     ·obtain⟨d,e1,e3⟩:=ok.code pos cv z
      exact⟨d,e1,at2 d _ e3 (nT d _ e3 λ_ z=>by cases z)⟩
     ·exact⟨c',rfl,by rw[zc];exact codeAt⟩
   ·refine⟨#[],by rw[Array.append_empty];exact at2 b _ q hb,λk=>by rw[Array.append_empty];exact k.mono λd φ z=>at2 d _ z (nT d _ z λ_ z=>by cases z)⟩
  have sm:Same H (upd (upd H c' (nS c' (iE lpos.col))) T (.tbl (ps ++ #[rawInt lpos.line,rawInt lpos.col,.ref c']))):=⟨λb o q nt=>at2 b o q (nT b o q λqs z=>by subst z;exact nt),lamk⟩
  have hok:HOk X.prog X.w (upd (upd H c' (nS c' (iE lpos.col))) T (.tbl (ps ++ #[rawInt lpos.line,rawInt lpos.col,.ref c']))) (h'.push (PySem.W.kla_obj "<lambda>" (iE lpos.col) params body scope clos ((X.mg "__name__").getD .none) c' ctv)):=λb u q=>by
   by_cases hb:b=T
   ·subst hb
    rw[aW] at q;cases q
    exact Heap.get?_push_of_some _ htb
   ·rw[aI hb] at q
    by_cases hc:b=c'
    ·subst hc
     rw[aW] at q;cases q
     exact JA (Heap.get?_push_of_some _ hoc) hd hv
    ·rw[aI hc] at q
     refine (I.hok b u q).stay (λd v hd' e=>up d v ?_ e) (λd e=>at2 d _ e (nT d _ e λ_ z=>by cases z)) λd xs e=>at2 d _ e (nT d _ e λ_ z=>by cases z)
     rcases hd' with rfl | z
     ·exact hb
     ·exact nT d _ z λ_ z=>by cases z
  have un:Un X.fs [] H (upd (upd H c' (nS c' (iE lpos.col))) T (.tbl (ps ++ #[rawInt lpos.line,rawInt lpos.col,.ref c']))) s.heap (h'.push (PySem.W.kla_obj "<lambda>" (iE lpos.col) params body scope clos ((X.mg "__name__").getD .none) c' ctv)):=by
   have neT:∀b,H b=none->b≠T:=λb n z=>by subst z;rw[hT] at n;cases n
   refine⟨λb o e n _ _=>up b o (neT b n) e,λb o e n _ _=>⟨o.slots,up b o (neT b n) e⟩,λb o e n _=>?_,λb o e _=>?_,λb xs q=>sm.get b _ q trivial,λb o u q=>sm.get b _ q trivial,λb qs q=>sm.tbl q⟩
   ·rw[aI (neT b n),aI (Nat.ne_of_lt (Nat.lt_of_lt_of_le (Heap.lt_size e) hge))];exact n
   ·by_cases hb:b=T
    ·subst hb;exact⟨_,Heap.get?_push_of_some _ htb⟩
    ·exact⟨o,up b o hb e⟩
  refine h _ _ h'.objs.size c' ctv tk (I.un un hok) sm (Heap.size_push ..) ?_ size (Heap.get?_push_size _ rfl) ⟨c',oc,vs,t,rfl,Heap.get?_push_of_some _ hoc,hd,hv⟩
  have fr:H h'.objs.size=none:=I.hok.fresh size
  rw[aI (Ne.symm (aQ hT fr)),aI (Nat.ne_of_gt hlt)]
  exact fr
 | some cv =>
  obtain⟨c',rfl,hc'⟩:=ok.code lpos cv hn
  obtain⟨⟨oc,vs,t,hoc,hd,hv⟩,_⟩:=I.hok c' _ hc'
  refine PySem.W.kla_makeFunctionHit hcl I.ok.glob hg hcd (W.hd.keeps I.bk) hP ok.ok hn (W.blt.keeps I.bk) λctv h' tk hk hsz=>?_
  exact h H _ h'.objs.size c' ctv tk (I.kept λb o e=>Heap.get?_push_of_some _ (hk b o e)) (Same.refl H) (Heap.size_push ..) (I.hok.fresh hsz) hsz (Heap.get?_push_size _ rfl) ⟨c',oc,vs,t,rfl,Heap.get?_push_of_some _ (hk _ _ hoc),hd,hv⟩
end
theorem AY {α β:Type} {g:α->β}:∀{l1 l0:List β},l1.Perm l0->∀l2:List α,l0=l2.map g->∃l3:List α,l3.Perm l2/\l1=l3.map g:=by
 intro l1 l0 h
 induction h with
 | nil=>intro l2 e;exact⟨[],by rw[List.map_eq_nil_iff.mp e.symm],rfl⟩
 | cons x p ih =>
  intro l2 e
  cases l2 with
  | nil=>cases e
  | cons a l2 =>
   obtain⟨e1,e2⟩:=List.cons.inj e
   obtain⟨l3,p3,e3⟩:=ih l2 e2
   exact⟨a::l3,p3.cons a,by rw[List.map_cons,e3,e1]⟩
 | swap x y l =>
  intro l2 e
  match l2,e with
  | a::b::l2,e =>
   obtain⟨e1,e2⟩:=List.cons.inj e
   obtain⟨e3,e4⟩:=List.cons.inj e2
   exact⟨b::a::l2,List.Perm.swap ..,by simp[e1,e3,e4]⟩
 | trans p1 p2 ih1 ih2 =>
  intro l2 e
  obtain⟨l3,p3,e3⟩:=ih2 l2 e
  obtain⟨l4,p4,e4⟩:=ih1 l3 e3
  exact⟨l4,p4.trans p3,e4⟩
theorem VO {h:Heap} {L:Addr} {m m':Str->Option Value} (a:h.Ns L m) (b:h.Ns L m'):m=m':=a.eq_nsMap.trans b.eq_nsMap.symm
noncomputable abbrev pr2 (p:Int × Int):D:=.tup [.int p.1,.int p.2]
noncomputable def yO (j:Nat) (te:RE):RA:=λρ Q=>te ρ λx=>∃(B:Int) (fs:List (Int × Int)),ρ[j]? = some (some (.d (.int B)))/\x = .lst (fs.map pr2)/\fs.length<64/\(∀f∈fs,DivOk B f.2/\MulOk f.1 (B.fdiv f.2)) /\
 ∀gs:List (Int × Int),gs.Perm fs->gs.Pairwise (λp q=>p.1*B.fdiv p.2<=q.1*B.fdiv q.2)->Q (gs.map pr2)
theorem _root_.L2.Inv.frame {X:Cx} {pins:List (Addr × Obj)} {σ:St} {H:Hp} {s:Shared} {h':Heap} {tk:Nat} {m:Str->Option Value} (I:Inv X pins σ H s) (hn:s.heap.Ns X.env.locals m) (hn':h'.Ns X.env.locals m) (k:∀b o,b≠X.env.locals->s.heap.get? b=some o->h'.get? b=some o):Inv X pins σ H { s with heap:=h',toks:=tk }:=by
 have nL:∀b u,H b=some u->b≠X.env.locals:=λb u e z=>by rw[z,I.free] at e;cases e
 refine I.step (g':=s.gens) (d':=s.drawn) (ch:=[]) (λ_ z=>nomatch z) (λb o n _ _ e _=>k b o n e) (λb o n _ _ e _=>⟨o.slots,k b o n e⟩) (λ_ _ _ _ n=>n) (λb o _ e=>?_) (λ_ _ e=>e) (λ_ _ _ e=>e) (λb ps e=>⟨#[],by rw[e];simp⟩) (λm' hm=>?_) (λb u e=>?_) I.bare
 ·by_cases hb:b=X.env.locals
  ·subst hb;obtain⟨o',_,_,e',_⟩:=hn';exact⟨o',e'⟩
  ·exact⟨o,k b o hb e⟩
 ·rw[VO hm hn];exact hn'
 ·refine (I.hok b u e).stay (λc v hc q=>k c v ?_ q) (λ_ q=>q) λ_ _ q=>q
  rcases hc with rfl | hc
  ·exact nL c u e
  ·exact nL c _ hc
theorem uL {K:PySem.W.Frag} {H:Hp}:∀(l:List ((Int × Int) × Value)),(∀x∈l,∃v,RelV v x.2/\Rep K H (pr2 x.1) v)->∃ws:List V,Vals ws (l.map (·.2))/\Reps K H (l.map λx=>pr2 x.1) ws
 | [],_=>⟨[],.nil,.nil⟩
 | x::l,h=>by
  obtain⟨ws,h1,h2⟩:=uL l λy hy=>h y (List.mem_cons_of_mem _ hy)
  obtain⟨v,r1,r2⟩:=h x List.mem_cons_self
  exact⟨v::ws,.cons r1 h1,.cons r2 h2⟩
theorem KK {x y:Str} {l:List (Str × Addr)} {c:Addr} (h:l.lookup y=some c):∀z∈[(x,NameKind.local),(y,NameKind.free)],z.2=NameKind.free->∃c,l.lookup z.1=some c:=λz m e=>by
 rcases List.mem_cons.mp m with rfl | m
 ·cases e
 ·cases List.mem_singleton.mp m;exact⟨c,h⟩
section
variable {X:Cx} {e:Expr} {te:RE} {p pos kp lpos:Pos} {x y dn:Str} {c T:Addr} {k j:Nat} {params:Arguments} {scope:Scope} {p1 p2 p3 p4 p5 p6 p7 p8 p9:Pos} {n1 n2:Nat}
theorem GK (hr:Room (k+3) X.A) (hms:X.mg "sorted" = none) (W:LamW X.K X.mg X.base dn c T) (hdn:dn∈hX) (hcd:X.env.code = .ref c) (h:DB X e te)
  (hqual:X.env.qual ++ "<lambda>" = iE lpos.col) (hgs:Gl X "sorted":=by rfl) (hdef:defaultsOf params X.env=([],[]):=by rfl) (hfree:∀z∈scope.names,z.2 = .free->∃c,X.env.cells.lookup z.1=some c)
  (hs:starEach [e] X.env=[(false,eval e X.env)]:=by rfl) (hn:starEach [] X.env=[]:=by rfl)
  (hbind:∀(q:Str) (body:Expr) (cl:List (Str × Addr)) (pm cd ct v:Value),bindArgs (PySem.W.kla_fn "<lambda>" q params body scope cl pm cd ct) ⟨[v],[]⟩=pure [(x,v)]:=by intro _ _ _ _ _ _ _;rfl)
  (hloc:scope.names.lookup x=some .local:=by rfl) (hco:scope.isCoroutine=false:=by rfl) (hgen:scope.isGenerator=false:=by rfl) (hk:scope.kind = .function:=by rfl) (hcell:∀z∈scope.names,z.2≠.cell:=by decide)
  (hy:scope.names.lookup y=some .free:=by rfl) (hyN:X.N[j]? = some y:=by rfl) (hyk:X.env.kindOf y=some .cell:=by rfl)
  (hdx:(x == ("__debug__":Str))=false:=by decide) (hdy:(y == ("__debug__":Str))=false:=by decide) (hdc:(y == ("__classdict__":Str))=false:=by decide) :
  DO X (.Call (.Name "sorted" p) [e] [⟨some "key",.Lambda params (.BinOp (.Subscript (.Name x p1) (.Constant (.int 0) n1 p2) p3) .Mult (.BinOp (.Name y p4) .FloorDiv (.Subscript (.Name x p5) (.Constant (.int 1) n2 p6) p7) p8) p9) scope lpos,kp⟩] pos) (yO j te):=by
 intro pins s σ H Q I hh
 obtain⟨ρ,P,so,q,kq⟩:=hh
 refine wpAny_Call_Name_kw (eJ I hgs hms kX ?_)
 refine callWith_kw (thn (jE h hs hn pos pins s σ H (λvs H1=>∃(B:Int) (fs:List (Int × Int)) (v:V),vs=[v]/\Same H H1/\RepB X.K H1 (.lst (fs.map pr2)) v/\ρ[j]? = some (some (.d (.int B)))/\fs.length<64/\(∀f∈fs,DivOk B f.2/\MulOk f.1 (B.fdiv f.2)) /\
   ∀gs:List (Int × Int),gs.Perm fs->gs.Pairwise (λp q=>p.1*B.fdiv p.2<=q.1*B.fdiv q.2)->P (gs.map pr2)) I
  ⟨ρ,_,so,q,λd v H1 hx s1 r1=>?_⟩) λus s1 ⟨vs,H1,I1,r1,q1⟩=>?_) (by rw[hs,hn];rfl) (by rw[hs];rfl)
 ·obtain⟨B,fs,e1,rfl,e2,e3,e4⟩:=hx
  exact⟨B,fs,v,rfl,s1,r1,e1,e2,e3,e4⟩
 obtain⟨B,fs,v,rfl,s01,rb,hB,h64,hok,hP⟩:=q1
 obtain⟨clos,hcl,hcl1,hcl2⟩:=mX hfree
 refine kws_cons (KL (so.ext s01) I1 W hdn hcd hdef hcl hqual λH2 h2 f c' ctv tk I2 s12 hsz hf0 hfs hfo hrec=>kws_nil ?_)
 have so2:StOk X ρ σ H2:=(so.ext s01).ext s12
 obtain⟨l,vs,rfl,hq,rr⟩:=(rb.same s12).lst
 obtain⟨u,rfl,rx⟩:=lX r1
 cases rx
 obtain⟨its,rv,pl,hz⟩:=I2.list hq
 obtain⟨m,hm,hl⟩:=id I2.loc
 show wpAny (model X.prog X.w) X.A (call (.builtin "sorted") [.ref l] [(Str.ofString "key",.ref f)]) (EP X pins σ Q) X.xe { s1 with heap:=h2,toks:=tk }
 have lf:=rr.length
 have li:=rv.length
 rw[List.length_map] at lf
 have nL:∀b u,H2 b=some u->b≠X.env.locals:=λb u e z=>by rw[z,I2.free] at e;cases e
 have fL:f≠X.env.locals:=λz=>by
  have h1:X.env.locals<s1.heap.objs.size:=I1.lt
  rw[<-z] at h1
  exact absurd (Nat.lt_of_lt_of_le h1 hfs) (Nat.lt_irrefl _)
 have item:∀(i:Nat) (g:Int × Int) (u:Value),fs[i]? = some g->its[i]? = some u->∃a ts,u = .ref a/\H2 a=some (.tup [.int g.1,.int g.2])/\Vals [.int g.1,.int g.2] ts/\IsTup h2 a ts.toArray:=λi g u eg eu=>by
  obtain⟨v,e1,e2⟩:=rr.get (i:=i) (d:=pr2 g) (by rw[List.getElem?_map,eg];rfl)
  obtain⟨u',f1,f2⟩:=rv.get e1
  rw[eu] at f1;cases f1
  cases e2 with
  | tup ha ra =>
   cases f2
   have ev:_=[V.int g.1,V.int g.2]:=Reps.ints_inv (ns:=[g.1,g.2]) ra
   subst ev
   obtain⟨ts,g1,g2,_⟩:=I2.tuple (SqT.of (K:=X.K) ha)
   exact⟨_,ts,rfl,ha,g1,g2⟩
 obtain⟨vB,eB,rB⟩:=so2.rel j _ hB
 have eB':=Rep.int_inv rB
 subst eB'
 obtain⟨uB,rBu,look⟩:=hl j y _ hyN eB (.inr (.inl hyk))
 obtain⟨tB,rfl⟩:=rBu
 obtain⟨cy,ecy,cellY⟩:∃cy,X.env.cells.lookup y=some cy/\h2.IsCell cy (some (.int B tB)):=by
  rcases look with ⟨z,_⟩ | ⟨_,c,e1,e2⟩
  ·rw[hyk] at z;cases z
  ·exact⟨c,e1,e2⟩
 have closY:clos.lookup y=some cy:=by
  obtain⟨c3,e3⟩:=hcl2 (y,.free) (PySem.mem_of_lookup hy) rfl
  have:=hcl1 y c3 e3
  rw[ecy] at this;cases this
  exact e3
 have cyL:cy≠X.env.locals:=I2.cne y cy ecy
 refine MQ (kz:=fs.map λg=>g.1*B.fdiv g.2) hm pl.isList (by rw[List.length_map];omega) (by omega) hsz ⟨_,hfo⟩ fL (λi v kk hv hkk h3 tk3 kp3 ns3=>?_) λD h4 tk4 out c4 kp4 ns4 hD hDo ko=>?_
 ·-- a key
  obtain⟨g,eg,rfl⟩:∃g,fs[i]? = some g/\kk=g.1*B.fdiv g.2:=by
   rw[List.getElem?_map] at hkk
   cases e:fs[i]? with
   | none=>rw[e] at hkk;cases hkk
   | some g=>rw[e] at hkk;cases hkk;exact⟨g,rfl,rfl⟩
  obtain⟨a,ts,rfl,ha,ht,tup⟩:=item i g v eg hv
  obtain⟨hdv,hml⟩:=hok g (List.mem_of_getElem? eg)
  cases ht with
  | cons t1 ht =>
   cases ht with
   | cons t2 ht =>
    cases ht
    obtain⟨k1,rfl⟩:=t1
    obtain⟨k2,rfl⟩:=t2
    refine KJ (x:=x) (s:={ s1 with heap:=h3,toks:=tk3 }) hr.in1.in1.depth (kp3 f _ fL hfo) ?_ (I2.ok.mod.nolimit.keeps λb o e=>kp3 b o (Nat.ne_of_lt (Nat.lt_of_lt_of_le (Heap.lt_size e) (Nat.le_trans I2.ok.bsz I2.ok.above))) (I2.bk b o e)) (hbind _ _ _ _ _ _ _) hloc hco hgen hk hcell λh5 tk5 ns5 kp5=>?_
    ·obtain⟨c2,oc,vs2,t2,e2,hoc,hd2,hv2⟩:=hrec
     exact⟨c2,oc,vs2,t2,e2,kp3 c2 oc (λz=>by
      obtain⟨o',es,ep,e',d',_⟩:=hm
      rw[<-z] at e'
      rw[hoc] at e';cases e'
      rw[hd2] at d';cases d') hoc,hd2,hv2⟩
    ·have body:QE X.prog X.w (X.A.in1.in1.deeper (PySem.W.envX (iE lpos.col) scope h3.objs.size f (.ref c') clos)) (PySem.W.envX (iE lpos.col) scope h3.objs.size f (.ref c') clos) h5 (.BinOp (.Subscript (.Name x p1) (.Constant (.int 0) n1 p2) p3) .Mult (.BinOp (.Name y p4) .FloorDiv (.Subscript (.Name x p5) (.Constant (.int 1) n2 p6) p7) p8) p9) (IsI (g.1*B.fdiv g.2)):=by
      have tup5:IsTup h5 a [Value.int g.1 k1,Value.int g.2 k2].toArray:=by
       obtain⟨o,e1,e2⟩:=tup
       exact⟨o,kp5 a o (kp3 a o (nL a _ ha) e1),e2⟩
      have cell5:h5.IsCell cy (some (.int B tB)):=by
       obtain⟨o,e1,e2⟩:=cellY
       exact⟨o,kp5 cy o (kp3 cy o cyL e1),e2⟩
      have nx:∀{pz:Pos},QE X.prog X.w (X.A.in1.in1.deeper (PySem.W.envX (iE lpos.col) scope h3.objs.size f (.ref c') clos)) (PySem.W.envX (iE lpos.col) scope h3.objs.size f (.ref c') clos) h5 (.Name x pz) (· = .ref a):=WB hk hloc ns5 (by simp) hdx
      have int:∀{i:Int} {t:Tok} {e:Expr},QE X.prog X.w (X.A.in1.in1.deeper (PySem.W.envX (iE lpos.col) scope h3.objs.size f (.ref c') clos)) (PySem.W.envX (iE lpos.col) scope h3.objs.size f (.ref c') clos) h5 e (· = .int i t)->QE X.prog X.w (X.A.in1.in1.deeper (PySem.W.envX (iE lpos.col) scope h3.objs.size f (.ref c') clos)) (PySem.W.envX (iE lpos.col) scope h3.objs.size f (.ref c') clos) h5 e (IsI i):=λhq s Q e k=>hq s Q e λu tk hu=>k u tk ⟨_,hu⟩
      exact WC hml.ok (int (WA (n:=0) nx QV tup5 (show 2<=sizeLine by decide) rfl λ_ _=>rfl)) (TR hdv (int (TU hk hy closY cell5 hdy hdc)) (int (WA (n:=1) nx QV tup5 (show 2<=sizeLine by decide) rfl λ_ _=>rfl)))
     refine body _ _ rfl λu tk6 hu=>?_
     obtain⟨t6,rfl⟩:=hu
     exact⟨h5,tk6,t6,rfl,rfl,kp5⟩
 ·-- what is told
  obtain⟨ps,pp,eo,srt⟩:=ko
  have ez:(fs.map λg=>g.1*B.fdiv g.2).zip its=(fs.zip its).map λz=>(z.1.1*B.fdiv z.1.2,z.2):=by
   rw[List.zip_map_left];rfl
  obtain⟨l3,p3,e3⟩:=AY pp (fs.zip its) ez
  have pf:(l3.map (·.1)).Perm fs:=by
   have:=p3.map (·.1)
   rw[List.map_fst_zip (by omega)] at this
   exact this
  have so':(l3.map (·.1)).Pairwise (λp q=>p.1*B.fdiv p.2<=q.1*B.fdiv q.2):=by
   rw[e3] at srt
   rw[List.pairwise_map] at srt ⊢
   exact srt.imp λ{a b} h=>by simpa using h
  have eout:out.toList=l3.map (·.2):=by rw[eo,e3,List.map_map];rfl
  have mem:∀z∈l3,∃v,RelV v z.2/\Rep X.K H2 (pr2 z.1) v:=λz hz=>by
   obtain⟨i,hi,ei⟩:=List.getElem_of_mem (p3.mem_iff.mp hz)
   have hi':i<fs.length/\i<its.length:=by rw[List.length_zip] at hi;omega
   rw[List.getElem_zip] at ei
   obtain⟨a,ts,e1,ha,_,_⟩:=item i fs[i] its[i] (List.getElem?_eq_getElem hi'.1) (List.getElem?_eq_getElem hi'.2)
   refine⟨.ref a,?_,?_⟩
   ·rw[<-ei];exact e1
   ·rw[<-ei];exact .tup ha (Reps.ints (ns:=[fs[i].1,fs[i].2]))
  obtain⟨ws,V1,R1⟩:=uL l3 mem
  have I4:Inv X pins σ H2 { s1 with heap:=h4,toks:=tk4 }:=I2.frame hm ns4 kp4
  have hD0:H2 D=none:=I2.hok.fresh hD
  have lw:=V1.length
  have l3l:l3.length=fs.length:=by have:=pf.length_eq;simpa using this
  have I5:=I2.trackO (a:=D) (w:=.lst ws) I4 hD hD0 ⟨by rw[sizeLine_eq];simp at lw;omega,out.toList,c4,by rw[eout];exact V1,by simpa using hDo⟩
  exact⟨.ref D,_,I5,rfl,kq _ _ _ H2 (by have:=hP _ pf so';rw[List.map_map] at this;exact this) (s01.trans s12) hD0 R1⟩
end
structure Hid (K K':PySem.W.Frag):Prop where
 get:∀b o,K.lookup b=some o->o.data≠.fields #[]->K'.lookup b=some o
 of:∀b o,K'.lookup b=some o->K.lookup b=some o
section
variable {K K':PySem.W.Frag}
theorem Hid.ns (z:Hid K K') {a:Addr} {x:Str} {r:Option Value} (e:PySem.W.nsIn K a x=some r):PySem.W.nsIn K' a x=some r:=by
 unfold PySem.W.nsIn at e ⊢
 cases q:K.lookup a with
 | none=>rw[q] at e;cases e
 | some o =>
  rw[q] at e
  obtain⟨oc,od,dt,sl⟩:=o
  cases dt with
  | dict es n=>rw[z.get a _ q λy=>by cases y];exact e
  | _=>cases e
theorem Hid.ns' (z:Hid K K') {a:Addr} {x:Str} {r:Option Value} (e:PySem.W.nsIn K' a x=some r):PySem.W.nsIn K a x=some r:=by
 unfold PySem.W.nsIn at e ⊢
 cases q:K'.lookup a with
 | none=>rw[q] at e;cases e
 | some o=>rw[q] at e;rw[z.of a _ q];exact e
theorem Hid.code (z:Hid K K') {cd:Value} {q:Str} (e:PySem.W.codeIn K cd q=true):PySem.W.codeIn K' cd q=true:=by
 unfold PySem.W.codeIn at e ⊢
 split at e
 ·rename_i c
  cases w:K.lookup c with
  | none=>rw[w] at e;cases e
  | some o =>
   rw[w] at e
   obtain⟨oc,od,dt,sl⟩:=o
   cases dt with
   | fields vs =>
    rw[z.get c _ w λy=>by cases y;cases e]
    exact e
   | _=>cases e
 ·cases e
theorem Hid.fn (z:Hid K K') {x qual:Str} {st:Stmt} {f:Addr} {fd:FuncData} (F:Fun K x qual st f fd):Fun K' x qual st f fd:=by
 obtain⟨oc,od,kV,doc,pm,an,cdv,ct,osl,rfl,lk,hcd⟩:=F.ex
 have lk':=z.get f _ lk λy=>by cases y
 refine⟨⟨oc,od,kV,doc,pm,an,cdv,ct,osl,rfl,lk',z.code hcd⟩,?_⟩
 unfold PySem.W.keepIn
 simp only[lk']
theorem Hid.def (z:Hid K K') {mg:Str->Option Value} {x:Str} {st:Stmt} {ps:List Str} (Z:DefAt K mg x st ps):DefAt K' mg x st ps:=by
 obtain⟨f,fd,a,b,c⟩:=Z.ex
 exact⟨f,fd,z.fn a,b,c⟩
theorem Hid.tab' (z:Hid K K') {x:Str} {r:Addr × Addr} (e:PySem.W.tabIn K' x=some r):PySem.W.tabIn K x=some r:=by
 unfold PySem.W.tabIn at e ⊢
 split at e
 ·rename_i f hf
  rw[z.ns' hf]
  dsimp only
  split at e
  ·rename_i fo
   rw[z.of _ _ fo]
   dsimp only
   split at e
   ·rename_i c hc
    split at e
    ·rename_i co
     rw[z.of _ _ co]
     exact e
    ·cases e
   ·cases e
  ·cases e
 ·cases e
theorem Hid.tab (z:Hid K K') {x:Str} {r:Addr × Addr} (e:PySem.W.tabIn K x=some r):PySem.W.tabIn K' x=some r:=by
 unfold PySem.W.tabIn at e ⊢
 split at e
 ·rename_i f hf
  rw[z.ns hf]
  dsimp only
  split at e
  ·rename_i fo
   rw[z.get _ _ fo λy=>by cases y]
   dsimp only
   split at e
   ·rename_i c hc
    split at e
    ·rename_i vs _ co
     rw[z.get _ _ co λy=>by cases y;cases e]
     exact e
    ·cases e
   ·cases e
  ·cases e
 ·cases e
end
theorem UK {K:PySem.W.Frag} {x:Str} {f c P:Addr} {oc coc:Value} {od cod:Option Addr} {fd:FuncData} {sl csl:Array (Option Value)} {vs:Array Value} (a:PySem.W.nsIn K mainGlobals x=some (some (.ref f))) (l:K.lookup f=some ⟨oc,od,.func fd,sl⟩) (e:fd.code = .ref c)
  (m:K.lookup c=some ⟨coc,cod,.fields vs,csl⟩) (v:vs[11]? = some (.ref P)):PySem.W.tabIn K x=some (c,P):=by
 unfold PySem.W.tabIn
 rw[a];dsimp only
 rw[l];dsimp only
 rw[e];dsimp only
 rw[m];dsimp only
 rw[v]
noncomputable def fD (K:PySem.W.Frag):List Addr:=hX.filterMap λx=>(PySem.W.tabIn K x).map (·.2)
noncomputable def kT (K:PySem.W.Frag):PySem.W.Frag:=K.filter λe=>!(fD K).contains e.1
theorem gE {p:Addr->Bool}:∀(K:PySem.W.Frag) (b:Addr),(K.filter λe=>p e.1).lookup b=if p b then K.lookup b else none
 | [],b=>by simp
 | (a,o)::K,b=>by
  have ih:=gE (p:=p) K b
  by_cases hp:p a
  ·rw[List.filter_cons_of_pos (by exact hp)]
   by_cases hb:b=a
   ·subst hb;simp[List.lookup_cons,hp]
   ·rw[List.lookup_cons,List.lookup_cons,beq_eq_false_iff_ne.mpr hb];exact ih
  ·rw[List.filter_cons_of_neg (by exact hp),ih]
   by_cases hb:b=a
   ·subst hb;simp[hp]
   ·rw[List.lookup_cons,beq_eq_false_iff_ne.mpr hb]
noncomputable def vM (K:PySem.W.Frag) (mg:Str->Option Value) (base:Heap):Prop:=∀x c T,x∈hX->PySem.W.tabIn K x=some (c,T)->LamW K mg base x c T
theorem SM {K:PySem.W.Frag} {h:Heap} (KX:K.In h) (hT:∀b∈fD K,h.get? b=some (PySem.W.tabObj #[])):Hid K (kT K):=by
 refine⟨λb o e n=>?_,λb o e=>?_⟩
 ·unfold kT
  rw[gE (p:=λb=>!(fD K).contains b)]
  have nb:b ∉ fD K:=λm=>by
   have:=hT b m
   rw[KX b o e] at this
   cases this
   exact n rfl
  simp[nb,e]
 ·unfold kT at e
  rw[gE (p:=λb=>!(fD K).contains b)] at e
  split at e
  ·exact e
  ·cases e
theorem OB {K:PySem.W.Frag} {b:Addr} (m:b∈fD K):(kT K).lookup b=none:=by
 unfold kT
 rw[gE (p:=λb=>!(fD K).contains b)]
 simp[m]
theorem yV {l:PySem.W.Frag} {b:Addr}:b∈fD l↔∃x c,x∈hX/\PySem.W.tabIn l x=some (c,b):=by
 unfold fD
 rw[List.mem_filterMap]
 constructor
 ·rintro⟨x,m,e⟩
  obtain⟨⟨c,T⟩,e1,e2⟩:=Option.map_eq_some_iff.mp e
  cases e2
  exact⟨x,c,m,e1⟩
 ·rintro⟨x,c,m,e⟩
  exact⟨x,m,by rw[e];rfl⟩
theorem GV {P:Program} {w:World} {K:PySem.W.Frag} {mg mb:Str->Option Value} {k:Nat} {fa a:Addr} {fd:FuncData} {x:Str} {s₁:Shared} {vs:List Value} {ns:List Int}
  (KX:K.In s₁.heap) (hns:s₁.heap.Ns mainGlobals mg) (hb:s₁.heap.Ns builtinsNs mb) (hbb:∀x:Str,x≠"__name__"->mb x=bootBuiltins x) (hlim:s₁.heap.NoLimit) (hg:s₁.gens = #[])
  (ha:s₁.heap.get? a=some { cls:=.type "list",data:=.seq vs.toArray }) (hi:IntsAre vs ns) (hl:ns.length<=63) (hr:Room k callerA)
  (hbm:∃bm ob,mg "__builtins__" = some (.ref bm)/\bm≠builtinsNs/\s₁.heap.get? bm=some ob/\ob.cls = .type "module"/\ob.dict=some builtinsNs/\ob.data = .plain)
  (hT:∀x c T,x∈hX->PySem.W.tabIn K x=some (c,T)->PySem.W.CodeHd s₁.heap c T/\s₁.heap.get? T=some (PySem.W.tabObj #[]))
  (F:∀(base:Heap) (K':PySem.W.Frag),Hid K K'->K'.In base->base.Ns mainGlobals mg->vM K' mg base->FnOk P w K' mg base CX0 k fa fd [x] (spD K' (FV 63))) (hbind:∀(s:Shared) (u:Value),BindsTo s fd ⟨[u],[]⟩ [(x,u)]) :
  codeAny (model P w) callerA (.call (.ref fa) ⟨[.ref a],[]⟩) (λr s'=>r = .ok (.ret (.bool true))/\OldK s₁.heap s'.heap/\s'.os=s₁.os/\AllBare s'.gens) s₁:=by
 have rv:=jZ hi
 have lenV:=hi.length
 have tb0:∀b∈fD K,s₁.heap.get? b=some (PySem.W.tabObj #[]):=λb m=>by
  obtain⟨x,c,m1,e⟩:=yV.mp m
  exact (hT x c b m1 e).2
 have Z:Hid K (kT K):=SM KX tb0
 have na:a ∉ fD K:=λm=>by
  have:=tb0 a m
  rw[ha] at this;cases this
 have core:∀H:Hp,(∀b u,H b=some u->(b∈fD K/\u = .tbl #[])\/(b=a/\K.lookup a=none/\∃o xs,u = .frz o (.lst xs)))->(∀b∈fD K,H b=some (.tbl #[]))->FzL (kT K) H a (ns.map V.int)->HOk P w H s₁.heap ->
   codeAny (model P w) callerA (.call (.ref fa) ⟨[.ref a],[]⟩) (λr s'=>r = .ok (.ret (.bool true))/\OldK s₁.heap s'.heap/\s'.os=s₁.os/\AllBare s'.gens) s₁:=by
  intro H hO hH hS hok
  have base_of:∀{b:Addr} {o:Obj},s₁.heap.get? b=some o->H b=none->(uY s₁.heap H).get? b=some o:=λe n=>KB e n
  have noA:∀{b:Addr} {o:Obj},s₁.heap.get? b=some o->o.data≠.fields #[]->b≠a->H b=none:=λ{b o} e d n=>by
   cases q:H b with
   | none=>rfl
   | some u =>
    rcases hO b u q with ⟨m,_⟩ | ⟨e',_⟩
    ·have:=tb0 b m
     rw[e] at this;cases this
     exact (d rfl).elim
    ·exact (n e').elim
  have neA:∀{b:Addr} {o:Obj},s₁.heap.get? b=some o->(∀xs n,o.data≠.seq xs n)->b≠a:=λ{b o} e d z=>by
   subst z
   rw[ha] at e;cases e
   exact d _ _ rfl
  have nsK:∀{b:Addr} {m:Str->Option Value},s₁.heap.Ns b m->(uY s₁.heap H).Ns b m:=λ{b m} ⟨o,es,ep,e,d,r⟩=>⟨o,es,ep,base_of e (noA e (by rw[d];intro y;cases y) (neA e (by rw[d];intro _ _ y;cases y))),d,r⟩
  have hKb:(kT K).In (uY s₁.heap H):=λb o e=>base_of (KX b o (Z.of b o e)) (by
   cases q:H b with
   | none=>rfl
   | some u =>
    rcases hO b u q with ⟨m,_⟩ | ⟨e',n,_⟩
    ·rw[OB m] at e;cases e
    ·subst e'
     have:=Z.of b o e
     rw[n] at this;cases this)
  have hM:Mod (kT K) mg (uY s₁.heap H):=⟨hKb,nsK hns,⟨mb,nsK hb,hbb⟩,let ⟨mc,h1,h2⟩:=hlim;⟨mc,nsK h1,h2⟩⟩
  have e0:Env0 P w (kT K) mg (uY s₁.heap H) callerA [] s₁ H:=⟨rfl,hM,λb o e=>OQ e,Nat.le_of_eq (GN _ _),trivial,λb hb=>absurd (show b∈([]:List Addr) from hb) (by simp),hok,.of_eq hg⟩
  have tw:vM (kT K) mg (uY s₁.heap H):=λx c T m e=>by
   obtain⟨hd,ht⟩:=hT x c T m (Z.tab' e)
   refine⟨e,?_,?_,λz=>?_⟩
   ·obtain⟨o,vs',file,tf,flags,tg,inF,text,tt,e1,e2,e3,e4,r⟩:=hd
    refine⟨o,vs',file,tf,flags,tg,inF,text,tt,base_of e1 (noA e1 (by rw[e3];intro y;cases y;cases e4) (neA e1 (by rw[e3];intro _ _ y;cases y))),e2,e3,e4,r⟩
   ·obtain⟨bm,ob,b1,b2,b3,b4,b5,b6⟩:=hbm
    refine⟨bm,ob,b1,b2,λz=>?_,λz=>?_,base_of b3 (noA b3 (by rw[b6];intro y;cases y) (neA b3 (by rw[b6];intro _ _ y;cases y))),b4,b5,b6⟩
    ·obtain⟨o,es,ep,e1,d,_⟩:=hns
     rw[<-z,b3] at e1;cases e1
     rw[b6] at d;cases d
    ·rw[z,ht] at b3;cases b3;cases b6
   ·obtain⟨o,es,ep,e1,d,_⟩:=hns
    rw[z,ht] at e1;cases e1;cases d
  have tin:TabsIn (kT K) H:=λx c T m e=>⟨#[],hH T (yV.mpr ⟨x,c,m,Z.tab' e⟩),⟨trivial,λpos cv z=>by cases z⟩⟩
  refine codeAny_mono ((F _ _ Z hKb (nsK hns) tw).run callerA [] s₁ H ⟨[.ref a],[]⟩ [.ref a] [.ref a] (λv _=>v = .bl true) (λ_ _ _=>False) hr e0 (hbind s₁ (.ref a)) (.cons rfl .nil)
   ⟨tin,[.lst (ns.map .int)],λd=>d = .bl true,.cons (.lst hS .ints) .nil,⟨ns,rfl,hl,rfl⟩,λd v H' e _ r=>by subst e;exact r.bl_inv⟩) λr s' h=>?_
  cases r with
  | error e=>exact False.elim h
  | ok fl =>
   cases fl with
   | next=>exact False.elim h
   | brk=>exact False.elim h
   | cont=>exact False.elim h
   | ret u =>
    obtain⟨v,H',os,bare,un,hok',r',q⟩:=h
    have q':v = .bl true:=q
    subst q'
    obtain rfl:u=Value.bool true:=r'
    have as:∀b o,s₁.heap.get? b=some o->asItWas s₁.heap s'.heap b o:=λb o e=>by
     cases q:H b with
     | none=>exact .inl (un.keep b o e q (by intro z;exact absurd (show b∈([]:List Addr) from z) (by simp)) (by simp))
     | some u =>
      rcases hO b u q with ⟨m,rfl⟩ | ⟨_,_,ob,xs,rfl⟩
      ·obtain⟨more,e2⟩:=un.tbls b _ q
       have e3:s'.heap.get? b=some (PySem.W.tabObj (#[]++more)):=hok' b _ e2
       obtain⟨x,c,m1,e4⟩:=yV.mp m
       obtain⟨hd,ht⟩:=hT x c b m1 e4
       rw[e] at ht;cases ht
       exact .inr (.inl ⟨(hd.tab e).isCodeTable,rfl,#[],more,rfl,e3⟩)
      ·have z2:=un.frzs b ob _ q
       obtain⟨e1,_⟩:=hok b _ q
       obtain⟨e2,_⟩:=hok' b _ z2
       rw[e] at e1;cases e1
       exact .inl e2
    exact⟨rfl,⟨as,λb o e=>un.there b o e (by simp)⟩,os,bare⟩
 cases hk:K.lookup a with
 | some o =>
  have e:=KX a o hk
  rw[ha] at e
  cases e
  refine core (λb=>if b∈fD K then some (.tbl #[]) else none) (λb u z=>?_) (λb m=>if_pos m) (.inr ⟨_,vs.toArray,_,Z.get a _ hk (by intro y;cases y),rfl,rfl,rfl,by rw[List.size_toArray,lenV,sizeLine_eq];omega,by simpa using rv⟩) (λb u z=>?_)
  ·by_cases hb:b∈fD K
   ·have z':=(if_pos hb).symm.trans z
    cases z';exact .inl ⟨hb,rfl⟩
   ·have z':=(if_neg hb).symm.trans z
    cases z'
  ·by_cases hb:b∈fD K
   ·have z':=(if_pos hb).symm.trans z
    cases z';exact tb0 b hb
   ·have z':=(if_neg hb).symm.trans z
    cases z'
 | none =>
  refine core (λb=>if b∈fD K then some (.tbl #[]) else if b=a then some (.frz { cls:=.type "list",data:=.seq vs.toArray } (.lst (ns.map V.int))) else none) (λb u z=>?_) (λb m=>if_pos m) (.inl ⟨{ cls:=.type "list",data:=.seq vs.toArray },?_⟩) (λb u z=>?_)
  ·by_cases hb:b∈fD K
   ·have z':=(if_pos hb).symm.trans z
    cases z';exact .inl ⟨hb,rfl⟩
   ·have z':=(if_neg hb).symm.trans z
    by_cases hb:b=a
    ·have z':=(if_pos hb).symm.trans z'
     cases z';exact .inr ⟨hb,hk,_,_,rfl⟩
    ·have z':=(if_neg hb).symm.trans z'
     cases z'
  ·show (if a∈fD K then _ else _)=_
   rw[if_neg na,if_pos rfl]
  ·by_cases hb:b∈fD K
   ·have z':=(if_pos hb).symm.trans z
    cases z';exact tb0 b hb
   ·have z':=(if_neg hb).symm.trans z
    by_cases hb:b=a
    ·have z':=(if_pos hb).symm.trans z'
     cases z'
     subst hb
     exact⟨ha,by rw[List.length_map,sizeLine_eq];omega,vs,_,rv,ha⟩
    ·have z':=(if_neg hb).symm.trans z'
     cases z'
noncomputable def QB (q:Program) (K:PySem.W.Frag):Prop:=∀x∈hX,(∃d,(recsOf q).find? (λe=>e.name == x)=some d)\/PySem.W.nsIn K mainGlobals x=some none
theorem lamIs {q:Program} {K:PySem.W.Frag} (a:(∃d,(recsOf q).find? (λe=>e.name == ("rising":Str))=some d)\/PySem.W.nsIn K mainGlobals "rising" = some none) (b:(∃d,(recsOf q).find? (λe=>e.name == ("framed_rising":Str))=some d)\/PySem.W.nsIn K mainGlobals "framed_rising" = some none)
  (c:(∃d,(recsOf q).find? (λe=>e.name == ("laid_triangles":Str))=some d)\/PySem.W.nsIn K mainGlobals "laid_triangles" = some none):QB q K:=λx m=>by
 simp only[hX,List.mem_cons,List.not_mem_nil,or_false] at m
 rcases m with rfl | rfl | rfl
 ·exact a
 ·exact b
 ·exact c
theorem DefAt.okLT {P:Program} {w:World} {K:PySem.W.Frag} {mg:Str->Option Value} {x:Str} {st:Stmt} {ps:List Str} {k:Nat} {F:FD} (Z:DefAt K mg x st ps)
  (h:∀(base:Heap) (K':PySem.W.Frag) (f:Addr) (fd:FuncData),Hid K K'->vM K' mg base->Fun K' x x st f fd->FnOk P w K' mg base CX0 k f fd ps (spD K' F)) :
  ∃f fd,mg x=some (.ref f)/\(∀us:List Value,us.length=ps.length->bindArgs fd ⟨us,[]⟩=pure (ps.zip us))/\∀(base:Heap) (K':PySem.W.Frag),Hid K K'->K'.In base->base.Ns mainGlobals mg->vM K' mg base->FnOk P w K' mg base CX0 k f fd ps (spD K' F):=by
 obtain⟨f,fd,a,b,c⟩:=Z.ex
 exact⟨f,fd,b,c,λbase K' z _ _ tw=>h base K' f fd z tw (z.fn a)⟩
theorem walk_lawT {l:PySem.W.OpenLaw} {q:Program} {loose:List Str} {XP:(Str->Option Value)->Heap->Prop} {YP:World->Heap->Prop} {d:DefRec} {K:Params->PySem.W.Frag} {x:Str} {k:Nat}
  (hn:l.most=some 63) (hdf:d.params.defaults=[]) (hr:Room k callerA)
  (hY:∀(w:World) (h:Heap),YP w h->(K w.params).In h) (hd:d.name = "law") (hL:∀w:World,QB q (K w.params))
  (F:∀(w:World) (mg:Str->Option Value) (h:Heap),(K w.params).In h->h.Ns mainGlobals mg ->
   ∃f fd,mg "law" = some (.ref f)/\(∀us:List Value,us.length=[x].length->bindArgs fd ⟨us,[]⟩=pure ([x].zip us)) /\
    ∀(base:Heap) (K':PySem.W.Frag),Hid (K w.params) K'->K'.In base->base.Ns mainGlobals mg->vM K' mg base->FnOk l.prog w K' mg base CX0 k f fd [x] (spD K' (FV 63))) :
  PySem.W.WalkO q loose XP YP l.row.toRowW d [] (λf vs=>PySem.call f vs):=by
 refine Att.attach_call hn hdf λw s₀ s₁ mg mb fa o pm cd doc a vs ns G Y ho hd' hcd hmg hobj hints hlen hg=>?_
 have KX:=hY w _ Y
 rw[hd] at hmg
 obtain⟨f,fd,hm,hb,hF⟩:=F w mg _ KX G.T.g
 rw[hmg] at hm;cases hm
 refine GV KX G.T.g G.T.b G.T.builtins G.T.nolimit hg hobj hints hlen hr G.T.bmain (λx c T m e=>?_) hF λs u=>.of_eq (hb [u] rfl)
 rcases hL w x m with ⟨d',hr⟩ | hz
 ·exact PySem.W.tab_of G.T KX hr e
 ·unfold PySem.W.tabIn at e
  rw[hz] at e;cases e
noncomputable def eC:RS :=
 aY (bD 4 (r2 bV (aD 2) (aD 3)))
 (aY (bD 2 (aK 3))
 (bD 3 (aK 4)))
noncomputable def dS:RS :=
 aY (bD 2 (rCB rF (aB (aK 0) (aG))))
 (aY (bD 3 (rCB rF (aB (aK 1) (aG))))
 (aY (uJ (cD (r2 (hU true) (aD 3) (rC (.int 0)))) (eC))
 (bX (aK 2))))
noncomputable def oV (F_shared_divisor:FD):RS :=
 aY (gB (cD (r2 (hU false) (aD 1) (rC (.int 0)))) ((λ_ _=>False)) (cW))
 (aY (bD 2 (aU F_shared_divisor (aB (aK 0) (aB (aK 1) (aG)))))
 (aY (gB (cD (r2 (jD λi j=>decide (i<j)) (aD 1) (rC (.int 0)))) (bD 2 (r1 mI (aD 2))) (cW))
 (bX (dU (aB (r2 cG (aD 0) (aD 2)) (aB (r2 cG (aD 1) (aD 2)) (aG)))))))
noncomputable def eP:RS :=
 aY (gB (cD (r2 (jD λi j=>decide (i<j)) (aD 1) (r1 fI (aD 0)))) (bX (r2 dIx (aD 0) (aD 1))) (cW))
 (bX (rC (.int 0)))
noncomputable def sM (aZ:FD):RS :=
 bX (aU aZ (aB (r2 bQ (r2 cB (r2 dIx (aD 0) (rC (.int 0))) (r2 dIx (aD 1) (rC (.int 1)))) (r2 cB (r2 dIx (aD 1) (rC (.int 0))) (r2 dIx (aD 0) (rC (.int 1))))) (aB (r2 cB (r2 dIx (aD 0) (rC (.int 1))) (r2 dIx (aD 1) (rC (.int 1)))) (aG))))
noncomputable def oU (aZ:FD):RS :=
 bX (aU aZ (aB (r2 eL (r2 cB (r2 dIx (aD 0) (rC (.int 0))) (r2 dIx (aD 1) (rC (.int 1)))) (r2 cB (r2 dIx (aD 1) (rC (.int 0))) (r2 dIx (aD 0) (rC (.int 1))))) (aB (r2 cB (r2 dIx (aD 0) (rC (.int 1))) (r2 dIx (aD 1) (rC (.int 1)))) (aG))))
noncomputable def oW (aZ:FD):RS :=
 bX (aU aZ (aB (r2 cB (r2 dIx (aD 0) (rC (.int 0))) (r2 dIx (aD 1) (rC (.int 0)))) (aB (r2 cB (r2 dIx (aD 0) (rC (.int 1))) (r2 dIx (aD 1) (rC (.int 1)))) (aG))))
noncomputable def fA:RS :=
 BD 0 1 (aB (aK 1) (aB (r2 bV (aD 0) (aD 1)) (aG)))
noncomputable def eQ:RS :=
 aY (bD 0 (rCB rF (aB (aK 0) (aG))))
 (aY (bD 1 (rCB rF (aB (aK 1) (aG))))
 (aY (uJ (cD (r2 (jD λi j=>decide (j<i)) (aD 1) (rC (.int 0)))) (fA))
 (bX (aK 0))))
noncomputable def fP (YH:FD):RS :=
 aY (bD 2 (aU YH (aB (aK 0) (aB (aK 1) (aG)))))
 (bX (dU (aB (r2 cG (aD 0) (aD 2)) (aB (r2 cG (aD 1) (aD 2)) (aG)))))
noncomputable def dA (F_shared_divisor:FD):RS :=
 bX (r2 cB (aD 0) (r2 cG (aD 1) (aU F_shared_divisor (aB (aK 0) (aB (aK 1) (aG))))))
noncomputable def iL:RS :=
 aY (bD 4 (rC (.int 0)))
 (aY (gB (cD (r2 (jD λi j=>decide (j<i)) (r1 fI (aD 0)) (rC (.int 0)))) (bD 4 (r2 bV (r2 dIx (aD 0) (r2 bV (aD 3) (rCB kZ (aB (r1 fI (aD 0)) (aB (rC (.int 63)) (aG)))))) (r2 bQ (r2 kB (rC (.int 10)) (rC (.int 60))) (rC (.int 7))))) (cW))
 (aY (bD 5 (r2 bV (aD 3) (aD 1)))
 (lM 2 (r2 bV (r2 bQ (r2 bQ (r2 cB (r2 dIx (aD 2) (aD 5)) (rC (.int 48271))) (aD 4)) (r2 cB (aD 3) (aD 3))) (r2 bQ (r2 kB (rC (.int 10)) (rC (.int 60))) (rC (.int 7)))) (aK 5))))
noncomputable def oS (ZN:FD):RS :=
 aY (bD 2 (aU ZN (aB (r2 cG (r2 dIx (aD 0) (rC (.int 0))) (rC (.int 4))) (aB (r2 dIx ((λρ Q=>(gQ (aB (r2 bQ (rC (.int 2)) (r2 bV (r2 dIx (aD 0) (rC (.int 0))) (rC (.int 3)))) (aB (r2 bQ (rC (.int 2)) (r2 bV (r2 dIx (aD 0) (rC (.int 0))) (rC (.int 20)))) (aG)))) ρ λds=>Q (.lst ds))) (r2 cG (r2 bV (r2 cG (r2 dIx (aD 0) (rC (.int 2))) (rC (.int 9))) (rC (.int 4))) (rC (.int 3)))) (aG)))))
 (aY (bD 3 (aU ZN (aB (r2 cG (r2 dIx (aD 0) (rC (.int 1))) (rC (.int 4))) (aB (r2 bQ (rC (.int 1)) (r2 bV (r2 dIx (aD 0) (rC (.int 1))) (rC (.int 3)))) (aG)))))
 (aY (bD 4 (r2 bQ (r2 bQ (r2 cB (rC (.int 2)) (r1 UW ((λρ Q=>(eF (riL (r2 gL (aD 2) (aD 3))) 1 [] (aR 0) (r2 cB (aD 0) (aD 0))) ρ λds=>Q (.lst ds))))) (rC (.int 1))) (r2 bV (r2 dIx (aD 0) (rC (.int 2))) (rC (.int 9)))))
 (aY (bD 5 (r2 gL ((λρ Q=>(eF (riL (aK 2)) 1 [] (aR 0) (dU (aB (aK 0) (aB (r2 cB (aD 0) (aD 0)) (aG))))) ρ λds=>Q (.lst ds))) ((λρ Q=>(eF (uM (aK 3)) 1 [4] (aR 0) (dU (aB (aK 0) (aB (r2 eL (aD 1) (r2 cB (aD 0) (aD 0))) (aG))))) ρ λds=>Q (.lst ds)))))
 (aY (bD 6 (r2 bQ (rC (.int 1)) (r2 bV (r2 dIx (aD 0) (rC (.int 3))) (rC (.int 3)))))
 (aY (bD 7 (r2 eL (r2 bV (r2 cG (r2 dIx (aD 0) (rC (.int 3))) (rC (.int 3))) (rC (.int 7))) (rC (.int 3))))
 (aY (bD 8 (r2 eL (r2 bV (r2 dIx (aD 0) (rC (.int 4))) (rC (.int 7))) (rC (.int 3))))
 (aY (bD 9 (r2 bQ (r2 bQ (r2 cG (r2 cB (aD 7) (aD 8)) (aD 6)) (rC (.int 1))) (r2 bV (r2 cG (r2 dIx (aD 0) (rC (.int 4))) (rC (.int 7))) (rC (.int 3)))))
 (aY (bD 10 (dU (aB (r2 eL (r2 bV (r2 dIx (aD 0) (rC (.int 5))) (r2 bQ (r2 cB (rC (.int 2)) (aD 1)) (rC (.int 1)))) (aD 1)) (aB (r2 eL (r2 bV (r2 dIx (aD 0) (rC (.int 6))) (r2 bQ (r2 cB (rC (.int 2)) (aD 1)) (rC (.int 1)))) (aD 1)) (aG)))))
 (bX ((λρ Q=>(eF (riL (aK 5)) 2 [6,7,10,8,9] (fX 2 (cE (aR 0) (cE (aR 1) (fW)))) (dU (aB (r2 bQ (r2 bQ (r2 cB (aD 2) (aD 0)) (r2 cB (aD 3) (aD 1))) (r2 dIx (aD 4) (rC (.int 0)))) (aB (r2 bQ (r2 bQ (r2 cB (aD 5) (aD 0)) (r2 cB (aD 6) (aD 1))) (r2 dIx (aD 4) (rC (.int 1)))) (aG))))) ρ λds=>Q (.lst ds))))))))))))
noncomputable def fR (bE:FD):RS :=
 bX (aU bE (aB (r2 dIx (aD 0) (rC (.int 3))) (aB (r2 dIx (aD 0) (rC (.int 1))) (aG))))
noncomputable def eX (bE:FD):RS :=
 bX (aU bE (aB (r2 dIx (aD 0) (rC (.int 4))) (aB (r2 dIx (aD 0) (rC (.int 2))) (aG))))
noncomputable def uK (F_left_height:FD) (fG:FD) (F_right_height:FD):RS :=
 bD 1 (aU fG (aB (aK 1) (aB (aU fG (aB (aU F_left_height (aB (aK 2) (aG))) (aB (aU F_right_height (aB (aK 2) (aG))) (aG)))) (aG))))
noncomputable def sL (F_left_height:FD) (fG:FD) (F_right_height:FD) (fH:FD):RS :=
 aY (bD 1 (dU (aB (rC (.int 0)) (aB (rC (.int 1)) (aG)))))
 (aY (cL (riL (aK 0)) (aR 2) (uK F_left_height fG F_right_height))
 (bX (aU fH (aB (aK 1) (aB (dU (aB (rC (.int 1)) (aB (rC (.int 2)) (aG)))) (aG))))))
noncomputable def gG:RS :=
 aY (bD 2 (rC (.int 0)))
 (aY (gB (cD (r2 (jD λi j=>decide (j<i)) (r1 fI (aD 0)) (rC (.int 0)))) (bD 2 (r2 dIx (aD 0) (r2 bV (aD 1) (rCB kZ (aB (rC (.int 63)) (aB (r1 fI (aD 0)) (aG))))))) (cW))
 (aY (bD 3 (r2 bQ (r2 bV (aD 2) (r2 kB (rC (.int 10)) (rC (.int 18)))) (r2 cB (rC (.int 48271)) (r2 bQ (aD 1) (rC (.int 1))))))
 (bX (r2 bV (r2 cB (aD 3) (aD 3)) (rC (.int 2147483647))))))
noncomputable def iM (XX:FD) (XY:FD):RS :=
 aY (bD 3 (r2 bQ (rC (.int 1)) (r2 bV (aU XY (aB (aK 0) (aB (r2 bQ (rC (.int 100)) (aD 2)) (aG)))) (rC (.int 3)))))
 (aY (gB (BA (cD (r2 (hU false) (aD 2) (rC (.int 0)))) (cD (r2 (hU false) (r2 bV (aU XX (aB (aK 0) (aB (rC (.int 2)) (aG)))) (rC (.int 8))) (rC (.int 1))))) (bD 3 (r2 bQ (rC (.int 1)) (r2 bV (r2 cG (aU XX (aB (aK 0) (aB (rC (.int 2)) (aG)))) (rC (.int 8))) (rC (.int 40))))) (cW))
 (iG 1 (r2 bQ (r2 dIx (aD 1) (r1 mI (rC (.int 1)))) (aD 3))))
noncomputable def eV (XX:FD) (XY:FD):RS :=
 aY (dE 1 (gQ (aB (r2 eL (r2 bV (aU XX (aB (aK 0) (aB (rC (.int 0)) (aG)))) (rC (.int 2001))) (rC (.int 1000))) (aG))))
 (aY (gB (cD (r2 (hU false) (r2 bV (r2 cG (aU XX (aB (aK 0) (aB (rC (.int 1)) (aG)))) (rC (.int 4))) (rC (.int 4))) (rC (.int 1)))) (dE 1 (gQ (aB (r2 eL (r2 bV (aU XX (aB (aK 0) (aB (rC (.int 0)) (aG)))) (r2 cB (rC (.int 2)) (r2 kB (rC (.int 10)) (rC (.int 50))))) (r2 kB (rC (.int 10)) (rC (.int 50)))) (aG)))) (cW))
 (aY (cL (oX (aB (r2 bQ (rC (.int 1)) (r2 bV (aU XX (aB (aK 0) (aB (rC (.int 1)) (aG)))) (rC (.int 4)))) (aG))) (aR 2) (iM XX XY))
 ((λE ρ=>(bX (aK 1)) E (dY 1 ρ)))))
noncomputable def iK (XY:FD):RS :=
 aY (bD 4 (aU XY (aB (aK 0) (aB (r2 bQ (r2 cB (rC (.int 9)) (aD 2)) (aD 6)) (aG)))))
 (aY (bD 7 (r2 dIx ((λρ Q=>(gQ (aB (rC (.int 0)) (aB (rC (.int 1)) (aB (r2 bV (r2 cG (aD 4) (rC (.int 4))) (rC (.int 5))) (aB (r2 bV (r2 cG (aD 4) (rC (.int 4))) (r2 kB (rC (.int 10)) (rC (.int 8)))) (aG)))))) ρ λds=>Q (.lst ds))) (r2 bV (aD 4) (rC (.int 4)))))
 (iG 5 (r2 bQ (r2 dIx (aD 5) (r1 mI (rC (.int 1)))) (aD 7))))
noncomputable def eU (XX:FD) (XY:FD):RS :=
 aY (bD 3 (aU XX (aB (aK 0) (aB (r2 bQ (rC (.int 5)) (aD 2)) (aG)))))
 (aY (bD 4 (r2 eL (r2 bV (aD 3) (rC (.int 41))) (rC (.int 20))))
 (aY (gB (cD (r2 (hU false) (r2 bV (aU XX (aB (aK 0) (aB (rC (.int 3)) (aG)))) (rC (.int 4))) (rC (.int 1)))) (bD 4 (r2 eL (r2 bV (aD 3) (r2 cB (rC (.int 2)) (r2 kB (rC (.int 10)) (rC (.int 58))))) (r2 kB (rC (.int 10)) (rC (.int 58))))) (cW))
 (aY (dE 5 (gQ (aB (aK 4) (aG))))
 (aY (cL (BH (aB (rC (.int 1)) (aB (aK 1) (aG)))) (aR 6) (iK XY))
 ((λE ρ=>(bX (aK 5)) E (dY 5 ρ)))))))
noncomputable def fO (XX:FD) (YI:FD) (YK:FD):RS :=
 aY (bD 1 (aU YK (aB (aK 0) (aG))))
 (aY (bD 2 (r2 bQ (rC (.int 2)) (r2 cB (rC (.int 2)) (r2 bV (aU XX (aB (aK 0) (aB (rC (.int 4)) (aG)))) (rC (.int 3))))))
 (bX (dU (aB (aK 1) (aB ((λρ Q=>(eF (oX (aB (r1 fI (aD 1)) (aG))) 1 [0,2] (aR 0) (aU YI (aB (aK 1) (aB (aK 2) (aB (aK 0) (aG)))))) ρ λds=>Q (.lst ds))) (aG))))))
noncomputable def cK (F_shared_multiple:FD):RS :=
 bD 1 (aU F_shared_multiple (aB (aK 1) (aB (aK 2) (aG))))
noncomputable def bG (F_shared_multiple:FD):RS :=
 aY (bD 1 (rC (.int 1)))
 (aY (cL (riL (aK 0)) (aR 2) (cK F_shared_multiple))
 (bX (aK 1)))
noncomputable def fS (bE:FD):RS :=
 bX (aU bE (aB (r2 dIx (aD 0) (rC (.int 2))) (aB (r2 dIx (aD 0) (rC (.int 1))) (aG))))
noncomputable def fT (bE:FD):RS :=
 bX (aU bE (aB (r2 dIx (aD 0) (rC (.int 4))) (aB (r2 dIx (aD 0) (rC (.int 3))) (aG))))
noncomputable def lN:RS :=
 aY (gB (cD (r2 (jD λi j=>decide (i<j)) (r2 dIx (aD 2) (rC (.int 0))) (r2 dIx (aD 3) (rC (.int 0))))) (iG 1 (dU (aB (aK 2) (aB (aK 3) (aG))))) (cW))
 (gB (cD (r2 (jD λi j=>decide (i<j)) (r2 dIx (aD 3) (rC (.int 0))) (r2 dIx (aD 2) (rC (.int 0))))) (iG 1 (dU (aB (aK 3) (aB (aK 2) (aG))))) (cW))
noncomputable def jA:RS :=
 aY (dE 1 (gQ (aG)))
 (aY (cL (iN (aK 0) (r2 gL (nQ (aD 0) (iH (rC (.int 1))) (cZ)) (nQ (aD 0) (cZ) (iH (rC (.int 1)))))) (fX 2 (cE (aR 2) (cE (aR 3) (fW)))) (lN))
 ((λE ρ=>(bX (aK 1)) E (dY 1 ρ))))
noncomputable def dI:RS :=
 BB 1 (aK 4) (aK 3)
noncomputable def dJ:RS :=
 cL (FJ (aB (r2 dIx (r2 dIx (aD 3) (rC (.int 0))) (rC (.int 0))) (aB (r2 dIx (r2 dIx (aD 3) (rC (.int 1))) (rC (.int 0))) (aG)))) (aR 4) (dI)
noncomputable def dL (F_sides_of:FD):RS :=
 cL (riL (aU F_sides_of (aB (aK 2) (aG)))) (aR 3) (dJ)
noncomputable def bZ (F_sides_of:FD):RS :=
 aY (BC 1)
 (aY (cL (riL (aK 0)) (aR 2) (dL F_sides_of))
 ((λE ρ=>(bX (aK 1)) E (dY 1 ρ))))
noncomputable def jB:RS :=
 bX (r2 eL (r2 dIx (r2 dIx (aD 0) (rC (.int 1))) (rC (.int 0))) (r2 dIx (r2 dIx (aD 0) (rC (.int 0))) (rC (.int 0))))
noncomputable def eD (F_width_of:FD):RS :=
 aY (bD 3 (r2 dIx (aD 0) (rC (.int 0))))
 (aY (bD 4 (aU F_width_of (aB (aK 0) (aG))))
 (aY (bD 5 (r2 cB (r2 eL (r2 dIx (r2 dIx (aD 0) (rC (.int 1))) (rC (.int 1))) (r2 dIx (aD 3) (rC (.int 1)))) (r2 eL (aD 1) (r2 dIx (aD 3) (rC (.int 0))))))
 (bX (r2 cB (r2 bQ (r2 cB (r2 dIx (aD 3) (rC (.int 1))) (aD 4)) (aD 5)) (r2 cG (aD 2) (aD 4))))))
noncomputable def dH:RS :=
 gB (cD (r2 (jD λi j=>decide (i<j)) (r2 dIx (aD 5) (rC (.int 1))) (r2 dIx (aD 4) (rC (.int 1))))) ((λ_ _=>False)) (cW)
noncomputable def bY (F_height_at:FD):RS :=
 aY (dE 3 (eF (riL (aK 0)) 1 [1,2] (aR 0) (dU (aB (aU F_height_at (aB (aK 0) (aB (aK 1) (aB (aK 2) (aG))))) (aB (aU F_height_at (aB (aK 0) (aB (r2 bQ (aD 1) (rC (.int 1))) (aB (aK 2) (aG))))) (aG))))))
 (aY (dE 3 (yP (aD 3)))
 (aY ((λE ρ=>(cL (iN (aK 3) (nQ (aD 3) (iH (rC (.int 1))) (cZ))) (fX 2 (cE (aR 4) (cE (aR 5) (fW)))) (dH)) E (dY 3 ρ)))
 ((λE ρ=>(bX (aK 3)) E (dY 3 ρ)))))
noncomputable def fB (aZ:FD):RS :=
 gB (cD (r2 (dNe) (aD 5) (aD 6))) (aY (dE 7 (eF (riT (r2 gL (aD 5) (aD 6))) 1 [2] (aR 0) (aU aZ (aB (aK 0) (aB (aK 1) (aG))))))
 (iG 4 (dU (aB (aK 1) (aB (r2 dIx (aD 7) (rC (.int 0))) (aB (r2 dIx (aD 7) (rC (.int 1))) (aB (r2 dIx (aD 7) (rC (.int 2))) (aB (r2 dIx (aD 7) (rC (.int 3))) (aG))))))))) (cW)
noncomputable def cF (F_lowest_multiple:FD) (F_ordered_heights:FD) (aZ:FD) (F_width_of:FD):RS :=
 aY (bD 2 (aU F_lowest_multiple (aB ((λρ Q=>(eF (riL (aK 0)) 1 [] (aR 0) (aU F_width_of (aB (aK 0) (aG)))) ρ λds=>Q (.lst ds))) (aG))))
 (aY (bD 3 (aU F_ordered_heights (aB (aK 0) (aB (aK 1) (aB (aK 2) (aG))))))
 (aY (dE 4 (gQ (aG)))
 (aY (cL (iN ((λρ Q=>(DN 0 (aD 3)) ρ λds=>Q (.lst ds))) ((λρ Q=>(DN 1 (aD 3)) ρ λds=>Q (.lst ds)))) (fX 2 (cE (aR 5) (cE (aR 6) (fW)))) (fB aZ))
 ((λE ρ=>(bX (aK 4)) E (dY 4 ρ))))))
noncomputable def fQ:RS :=
 aY (dE 5 (eF (oX (aB (r1 fI (aD 0)) (aG))) 1 [0,1,2] (aR 0) (dU (aB (r2 dIx (aD 1) (aD 0)) (aB (r2 dIx (r2 dIx (aD 2) (aD 0)) (aD 3)) (aG))))))
 (aY (bD 5 (r2 gL (aD 5) ((λρ Q=>(eF (ED (aB (r1 fI (aD 0)) (aG))) 1 [0,1,3] (aR 0) (dU (aB (r2 dIx (aD 1) (aD 0)) (aB (r2 dIx (r2 dIx (aD 2) (aD 0)) (aD 3)) (aG))))) ρ λds=>Q (.lst ds)))))
 (aY (gB (cD (r2 (hU false) (r2 bV (aD 4) (rC (.int 2))) (rC (.int 1)))) (dE 5 (lL (aD 5))) (cW))
 (aY (bD 6 (r2 bV (r2 cG (aD 4) (rC (.int 2))) (r1 fI (aD 5))))
 (bX (r2 gL (nQ (aD 5) (iH (aK 6)) (cZ)) (nQ (aD 5) (cZ) (iH (aK 6))))))))
noncomputable def jV (XY:FD) (YD:FD):RS :=
 aY (bD 7 (r2 dIx ((λρ Q=>(gQ (aB (dU (aB (r2 cB (rC (.int 2)) (aD 6)) (aB (r2 bQ (r2 cB (rC (.int 2)) (aD 6)) (rC (.int 1))) (aG)))) (aB (dU (aB (aK 6) (aB (r2 eL (r2 eL (aD 3) (rC (.int 1))) (aD 6)) (aG)))) (aG)))) ρ λds=>Q (.lst ds))) (rCB xO (aB (aK 4) (aG)))))
 (iG 5 (aU YD (aB (aK 1) (aB (aK 2) (aB (r2 dIx (aD 7) (rC (.int 0))) (aB (r2 dIx (aD 7) (rC (.int 1))) (aB (aU XY (aB (aK 0) (aB (r2 bQ (rC (.int 201)) (aD 6)) (aG)))) (aG))))))))
noncomputable def gH (XY:FD) (YD:FD):RS :=
 aY (bD 3 (r1 fI (r2 dIx (aD 2) (rC (.int 0)))))
 (aY (bD 4 (r2 (hU false) (r2 bV (aU XY (aB (aK 0) (aB (rC (.int 200)) (aG)))) (rC (.int 2))) (rC (.int 1))))
 (aY (dE 5 (gQ (aG)))
 (aY (cL (oX (aB (r2 cG (aD 3) (rC (.int 2))) (aG))) (aR 6) (jV XY YD))
 ((λE ρ=>(bX (aK 5)) E (dY 5 ρ))))))
noncomputable def qP (F_column_bands:FD):RS :=
 uI 2 (aU F_column_bands (aB (r2 NI (aK 1) (aK 3)) (aB (aK 3) (aG))))
noncomputable def oT (F_column_bands:FD) (F_sides_by_column:FD):RS :=
 aY (bD 1 (aU F_sides_by_column (aB (aK 0) (aG))))
 (aY (dE 2 (gQ (aG)))
 (aY (cL (riL ((λρ Q=>(DV ((λρ Q=>(DR (aK 1)) ρ λds=>Q (.lst ds)))) ρ λds=>Q (.lst ds)))) (aR 3) (qP F_column_bands))
 ((λE ρ=>(bX (aK 2)) E (dY 2 ρ)))))
noncomputable def fN:RS :=
 aY (bD 6 (r2 eL (r2 dIx (aD 5) (r2 bQ (aD 4) (rC (.int 1)))) (r2 dIx (aD 5) (aD 4))))
 (bD 2 (r2 bQ (aD 2) (r2 cB (aD 6) (r2 eL (r2 dIx (aD 0) (r2 bQ (aD 3) (rC (.int 1)))) (r2 dIx (aD 0) (aD 3))))))
noncomputable def iY:RS :=
 cL (riL ((λρ Q=>(gQ (aB (r2 dIx (aD 1) (aD 3)) (aB (r2 dIx (aD 1) (r2 bQ (aD 3) (rC (.int 1)))) (aG)))) ρ λds=>Q (.lst ds)))) (aR 5) (fN)
noncomputable def iZ:RS :=
 cL (lO (aB (rC (.int 0)) (aB (r1 fI (r2 dIx (aD 1) (rC (.int 0)))) (aB (rC (.int 2)) (aG))))) (aR 4) (iY)
noncomputable def fM (YA:FD):RS :=
 aY (bD 2 (rC (.int 0)))
 (aY (cL (oX (aB (r2 eL (r1 fI (aD 0)) (rC (.int 1))) (aG))) (aR 3) (iZ))
 (bX (aU YA (aB (aK 2) (aB (rC (.int 2)) (aG))))))
noncomputable def jX (F_lowest_multiple:FD):RS :=
 aY (bD 1 (aU F_lowest_multiple (aB ((λρ Q=>(eF (riL (aK 0)) 1 [] (aR 0) (r2 dIx (aD 0) (rC (.int 1)))) ρ λds=>Q (.lst ds))) (aG))))
 (bX ((λρ Q=>(yO 1 (aD 0)) ρ λds=>Q (.lst ds))))
noncomputable def jW (F_lower_slope:FD) (F_upper_slope:FD):RS :=
 aY (bD 3 (aU F_upper_slope (aB (aK 2) (aG))))
 (aY (qO 1 (aK 3) (r2 bQ (qN 1 (aK 3) (rC (.int 0))) (rC (.int 1))))
 (aY (bD 4 (aU F_lower_slope (aB (aK 2) (aG))))
 (qO 1 (aK 4) (r2 eL (qN 1 (aK 4) (rC (.int 0))) (rC (.int 1))))))
noncomputable def gI (F_lower_slope:FD) (F_rising:FD) (F_upper_slope:FD):RS :=
 aY (MB 1)
 (aY (cL (riL (aK 0)) (aR 2) (jW F_lower_slope F_upper_slope))
 ((λE ρ=>(bX ((λρ Q=>(lK (riL (aU F_rising (aB ((λρ Q=>(DU (aK 1)) ρ λds=>Q (.lst ds))) (aG)))) 1 [1] (aR 0) (cD (r2 (hU true) (r2 vV (aK 1) (aK 0)) (rC (.int 0)))) (dU (aB (aK 0) (aB (r2 vV (aK 1) (aK 0)) (aG))))) ρ λds=>Q (.lst ds)))) E (dY 1 ρ))))
noncomputable def gR (YA:FD):RS :=
 aY (bD 6 (r2 eL (r2 dIx (r2 dIx (aD 1) (r2 bQ (aD 3) (rC (.int 1)))) (aD 5)) (r2 dIx (r2 dIx (aD 1) (aD 3)) (aD 5))))
 (aY (bD 7 (aU YA (aB (aK 6) (aB (aK 4) (aG)))))
 (qO 2 (aK 7) (r2 bQ (qN 2 (aK 7) (rC (.int 0))) (r2 cB (aD 4) (r2 dIx ((λρ Q=>(gQ (aB (r1 mI (rC (.int 1))) (aB (rC (.int 1)) (aG)))) ρ λds=>Q (.lst ds))) (r2 bV (aD 5) (rC (.int 2))))))))
noncomputable def gS (YA:FD):RS :=
 aY (bD 4 (r2 eL (r2 dIx (aD 0) (r2 bQ (aD 3) (rC (.int 1)))) (r2 dIx (aD 0) (aD 3))))
 (cL (oX (aB (r1 fI (r2 dIx (aD 1) (rC (.int 0)))) (aG))) (aR 5) (gR YA))
noncomputable def dR (YA:FD):RS :=
 aY (MB 2)
 (aY (cL (oX (aB (r2 eL (r1 fI (aD 0)) (rC (.int 1))) (aG))) (aR 3) (gS YA))
 ((λE ρ=>(bX (aK 2)) E (dY 2 ρ))))
noncomputable def jU:RS :=
 gB (cD (r2 (hU true) (aD 4) (rC (.int 0)))) (aY (bD 5 (dU (aB (r2 cB (r2 dIx (aD 3) (rC (.int 0))) (r2 dIx (aD 1) (rC (.int 0)))) (aB (r2 dIx (aD 3) (rC (.int 1))) (aG)))))
 (aY (bD 6 (DQ 2 (r1 fI ((λρ Q=>(lK (riL (aK 2)) 1 [5] (aR 0) (cD (r2 (jD λi j=>decide (i<j)) (r2 cB (r2 dIx (r2 dIx (aD 0) (rC (.int 0))) (rC (.int 0))) (r2 dIx (aD 1) (rC (.int 1)))) (r2 cB (r2 dIx (aD 1) (rC (.int 0))) (r2 dIx (r2 dIx (aD 0) (rC (.int 0))) (rC (.int 1)))))) (aK 0)) ρ λds=>Q (.lst ds))))))
 (FI 2 (aK 6) (dU (aB (aK 5) (aB (r2 cB (aD 4) (r2 dIx (aD 1) (rC (.int 1)))) (aG))))))) (cW)
noncomputable def gF:RS :=
 aY (dE 2 (gQ (aG)))
 (aY (cL (yQ (aK 0)) (fX 2 (cE (aR 3) (cE (aR 4) (fW)))) (jU))
 ((λE ρ=>(bX (aK 2)) E (dY 2 ρ))))
noncomputable def mP:RS :=
 iG 12 ((λρ Q=>(eF (riL (aK 13)) 2 [10,8,11,9] (fX 2 (cE (aR 0) (cE (aR 1) (fW)))) (dU (aB (r2 cB (aD 2) (r2 bQ (aD 0) (aD 3))) (aB (r2 cB (aD 4) (r2 bQ (aD 1) (aD 5))) (aG))))) ρ λds=>Q (.lst ds)))
noncomputable def kG (ZA:FD) (XX:FD) (YR:FD) (ZG:FD) (XY:FD) (YJ:FD) (YD:FD) (YT:FD) (fF:FD) (F_bands:FD) (F_leanings:FD):RS :=
 aY (yN (aU YR (aB (aK 0) (aG))) (fX 2 (cE (aR 1) (cE (aR 2) (fW)))))
 (aY (bD 3 (aU YT (aB (aK 0) (aB (aK 1) (aB (aK 2) (aG))))))
 (aY (bD 4 (aU XY (aB (aK 0) (aB (rC (.int 220)) (aG)))))
 (aY (gB (cD (r2 (hU false) (r2 bV (aD 4) (rC (.int 2))) (rC (.int 1)))) (aY (bD 5 (r2 bV (r2 cG (aD 4) (rC (.int 2))) (r1 fI (r2 dIx (aD 2) (rC (.int 0))))))
 (aY (bD 6 (r2 bV (r2 cG (aD 4) (rC (.int 16))) (r1 fI (r2 dIx (aD 2) (rC (.int 0))))))
 (aY (bD 7 (aU YD (aB (aK 1) (aB (aK 2) (aB (aK 5) (aB (aK 6) (aB (r2 cG (aD 4) (rC (.int 128))) (aG))))))))
 (bD 3 (r2 gL (r2 gL ((λρ Q=>(gQ (aB (aK 7) (aG))) ρ λds=>Q (.lst ds))) (aD 3)) ((λρ Q=>(gQ (aB ((λρ Q=>(lL (aD 7)) ρ λds=>Q (.lst ds))) (aG))) ρ λds=>Q (.lst ds)))))))) (cW))
 (aY (bD 8 (r2 eL (r2 bV (aU XX (aB (aK 0) (aB (rC (.int 6)) (aG)))) (rC (.int 2001))) (rC (.int 1000))))
 (aY (bD 9 (r2 bV (aU XX (aB (aK 0) (aB (rC (.int 7)) (aG)))) (r2 kB (rC (.int 10)) (rC (.int 58)))))
 (aY (yN (r2 dIx ((λρ Q=>(gQ (aB (dU (aB (rC (.int 1)) (aB (rC (.int 1)) (aG)))) (aB (dU (aB (r1 mI (rC (.int 1))) (aB (r1 mI (rC (.int 1))) (aG)))) (aB (dU (aB (rC (.int 1)) (aB (r1 mI (rC (.int 1))) (aG)))) (aB (dU (aB (r1 mI (rC (.int 1))) (aB (rC (.int 1)) (aG)))) (aG)))))) ρ λds=>Q (.lst ds))) (r2 bV (aU XX (aB (aK 0) (aB (rC (.int 8)) (aG)))) (rC (.int 4)))) (fX 2 (cE (aR 10) (cE (aR 11) (fW)))))
 (aY (dE 12 (gQ (aG)))
 (aY (cL (riL (aK 3)) (aR 13) (mP))
 (aY ((λE ρ=>(bD 14 (aU F_bands (aB (aK 12) (aG)))) E (dY 12 ρ)))
 (aY (bD 15 (aU YJ (aB (aK 1) (aB (aK 2) (aG)))))
 (bX (oR (r2 (dEq) (aU fF (aB (aK 14) (aG))) (aU ZA (aB (aK 1) (aB (aK 2) (aG))))) (r2 (dEq) (aU F_leanings (aB (aK 14) (aG))) (aU ZG (aB (aK 15) (aB (dU (aB (r2 cB (aD 10) (aD 11)) (aB (aK 11) (aG)))) (aG)))))))))))))))))
theorem UR {α:Type} (x:α) (xs:List α):atI (x::xs) 0=some x:=by
 unfold atI ixN;simp
theorem US {α:Type} (x y:α) (xs:List α):atI (x::y::xs) 1=some y:=by
 unfold atI ixN
 rw[if_pos (by decide),if_pos (by simp only[List.length_cons];omega)];rfl
theorem UT {α:Type} (x y z:α) (xs:List α):atI (x::y::z::xs) 2=some z:=by
 unfold atI ixN
 rw[if_pos (by decide),if_pos (by simp only[List.length_cons];omega)];rfl
theorem IL {α:Type} {xs:List α} {i:Int} {j:Nat} {x:α} (h:i=(j:Int)) (e:xs[j]? = some x):atI xs i=some x:=by
 subst h;exact dN e
theorem pF {x y:D} {Q:D->Prop}:dEq x y Q=(match eqF 6 x y with | some b=>Q (.bl b) | none=>False):=rfl
theorem BL.const {n:Nat} {i:Int} (h:i.natAbs<2 ^ n:=by decide):BL n i:=h
theorem lI {i j:Int} (h:0<=j/\j<=1000000/\i.natAbs<2 ^ 64:=by decide):PowOk i j:=⟨h⟩
theorem cU {j:Int} (h:j≠0:=by decide):ModOk j:=⟨h⟩
theorem gM {x:D} {xs:List D} {Q:D->Prop}:dIx (.tup (x::xs)) (.int 0) Q=Q x:=by simp only[dIx,UR]
theorem gN {x y:D} {xs:List D} {Q:D->Prop}:dIx (.tup (x::y::xs)) (.int 1) Q=Q y:=by simp only[dIx,US]
theorem jQ {x y z:D} {xs:List D} {Q:D->Prop}:dIx (.tup (x::y::z::xs)) (.int 2) Q=Q z:=by simp only[dIx,UT]
theorem gD {xs:List D} {i:Int} {Q:D->Prop} {x:D} (e:atI xs i=some x) (h:Q x):dIx (.lst xs) (.int i) Q:=by simp only[dIx,e];exact h
theorem sF {xs:List D} {i:Int} {Q:D->Prop} {x:D} (e:atI xs i=some x) (h:Q x):dIx (.tup xs) (.int i) Q:=by simp only[dIx,e];exact h
theorem oB {xs:List D} {i:Int} {Q:D->Prop} (h0:0<=i) (h1:i<xs.length) (h:∀x,x∈xs->Q x):dIx (.lst xs) (.int i) Q:=by
 have hj:i.toNat<xs.length:=by omega
 exact gD (IL (j:=i.toNat) (by omega) (List.getElem?_eq_getElem hj)) (h _ (List.getElem_mem hj))
theorem gX {xs:List D} {k:Nat} {x:D} {Q:D->Prop} (e:xs[k]? = some x):dIx (.lst xs) (.int (k:Int)) Q=Q x:=by simp only[dIx,dN e]
theorem jG {a0:D} {r:List D} {Q:D->Prop}:dIx (.lst (a0::r)) (.int 0) Q=Q a0:=gX (k:=0) rfl
theorem jH {a0 a1:D} {r:List D} {Q:D->Prop}:dIx (.lst (a0::a1::r)) (.int 1) Q=Q a1:=gX (k:=1) rfl
theorem jI {a0 a1 a2:D} {r:List D} {Q:D->Prop}:dIx (.lst (a0::a1::a2::r)) (.int 2) Q=Q a2:=gX (k:=2) rfl
theorem jJ {a0 a1 a2 a3:D} {r:List D} {Q:D->Prop}:dIx (.lst (a0::a1::a2::a3::r)) (.int 3) Q=Q a3:=gX (k:=3) rfl
theorem jK {a0 a1 a2 a3 a4:D} {r:List D} {Q:D->Prop}:dIx (.lst (a0::a1::a2::a3::a4::r)) (.int 4) Q=Q a4:=gX (k:=4) rfl
theorem jL {a0 a1 a2 a3 a4 a5:D} {r:List D} {Q:D->Prop}:dIx (.lst (a0::a1::a2::a3::a4::a5::r)) (.int 5) Q=Q a5:=gX (k:=5) rfl
theorem jM {a0 a1 a2 a3 a4 a5 a6:D} {r:List D} {Q:D->Prop}:dIx (.lst (a0::a1::a2::a3::a4::a5::a6::r)) (.int 6) Q=Q a6:=gX (k:=6) rfl
theorem jN {a0 a1 a2 a3 a4 a5 a6 a7:D} {r:List D} {Q:D->Prop}:dIx (.lst (a0::a1::a2::a3::a4::a5::a6::a7::r)) (.int 7) Q=Q a7:=gX (k:=7) rfl
theorem jO {a0 a1 a2 a3 a4 a5 a6 a7 a8:D} {r:List D} {Q:D->Prop}:dIx (.lst (a0::a1::a2::a3::a4::a5::a6::a7::a8::r)) (.int 8) Q=Q a8:=gX (k:=8) rfl
theorem jP {a0 a1 a2 a3 a4 a5 a6 a7 a8 a9:D} {r:List D} {Q:D->Prop}:dIx (.lst (a0::a1::a2::a3::a4::a5::a6::a7::a8::a9::r)) (.int 9) Q=Q a9:=gX (k:=9) rfl
theorem hZ {a0 a1 a2 a3 a4 a5 a6 a7 a8 a9 a10:D} {r:List D} {Q:D->Prop}:dIx (.lst (a0::a1::a2::a3::a4::a5::a6::a7::a8::a9::a10::r)) (.int 10) Q=Q a10:=gX (k:=10) rfl
theorem iA {a0 a1 a2 a3 a4 a5 a6 a7 a8 a9 a10 a11:D} {r:List D} {Q:D->Prop}:dIx (.lst (a0::a1::a2::a3::a4::a5::a6::a7::a8::a9::a10::a11::r)) (.int 11) Q=Q a11:=gX (k:=11) rfl
noncomputable def cI (n:Nat) (ds:List D):En:=ds.map (λd=>some (.d d))++List.replicate n none
theorem aS {N:List Str} {ds:List D} (n:Nat) (h:N.length=ds.length+n):aO N ds=cI n ds:=by
 unfold aO cI;rw[h,Nat.add_sub_cancel_left]
theorem pL {i:Int}:GP "int" (.int i)=some true:=rfl
theorem pJ {i:Int}:GP "bool" (.int i)=some false:=rfl
theorem pK {i:Bool}:GP "int" (.bl i)=some true:=rfl
theorem pI {i:Bool}:GP "bool" (.bl i)=some true:=rfl
theorem pM {xs:List D}:GP "tuple" (.tup xs)=some true:=rfl
theorem HU {α:Type} {x:α}:List.replicate 0 x=[]:=rfl
theorem DZ {α:Type} {x:α}:List.replicate 1 x=[x]:=rfl
theorem vI {α:Type} {x:α}:List.replicate 2 x=[x,x]:=rfl
theorem BF {α:Type} {x:α}:List.replicate 3 x=[x,x,x]:=rfl
theorem EA {α:Type} {x:α}:List.replicate 4 x=[x,x,x,x]:=rfl
theorem vJ {α:Type} {x:α}:List.replicate 5 x=[x,x,x,x,x]:=rfl
theorem EB {α:Type} {x:α}:List.replicate 6 x=[x,x,x,x,x,x]:=rfl
theorem HV {α:Type} {x:α}:List.replicate 7 x=[x,x,x,x,x,x,x]:=rfl
theorem HW {α:Type} {x:α}:List.replicate 8 x=[x,x,x,x,x,x,x,x]:=rfl
theorem EC {α:Type} {x:α}:List.replicate 9 x=[x,x,x,x,x,x,x,x,x]:=rfl
theorem wN {α:Type} {x:α}:List.replicate 10 x=[x,x,x,x,x,x,x,x,x,x]:=rfl
theorem wO {α:Type} {x:α}:List.replicate 11 x=[x,x,x,x,x,x,x,x,x,x,x]:=rfl
theorem wP {α:Type} {x:α}:List.replicate 12 x=[x,x,x,x,x,x,x,x,x,x,x,x]:=rfl
theorem sz2:Sz (0+1+1):=⟨by decide⟩
theorem sz3:Sz (0+1+1+1):=⟨by decide⟩
theorem sz4:Sz (0+1+1+1+1):=⟨by decide⟩
theorem sz1:Sz (0+1):=⟨by decide⟩
theorem sz0:Sz 0:=⟨by decide⟩
local macro_rules | `(tactic| walk_at "rd")=>do
 let a <- ("aY cW bX wJ gB bD dE BD yN aR fX cE fW aK aD rC r2 r1 cD BA rOr HP oR HQ wK rIf aG aB dU gQ aU rCB cZ iH wM cL HX riL riT oX BH lO eF gK kR sY dY iG wL lM HR vK nQ gL mD pG GD dNe pV uM iN bQ eL cB cG bV kB mI jD hU GB pF qJ gM gN jQ jG jH jI jJ jK jL jM jN jO jP hZ iA rF xO vW kZ fI GC pL pJ pK pI pM S.val cI HU DZ vI BF EA vJ EB HV HW EC wN wO wP List.map_cons List.map_nil List.cons_append List.nil_append List.length_cons List.length_nil List.getElem?_cons_zero List.getElem?_cons_succ List.set_cons_zero List.set_cons_succ List.append_nil Bool.or_false Bool.or_true Bool.false_or Bool.true_or Bool.not_true Bool.not_false if_true if_false Bool.false_eq_true sz0 sz1 sz2 sz3 sz4 true_and decide_eq_true_eq Int.reduceToNat Int.reducePow Int.reduceMul Int.reduceSub Int.reduceAdd Int.reduceNeg".splitOn " ").toArray.mapM λx=>`(Lean.Parser.Tactic.simpLemma| $(Lean.mkIdent x.toName):term)
 `(tactic| simp only[$a,*])
local macro_rules | `(tactic| walk_at "side")=>`(tactic| first | exact lI | exact cU | exact (BL.const (n:=9000) (by decide)).divOk (by decide) | exact (BL.const (n:=300) (by decide)).mulOk (BL.const (n:=300) (by decide)))
local macro_rules | `(tactic| walk_at "sides")=>`(tactic| repeat (refine And.intro (by walk_at "side") ?_))
theorem nY (i:Int):(if i<0 then -i else i)=((i.natAbs:Nat):Int):=by split <;> omega
theorem wA (x y:Nat):((x:Nat):Int).fmod (y:Nat)=((x % y:Nat):Int):=by
 rw[Int.fmod_eq_emod_of_nonneg _ (Int.natCast_nonneg y)];exact (Int.natCast_emod x y).symm
noncomputable def pY:FD:=λds Q=>∃a b:Int,ds=[.int a,.int b]/\Q (.int (Int.gcd a b:Nat))
theorem FB:∀ds Q,pY ds Q->ds.length=2:=by rintro ds Q ⟨a,b,rfl,_⟩;rfl
theorem pO (E:DEnds):∀(y x:Nat),E.nx [some (.d (.int (Nat.gcd x y:Nat))),some (.d (.int (0:Nat)))] ->
  uJ (cD (r2 (jD λi j=>decide (j<i)) (aD 1) (rC (.int 0)))) fA E [some (.d (.int (x:Nat))),some (.d (.int (y:Nat)))]:=by
 intro y
 induction y using Nat.strongRecOn with
 | ind y ih =>
  intro x h
  cases Nat.eq_zero_or_pos y with
  | inl hy =>
   subst hy
   refine⟨1,?_⟩
   unfold kH
   walk_at "rd"
   rw[if_neg (by decide)]
   rw[Nat.gcd_zero_right] at h
   exact h
  | inr hy =>
   have h2:=ih (x % y) (Nat.mod_lt x hy) y (by
    rw[Nat.gcd_comm y,<-Nat.gcd_rec,Nat.gcd_comm];exact h)
   obtain⟨n,hn⟩:=h2
   refine⟨n+1,?_⟩
   unfold kH fA
   walk_at "rd"
   rw[if_pos (by omega)]
   refine⟨⟨by omega⟩,?_⟩
   rw[wA]
   exact hn
theorem pR:∀ds Q,pY ds Q->eQ { nx:=λ_=>Q .non,rt:=Q } (aO ["_law_one","_law_other"] ds):=by
 rintro ds Q ⟨a,b,rfl,q⟩
 rw[aS 0 rfl]
 unfold eQ
 walk_at "rd"
 rw[nY,nY]
 refine pO _ _ _ ?_
 walk_at "rd"
 exact q
theorem mJ (E:DEnds) (u v:Option S):∀(y x:Nat) (r:Option S),(∀r,E.nx [u,v,some (.d (.int (Nat.gcd x y:Nat))),some (.d (.int (0:Nat))),r]) ->
  uJ (cD (r2 (hU true) (aD 3) (rC (.int 0)))) eC E [u,v,some (.d (.int (x:Nat))),some (.d (.int (y:Nat))),r]:=by
 intro y
 induction y using Nat.strongRecOn with
 | ind y ih =>
  intro x r h
  cases Nat.eq_zero_or_pos y with
  | inl hy =>
   subst hy
   refine⟨1,?_⟩
   unfold kH
   walk_at "rd"
   rw[if_neg (by simp)]
   rw[Nat.gcd_zero_right] at h
   exact h r
  | inr hy =>
   obtain⟨n,hn⟩:=ih (x % y) (Nat.mod_lt x hy) y (some (.d (.int ((x % y:Nat))))) (by
    rw[Nat.gcd_comm y,<-Nat.gcd_rec,Nat.gcd_comm];exact h)
   refine⟨n+1,?_⟩
   unfold kH eC
   walk_at "rd"
   rw[if_pos (by simp;omega)]
   refine⟨⟨by omega⟩,?_⟩
   rw[wA]
   exact hn
theorem mK:∀ds Q,pY ds Q->dS { nx:=λ_=>Q .non,rt:=Q } (aO ["one","other","larger","smaller","rest"] ds):=by
 rintro ds Q ⟨a,b,rfl,q⟩
 rw[aS 3 rfl]
 unfold dS
 walk_at "rd"
 rw[nY,nY]
 refine mJ _ _ _ _ _ _ λr=>?_
 walk_at "rd"
 exact q
noncomputable abbrev fr (a b:Int):D:=.tup [.int a,.int b]
theorem sI {a b:Int} (h:b≠0):0<(Int.gcd a b:Int):=by
 have:0<Int.gcd a b:=Int.gcd_pos_of_ne_zero_right a h
 omega
theorem BL.gcd {n:Nat} {a b:Int} (hb:b≠0) (h:BL n b):BL n (Int.gcd a b:Int):=by
 refine h.le ?_
 rw[Int.natAbs_natCast]
 exact Nat.le_of_dvd (by omega) (Int.gcd_dvd_natAbs_right a b)
structure Low (a b p q:Int):Prop where
 pos:0<q
 cop:Int.gcd p q=1
 worth:p*b=a*q
 lea:p.natAbs<=a.natAbs
 leb:q.natAbs<=b.natAbs
theorem cJ {a b:Int} (hb:0<b):Low a b (a.fdiv (Int.gcd a b:Nat)) (b.fdiv (Int.gcd a b:Nat)):=by
 have hg:0<(Int.gcd a b:Int):=sI (by omega)
 have ea:((Int.gcd a b:Nat):Int)∣a:=Int.gcd_dvd_left ..
 have eb:((Int.gcd a b:Nat):Int)∣b:=Int.gcd_dvd_right ..
 rw[Int.fdiv_eq_ediv_of_nonneg _ (by omega),Int.fdiv_eq_ediv_of_nonneg _ (by omega)]
 have e1:a / (Int.gcd a b:Int)*(Int.gcd a b:Int)=a:=Int.ediv_mul_cancel ea
 have e2:b / (Int.gcd a b:Int)*(Int.gcd a b:Int)=b:=Int.ediv_mul_cancel eb
 have hc:Int.gcd (a / (Int.gcd a b:Int)) (b / (Int.gcd a b:Int))=1:=Int.gcd_ediv_gcd_ediv_gcd (by omega)
 generalize (Int.gcd a b:Int)=g at *
 generalize a / g=p at *
 generalize b / g=q at *
 subst e1 e2
 refine⟨?_,hc,by rw[Int.mul_assoc,Int.mul_comm q g],?_,?_⟩
 ·exact Int.pos_of_mul_pos_left hb (by omega)
 ·rw[Int.natAbs_mul];exact Nat.le_mul_of_pos_right _ (by omega)
 ·rw[Int.natAbs_mul];exact Nat.le_mul_of_pos_right _ (by omega)
theorem OP {a b:Int} (hb:b<0):Low a b (a.fdiv (-(Int.gcd a b:Nat))) (b.fdiv (-(Int.gcd a b:Nat))):=by
 have h:=cJ (a:=-a) (b:=-b) (by omega)
 have e:Int.gcd (-a) (-b)=Int.gcd a b:=by rw[Int.neg_gcd,Int.gcd_neg]
 rw[e] at h
 have f:∀x g:Int,(-x).fdiv g=x.fdiv (-g):=λx g=>by
  have:=Int.neg_fdiv_neg (-x) g
  rw[Int.neg_neg] at this
  exact this.symm
 rw[f,f] at h
 refine⟨h.pos,h.cop,?_,by have:=h.lea;omega,by have:=h.leb;omega⟩
 have w:=h.worth
 rw[Int.mul_neg,Int.neg_mul] at w
 exact Int.neg_inj.mp w
noncomputable def aZ:FD:=λds Q=>∃a b:Int,ds=[.int a,.int b]/\(b≠0/\BL 9000 b)/\∀p q,Low a b p q->Q (fr p q)
theorem GZ:∀ds Q,aZ ds Q->ds.length=2:=by rintro ds Q ⟨a,b,rfl,_⟩;rfl
theorem DJ:∀ds Q,aZ ds Q->oV pY { nx:=λ_=>Q .non,rt:=Q } (aO ["top","bottom","divisor"] ds):=by
 rintro ds Q ⟨a,b,rfl,⟨h0,hb⟩,q⟩
 rw[aS 1 rfl]
 unfold oV
 walk_at "rd"
 rw[if_neg h0]
 refine⟨a,b,rfl,?_⟩
 have hg:=sI (a:=a) h0
 have bg:=BL.gcd (a:=a) h0 hb
 walk_at "rd"
 split
 ·rename_i hlt
  refine⟨bg.neg.divOk (by omega),bg.neg.divOk (by omega),q _ _ (OP hlt)⟩
 ·rename_i hlt
  refine⟨bg.divOk (by omega),bg.divOk (by omega),q _ _ (cJ (by omega))⟩
structure Fr (n:Nat) (a b:Int):Prop where
 pos:0<b
 top:BL n a
 bot:BL n b
 cop:Int.gcd a b=1
noncomputable def EM (f:Int->Int->Int->Int->Int):FD:=λds Q=>∃a b c d:Int,ds=[fr a b,fr c d]/\(0<b/\0<d)/\(BL 4000 a/\BL 4000 b/\BL 4000 c/\BL 4000 d)/\∀p q,Low (f a b c d) (b*d) p q->Q (fr p q)
theorem tU {f:Int->Int->Int->Int->Int}:∀ds Q,EM f ds Q->ds.length=2:=by rintro ds Q ⟨a,b,c,d,rfl,_⟩;rfl
noncomputable abbrev fG:FD:=EM λa b c d=>a*d+c*b
noncomputable abbrev bE:FD:=EM λa b c d=>a*d-c*b
noncomputable abbrev fH:FD:=EM λa b c d=>a*c
theorem HN:∀ds Q,fG ds Q->sM aZ { nx:=λ_=>Q .non,rt:=Q } (aO ["one","other"] ds):=by
 rintro ds Q ⟨a,b,c,d,rfl,⟨h1,h2⟩,⟨ba,bb,bc,bd⟩,q⟩
 rw[aS 0 rfl]
 unfold sM
 walk_at "rd"
 refine⟨ba.mulOk bd,bc.mulOk bb,bb.mulOk bd,_,_,rfl,⟨Int.ne_of_gt (Int.mul_pos h1 h2),(bb.mul bd).mono (by decide)⟩,q⟩
theorem DH:∀ds Q,bE ds Q->oU aZ { nx:=λ_=>Q .non,rt:=Q } (aO ["one","other"] ds):=by
 rintro ds Q ⟨a,b,c,d,rfl,⟨h1,h2⟩,⟨ba,bb,bc,bd⟩,q⟩
 rw[aS 0 rfl]
 unfold oU
 walk_at "rd"
 refine⟨ba.mulOk bd,bc.mulOk bb,bb.mulOk bd,_,_,rfl,⟨Int.ne_of_gt (Int.mul_pos h1 h2),(bb.mul bd).mono (by decide)⟩,q⟩
theorem DK:∀ds Q,fH ds Q->oW aZ { nx:=λ_=>Q .non,rt:=Q } (aO ["one","other"] ds):=by
 rintro ds Q ⟨a,b,c,d,rfl,⟨h1,h2⟩,⟨ba,bb,bc,bd⟩,q⟩
 rw[aS 0 rfl]
 unfold oW
 walk_at "rd"
 refine⟨ba.mulOk bc,bb.mulOk bd,_,_,rfl,⟨Int.ne_of_gt (Int.mul_pos h1 h2),(bb.mul bd).mono (by decide)⟩,q⟩
noncomputable def yY:FD:=λds Q=>∃a b:Int,ds=[.int a,.int b]/\(0<b/\BL 9000 b)/\∀p q,Low a b p q->Q (fr p q)
theorem OG:∀ds Q,yY ds Q->ds.length=2:=by rintro ds Q ⟨a,b,rfl,_⟩;rfl
theorem rV:∀ds Q,yY ds Q->fP pY { nx:=λ_=>Q .non,rt:=Q } (aO ["_law_top","_law_bottom","_law_by"] ds):=by
 rintro ds Q ⟨a,b,rfl,⟨h0,hb⟩,q⟩
 rw[aS 1 rfl]
 unfold fP
 walk_at "rd"
 refine⟨a,b,rfl,?_⟩
 have hg:=sI (a:=a) (b:=b) (by omega)
 have bg:=BL.gcd (a:=a) (b:=b) (by omega) hb
 walk_at "rd"
 exact⟨bg.divOk (by omega),bg.divOk (by omega),q _ _ (cJ h0)⟩
noncomputable def mS:FD:=λds Q=>∃(ns:List Int) (k:Int),ds=[.lst (ns.map .int),.int k]/\0<=k/\∀c,Q (.int c)
theorem KN:∀ds Q,mS ds Q->ds.length=2:=by rintro ds Q ⟨a,b,rfl,_⟩;rfl
theorem pQ:∀ds Q,mS ds Q->eP { nx:=λ_=>Q .non,rt:=Q } (aO ["_law_script","_law_k"] ds):=by
 rintro ds Q ⟨ns,k,rfl,hk,q⟩
 rw[aS 0 rfl]
 unfold eP
 walk_at "rd"
 split
 ·rename_i hlt
  refine oB hk hlt ?_
  intro x hx
  obtain⟨c,_,rfl⟩:=List.mem_map.mp hx
  exact q c
 ·exact q 0
theorem aV {a b:Int} (h:0<b):0<=a.fmod b/\a.fmod b<b:=⟨Int.fmod_nonneg_of_pos a h,Int.fmod_lt_of_pos a h⟩
theorem OE:∀ds Q,FV 63 ds Q->ds.length=1:=by rintro ds Q ⟨a,rfl,_⟩;rfl
theorem cR {g:RG} {t:RS} {E:DEnds} (J:List D->En->Prop)
  (step:∀x xs ρ,J (x::xs) ρ->∀F:DEnds,F.rt=E.rt->F.bk=E.nx->(∀ρ',J xs ρ'->F.nx ρ')->(∀ρ',J xs ρ'->F.ct ρ')->g x ρ λρ1=>t F ρ1) (last:∀ρ,J [] ρ->E.nx ρ):∀xs ρ,J xs ρ->tK g t xs E ρ
 | [],ρ,h=>last ρ h
 | x::xs,ρ,h=>step x xs ρ h _ rfl rfl (λρ' h'=>cR J step last xs ρ' h') λρ' h'=>cR J step last xs ρ' h'
theorem zL {α:Type} {g:RG} {te:RE} (R:En->Prop) (enc f:α->D):∀(src:List α) {Q:List D->Prop},(∀a∈src,∀ρ,R ρ->∀K:En->D->Prop,(∀ρ1,R ρ1->K ρ1 (f a))->g (enc a) ρ λρ1=>te ρ1 λd=>K ρ1 d) ->
  ∀(ρ:En) (acc:List D),R ρ->Q (acc++src.map f)->gK g te (src.map enc) ρ acc Q
 | [],Q,_,ρ,acc,_,q=>by
  show Q acc
  simpa using q
 | a::src,Q,step,ρ,acc,h,q=>by
  show g (enc a) ρ λρ'=>te ρ' λd=>gK g te (src.map enc) ρ' (acc++[d]) Q
  refine step a List.mem_cons_self ρ h (λρ1 d=>gK g te (src.map enc) ρ1 (acc++[d]) Q) λρ1 h1=>?_
  exact zL R enc f src (λb hb=>step b (List.mem_cons_of_mem _ hb)) ρ1 _ h1 (by simpa using q)
theorem dC {α:Type} {g:RG} {te:RE} (R:En->Prop) (enc f:α->D) (src:List α) {Q:List D->Prop} {ρ:En} (step:∀a∈src,∀ρ,R ρ->∀K:En->D->Prop,(∀ρ1,R ρ1->K ρ1 (f a))->g (enc a) ρ λρ1=>te ρ1 λd=>K ρ1 d)
  (h:R ρ) (q:Q (src.map f)):gK g te (src.map enc) ρ [] Q:=zL R enc f src step ρ [] h (by simpa using q)
noncomputable abbrev il (ns:List Int):D:=.lst (ns.map .int)
noncomputable abbrev pt (p:Int × Int):D:=.tup [.int p.1,.int p.2]
noncomputable abbrev pts (ps:List (Int × Int)):D:=.lst (ps.map pt)
theorem JF {ns:List Int} {i:Int} {Q:D->Prop} (h0:0<=i) (h1:i<ns.length) (q:∀n∈ns,Q (.int n)):dIx (il ns) (.int i) Q:=by
 refine oB h0 (by simpa using h1) λx hx=>?_
 obtain⟨n,hn,rfl⟩:=List.mem_map.mp hx
 exact q n hn
theorem bL {n:Nat} (h:n<=100000):Sz n:=⟨Nat.le_trans h (by decide)⟩
theorem SJ {n:Nat} {i:Int} (h0:0<=i) (h1:i<n):ixN n i=some i.toNat:=by
 unfold ixN
 rw[if_pos h0,if_pos (by omega)]
noncomputable abbrev big:Int:=1000000000000000000000000000000000000000000000000000000000007
structure Drawn (m:Nat) (xs:List Int):Prop where
 len:xs.length=m
 lo:∀x∈xs,0<=x
 hi:∀x∈xs,x<big
theorem Drawn.bl {m:Nat} {xs:List Int} (h:Drawn m xs) {x:Int} (hx:x∈xs):BL 200 x:=by
 have h0:=h.lo x hx
 have h1:=h.hi x hx
 have e:big<((2 ^ 200:Nat):Int):=by decide
 exact BL.of_lt (by omega) (by omega)
noncomputable def kF:RS:=aY (bD 5 (r2 bV (aD 3) (aD 1)))
 (lM 2 (r2 bV (r2 bQ (r2 bQ (r2 cB (r2 dIx (aD 2) (aD 5)) (rC (.int 48271))) (aD 4)) (r2 cB (aD 3) (aD 3))) (r2 bQ (r2 kB (rC (.int 10)) (rC (.int 60))) (rC (.int 7)))) (aK 5))
theorem CZ:iL=aY (bD 4 (rC (.int 0)))
 (aY (gB (cD (r2 (jD λi j=>decide (j<i)) (r1 fI (aD 0)) (rC (.int 0)))) (bD 4 (r2 bV (r2 dIx (aD 0) (r2 bV (aD 3) (rCB kZ (aB (r1 fI (aD 0)) (aB (rC (.int 63)) (aG)))))) (r2 bQ (r2 kB (rC (.int 10)) (rC (.int 60))) (rC (.int 7))))) (cW)) kF):=rfl
theorem OO {ns:List Int} {m:Nat} (hm:1<=m/\m<=100) {E:DEnds} (q:∀xs a b c,Drawn m xs->E.nx [some (.d (il ns)),some (.d (.int m)),some (.own (xs.map .int)),a,b,c]) (xs:List D) (ρ:En)
  (hx:∀x∈xs,∃j:Int,x = .int j/\0<=j/\j<=1000) (hρ:∃ys a b c,ρ=[some (.d (il ns)),some (.d (.int m)),some (.own (ys.map .int)),a,b,c]/\Drawn m ys):tK (aR 3) iL xs E ρ:=by
 refine cR (λxs ρ=>(∀x∈xs,∃j:Int,x = .int j/\0<=j/\j<=1000)/\∃ys a b c,ρ=[some (.d (il ns)),some (.d (.int m)),some (.own (ys.map .int)),a,b,c]/\Drawn m ys) ?_ ?_ xs ρ ⟨hx,hρ⟩
 ·rintro x xs ρ ⟨hx,ys,a,b,c,rfl,hd⟩ F _ _ hn _
  obtain⟨j,rfl,j0,j1⟩:=hx x List.mem_cons_self
  have hx':∀x∈xs,∃j:Int,x = .int j/\0<=j/\j<=1000:=λx h=>hx x (List.mem_cons_of_mem _ h)
  have done:∀cell:Int,kF F [some (.d (il ns)),some (.d (.int m)),some (.own (ys.map .int)),some (.d (.int j)),some (.d (.int cell)),c]:=λcell=>by
   unfold kF
   walk_at "rd"
   have hm':(0:Int)<m:=by omega
   obtain⟨a0,a1⟩:=aV (a:=j) hm'
   refine⟨⟨by omega⟩,?_⟩
   refine JF a0 (by rw[hd.len];exact a1) λy hy=>?_
   have by':=hd.bl hy
   refine⟨by'.mulOk (BL.const (n:=20)),(BL.of_lt (m:=20) (by omega) (by omega)).mulOk (BL.of_lt (m:=20) (by omega) (by omega)),?_⟩
   walk_at "sides"
   obtain⟨e0,e1⟩:=aV (a:=y*48271+cell+j*j) (b:=big) (by decide)
   generalize (y*48271+cell+j*j).fmod big=z at *
   generalize j.fmod m=i at *
   rw[SJ a0 (by simpa [hd.len] using a1)]
   refine hn _ ⟨hx',ys.set i.toNat z,_,_,_,by rw[<-List.map_set],⟨by simpa using hd.len,λx hx=>?_,λx hx=>?_⟩⟩
   ·rcases List.mem_or_eq_of_mem_set hx with h | rfl
    ·exact hd.lo x h
    ·exact e0
   ·rcases List.mem_or_eq_of_mem_set hx with h | rfl
    ·exact hd.hi x h
    ·exact e1
  rw[CZ]
  walk_at "rd"
  split
  ·rename_i hl
   have hl':0<ns.length:=by simpa using hl
   have hpos:(0:Int)<(if (63:Int)<((ns.map D.int).length:Int) then 63 else ((ns.map D.int).length:Int)):=by split <;> simp <;> omega
   obtain⟨a0,a1⟩:=aV (a:=j) hpos
   have a2:(if (63:Int)<((ns.map D.int).length:Int) then 63 else ((ns.map D.int).length:Int))<=ns.length:=by split <;> simp at * <;> omega
   exact⟨⟨Int.ne_of_gt hpos⟩,JF a0 (Int.lt_of_lt_of_le a1 a2) λy _=>⟨lI,cU,done _⟩⟩
  ·exact done 0
 ·rintro ρ ⟨_,ys,a,b,c,rfl,hd⟩
  exact q ys a b c hd
theorem CV {lo:Int} {n:Nat} {x:D} (h:x∈cP lo n):∃j:Int,x = .int j/\lo<=j/\j<lo+n:=by
 unfold cP at h
 obtain⟨k,hk,rfl⟩:=List.mem_map.mp h
 have:=List.mem_range.mp hk
 exact⟨_,rfl,by omega,by omega⟩
theorem iJ {lo:Int} {n:Nat}:(cP lo n).length=n:=by simp[cP]
structure Rises (xs:List Int):Prop where
 first:∀a,xs[0]? = some a->-4<=a/\a<=-1
 step:∀(i:Nat) a b,xs[i]? = some a->xs[i+1]? = some b->a+1<=b/\b<=a+3
theorem Rises.bound {xs:List Int} (h:Rises xs):∀(i:Nat) a,xs[i]? = some a->-4<=a/\a<=3*(i:Int)-1
 | 0,a,e=>by have:=h.first a e;omega
 | i+1,a,e=>by
  have hi:i<xs.length:=by have:=(List.getElem?_eq_some_iff.mp e).1;omega
  have e1:xs[i]? = some xs[i]:=List.getElem?_eq_getElem hi
  have b:=Rises.bound h i _ e1
  have c:=h.step i _ _ e1 e
  omega
noncomputable def MX:FD:=λds Q=>∃n m:Int,ds=[.int n,.int m]/\(1<=m/\m<=40)/\∀xs,Rises xs->(xs.length:Int)=m->Q (il xs)
noncomputable abbrev aff (p q r s ox oy:Int) (z:Int × Int):Int × Int:=(p*z.1+q*z.2+ox,r*z.1+s*z.2+oy)
noncomputable def kI (lows highs:List Int) (top:Int):List (Int × Int):=lows.map (λx=>(x,x*x))++highs.reverse.map λx=>(x,top-x*x)
structure RingForm (lows highs:List Int) (top p q r s ox oy:Int):Prop where
 lowsR:Rises lows
 highsR:Rises highs
 lowsN:2<=lows.length/\lows.length<=21
 highsN:1<=highs.length/\highs.length<=3
 topL:∀x∈lows++highs,2*(x*x)+1<=top
 topH:top<=10000
 pB:1<=p/\p<=3
 qB:-3<=q/\q<=3
 rB:-3<=r/\r<=3
 sB:-9<=s/\s<=12
 det:0<p*s-q*r
 oxB:BL 202 ox
 oyB:BL 202 oy
noncomputable abbrev MG (lows highs:List Int) (top p q r s ox oy:Int):List (Int × Int):=(kI lows highs top).map (aff p q r s ox oy)
theorem aJ {t u:RS} {E:DEnds} {ρ:En} (I:En->Prop) (h1:∀K:En->Prop,(∀ρ',I ρ'->K ρ')->t { E with nx:=K } ρ) (h2:∀ρ',I ρ'->u E ρ'):aY t u E ρ:=h1 (u E) h2
noncomputable def RB:FD:=λds Q=>∃(h0 h1 h2 h3 h4 h5 h6:Int) (rest:List D) (far:Int),ds=[.lst (.int h0 :: .int h1 :: .int h2 :: .int h3 :: .int h4 :: .int h5 :: .int h6::rest),.int far]/\(0<=far/\BL 200 far) /\
 ∀lows highs top p q r s ox oy,RingForm lows highs top p q r s ox oy->Q (pts (MG lows highs top p q r s ox oy))
theorem WH (x:Int):0<=x*x:=by
 rcases Int.le_total 0 x with h | h
 ·exact Int.mul_nonneg h h
 ·have:=Int.mul_nonneg (Int.neg_nonneg.mpr h) (Int.neg_nonneg.mpr h)
  rwa [Int.neg_mul_neg] at this
theorem LD {a far:Int} (h0:0<=far) (h:BL 200 far):BL 202 (a.fmod (2*far+1)-far):=by
 obtain⟨a0,a1⟩:=aV (a:=a) (b:=2*far+1) (by omega)
 have:far.natAbs<2 ^ 200:=h
 refine BL.of_lt (m:=202) ?_ ?_
 ·have:(far.natAbs:Int)<((2 ^ 200:Nat):Int):=by exact_mod_cast this
  have e:((2 ^ 200:Nat):Int)<((2 ^ 202:Nat):Int):=by decide
  omega
 ·have:(far.natAbs:Int)<((2 ^ 200:Nat):Int):=by exact_mod_cast this
  have e:((2 ^ 200:Nat):Int)<((2 ^ 202:Nat):Int):=by decide
  omega
theorem pure_law_ring:∀ds Q,RB ds Q->oS MX { nx:=λ_=>Q .non,rt:=Q } (aO ["_law_head","_law_far","_law_lows","_law_highs","_law_top","_law_ring_here","_law_p","_law_q","_law_r","_law_s","_law_off"] ds):=by
 rintro ds Q ⟨h0,h1,h2,h3,h4,h5,h6,rest,far,rfl,⟨hf0,hf1⟩,hQ⟩
 rw[aS 9 rfl]
 unfold oS
 generalize hH:D.lst (.int h0 :: .int h1 :: .int h2 :: .int h3 :: .int h4 :: .int h5 :: .int h6::rest)=HD
 simp only[cI,EC,List.map_cons,List.map_nil,List.cons_append,List.nil_append]
 refine aJ (λρ=>∃lows,Rises lows/\(2<=lows.length/\lows.length<=21)/\ρ=[some (.d HD),some (.d (.int far)),some (.d (il lows)),none,none,none,none,none,none,none,none]) (λK hK=>?_) ?_
 ·rw[<-hH] at hK ⊢
  walk_at "rd"
  walk_at "sides"
  obtain⟨a0,a1⟩:=aV (a:=h0) (b:=3) (by decide)
  obtain⟨b0,b1⟩:=aV (a:=h0) (b:=20) (by decide)
  obtain⟨c0,c1⟩:=aV (a:=h2.fdiv 9) (b:=4) (by decide)
  have c2:0<=((h2.fdiv 9).fmod 4).fdiv 3/\((h2.fdiv 9).fmod 4).fdiv 3<2:=by
   rw[Int.fdiv_eq_ediv_of_nonneg _ (by decide)];omega
  refine oB c2.1 (by simpa using c2.2) λx hx=>?_
  have:∃t:Int,x = .int t/\2<=t/\t<=21:=by
   simp only[List.mem_cons,List.not_mem_nil,or_false] at hx
   rcases hx with rfl | rfl
   ·exact⟨_,rfl,by omega,by omega⟩
   ·exact⟨_,rfl,by omega,by omega⟩
  obtain⟨t,rfl,t0,t1⟩:=this
  exact⟨_,_,rfl,⟨by omega,by omega⟩,λxs hr hl=>hK _ ⟨xs,hr,⟨by omega,by omega⟩,rfl⟩⟩
 rintro ρ ⟨lows,hlr,hln,rfl⟩
 refine aJ (λρ=>∃highs,Rises highs/\(1<=highs.length/\highs.length<=3)/\ρ=[some (.d HD),some (.d (.int far)),some (.d (il lows)),some (.d (il highs)),none,none,none,none,none,none,none]) (λK hK=>?_) ?_
 ·rw[<-hH] at hK ⊢
  walk_at "rd"
  walk_at "sides"
  obtain⟨a0,a1⟩:=aV (a:=h1) (b:=3) (by decide)
  exact⟨_,_,rfl,⟨by omega,by omega⟩,λxs hr hl=>hK _ ⟨xs,hr,⟨by omega,by omega⟩,rfl⟩⟩
 rintro ρ ⟨highs,hhr,hhn,rfl⟩
 have small:∀x∈lows++highs,-4<=x/\x<=60:=λx hx=>by
  rcases List.mem_append.mp hx with h | h
  ·obtain⟨i,hi,rfl⟩:=List.getElem_of_mem h
   have:=hlr.bound i _ (List.getElem?_eq_getElem hi)
   omega
  ·obtain⟨i,hi,rfl⟩:=List.getElem_of_mem h
   have:=hhr.bound i _ (List.getElem?_eq_getElem hi)
   omega
 have sq:∀x∈lows++highs,0<=x*x/\x*x<=3600:=λx hx=>by
  have:=small x hx
  constructor
  ·exact WH x
  ·by_cases h:0<=x
   ·exact Int.le_trans (Int.mul_le_mul this.2 this.2 h (by decide)) (by decide)
   ·have:x = -4\/x = -3\/x = -2\/x = -1:=by omega
    rcases this with rfl | rfl | rfl | rfl <;> decide
 refine aJ (λρ=>∃top,(∀x∈lows++highs,2*(x*x)+1<=top)/\top<=10000/\ρ=[some (.d HD),some (.d (.int far)),some (.d (il lows)),some (.d (il highs)),some (.d (.int top)),none,none,none,none,none,none]) (λK hK=>?_) ?_
 ·rw[<-hH] at hK ⊢
  walk_at "rd"
  refine⟨bL (by simp;omega),bL (by simp;omega),?_⟩
  rw[<-List.map_append]
  refine dC (λρ=>∃a,ρ=[a]) D.int (λx=>D.int (x*x)) (lows++highs) ?_ ⟨_,rfl⟩ ?_
  ·rintro x hx ρ ⟨b,rfl⟩ K' hK'
   walk_at "rd"
   have:=small x hx
   exact⟨(BL.of_lt (m:=20) (i:=x) (by omega) (by omega)).mulOk (BL.of_lt (m:=20) (i:=x) (by omega) (by omega)),hK' _ ⟨_,rfl⟩⟩
  ·refine⟨(lows++highs).map λx=>x*x,by rw[List.map_map];rfl,by intro e;simp at e;rw[e.1] at hln;simp at hln,λM hM hmax=>?_⟩
   obtain⟨x0,hx0,rfl⟩:=List.mem_map.mp hM
   have s0:=sq x0 hx0
   walk_at "rd"
   generalize x0*x0=M at *
   refine⟨(BL.const (n:=20)).mulOk (BL.of_lt (m:=20) (i:=M) (by omega) (by omega)),cU,?_⟩
   obtain⟨d0,d1⟩:=aV (a:=h2) (b:=9) (by decide)
   refine hK _ ⟨_,λx hx=>?_,?_,rfl⟩
   ·have:=hmax (x*x) (List.mem_map.mpr ⟨x,hx,rfl⟩)
    omega
   ·omega
 rintro ρ ⟨top,topL,topH,rfl⟩
 have topB:1<=top:=by
  have hne:lows++highs≠[]:=by intro e;simp at e;rw[e.1] at hln;simp at hln
  obtain⟨x,hx⟩:=List.exists_mem_of_ne_nil _ hne
  have:=topL x hx
  have:=sq x hx
  omega
 refine aJ (λρ=>ρ=[some (.d HD),some (.d (.int far)),some (.d (il lows)),some (.d (il highs)),some (.d (.int top)),some (.d (pts (kI lows highs top))),none,none,none,none,none]) (λK hK=>?_) ?_
 ·walk_at "rd"
  refine⟨bL (by simp;omega),?_⟩
  refine dC (λρ=>∃a,ρ=[a]) D.int (λx=>pt (x,x*x)) lows ?_ ⟨_,rfl⟩ ?_
  ·rintro x hx ρ ⟨b,rfl⟩ K' hK'
   walk_at "rd"
   have:=small x (List.mem_append_left _ hx)
   exact⟨(BL.of_lt (m:=20) (i:=x) (by omega) (by omega)).mulOk (BL.of_lt (m:=20) (i:=x) (by omega) (by omega)),hK' _ ⟨_,rfl⟩⟩
  ·refine⟨bL (by simp;omega),?_⟩
   rw[<-List.map_reverse]
   refine dC (λρ=>∃a,ρ=[a,some (.d (.int top))]) D.int (λx=>pt (x,top-x*x)) highs.reverse ?_ ⟨_,rfl⟩ ?_
   ·rintro x hx ρ ⟨b,rfl⟩ K' hK'
    walk_at "rd"
    have:=small x (List.mem_append_right _ (List.mem_reverse.mp hx))
    exact⟨(BL.of_lt (m:=20) (i:=x) (by omega) (by omega)).mulOk (BL.of_lt (m:=20) (i:=x) (by omega) (by omega)),hK' _ ⟨_,rfl⟩⟩
   ·refine⟨bL (by simp;omega),hK _ ?_⟩
    unfold kI pts
    simp only[List.map_append,List.map_map]
    rfl
 rintro ρ rfl
 refine aJ (λρ=>∃p,(1<=p/\p<=3)/\ρ=[some (.d HD),some (.d (.int far)),some (.d (il lows)),some (.d (il highs)),some (.d (.int top)),some (.d (pts (kI lows highs top))),some (.d (.int p)),none,none,none,none]) (λK hK=>?_) ?_
 ·rw[<-hH] at hK ⊢
  walk_at "rd"
  walk_at "sides"
  obtain⟨d0,d1⟩:=aV (a:=h3) (b:=3) (by decide)
  exact hK _ ⟨_,⟨by omega,by omega⟩,rfl⟩
 rintro ρ ⟨p,hp,rfl⟩
 refine aJ (λρ=>∃q,(-3<=q/\q<=3)/\ρ=[some (.d HD),some (.d (.int far)),some (.d (il lows)),some (.d (il highs)),some (.d (.int top)),some (.d (pts (kI lows highs top))),some (.d (.int p)),some (.d (.int q)),none,none,none]) (λK hK=>?_) ?_
 ·rw[<-hH] at hK ⊢
  walk_at "rd"
  walk_at "sides"
  obtain⟨d0,d1⟩:=aV (a:=h3.fdiv 3) (b:=7) (by decide)
  exact hK _ ⟨_,⟨by omega,by omega⟩,rfl⟩
 rintro ρ ⟨q,hq,rfl⟩
 refine aJ (λρ=>∃r,(-3<=r/\r<=3)/\ρ=[some (.d HD),some (.d (.int far)),some (.d (il lows)),some (.d (il highs)),some (.d (.int top)),some (.d (pts (kI lows highs top))),some (.d (.int p)),some (.d (.int q)),some (.d (.int r)),none,none]) (λK hK=>?_) ?_
 ·rw[<-hH] at hK ⊢
  walk_at "rd"
  walk_at "sides"
  obtain⟨d0,d1⟩:=aV (a:=h4) (b:=7) (by decide)
  exact hK _ ⟨_,⟨by omega,by omega⟩,rfl⟩
 rintro ρ ⟨r,hr,rfl⟩
 have qr:-9<=q*r/\q*r<=9:=by
  have hq':q = -3\/q = -2\/q = -1\/q=0\/q=1\/q=2\/q=3:=by omega
  rcases hq' with rfl | rfl | rfl | rfl | rfl | rfl | rfl <;> omega
 refine aJ (λρ=>∃s,(-9<=s/\s<=12)/\0<p*s-q*r/\ρ=[some (.d HD),some (.d (.int far)),some (.d (il lows)),some (.d (il highs)),some (.d (.int top)),some (.d (pts (kI lows highs top))),some (.d (.int p)),some (.d (.int q)),some (.d (.int r)),some (.d (.int s)),none]) (λK hK=>?_) ?_
 ·rw[<-hH] at hK ⊢
  walk_at "rd"
  obtain⟨d0,d1⟩:=aV (a:=h4.fdiv 7) (b:=3) (by decide)
  refine⟨(BL.of_lt (m:=20) (i:=q) (by omega) (by omega)).mulOk (BL.of_lt (m:=20) (i:=r) (by omega) (by omega)),((BL.of_lt (m:=20) (i:=p) (by omega) (by omega)).mono (by decide)).divOk (by omega),?_⟩
  walk_at "sides"
  generalize (h4.fdiv 7).fmod 3=z at *
  have e:(q*r).fdiv p=(q*r) / p:=Int.fdiv_eq_ediv_of_nonneg _ (by omega)
  rw[e]
  generalize q*r=m at *
  have hp':p=1\/p=2\/p=3:=by omega
  refine hK _ ⟨_,?_,?_,rfl⟩
  ·rcases hp' with rfl | rfl | rfl <;> omega
  ·rcases hp' with rfl | rfl | rfl <;> omega
 rintro ρ ⟨s,hs,det,rfl⟩
 refine aJ (λρ=>∃ox oy,BL 202 ox/\BL 202 oy/\ρ=[some (.d HD),some (.d (.int far)),some (.d (il lows)),some (.d (il highs)),some (.d (.int top)),some (.d (pts (kI lows highs top))),some (.d (.int p)),some (.d (.int q)),some (.d (.int r)),some (.d (.int s)),some (.d (pt (ox,oy)))]) (λK hK=>?_) ?_
 ·rw[<-hH] at hK ⊢
  walk_at "rd"
  refine⟨(BL.const (n:=20)).mulOk hf1,⟨by omega⟩,(BL.const (n:=20)).mulOk hf1,⟨by omega⟩,?_⟩
  exact hK _ ⟨_,_,LD hf0 hf1,LD hf0 hf1,rfl⟩
 rintro ρ ⟨ox,oy,hox,hoy,rfl⟩
 have RF:RingForm lows highs top p q r s ox oy:=⟨hlr,hhr,hln,hhn,topL,topH,hp,hq,hr,hs,det,hox,hoy⟩
 have bow:∀z∈kI lows highs top,BL 20 z.1/\BL 20 z.2:=λz hz=>by
  unfold kI at hz
  rcases List.mem_append.mp hz with h | h
  ·obtain⟨x,hx,rfl⟩:=List.mem_map.mp h
   have:=small x (List.mem_append_left _ hx)
   have:=sq x (List.mem_append_left _ hx)
   exact⟨BL.of_lt (by simp;omega) (by simp;omega),BL.of_lt (by simp;omega) (by simp;omega)⟩
  ·obtain⟨x,hx,rfl⟩:=List.mem_map.mp h
   have hx:=List.mem_reverse.mp hx
   have:=small x (List.mem_append_right _ hx)
   have:=sq x (List.mem_append_right _ hx)
   exact⟨BL.of_lt (by simp;omega) (by simp;omega),BL.of_lt (by simp;omega) (by simp;omega)⟩
 walk_at "rd"
 refine⟨bL (by unfold kI;simp;omega),?_⟩
 refine dC (λρ=>∃a b,ρ=[a,b,some (.d (.int p)),some (.d (.int q)),some (.d (pt (ox,oy))),some (.d (.int r)),some (.d (.int s))]) pt (λz=>pt (aff p q r s ox oy z)) (kI lows highs top) ?_ ⟨_,_,rfl⟩ ?_
 ·rintro z hz ρ ⟨a,b,rfl⟩ K' hK'
  obtain⟨b1,b2⟩:=bow z hz
  walk_at "rd"
  have cp:BL 20 p:=BL.of_lt (by omega) (by omega)
  have cq:BL 20 q:=BL.of_lt (by omega) (by omega)
  have cr:BL 20 r:=BL.of_lt (by omega) (by omega)
  have cs:BL 20 s:=BL.of_lt (by omega) (by omega)
  exact⟨cp.mulOk b1,cq.mulOk b2,cr.mulOk b1,cs.mulOk b2,hK' _ ⟨_,_,rfl⟩⟩
 ·have:=hQ lows highs top p q r s ox oy RF
  unfold pts MG at this
  rw[List.map_map] at this
  exact this
theorem mC {xs:List D} {j:Nat} (h:j<=xs.length):gW xs (some (j:Int)) none=xs.drop j:=by
 unfold gW
 rw[HT.sIx_nat,HT.sIx_none,Nat.min_eq_left h,List.take_of_length_le (by simp)]
theorem EU {xs:List D} {j:Nat} (h:j<=xs.length):gW xs none (some (j:Int))=xs.take j:=by
 unfold gW
 rw[HT.sIx_nat,HT.sIx_none,Nat.min_eq_left h];simp
noncomputable abbrev scl (k:Int) (z:Pt):Pt:=(k*z.1,k*z.2)
noncomputable def sR:FD:=λds Q=>∃a b:Int,ds=[.int a,.int b]/\(0<a/\0<b)/\(BL 8000 a/\BL 8000 b)/\∀l,0<l->a∣l->b∣l->l<=a*b->Q (.int l)
theorem OF:∀ds Q,sR ds Q->ds.length=2:=by rintro ds Q ⟨_,_,rfl,_⟩;rfl
theorem lJ:∀ds Q,sR ds Q->dA pY { nx:=λ_=>Q .non,rt:=Q } (aO ["one","other"] ds):=by
 rintro ds Q ⟨a,b,rfl,⟨ha,hb⟩,⟨ba,bb⟩,q⟩
 rw[aS 0 rfl]
 unfold dA
 walk_at "rd"
 refine⟨a,b,rfl,?_⟩
 have hg:=sI (a:=a) (b:=b) (by omega)
 have bg:=BL.gcd (a:=a) (b:=b) (by omega) bb
 walk_at "rd"
 have b2:BL 8000 (b.fdiv (Int.gcd a b:Nat)):=bb.fdiv
 refine⟨(bg.mono (by decide)).divOk (by omega),ba.mulOk b2,?_⟩
 obtain⟨c,ec⟩:((Int.gcd a b:Nat):Int)∣b:=Int.gcd_dvd_right ..
 obtain⟨d,ed⟩:((Int.gcd a b:Nat):Int)∣a:=Int.gcd_dvd_left ..
 have e1:b.fdiv (Int.gcd a b:Nat)=c:=by
  rw[Int.fdiv_eq_ediv_of_nonneg _ (by omega)]
  have:b / ((Int.gcd a b:Nat):Int)=(((Int.gcd a b:Nat):Int)*c) / ((Int.gcd a b:Nat):Int):=congrArg (· / ((Int.gcd a b:Nat):Int)) ec
  rw[this,Int.mul_ediv_cancel_left _ (by omega)]
 rw[e1]
 generalize hG:((Int.gcd a b:Nat):Int)=g at *
 have pc:0<c:=by
  apply Int.not_le.mp
  intro hn
  have:g*c<=0:=Int.mul_nonpos_of_nonneg_of_nonpos (by omega) hn
  omega
 refine q _ (Int.mul_pos ha pc) (Int.dvd_mul_right ..) ⟨d,by rw[ed,ec];grind⟩ ?_
 rw[ec]
 have:0<=a*((g-1)*c):=Int.mul_nonneg (by omega) (Int.mul_nonneg (by omega) (by omega))
 have e:a*(g*c)=a*c+a*((g-1)*c):=by grind
 omega
local macro_rules | `(tactic| walk_at "rd")=>do
 let a <- ("S.fz BC uI JG aY cW bX wJ gB bD dE BD yN aR fX cE fW aK aD rC r2 r1 cD BA rOr HP oR HQ wK rIf aG aB dU gQ aU rCB cZ iH wM cL HX riL riT oX BH lO eF gK kR sY dY iG wL lM HR vK nQ gL mD pG GD dNe pV uM iN bQ eL cB cG bV kB mI jD hU GB pF qJ gM gN jQ jG jH jI jJ jK jL jM jN jO jP hZ iA rF xO vW kZ fI GC pL pJ pK pI pM S.val cI HU DZ vI BF EA vJ EB HV HW EC wN wO wP List.map_cons List.map_nil List.cons_append List.nil_append List.length_cons List.length_nil List.getElem?_cons_zero List.getElem?_cons_succ List.set_cons_zero List.set_cons_succ List.append_nil Bool.or_false Bool.or_true Bool.false_or Bool.true_or Bool.not_true Bool.not_false if_true if_false Bool.false_eq_true sz0 sz1 sz2 sz3 sz4 true_and decide_eq_true_eq Int.reduceToNat Int.reducePow Int.reduceMul Int.reduceSub Int.reduceAdd Int.reduceNeg".splitOn " ").toArray.mapM λx=>`(Lean.Parser.Tactic.simpLemma| $(Lean.mkIdent x.toName):term)
 `(tactic| simp only[$a,*])
noncomputable abbrev sdD (s:bJ):D:=.tup [pt s.1,pt s.2]
noncomputable abbrev gT (S:List bJ):D:=.lst (S.map sdD)
noncomputable abbrev dB (R:List (List Pt)):D:=.lst (R.map pts)
noncomputable def tX:Pt->List Pt->List (Pt × Pt)
 | _,[]=>[]
 | a,b::r=>(a,b)::tX b r
theorem xA:∀(a:Pt) (l:List Pt),cA a l=((tX a l).map λp=>sd p.1 p.2).flatten
 | _,[]=>rfl
 | a,b::r=>by rw[cA,tX,List.map_cons,List.flatten_cons,xA b r]
theorem CA:∀(a z:Pt) (r:List Pt),List.zipWith (λu v=>D.tup [u,v]) ((a::r).map pt) ((r++[z]).map pt)=(tX a (r++[z])).map λp=>D.tup [pt p.1,pt p.2]
 | a,z,[]=>rfl
 | a,z,b::r=>by
  have ih:=CA b z r
  show D.tup [pt a,pt b]::List.zipWith (λu v=>D.tup [u,v]) ((b::r).map pt) ((r++[z]).map pt)=_
  rw[ih];rfl
theorem AN:∀(a:Pt) (l:List Pt),(tX a l).length=l.length
 | _,[]=>rfl
 | a,b::r=>by rw[tX,List.length_cons,AN b r,List.length_cons]
theorem MN (a b:Pt):(sd a b).length<=1:=by unfold sd;split <;> (try split) <;> simp
theorem BX:∀(l:List Pt) (a:Pt),(cA a l).length<=l.length
 | [],_=>Nat.le_refl _
 | b::r,a=>by
  have h1:=MN a b
  have h2:=BX r b
  rw[cA,List.length_append,List.length_cons];omega
theorem wR:∀g:List Pt,(bP g).length<=g.length
 | []=>Nat.le_refl _
 | a::r=>by have:=BX (r++[a]) a;rw[bP];simpa using this
noncomputable def jF:FD:=λds Q=>∃g:List Pt,ds=[pts g]/\g.length<=100/\Q (gT (bP g))
theorem AG:∀ds Q,jF ds Q->ds.length=1:=by rintro ds Q ⟨_,rfl,_⟩;rfl
theorem vG:∀ds Q,jF ds Q->jA { nx:=λ_=>Q .non,rt:=Q } (aO ["ring","sides","one","other"] ds):=by
 rintro ds Q ⟨g,rfl,hl,q⟩
 rw[aS 3 rfl]
 unfold jA
 refine aJ (λρ=>ρ=[some (.d (pts g)),some (.own []),none,none]) (λK hK=>?_) ?_
 ·walk_at "rd"
  exact hK _ rfl
 rintro ρ rfl
 refine aJ (λρ=>∃u v,ρ=[some (.d (pts g)),some (.own ((bP g).map sdD)),u,v]) (λK hK=>?_) ?_
 ·have zz:∃ps:List (Pt × Pt),List.zipWith (λu v=>D.tup [u,v]) (g.map pt) (gW (g.map pt) (some 1) none++gW (g.map pt) none (some 1))=ps.map (λp=>D.tup [pt p.1,pt p.2])/\(ps.map λp=>sd p.1 p.2).flatten=bP g/\ps.length<=100:=by
   cases g with
   | nil=>exact⟨[],rfl,rfl,Nat.zero_le _⟩
   | cons a r =>
    refine⟨tX a (r++[a]),?_,(xA a (r++[a])).symm,by rw[AN];simpa using hl⟩
    have c1:gW ((a::r).map pt) (some 1) none=r.map pt:=mC (j:=1) (by simp)
    have c2:gW ((a::r).map pt) none (some 1)=[pt a]:=EU (j:=1) (by simp)
    rw[c1,c2,<-CA a a r]
    simp
  obtain⟨ps,e1,e2,e3⟩:=zz
  simp only[cL,iN,aK,aD,r2,nQ,iH,cZ,rC,gL,List.getElem?_cons_zero]
  have cl:∀l u:Option Int,(gW (g.map pt) l u).length<=100:=λl u=>by unfold gW;rw[List.length_take,List.length_drop,List.length_map];omega
  refine⟨bL (by have:=cl (some 1) none;have:=cl none (some 1);omega),?_⟩
  rw[e1]
  refine cR (λxs ρ=>∃done todo:List (Pt × Pt),ps=done++todo/\xs=todo.map (λp=>D.tup [pt p.1,pt p.2])/\∃u v,ρ=[some (.d (pts g)),some (.own (((done.map λp=>sd p.1 p.2).flatten).map sdD)),u,v]) ?_ ?_ _ _ ⟨[],ps,rfl,rfl,_,_,rfl⟩
  ·rintro x xs ρ ⟨done,todo,eps,exs,u,v,rfl⟩ F hr hb hn hc
   cases todo with
   | nil=>cases exs
   | cons p todo =>
    rw[List.map_cons] at exs
    injection exs with ex exs
    subst ex exs
    have dl:((done.map λp=>sd p.1 p.2).flatten).length+1<=101:=by
     have h1:done.length<=100:=by rw[eps] at e3;simp at e3;omega
     have:((done.map λp=>sd p.1 p.2).flatten).length<=done.length:=by
      clear eps h1
      induction done with
      | nil=>exact Nat.le_refl _
      | cons z done ih=>have:=MN z.1 z.2;rw[List.map_cons,List.flatten_cons,List.length_append,List.length_cons];omega
     omega
    have go:∀w,w=sd p.1 p.2->F.nx [some (.d (pts g)),some (.own (((done.map λp=>sd p.1 p.2).flatten).map sdD++w.map sdD)),some (.d (pt p.1)),some (.d (pt p.2))]:=λw hw=>by
     refine hn _ ⟨done++[p],todo,by rw[eps];simp,rfl,some (.d (pt p.1)),some (.d (pt p.2)),?_⟩
     rw[hw,<-List.map_append]
     congr 4
     simp
    unfold lN
    walk_at "rd"
    by_cases h1:p.1.1<p.2.1
    ·have h2:¬p.2.1<p.1.1:=by omega
     simp only[h1,h2,decide_true,decide_false,if_true,if_false,Bool.false_eq_true]
     refine⟨bL (by rw[List.length_map];omega),?_⟩
     exact go [p] (by unfold sd;rw[if_pos h1])
    ·by_cases h2:p.2.1<p.1.1
     ·simp only[h1,h2,decide_true,decide_false,if_true,if_false,Bool.false_eq_true]
      refine⟨bL (by rw[List.length_map];omega),?_⟩
      exact go [(p.2,p.1)] (by unfold sd;rw[if_neg h1,if_pos h2])
     ·simp only[h1,h2,decide_false,if_false,Bool.false_eq_true]
      have:=go [] (by unfold sd;rw[if_neg h1,if_neg h2])
      simpa using this
  ·rintro ρ ⟨done,todo,eps,exs,u,v,rfl⟩
   have:todo=[]:=by cases todo with | nil=>rfl | cons _ _=>cases exs
   subst this
   rw[List.append_nil] at eps
   refine hK _ ⟨u,v,?_⟩
   rw[<-eps,e2]
 rintro ρ ⟨u,v,rfl⟩
 walk_at "rd"
 exact q
noncomputable def lE:List (Int × List D)->Int->List D
 | [],_=>[]
 | (k',ds)::r,k=>if k'=k then ds else lE r k
theorem AK:∀(kvs:List (Int × List D)) (k:Int) (d:D) (c:Int),lE (gP kvs k d) c=if k=c then lE kvs c++[d] else lE kvs c
 | [],k,d,c=>by simp only[gP,lE];split <;> rfl
 | (k',ds)::r,k,d,c=>by
  have ih:=AK r k d c
  unfold gP
  by_cases h:k'=k
  ·rw[if_pos h];subst h
   simp only[lE]
   by_cases hc:k'=c
   ·rw[if_pos hc,if_pos hc,if_pos hc]
   ·rw[if_neg hc,if_neg hc,if_neg hc]
  ·rw[if_neg h]
   simp only[lE]
   by_cases hc:k=c
   ·have:¬k'=c:=λe=>h (e.trans hc.symm)
    rw[if_neg this,if_pos hc,ih,if_pos hc,if_neg this]
   ·rw[if_neg hc,ih,if_neg hc]
theorem tS:∀(kvs:List (Int × List D)) (k:Int) (d:D),(gP kvs k d).map (·.1)=if k∈kvs.map (·.1) then kvs.map (·.1) else kvs.map (·.1)++[k]
 | [],k,d=>by simp[gP]
 | (k',ds)::r,k,d=>by
  have ih:=tS r k d
  unfold gP
  by_cases h:k'=k
  ·rw[if_pos h];subst h;simp
  ·rw[if_neg h,List.map_cons,ih]
   have h':¬k=k':=λe=>h e.symm
   by_cases hm:k∈r.map (·.1)
   ·rw[if_pos hm,if_pos (by rw[List.map_cons];exact .tail _ hm)];rfl
   ·rw[if_neg hm,if_neg (by rw[List.map_cons,List.mem_cons];exact λz=>z.elim h' hm)];rfl
theorem zS:∀(kvs:List (Int × List D)) (c:Int),c∈kvs.map (·.1)->mM (kvs.map (·.1)) (kvs.map λp=>.lst p.2) c=some (.lst (lE kvs c))
 | [],_,h=>by cases h
 | (k',ds)::r,c,h=>by
  simp only[List.map_cons,mM,lE]
  by_cases hc:k'=c
  ·rw[if_pos hc,if_pos hc]
  ·rw[if_neg hc,if_neg hc]
   rw[List.map_cons,List.mem_cons] at h
   exact zS r c (h.resolve_left λe=>hc e.symm)
theorem FG:∀(kvs:List (Int × List D)) (k:Int) (d:D) (n:Nat),kvs.length<=n->(∀p∈kvs,p.2.length<=n)->(gP kvs k d).length<=n+1/\∀p∈gP kvs k d,p.2.length<=n+1
 | [],k,d,n,_,_=>⟨by simp[gP],λp hp=>by simp[gP] at hp;subst hp;simp⟩
 | (k',ds)::r,k,d,n,hl,hp=>by
  unfold gP
  have hds:=hp (k',ds) (.head _)
  by_cases h:k'=k
  ·rw[if_pos h]
   refine⟨by simpa using Nat.le_succ_of_le hl,λp h'=>?_⟩
   rcases List.mem_cons.mp h' with rfl | h'
   ·simp;exact hds
   ·exact Nat.le_succ_of_le (hp p (.tail _ h'))
  ·rw[if_neg h]
   rw[List.length_cons] at hl
   have n1:n=(n-1)+1:=by omega
   obtain⟨i1,i2⟩:=FG r k d n (by omega) λp h'=>hp p (.tail _ h')
   have i3:(gP r k d).length<=r.length+1:=by
    clear i1 i2 hp hds hl
    induction r with
    | nil=>simp[gP]
    | cons z r ih=>unfold gP;split <;> simp <;> omega
   refine⟨by rw[List.length_cons];omega,λp h'=>?_⟩
   rcases List.mem_cons.mp h' with rfl | h'
   ·exact Nat.le_succ_of_le hds
   ·exact i2 p h'
noncomputable abbrev Ev:=Int × bJ
noncomputable def evs (s:bJ):List Ev:=(List.range (wid s).toNat).map λk:Nat=>(s.1.1+(k:Int),s)
noncomputable def dD (E:List Ev):List (Int × List D):=E.foldl (λm e=>gP m e.1 (sdD e.2)) []
theorem tT (E:List Ev) (e:Ev):dD (E++[e])=gP (dD E) e.1 (sdD e.2):=by unfold dD;rw[List.foldl_append];rfl
theorem CQ (E:List Ev):((dD E).length<=E.length/\∀p∈dD E,p.2.length<=E.length)/\((dD E).map (·.1)).Nodup/\(∀c,c∈(dD E).map (·.1)↔∃e∈E,e.1=c)/\∀c,lE (dD E) c=(E.filter λe=>decide (e.1=c)).map λe=>sdD e.2:=by
 refine snoc_ind (P:=λE=>((dD E).length<=E.length/\∀p∈dD E,p.2.length<=E.length)/\((dD E).map (·.1)).Nodup/\(∀c,c∈(dD E).map (·.1)↔∃e∈E,e.1=c)/\∀c,lE (dD E) c=(E.filter λe=>decide (e.1=c)).map λe=>sdD e.2) ?_ ?_ E
 ·exact⟨⟨Nat.le_refl _,λp h=>by cases h⟩,List.nodup_nil,λc=>⟨λh=>(by cases h),λ⟨e,h,_⟩=>(by cases h)⟩,λc=>rfl⟩
 ·rintro E e ⟨⟨h1,h2⟩,h3,h4,h5⟩
  rw[tT]
  refine⟨by rw[List.length_append];exact FG _ _ _ _ h1 h2,?_,λc=>?_,λc=>?_⟩
  ·rw[tS]
   split
   ·exact h3
   ·rename_i n
    exact List.nodup_append.mpr ⟨h3,List.pairwise_singleton _ _,λa ha b hb e'=>n (by rw[List.mem_singleton.mp hb] at e';exact e' ▸ ha)⟩
  ·rw[tS]
   split
   ·rename_i m
    rw[h4 c]
    constructor
    ·rintro⟨x,hx,rfl⟩;exact⟨x,List.mem_append_left _ hx,rfl⟩
    ·rintro⟨x,hx,rfl⟩
     rcases List.mem_append.mp hx with hx | hx
     ·exact⟨x,hx,rfl⟩
     ·rw[List.mem_singleton.mp hx];exact (h4 _).mp m
   ·rw[List.mem_append,h4 c,List.mem_singleton]
    constructor
    ·rintro (⟨x,hx,rfl⟩ | rfl)
     ·exact⟨x,List.mem_append_left _ hx,rfl⟩
     ·exact⟨e,List.mem_append_right _ (.head _),rfl⟩
    ·rintro⟨x,hx,rfl⟩
     rcases List.mem_append.mp hx with hx | hx
     ·exact .inl ⟨x,hx,rfl⟩
     ·rw[List.mem_singleton.mp hx];exact .inr rfl
  ·rw[AK,h5 c,List.filter_append,List.map_append]
   by_cases hc:e.1=c
   ·rw[if_pos hc];simp[hc]
   ·rw[if_neg hc];simp[hc]
where
 snoc_ind {α:Type} {P:List α->Prop} (h0:P []) (hs:∀E e,P E->P (E++[e])) (E:List α):P E:=by
  have:∀(n:Nat) (E:List α),E.length=n->P E:=by
   intro n
   induction n with
   | zero=>intro E h;rw[List.length_eq_zero_iff.mp h];exact h0
   | succ n ih =>
    intro E h
    rcases List.eq_nil_or_concat E with rfl | ⟨E',e,rfl⟩
    ·cases h
    ·rw[List.concat_eq_append] at h ⊢
     exact hs E' e (ih E' (by simpa using h))
  exact this _ E rfl
theorem NR (c:Int) (s:bJ) (hw:0<wid s):((evs s).filter λe=>decide (e.1=c)).map (·.2)=if cov c s=true then [s] else []:=by
 have key:∀n:Nat,(((List.range n).map λk:Nat=>((s.1.1+(k:Int),s):Ev)).filter λe=>decide (e.1=c)).map (·.2)=if s.1.1<=c/\c<s.1.1+n then [s] else []:=by
  intro n
  induction n with
  | zero=>rw[if_neg (by omega)];rfl
  | succ n ih =>
   rw[List.range_succ,List.map_append,List.filter_append,List.map_append,ih]
   by_cases h1:s.1.1<=c/\c<s.1.1+n
   ·rw[if_pos h1,if_pos (by omega)]
    have:¬s.1.1+(n:Int)=c:=by omega
    simp[this]
   ·by_cases h2:s.1.1+(n:Int)=c
    ·rw[if_neg h1,if_pos (by omega)];simp[h2]
    ·rw[if_neg h1,if_neg (by omega)];simp[h2]
 unfold evs
 rw[key]
 by_cases h:cov c s=true
 ·have:=gC.mp h
  rw[if_pos h,if_pos (by unfold wid at *;omega)]
 ·rw[if_neg h,if_neg λk=>h (gC.mpr (by unfold wid at *;omega))]
theorem xX (c:Int):∀(S:List bJ),(∀s∈S,0<wid s)->(((S.map evs).flatten).filter λe=>decide (e.1=c)).map (·.2)=S.filter (cov c)
 | [],_=>rfl
 | s::S,h=>by
  rw[List.map_cons,List.flatten_cons,List.filter_append,List.map_append,xX c S λx hx=>h x (.tail _ hx),NR c s (h s (.head _)),List.filter_cons]
  split <;> rfl
structure ColOf (S:List bJ) (ks:List Int) (xs:List D):Prop where
 len:ks.length=xs.length
 nodup:ks.Nodup
 mem:∀c,c∈ks↔∃s∈S,cov c s=true
 here:∀c∈ks,mM ks xs c=some (gT (S.filter (cov c)))
theorem QC (S:List bJ) (h:∀s∈S,0<wid s):ColOf S ((dD (S.map evs).flatten).map (·.1)) ((dD (S.map evs).flatten).map λp=>.lst p.2):=by
 obtain⟨_,h3,h4,h5⟩:=CQ (S.map evs).flatten
 refine⟨by simp,h3,λc=>?_,λc hc=>?_⟩
 ·rw[h4 c]
  have e:=xX c S h
  constructor
  ·rintro⟨x,hx,rfl⟩
   have:x.2∈(((S.map evs).flatten).filter λe=>decide (e.1=x.1)).map (·.2):=List.mem_map_of_mem (f:=(·.2)) (List.mem_filter.mpr ⟨hx,decide_eq_true rfl⟩)
   rw[e] at this
   exact⟨x.2,(List.mem_filter.mp this).1,(List.mem_filter.mp this).2⟩
  ·rintro⟨s,hs,k⟩
   have:s∈S.filter (cov c):=List.mem_filter.mpr ⟨hs,k⟩
   rw[<-e] at this
   obtain⟨x,hx,_⟩:=List.mem_map.mp this
   exact⟨x,(List.mem_filter.mp hx).1,by simpa using (List.mem_filter.mp hx).2⟩
 ·rw[zS _ c hc,h5 c]
  congr 2
  rw[<-xX c S h,List.map_map];rfl
local macro_rules | `(tactic| walk_at "rd")=>do
 let a <- ("aY cW bX wJ gB bD dE BD yN aR fX cE fW aK aD rC r2 r1 cD BA rOr HP oR HQ wK rIf aG aB dU gQ aU rCB cZ iH wM cL HX riL riT oX BH lO eF gK kR sY dY iG wL lM HR vK nQ gL mD pG GD dNe pV uM iN bQ eL cB cG bV kB mI jD hU GB pF qJ gM gN jQ jG jH jI jJ jK jL jM jN jO jP hZ iA rF xO vW kZ fI GC pL pJ pK pI pM S.val cI HU DZ vI BF EA vJ EB HV HW EC wN wO wP List.map_cons List.map_nil List.cons_append List.nil_append List.length_cons List.length_nil List.getElem?_cons_zero List.getElem?_cons_succ List.set_cons_zero List.set_cons_succ List.append_nil Bool.or_false Bool.or_true Bool.false_or Bool.true_or Bool.not_true Bool.not_false if_true if_false Bool.false_eq_true sz0 sz1 sz2 sz3 sz4 true_and decide_eq_true_eq Int.reduceToNat Int.reducePow Int.reduceMul Int.reduceSub Int.reduceAdd Int.reduceNeg".splitOn " ").toArray.mapM λx=>`(Lean.Parser.Tactic.simpLemma| $(Lean.mkIdent x.toName):term)
 `(tactic| simp only[$a,*])
noncomputable abbrev cr (a b:Int × Int):Int:=a.1*b.2-a.2*b.1
namespace K12
theorem FA {q p r:Int} (h:Int.gcd q p=1) (d:q∣p*r):q∣r:=by
 have h1:q.natAbs∣p.natAbs*r.natAbs:=by rw[<-Int.natAbs_mul];exact Int.natAbs_dvd_natAbs.mpr d
 exact Int.natAbs_dvd_natAbs.mp (Nat.Coprime.dvd_of_dvd_mul_left h h1)
theorem low_eq {a b p q p' q':Int} (hb:0<b) (h:Low a b p q) (h':Low a b p' q'):p=p'/\q=q':=by
 have e:p*q'=p'*q:=by
  have h1:=h.worth
  have h2:=h'.worth
  have:(p*q')*b=(p'*q)*b:=by grind
  exact Int.eq_of_mul_eq_mul_right (by omega) this
 have d1:q∣q':=by
  have:q∣p*q':=by rw[e];exact Int.dvd_mul_left ..
  exact FA (by rw[Int.gcd_comm];exact h.cop) this
 have d2:q'∣q:=by
  have:q'∣p'*q:=by rw[<-e];exact Int.dvd_mul_left ..
  exact FA (by rw[Int.gcd_comm];exact h'.cop) this
 have l1:=Int.le_of_dvd h'.pos d1
 have l2:=Int.le_of_dvd h.pos d2
 have eq:q=q':=by omega
 subst eq
 exact⟨Int.eq_of_mul_eq_mul_right (by have:=h.pos;omega) e,rfl⟩
end K12
theorem iD {g:RG} {t:RS} {E:DEnds} (xs:List D) (J:Nat->En->Prop) (step:∀i x ρ,xs[i]? = some x->J i ρ->∀F:DEnds,F.rt=E.rt->F.bk=E.nx->(∀ρ',J (i+1) ρ'->F.nx ρ')->(∀ρ',J (i+1) ρ'->F.ct ρ')->g x ρ λρ1=>t F ρ1)
  (last:∀ρ,J xs.length ρ->E.nx ρ) (ρ:En) (h:J 0 ρ):tK g t xs E ρ:=by
 refine cR (λys ρ=>∃i,i<=xs.length/\ys=xs.drop i/\J i ρ) ?_ ?_ xs ρ ⟨0,Nat.zero_le _,rfl,h⟩
 ·rintro x ys ρ ⟨i,hi,e,hJ⟩ F f1 f2 f3 f4
  have hlt:i<xs.length:=by
   apply Nat.not_le.mp
   intro hn
   rw[List.drop_of_length_le hn] at e;cases e
  rw[List.drop_eq_getElem_cons hlt] at e
  cases e
  exact step i _ ρ (List.getElem?_eq_getElem hlt) hJ F f1 f2 (λρ' h=>f3 ρ' ⟨i+1,by omega,rfl,h⟩) λρ' h=>f4 ρ' ⟨i+1,by omega,rfl,h⟩
 ·rintro ρ ⟨i,hi,e,hJ⟩
  have:i=xs.length:=by
   have:=congrArg List.length e
   simp at this;omega
  subst this
  exact last ρ hJ
theorem DX {lo:Int} {n i:Nat} {x:D} (h:(cP lo n)[i]? = some x):x = .int (lo+i)/\i<n:=by
 unfold cP at h
 rw[List.getElem?_map] at h
 by_cases hi:i<n
 ·rw[List.getElem?_range hi] at h;cases h;exact⟨rfl,hi⟩
 ·rw[List.getElem?_eq_none (by simpa using hi)] at h;cases h
theorem IC {lo:Int} {n i:Nat} {x:D} (h:(pC lo n)[i]? = some x):x = .int (lo+i*2)/\i<n:=by
 unfold pC at h
 rw[List.getElem?_map] at h
 by_cases hi:i<n
 ·rw[List.getElem?_range hi] at h;cases h;exact⟨rfl,hi⟩
 ·rw[List.getElem?_eq_none (by simpa using hi)] at h;cases h
theorem ID {lo:Int} {n:Nat}:(pC lo n).length=n:=by simp[pC]
theorem iW {g:RG} {t:RS} {E:DEnds} (lo:Int) (n:Nat) (J:Nat->En->Prop) (step:∀i ρ,i<n->J i ρ->∀F:DEnds,F.rt=E.rt->F.bk=E.nx->(∀ρ',J (i+1) ρ'->F.nx ρ')->(∀ρ',J (i+1) ρ'->F.ct ρ')->g (.int (lo+i)) ρ λρ1=>t F ρ1)
  (last:∀ρ,J n ρ->E.nx ρ) (ρ:En) (h:J 0 ρ):tK g t (cP lo n) E ρ:=by
 refine iD _ J (λi x ρ e hJ=>?_) (λρ h=>last ρ (by rwa [iJ] at h)) ρ h
 obtain⟨rfl,hi⟩:=DX e
 exact step i ρ hi hJ
theorem NS {g:RG} {t:RS} {E:DEnds} (lo:Int) (n:Nat) (J:Nat->En->Prop) (step:∀i ρ,i<n->J i ρ->∀F:DEnds,F.rt=E.rt->F.bk=E.nx->(∀ρ',J (i+1) ρ'->F.nx ρ')->(∀ρ',J (i+1) ρ'->F.ct ρ')->g (.int (lo+i*2)) ρ λρ1=>t F ρ1)
  (last:∀ρ,J n ρ->E.nx ρ) (ρ:En) (h:J 0 ρ):tK g t (pC lo n) E ρ:=by
 refine iD _ J (λi x ρ e hJ=>?_) (λρ h=>last ρ (by rwa [ID] at h)) ρ h
 obtain⟨rfl,hi⟩:=IC e
 exact step i ρ hi hJ
theorem VF {ns:List Int} {i:Int} {Q:D->Prop} (h0:0<=i) (h1:i<ns.length) (q:∀v,ns[i.toNat]? = some v->Q (.int v)):dIx (il ns) (.int i) Q:=by
 have hj:i.toNat<ns.length:=by omega
 exact gD (IL (j:=i.toNat) (by omega) (by rw[List.getElem?_map,List.getElem?_eq_getElem hj];rfl)) (q _ (List.getElem?_eq_getElem hj))
theorem KE {ns:List Int} (hne:ns≠[]) {Q:D->Prop} (q:∀v l,ns=l++[v]->Q (.int v)):dIx (.lst (ns.map D.int)) (.int (-1)) Q:=by
 rcases List.eq_nil_or_concat ns with h | ⟨l,v,h⟩
 ·exact absurd h hne
 ·have e:ns=l++[v]:=by simpa using h
  have:ns.map D.int=l.map D.int++[D.int v]:=by rw[e];simp
  rw[this]
  refine gD ?_ (q v l e)
  unfold atI ixN
  rw[if_neg (by decide),if_pos (by simp;omega)]
  have:((-1:Int)+((l.map D.int++[D.int v]).length:Nat)).toNat=l.length:=by simp;omega
  simp only[this,Option.bind_some]
  simp
noncomputable def kA:FD:=λds Q=>∃(ns:List Int) (k:Int),ds=[il ns,.int k]/\(0<=k/\k<=100000)/\∀v,0<=v->v<2147483647->Q (.int v)
theorem GY:∀ds Q,kA ds Q->ds.length=2:=by rintro ds Q ⟨_,_,rfl,_⟩;rfl
theorem uH:∀ds Q,kA ds Q->gG { nx:=λ_=>Q .non,rt:=Q } (aO ["_law_script","_law_k","_law_cell","_law_number"] ds):=by
 rintro ds Q ⟨ns,k,rfl,⟨k0,k1⟩,q⟩
 rw[aS 2 rfl]
 unfold gG
 simp only[cI,vI,List.map_cons,List.map_nil,List.cons_append,List.nil_append]
 refine aJ (λρ=>ρ=[some (.d (il ns)),some (.d (.int k)),some (.d (.int 0)),none]) (λK hK=>?_) ?_
 ·walk_at "rd"
  exact hK _ rfl
 rintro ρ rfl
 refine aJ (λρ=>∃c:Int,ρ=[some (.d (il ns)),some (.d (.int k)),some (.d (.int c)),none]) (λK hK=>?_) ?_
 ·walk_at "rd"
  split
  ·rename_i h
   have hl:0<ns.length:=by simp at h;exact h
   have hm:∃m:Int,(if (((ns.map D.int).length:Nat):Int)<63 then (((ns.map D.int).length:Nat):Int) else 63)=m/\0<m/\m<=ns.length:=by
    refine⟨_,rfl,?_,?_⟩ <;> (simp;split <;> omega)
   obtain⟨m,em,m0,m1⟩:=hm
   rw[em]
   obtain⟨a0,a1⟩:=aV (a:=k) (b:=m) m0
   exact⟨⟨by omega⟩,VF a0 (by omega) λv _=>hK _ ⟨v,rfl⟩⟩
  ·exact hK _ ⟨_,rfl⟩
 rintro ρ ⟨c,rfl⟩
 walk_at "rd"
 obtain⟨a0,a1⟩:=aV (a:=c) (b:=1000000000000000000) (by decide)
 have b1:BL 100 (c.fmod 1000000000000000000+48271*(k+1)):=BL.of_lt (by omega) (by
  have:((2 ^ 100:Nat):Int)=1267650600228229401496703205376:=by decide
  omega)
 obtain⟨c0,c1⟩:=aV (a:=(c.fmod 1000000000000000000+48271*(k+1))*(c.fmod 1000000000000000000+48271*(k+1))) (b:=2147483647) (by decide)
 exact⟨lI,cU,(BL.const (n:=20) (by decide)).mulOk (n:=20) (BL.of_lt (by omega) (by omega)),b1.mulOk b1,cU,q _ c0 c1⟩
structure Thr (ts:List Int):Prop where
 len:2<=ts.length/\ts.length<=5
 bl:∀x∈ts,BL 200 x
 step:∀(i:Nat) a b,ts[i]? = some a->ts[i+1]? = some b->1<=b-a/\b-a<=40
 wide:∀x∈ts,∀y∈ts,y-x<=60
noncomputable abbrev kJ:Int:=100000000000000000000000000000000000000000000000000
noncomputable def lZ:FD:=λds Q=>∃ns:List Int,ds=[il ns]/\∀ts,Thr ts->(∀x∈ts,BL 190 x)->Q (il ts)
theorem AH:∀ds Q,lZ ds Q->ds.length=1:=by rintro ds Q ⟨_,rfl,_⟩;rfl
theorem pT:∀ds Q,lZ ds Q->eV mS kA { nx:=λ_=>Q .non,rt:=Q } (aO ["_law_script","_law_found","_law_k","_law_wide"] ds):=by
 rintro ds Q ⟨ns,rfl,q⟩
 rw[aS 3 rfl]
 unfold eV
 simp only[cI,BF,List.map_cons,List.map_nil,List.cons_append,List.nil_append]
 refine aJ (λρ=>∃a:Int,(-kJ<=a/\a<=kJ)/\ρ=[some (.d (il ns)),some (.own [.int a]),none,none]) (λK hK=>?_) ?_
 ·walk_at "rd"
  refine⟨ns,0,rfl,by decide,λc=>?_⟩
  walk_at "rd"
  obtain⟨a0,a1⟩:=aV (a:=c) (b:=2001) (by decide)
  exact⟨cU,hK _ ⟨_,⟨by unfold kJ;omega,by unfold kJ;omega⟩,rfl⟩⟩
 rintro ρ ⟨a,ha,rfl⟩
 refine aJ (λρ=>∃a:Int,(-kJ<=a/\a<=kJ)/\ρ=[some (.d (il ns)),some (.own [.int a]),none,none]) (λK hK=>?_) ?_
 ·walk_at "rd"
  refine⟨ns,1,rfl,by decide,λc=>?_⟩
  walk_at "rd"
  walk_at "sides"
  split
  ·refine⟨ns,0,rfl,by decide,λc=>?_⟩
   walk_at "rd"
   obtain⟨a0,a1⟩:=aV (a:=c) (b:=200000000000000000000000000000000000000000000000000) (by decide)
   refine⟨lI,(BL.const (n:=300) (by decide)).mulOk (BL.const (n:=300) (by decide)),cU,lI,hK _ ⟨_,⟨by unfold kJ;omega,by unfold kJ;omega⟩,rfl⟩⟩
  ·exact hK _ ⟨a,ha,rfl⟩
 rintro ρ ⟨a,ha,rfl⟩
 refine aJ (λρ=>∃(ts:List Int) (x y:Option S),(Thr ts/\∀x∈ts,BL 190 x)/\ρ=[some (.d (il ns)),some (.own (ts.map D.int)),x,y]) (λK hK=>?_) ?_
 ·walk_at "rd"
  refine⟨ns,1,rfl,by decide,λc=>?_⟩
  walk_at "rd"
  obtain⟨a0,a1⟩:=aV (a:=c) (b:=4) (by decide)
  refine⟨cU,⟨by omega,by omega⟩,?_⟩
  have hn:((1+c.fmod 4).toNat:Int)=1+c.fmod 4:=by omega
  generalize (1+c.fmod 4).toNat=n at hn
  refine iW 0 n (λi ρ=>∃(ts:List Int) (x y:Option S),(ts.length=i+1/\(∀z∈ts,-kJ<=z/\z<=kJ+40*i)/\∀(i:Nat) a b,ts[i]? = some a->ts[i+1]? = some b->1<=b-a/\b-a<=40)/\(∀z∈ts,a<=z/\z<=a+37+3*i/\(i=0->z<=a))/\ρ=[some (.d (il ns)),some (.own (ts.map D.int)),x,y]) ?_ ?_ _ ⟨[a],none,none,⟨rfl,(λz hz=>by simp at hz;subst hz;unfold kJ at *;omega),λi a b e1 e2=>by simp at e2⟩,(λz hz=>by simp at hz;subst hz;omega),rfl⟩
  ·rintro i ρ hi ⟨ts,x,y,⟨l1,l2,l3⟩,l4,rfl⟩ F _ _ hn' _
   unfold iM
   simp only[aR,List.set_cons_zero,List.set_cons_succ]
   refine aJ (λρ=>∃w:Int,(1<=w/\w<=40/\(i≠0->w<=3))/\ρ=[some (.d (il ns)),some (.own (ts.map D.int)),some (.d (.int (0+i))),some (.d (.int w))]) (λK hK=>?_) ?_
   ·walk_at "rd"
    refine⟨ns,100+(0+(i:Int)),rfl,⟨by omega,by omega⟩,λv v0 v1=>?_⟩
    walk_at "rd"
    obtain⟨a0,a1⟩:=aV (a:=v) (b:=3) (by decide)
    exact⟨cU,hK _ ⟨_,⟨by omega,by omega,by omega⟩,rfl⟩⟩
   rintro ρ ⟨w,hw,rfl⟩
   refine aJ (λρ=>∃w:Int,(1<=w/\w<=40/\(i≠0->w<=3))/\ρ=[some (.d (il ns)),some (.own (ts.map D.int)),some (.d (.int (0+i))),some (.d (.int w))]) (λK hK=>?_) ?_
   ·walk_at "rd"
    split
    ·rename_i hi0
     refine⟨ns,2,rfl,by decide,λc=>?_⟩
     walk_at "rd"
     walk_at "sides"
     split
     ·refine⟨ns,2,rfl,by decide,λc=>?_⟩
      walk_at "rd"
      walk_at "sides"
      obtain⟨a0,a1⟩:=aV (a:=c.fdiv 8) (b:=40) (by decide)
      exact hK _ ⟨_,⟨by omega,by omega,by simp at hi0;omega⟩,rfl⟩
     ·exact hK _ ⟨w,hw,rfl⟩
    ·exact hK _ ⟨w,hw,rfl⟩
   rintro ρ ⟨w,hw,rfl⟩
   walk_at "rd"
   refine KE (by intro e;rw[e] at l1;simp at l1) λv l e=>?_
   walk_at "rd"
   refine⟨bL (by simp;omega),hn' _ ⟨ts++[v+w],some (.d (.int (0+(i:Int)))),some (.d (.int w)),⟨by simp[l1],λz hz=>?_,λj p r e1 e2=>?_⟩,(λz hz=>?_),by rw[List.map_append];rfl⟩⟩
   ·rcases List.mem_append.mp hz with h | h
    ·have:=l2 z h;omega
    ·have:=l2 v (by rw[e];simp)
     simp at h;subst h;omega
   rotate_left
   ·rcases List.mem_append.mp hz with h | h
    ·have:=l4 z h;omega
    ·have:=l4 v (by rw[e];simp)
     simp at h;subst h;omega
   ·by_cases hj:j+1<ts.length
    ·rw[List.getElem?_append_left (by omega)] at e1
     rw[List.getElem?_append_left hj] at e2
     exact l3 j p r e1 e2
    ·have h2:j+1<(ts++[v+w]).length:=(List.getElem?_eq_some_iff.mp e2).1
     simp at h2
     have hjl:j+1=ts.length:=by omega
     rw[List.getElem?_append_right (by omega),hjl,Nat.sub_self] at e2
     simp at e2
     rw[List.getElem?_append_left (by omega),e] at e1
     have:j=l.length:=by have:=congrArg List.length e;simp at this;omega
     rw[this,List.getElem?_append_right (Nat.le_refl _)] at e1
     simp at e1
     omega
  ·rintro ρ ⟨ts,x,y,⟨l1,l2,l3⟩,l4,rfl⟩
   have far:∀z∈ts,BL 190 z:=λz hz=>by
    have:=l2 z hz
    have e:kJ+1000<((2 ^ 190:Nat):Int):=by decide
    exact BL.of_lt (by omega) (by omega)
   exact hK _ ⟨ts,x,y,⟨⟨⟨by omega,by omega⟩,λz hz=>(far z hz).mono (by decide),l3,λu hu v hv=>by have:=l4 u hu;have:=l4 v hv;omega⟩,far⟩,rfl⟩
 rintro ρ ⟨ts,x,y,⟨T,far⟩,rfl⟩
 walk_at "rd"
 exact q ts T far
noncomputable abbrev MY (hs:List Int):Prop:=(∀x∈hs,BL 200 x)/\hs.Pairwise (·<=·)
noncomputable def lY:FD:=λds Q=>∃(ns:List Int) (m p:Int),ds=[il ns,.int m,.int p]/\(1<=m/\m<=20/\0<=p/\p<=20)/\∀hs:List Int,(hs.length:Int)=m->MY hs->Q (il hs)
theorem AF:∀ds Q,lY ds Q->ds.length=3:=by rintro ds Q ⟨_,_,_,rfl,_⟩;rfl
noncomputable abbrev jT:Int:=10000000000000000000000000000000000000000000000000000000000
theorem pS:∀ds Q,lY ds Q->eU mS kA { nx:=λ_=>Q .non,rt:=Q } (aO ["_law_script","_law_many","_law_place","_law_cell","_law_number","_law_found","_law_k","_law_step"] ds):=by
 rintro ds Q ⟨ns,m,p,rfl,⟨m0,m1,p0,p1⟩,q⟩
 rw[aS 5 rfl]
 unfold eU
 simp only[cI,vJ,List.map_cons,List.map_nil,List.cons_append,List.nil_append]
 refine aJ (λρ=>∃c:Int,ρ=[some (.d (il ns)),some (.d (.int m)),some (.d (.int p)),some (.d (.int c)),none,none,none,none]) (λK hK=>?_) ?_
 ·walk_at "rd"
  exact⟨ns,5+p,rfl,by omega,λc=>hK _ ⟨c,rfl⟩⟩
 rintro ρ ⟨c,rfl⟩
 refine aJ (λρ=>∃a:Int,(-jT<=a/\a<=jT)/\ρ=[some (.d (il ns)),some (.d (.int m)),some (.d (.int p)),some (.d (.int c)),some (.d (.int a)),none,none,none]) (λK hK=>?_) ?_
 ·walk_at "rd"
  obtain⟨a0,a1⟩:=aV (a:=c) (b:=41) (by decide)
  exact⟨cU,hK _ ⟨_,⟨by unfold jT;omega,by unfold jT;omega⟩,rfl⟩⟩
 rintro ρ ⟨a,ha,rfl⟩
 refine aJ (λρ=>∃a:Int,(-jT<=a/\a<=jT)/\ρ=[some (.d (il ns)),some (.d (.int m)),some (.d (.int p)),some (.d (.int c)),some (.d (.int a)),none,none,none]) (λK hK=>?_) ?_
 ·walk_at "rd"
  refine⟨ns,3,rfl,by decide,λc'=>?_⟩
  walk_at "rd"
  refine⟨cU,?_⟩
  split
  ·obtain⟨a0,a1⟩:=aV (a:=c) (b:=20000000000000000000000000000000000000000000000000000000000) (by decide)
   exact⟨lI,(BL.const (n:=300) (by decide)).mulOk (BL.const (n:=300) (by decide)),cU,lI,hK _ ⟨_,⟨by unfold jT;omega,by unfold jT;omega⟩,rfl⟩⟩
  ·exact hK _ ⟨a,ha,rfl⟩
 rintro ρ ⟨a,ha,rfl⟩
 refine aJ (λρ=>ρ=[some (.d (il ns)),some (.d (.int m)),some (.d (.int p)),some (.d (.int c)),some (.d (.int a)),some (.own [.int a]),none,none]) (λK hK=>?_) ?_
 ·walk_at "rd"
  exact hK _ rfl
 rintro ρ rfl
 refine aJ (λρ=>∃(hs:List Int) (u v w:Option S),((hs.length:Int)=m/\MY hs)/\ρ=[some (.d (il ns)),some (.d (.int m)),some (.d (.int p)),some (.d (.int c)),u,some (.own (hs.map D.int)),v,w]) (λK hK=>?_) ?_
 ·walk_at "rd"
  refine⟨⟨⟨by decide,by decide⟩,⟨by omega,by omega⟩⟩,?_⟩
  have hn:((m-1).toNat:Int)=m-1:=by omega
  generalize (m-1).toNat=n at hn
  refine iW 1 n (λi ρ=>∃(hs:List Int) (u v w:Option S),(hs.length=i+1/\(∀z∈hs,-jT<=z/\z<=jT+100000000*i)/\hs.Pairwise (·<=·))/\ρ=[some (.d (il ns)),some (.d (.int m)),some (.d (.int p)),some (.d (.int c)),u,some (.own (hs.map D.int)),v,w]) ?_ ?_ _ ⟨[a],some (.d (.int a)),none,none,⟨rfl,(λz hz=>by simp at hz;subst hz;unfold jT at *;omega),List.pairwise_singleton _ _⟩,rfl⟩
  ·rintro i ρ hi ⟨hs,u,v,w,⟨l1,l2,l3⟩,rfl⟩ F _ _ hn' _
   unfold iK
   simp only[aR,List.set_cons_zero,List.set_cons_succ]
   refine aJ (λρ=>∃x:Int,(0<=x/\x<2147483647)/\ρ=[some (.d (il ns)),some (.d (.int m)),some (.d (.int p)),some (.d (.int c)),some (.d (.int x)),some (.own (hs.map D.int)),some (.d (.int (1+i))),w]) (λK hK=>?_) ?_
   ·walk_at "rd"
    exact⟨(BL.const (n:=20) (by decide)).mulOk (n:=20) (BL.of_lt (by omega) (by omega)),ns,9*p+(1+(i:Int)),rfl,⟨by omega,by omega⟩,λx x0 x1=>hK _ ⟨x,⟨x0,x1⟩,rfl⟩⟩
   rintro ρ ⟨x,⟨x0,x1⟩,rfl⟩
   refine aJ (λρ=>∃y:Int,(0<=y/\y<100000000)/\ρ=[some (.d (il ns)),some (.d (.int m)),some (.d (.int p)),some (.d (.int c)),some (.d (.int x)),some (.own (hs.map D.int)),some (.d (.int (1+i))),some (.d (.int y))]) (λK hK=>?_) ?_
   ·walk_at "rd"
    obtain⟨b0,b1⟩:=aV (a:=x.fdiv 4) (b:=5) (by decide)
    obtain⟨c0,c1⟩:=aV (a:=x.fdiv 4) (b:=100000000) (by decide)
    obtain⟨a0,a1⟩:=aV (a:=x) (b:=4) (by decide)
    walk_at "sides"
    refine oB a0 (by simpa using a1) λz hz=>?_
    simp only[List.mem_cons,List.not_mem_nil,or_false] at hz
    rcases hz with rfl | rfl | rfl | rfl
    ·exact hK _ ⟨0,by decide,rfl⟩
    ·exact hK _ ⟨1,by decide,rfl⟩
    ·exact hK _ ⟨_,⟨by omega,by omega⟩,rfl⟩
    ·exact hK _ ⟨_,⟨by omega,by omega⟩,rfl⟩
   rintro ρ ⟨y,hy,rfl⟩
   walk_at "rd"
   refine KE (by intro e;rw[e] at l1;simp at l1) λt l e=>?_
   walk_at "rd"
   refine⟨bL (by simp;omega),hn' _ ⟨hs++[t+y],some (.d (.int x)),some (.d (.int (1+(i:Int)))),some (.d (.int y)),⟨by simp[l1],λz hz=>?_,List.pairwise_append.mpr ⟨l3,List.pairwise_singleton _ _,λx hx y hy=>?_⟩⟩,by rw[List.map_append];rfl⟩⟩
   ·rcases List.mem_append.mp hz with h | h
    ·have:=l2 z h;omega
    ·have:=l2 t (by rw[e];simp)
     simp at h;subst h;omega
   ·rw[e] at hx l3
    have hxt:x<=t:=by
     rcases List.mem_append.mp hx with h | h
     ·exact (List.pairwise_append.mp l3).2.2 x h t (.head _)
     ·rw[List.mem_singleton.mp h];exact Int.le_refl _
    rw[List.mem_singleton.mp hy];omega
  ·rintro ρ ⟨hs,u,v,w,⟨l1,l2,l3⟩,rfl⟩
   refine hK _ ⟨hs,u,v,w,⟨by omega,(λz hz=>?_),l3⟩,rfl⟩
   have:=l2 z hz
   have e:jT+100000000*30<((2 ^ 200:Nat):Int):=by decide
   exact BL.of_lt (by omega) (by omega)
 rintro ρ ⟨hs,u,v,w,⟨l1,l2⟩,rfl⟩
 walk_at "rd"
 exact q hs l1 l2
structure Curves (ts:List Int) (hss:List (List Int)) (n:Nat):Prop where
 thr:Thr ts
 len:hss.length=ts.length
 n1:1<=n/\n<=3
 each:∀hs∈hss,hs.length=2*n
 bl:∀hs∈hss,∀x∈hs,BL 210 x
 up:∀hs∈hss,hs.Pairwise (·<=·)
noncomputable abbrev ill (hss:List (List Int)):D:=.lst (hss.map il)
structure Tgt (ts:List Int) (hss:List (List Int)):Prop where
 t:∀x∈ts,BL 190 x
 h:∀hs∈hss,∀x∈hs,BL 200 x
noncomputable def nU:FD:=λds Q=>∃ns:List Int,ds=[il ns]/\∀ts hss n,Curves ts hss n->Tgt ts hss->Q (.tup [il ts,ill hss])
theorem CS:∀ds Q,nU ds Q->ds.length=1:=by rintro ds Q ⟨_,rfl,_⟩;rfl
theorem zM {g:RG} {te:RE} {R:En->Prop} {P:D->Prop}:∀(src:List D) {Q:List D->Prop} (ρ:En) (acc:List D),R ρ->(∀a∈src,∀ρ,R ρ->∀K:En->D->Prop,(∀ρ1 d,R ρ1->P d->K ρ1 d)->g a ρ λρ1=>te ρ1 λd=>K ρ1 d) ->
  (∀out:List D,out.length=src.length->(∀d∈out,P d)->Q (acc++out))->gK g te src ρ acc Q
 | [],Q,ρ,acc,_,_,q=>by
  show Q acc
  simpa using q [] rfl (by simp)
 | a::src,Q,ρ,acc,h,step,q=>by
  show g a ρ λρ'=>te ρ' λd=>gK g te src ρ' (acc++[d]) Q
  refine step a List.mem_cons_self ρ h (λρ1 d=>gK g te src ρ1 (acc++[d]) Q) λρ1 d h1 hd=>?_
  refine zM src ρ1 _ h1 (λb hb=>step b (List.mem_cons_of_mem _ hb)) λout hl hp=>?_
  have:=q (d::out) (by simp[hl]) λx hx=>by
   rcases List.mem_cons.mp hx with rfl | hx
   ·exact hd
   ·exact hp x hx
  simpa using this
theorem rT:∀ds Q,nU ds Q->fO mS lY lZ { nx:=λ_=>Q .non,rt:=Q } (aO ["_law_script","_law_threads_here","_law_many"] ds):=by
 rintro ds Q ⟨ns,rfl,q⟩
 rw[aS 2 rfl]
 unfold fO
 simp only[cI,vI,List.map_cons,List.map_nil,List.cons_append,List.nil_append]
 refine aJ (λρ=>∃ts,(Thr ts/\∀x∈ts,BL 190 x)/\ρ=[some (.d (il ns)),some (.d (il ts)),none]) (λK hK=>?_) ?_
 ·walk_at "rd"
  exact⟨ns,rfl,λts T f=>hK _ ⟨ts,⟨T,f⟩,rfl⟩⟩
 rintro ρ ⟨ts,⟨T,far⟩,rfl⟩
 refine aJ (λρ=>∃n:Nat,(1<=n/\n<=3)/\ρ=[some (.d (il ns)),some (.d (il ts)),some (.d (.int (2*n)))]) (λK hK=>?_) ?_
 ·walk_at "rd"
  refine⟨ns,4,rfl,by decide,λc=>?_⟩
  walk_at "rd"
  obtain⟨a0,a1⟩:=aV (a:=c) (b:=3) (by decide)
  refine⟨cU,(BL.const (n:=20) (by decide)).mulOk (n:=20) (BL.of_lt (by omega) (by omega)),hK _ ⟨(1+c.fmod 3).toNat,⟨by omega,by omega⟩,?_⟩⟩
  have:((1+c.fmod 3).toNat:Int)=1+c.fmod 3:=by omega
  rw[this,show (2:Int)*(1+c.fmod 3)=2+2*c.fmod 3 by omega]
 rintro ρ ⟨n,hn,rfl⟩
 have tl:=T.len
 walk_at "rd"
 refine⟨⟨by rw[List.length_map];omega,by rw[List.length_map];omega⟩,bL (by rw[iJ];simp;omega),?_⟩
 refine zM (R:=λρ=>∃a,ρ=[a,some (.d (il ns)),some (.d (.int (2*n)))]) (P:=λd=>∃hs:List Int,d=il hs/\hs.length=2*n/\MY hs) _ _ _ ⟨_,rfl⟩ ?_ ?_
 ·rintro a ha ρ ⟨b,rfl⟩ K hK
  obtain⟨j,rfl,j0,j1⟩:=CV ha
  simp at j1
  walk_at "rd"
  exact⟨ns,2*n,j,rfl,⟨by omega,by omega,by omega,by omega⟩,λhs l1 l2=>hK _ _ ⟨_,rfl⟩ ⟨hs,rfl,by omega,l2⟩⟩
 ·intro out hl hp
  obtain⟨hss,e,h1⟩:∃hss:List (List Int),out=hss.map il/\∀hs∈hss,hs.length=2*n/\MY hs:=by
   clear hl
   induction out with
   | nil=>exact⟨[],rfl,by simp⟩
   | cons d out ih =>
    obtain⟨hss,e,h1⟩:=ih λd hd=>hp d (by simp[hd])
    obtain⟨hs,rfl,h2⟩:=hp d (by simp)
    refine⟨hs::hss,by rw[e];rfl,λx hx=>?_⟩
    rcases List.mem_cons.mp hx with rfl | hx
    ·exact h2
    ·exact h1 x hx
  subst e
  simp only[List.nil_append]
  refine q ts hss n ⟨T,?_,hn,λhs h=>(h1 hs h).1,λhs h x hx=>((h1 hs h).2.1 x hx).mono (by decide),λhs h=>(h1 hs h).2.2⟩ ⟨far,λhs h=>(h1 hs h).2.1⟩
  rw[iJ] at hl
  simpa using hl
noncomputable abbrev lin (w k a b:Int):Int:=a*(w-k)+b*k
theorem mN {ns:List Int} {i:Nat} {v:Int} {Q:D->Prop} (e:ns[i]? = some v) (q:Q (.int v)):dIx (il ns) (.int (i:Int)) Q:=gD (dN (by rw[List.getElem?_map,e];rfl)) q
theorem tL {hss:List (List Int)} {i:Nat} {hs:List Int} {Q:D->Prop} (e:hss[i]? = some hs) (q:Q (il hs)):dIx (ill hss) (.int (i:Int)) Q:=gD (dN (by rw[List.getElem?_map,e];rfl)) q
local macro_rules | `(tactic| walk_at "rd")=>do
 let a <- ("S.fz BC uI JG aY cW bX wJ gB bD dE BD yN aR fX cE fW aK aD rC r2 r1 cD BA rOr HP oR HQ wK rIf aG aB dU gQ aU rCB cZ iH wM cL HX riL riT oX BH lO eF gK kR sY dY iG wL lM HR vK nQ gL mD pG GD dNe pV uM iN bQ eL cB cG bV kB mI jD hU GB pF qJ gM gN jQ jG jH jI jJ jK jL jM jN jO jP hZ iA rF xO vW kZ fI GC pL pJ pK pI pM S.val cI HU DZ vI BF EA vJ EB HV HW EC wN wO wP List.map_cons List.map_nil List.cons_append List.nil_append List.length_cons List.length_nil List.getElem?_cons_zero List.getElem?_cons_succ List.set_cons_zero List.set_cons_succ List.append_nil Bool.or_false Bool.or_true Bool.false_or Bool.true_or Bool.not_true Bool.not_false if_true if_false Bool.false_eq_true sz0 sz1 sz2 sz3 sz4 true_and decide_eq_true_eq Int.reduceToNat Int.reducePow Int.reduceMul Int.reduceSub Int.reduceAdd Int.reduceNeg".splitOn " ").toArray.mapM λx=>`(Lean.Parser.Tactic.simpLemma| $(Lean.mkIdent x.toName):term)
 `(tactic| simp only[$a,*])
noncomputable abbrev bF (R:List (List Pt)):List bJ:=(R.map bP).flatten
structure RgsOk (R:List (List Pt)):Prop where
 len:R.length<=3
 each:∀g∈R,g.length<=5
 wide:∀s∈bF R,wid s<=5
theorem RgsOk.pos {R:List (List Pt)}:∀s∈bF R,0<wid s:=λs hs=>by
 obtain⟨l,hl,hs⟩:=List.mem_flatten.mp hs
 obtain⟨g,hg,rfl⟩:=List.mem_map.mp hl
 exact (wS hs).2
theorem gO {α β:Type} (f:α->List β) (n:Nat):∀(l:List α),(∀x∈l,(f x).length<=n)->((l.map f).flatten).length<=n*l.length
 | [],_=>Nat.zero_le _
 | x::l,h=>by
  have h1:=h x (.head _)
  have h2:=gO f n l λy hy=>h y (.tail _ hy)
  rw[List.map_cons,List.flatten_cons,List.length_append,List.length_cons,Nat.mul_succ];omega
theorem RgsOk.slen {R:List (List Pt)} (o:RgsOk R):(bF R).length<=15:=by
 have:=gO bP 5 R λg hg=>Nat.le_trans (wR g) (o.each g hg)
 have:=o.len
 show ((R.map bP).flatten).length<=15
 omega
theorem xY {s:bJ} (h:wid s<=5):(evs s).length<=5:=by unfold evs;rw[List.length_map,List.length_range];omega
noncomputable def F_byCol:FD:=λds Q=>∃R:List (List Pt),ds=[dB R]/\RgsOk R/\∀ks xs,ColOf (bF R) ks xs->Q (.dct ks xs)
theorem len_byCol:∀ds Q,F_byCol ds Q->ds.length=1:=by rintro ds Q ⟨_,rfl,_⟩;rfl
theorem pure_sides_by_column:∀ds Q,F_byCol ds Q->bZ jF { nx:=λ_=>Q .non,rt:=Q } (aO ["rings","columns","ring","side","column"] ds):=by
 rintro ds Q ⟨R,rfl,ok,q⟩
 rw[aS 4 rfl]
 unfold bZ
 have fits:∀E:List Ev,(∃E',(((bF R).map evs).flatten)=E++E')->E.length<=75:=λE ⟨E',e⟩=>by
  have h1:=gO evs 5 (bF R) λs hs=>xY (ok.wide s hs)
  have h2:=ok.slen
  have h3:=Nat.mul_le_mul_left 5 h2
  rw[e,List.length_append] at h1;omega
 refine aJ (λρ=>ρ=[some (.d (dB R)),some (.dcl (dD [])),none,none,none]) (λK hK=>?_) ?_
 ·walk_at "rd"
  exact hK _ rfl
 rintro ρ rfl
 refine aJ (λρ=>∃u v w,ρ=[some (.d (dB R)),some (.dcl (dD (((bF R).map evs).flatten))),u,v,w]) (λK hK=>?_) ?_
 ·simp only[cL,riL,aK,List.getElem?_cons_zero]
  refine cR (λxs ρ=>∃done todo:List (List Pt),R=done++todo/\xs=todo.map pts/\∃u v w,ρ=[some (.d (dB R)),some (.dcl (dD (((bF done).map evs).flatten))),u,v,w]) ?_ ?_ _ _ ⟨[],R,rfl,rfl,_,_,_,rfl⟩
  ·rintro x xs ρ ⟨done,todo,eR,exs,u,v,w,rfl⟩ F hr hb hn hc
   cases todo with
   | nil=>cases exs
   | cons g todo =>
    rw[List.map_cons] at exs
    injection exs with ex exs
    subst ex exs
    have hg:g∈R:=by rw[eR];exact List.mem_append_right _ (.head _)
    unfold dL
    simp only[aR,cL,riL,aU,aB,aG,aK,List.getElem?_cons_zero,List.getElem?_cons_succ,List.set_cons_zero,List.set_cons_succ]
    refine⟨g,rfl,Nat.le_trans (ok.each g hg) (by decide),?_⟩
    dsimp only
    have eA:bF R=(bF done++bP g)++bF todo:=by rw[eR];simp[bF]
    refine cR (λxs ρ=>∃d2 t2:List bJ,bP g=d2++t2/\xs=t2.map sdD/\∃v w,ρ=[some (.d (dB R)),some (.dcl (dD (((bF done++d2).map evs).flatten))),some (.d (pts g)),v,w]) ?_ ?_ _ _ ⟨[],bP g,rfl,rfl,v,w,by rw[List.append_nil]⟩
    ·rintro x xs ρ ⟨d2,t2,eS,exs,v,w,rfl⟩ F2 hr2 hb2 hn2 hc2
     cases t2 with
     | nil=>cases exs
     | cons s t2 =>
      rw[List.map_cons] at exs
      injection exs with ex exs
      subst ex exs
      unfold dJ
      simp only[aR,cL,FJ,aB,aG,r2,aD,rC,gM,gN,List.getElem?_cons_zero,List.getElem?_cons_succ,List.set_cons_zero,List.set_cons_succ]
      have eW:(s.2.1-s.1.1).toNat=(wid s).toNat:=rfl
      rw[eW]
      refine iW s.1.1 (wid s).toNat (λi ρ=>∃w,ρ=[some (.d (dB R)),some (.dcl (dD (((bF done++d2).map evs).flatten++(evs s).take i))),some (.d (pts g)),some (.d (sdD s)),w]) ?_ ?_ _ ⟨w,by rw[List.take_zero,List.append_nil]⟩
      ·rintro i ρ hi ⟨w,rfl⟩ F3 hr3 hb3 hn3 hc3
       have ei:(evs s)[i]? = some (s.1.1+(i:Int),s):=by unfold evs;rw[List.getElem?_map,List.getElem?_range hi];rfl
       have et:(evs s).take (i+1)=(evs s).take i++[(s.1.1+(i:Int),s)]:=by rw[List.take_succ,ei];rfl
       obtain⟨⟨k1,k2⟩,_⟩:=CQ (((bF done++d2).map evs).flatten++(evs s).take i)
       have fit:=fits (((bF done++d2).map evs).flatten++(evs s).take i) ⟨(evs s).drop i++(t2.map evs).flatten++((bF todo).map evs).flatten,by
        rw[eA,eS];simp only[List.map_append,List.map_cons,List.flatten_append,List.flatten_cons,List.append_assoc]
        rw[<-List.append_assoc ((evs s).take i),List.take_append_drop]⟩
       unfold dI
       simp only[aR,BB,aK,List.getElem?_cons_zero,List.getElem?_cons_succ,List.set_cons_zero,List.set_cons_succ]
       refine⟨bL (by omega),λp hp=>bL (by have:=k2 p hp;omega),?_⟩
       refine hn3 _ ⟨some (.d (.int (s.1.1+(i:Int)))),?_⟩
       rw[et,<-List.append_assoc,tT]
      ·rintro ρ ⟨w,rfl⟩
       refine hn2 _ ⟨d2++[s],t2,by rw[eS];simp,rfl,some (.d (sdD s)),w,?_⟩
       have:(evs s).take (wid s).toNat=evs s:=List.take_of_length_le (by unfold evs;simp)
       rw[this,<-List.append_assoc,List.map_append,List.flatten_append]
       simp
    ·rintro ρ ⟨d2,t2,eS,exs,v,w,rfl⟩
     have:t2=[]:=by cases t2 with | nil=>rfl | cons _ _=>cases exs
     subst this
     rw[List.append_nil] at eS
     refine hn _ ⟨done++[g],todo,by rw[eR];simp,rfl,some (.d (pts g)),v,w,?_⟩
     rw[<-eS];simp[bF]
  ·rintro ρ ⟨done,todo,eR,exs,u,v,w,rfl⟩
   have:todo=[]:=by cases todo with | nil=>rfl | cons _ _=>cases exs
   subst this
   rw[List.append_nil] at eR
   rw[<-eR]
   exact hK _ ⟨u,v,w,rfl⟩
 rintro ρ ⟨u,v,w,rfl⟩
 simp only[dY,S.fz,bX,aK,List.getElem?_cons_zero,List.getElem?_cons_succ,List.set_cons_zero,List.set_cons_succ]
 exact q _ _ (QC (bF R) RgsOk.pos)
noncomputable def F_lowm:FD:=λds Q=>∃ws:List Int,ds=[il ws]/\ws.length<=15/\(∀w∈ws,0<w/\w<=5)/\∀B,0<B->(∀w∈ws,w∣B)->BL 50 B->Q (.int B)
theorem len_lowm:∀ds Q,F_lowm ds Q->ds.length=1:=by rintro ds Q ⟨_,rfl,_⟩;rfl
theorem pure_lowest_multiple:∀ds Q,F_lowm ds Q->bG sR { nx:=λ_=>Q .non,rt:=Q } (aO ["numbers","multiple","number"] ds):=by
 rintro ds Q ⟨ws,rfl,hl,hw,q⟩
 rw[aS 2 rfl]
 unfold bG
 refine aJ (λρ=>ρ=[some (.d (il ws)),some (.d (.int 1)),none]) (λK hK=>?_) ?_
 ·walk_at "rd"
  exact hK _ rfl
 rintro ρ rfl
 refine aJ (λρ=>∃(B:Int) (u:Option S),(0<B/\(∀w∈ws,w∣B)/\B<=((5 ^ 15:Nat):Int))/\ρ=[some (.d (il ws)),some (.d (.int B)),u]) (λK hK=>?_) ?_
 ·simp only[cL,riL,aK,List.getElem?_cons_zero]
  refine cR (λxs ρ=>∃done todo:List Int,ws=done++todo/\xs=todo.map .int/\∃(B:Int) (u:Option S),(0<B/\(∀w∈done,w∣B)/\B<=((5 ^ done.length:Nat):Int))/\ρ=[some (.d (il ws)),some (.d (.int B)),u]) ?_ ?_ _ _ ⟨[],ws,rfl,rfl,1,none,⟨by decide,(λw h=>by cases h),by decide⟩,rfl⟩
  ·rintro x xs ρ ⟨done,todo,e,exs,B,u,⟨h1,h2,h3⟩,rfl⟩ F hr hb hn hc
   cases todo with
   | nil=>cases exs
   | cons w todo =>
    rw[List.map_cons] at exs
    injection exs with ex exs
    subst ex exs
    obtain⟨w0,w5⟩:=hw w (by rw[e];exact List.mem_append_right _ (.head _))
    have dl:done.length<=14:=by rw[e] at hl;simp at hl;omega
    have pw:((5 ^ done.length:Nat):Int)<=((5 ^ 14:Nat):Int):=Int.ofNat_le.mpr (Nat.pow_le_pow_right (by decide) dl)
    have bB:BL 50 B:=BL.of_lt (by omega) (Int.lt_of_le_of_lt (Int.le_trans h3 pw) (by decide))
    have bw:BL 50 w:=BL.of_lt (by omega) (Int.lt_of_le_of_lt w5 (by decide))
    unfold cK
    simp only[aR,bD,aU,aB,aG,aK,List.getElem?_cons_zero,List.getElem?_cons_succ,List.set_cons_zero,List.set_cons_succ]
    refine⟨B,w,rfl,⟨h1,w0⟩,⟨bB.mono (by decide),bw.mono (by decide)⟩,λl l0 d1 d2 le=>?_⟩
    refine hn _ ⟨done++[w],todo,by rw[e];simp,rfl,l,some (.d (.int w)),⟨l0,λv hv=>?_,?_⟩,rfl⟩
    ·rcases List.mem_append.mp hv with hv | hv
     ·exact Int.dvd_trans (h2 v hv) d1
     ·rw[List.mem_singleton.mp hv];exact d2
    ·rw[List.length_append,List.length_singleton,Nat.pow_succ,Int.natCast_mul]
     have k1:=Int.mul_le_mul_of_nonneg_right h3 (Int.le_of_lt w0)
     have k2:=Int.mul_le_mul_of_nonneg_left w5 (Int.natCast_nonneg (5 ^ done.length))
     exact Int.le_trans le (Int.le_trans k1 k2)
  ·rintro ρ ⟨done,todo,e,exs,B,u,⟨h1,h2,h3⟩,rfl⟩
   have:todo=[]:=by cases todo with | nil=>rfl | cons _ _=>cases exs
   subst this
   rw[List.append_nil] at e
   subst e
   exact hK _ ⟨B,u,⟨h1,h2,Int.le_trans h3 (Int.ofNat_le.mpr (Nat.pow_le_pow_right (by decide) hl))⟩,rfl⟩
 rintro ρ ⟨B,u,⟨h1,h2,h3⟩,rfl⟩
 walk_at "rd"
 exact q B h1 h2 (BL.of_lt (by omega) (Int.lt_of_le_of_lt h3 (by decide)))
noncomputable def qA:FD:=λds Q=>∃s:bJ,ds=[sdD s]/\Q (.int (wid s))
theorem OH:∀ds Q,qA ds Q->ds.length=1:=by rintro ds Q ⟨_,rfl,_⟩;rfl
theorem vH:∀ds Q,qA ds Q->jB { nx:=λ_=>Q .non,rt:=Q } (aO ["side"] ds):=by
 rintro ds Q ⟨s,rfl,q⟩
 rw[aS 0 rfl]
 unfold jB
 walk_at "rd"
 exact q
structure SdB (s:bJ):Prop where
 x1:BL 200 s.1.1
 y1:BL 200 s.1.2
 x2:BL 200 s.2.1
 y2:BL 200 s.2.2
noncomputable def F_hgt:FD:=λds Q=>∃(s:bJ) (t B:Int),ds=[sdD s,.int t,.int B]/\(SdB s/\wid s≠0/\BL 202 t/\BL 50 B)/\Q (.int (hB B s t))
theorem len_hgt:∀ds Q,F_hgt ds Q->ds.length=3:=by rintro ds Q ⟨_,_,_,rfl,_⟩;rfl
theorem pure_height_at:∀ds Q,F_hgt ds Q->eD qA { nx:=λ_=>Q .non,rt:=Q } (aO ["side","thread","bottom","left","width","climb"] ds):=by
 rintro ds Q ⟨s,t,B,rfl,⟨b,w0,bt,bB⟩,q⟩
 rw[aS 3 rfl]
 unfold eD
 have bw:BL 201 (wid s):=b.x2.sub b.x1
 refine aJ (λρ=>ρ=[some (.d (sdD s)),some (.d (.int t)),some (.d (.int B)),some (.d (pt s.1)),none,none]) (λK hK=>?_) ?_
 ·walk_at "rd"
  exact hK _ rfl
 rintro ρ rfl
 refine aJ (λρ=>ρ=[some (.d (sdD s)),some (.d (.int t)),some (.d (.int B)),some (.d (pt s.1)),some (.d (.int (wid s))),none]) (λK hK=>?_) ?_
 ·simp only[bD,aU,aB,aG,aK,List.getElem?_cons_zero,List.getElem?_cons_succ,List.set_cons_zero,List.set_cons_succ]
  exact⟨s,rfl,hK _ rfl⟩
 rintro ρ rfl
 walk_at "rd"
 refine⟨(b.y2.sub b.y1).mulOk (bt.sub b.x1),b.y1.mulOk bw,(bw.mono (by decide)).divOk w0,?_,q⟩
 exact ((b.y1.mul bw).add ((b.y2.sub b.y1).mul (bt.sub b.x1))).mulOk (bB.fdiv)
theorem OJ (z w:Pt):eK [z.1,z.2] [w.1,w.2]=decide (ltP z w):=by
 unfold ltP
 simp only[eK]
 by_cases h:z.1=w.1
 ·rw[if_pos h]
  by_cases h2:z.2=w.2
  ·rw[if_pos h2];simp[h,h2]
  ·rw[if_neg h2];simp[h]
 ·rw[if_neg h];simp[h]
structure SdsOk (S:List bJ) (c B:Int):Prop where
 len:S.length<=15
 bd:∀s∈S,SdB s
 ok:∀s∈S,SdOk s
 cb:BL 200 c
 pos:0<B
 dv:∀s∈S,wid s∣B
 bB:BL 50 B
noncomputable def F_ordH:FD:=λds Q=>∃(S:List bJ) (c B:Int),ds=[gT S,.int c,.int B]/\SdsOk S c B/\(∀x∈S.map (prB B c),∀y∈S.map (prB B c),x.1<y.1->x.2<=y.2)/\∀M:List IP,M.Perm (S.map (prB B c))->eE M->Q (pts M)
theorem len_ordH:∀ds Q,F_ordH ds Q->ds.length=3:=by rintro ds Q ⟨_,_,_,rfl,_⟩;rfl
theorem BP {L:List IP} {mss:List (List Int)} (p:mss.Perm (L.map λz=>[z.1,z.2])) (h:mss.Pairwise λx y=>eK y x=false):∃M:List IP,M.Perm L/\mss.map dM=M.map pt/\M.Pairwise λx y=>¬ltP y x:=by
 have e1:∀ms∈mss,[ms.getD 0 0,ms.getD 1 0]=ms:=λms hm=>by
  obtain⟨z,_,rfl⟩:=List.mem_map.mp (p.mem_iff.mp hm);rfl
 refine⟨mss.map λl=>(l.getD 0 0,l.getD 1 0),?_,?_,?_⟩
 ·have:=p.map λl:List Int=>(l.getD 0 0,l.getD 1 0)
  rw[List.map_map] at this
  have e:((λl:List Int=>((l.getD 0 0,l.getD 1 0):IP)) ∘ λz:IP=>[z.1,z.2])=id:=by funext z;rfl
  rw[e,List.map_id] at this
  exact this
 ·rw[List.map_map]
  refine List.map_congr_left λms hm=>?_
  show D.tup (ms.map .int)=D.tup [.int (ms.getD 0 0),.int (ms.getD 1 0)]
  conv=>lhs;rw[<-e1 ms hm]
  rfl
 ·rw[List.pairwise_map]
  refine h.imp_of_mem λ{x y} hx hy k=>?_
  rw[<-e1 x hx,<-e1 y hy] at k
  have:=OJ (y.getD 0 0,y.getD 1 0) (x.getD 0 0,x.getD 1 0)
  rw[k] at this
  exact of_decide_eq_false this.symm
theorem pure_ordered_heights:∀ds Q,F_ordH ds Q->bY F_hgt { nx:=λ_=>Q .non,rt:=Q } (aO ["sides","column","bottom","heights","lower","upper"] ds):=by
 rintro ds Q ⟨Sd,c,B,rfl,ok,unc,q⟩
 rw[aS 3 rfl]
 unfold bY
 refine aJ (λρ=>ρ=[some (.d (gT Sd)),some (.d (.int c)),some (.d (.int B)),some (.own ((Sd.map (prB B c)).map pt)),none,none]) (λK hK=>?_) ?_
 ·walk_at "rd"
  refine⟨bL (by rw[List.length_map];have:=ok.len;omega),?_⟩
  refine dC (λρ=>∃a,ρ=[a,some (.d (.int c)),some (.d (.int B))]) sdD (λs=>pt (prB B c s)) Sd ?_ ⟨_,rfl⟩ ?_
  ·rintro s hs ρ ⟨a,rfl⟩ K' hK'
   walk_at "rd"
   have w0:=(ok.ok s hs).pos
   refine⟨s,c,B,rfl,⟨ok.bd s hs,by omega,ok.cb.mono (by decide),ok.bB⟩,s,c+1,B,rfl,⟨ok.bd s hs,by omega,((ok.cb.add (BL.const (n:=1) (i:=1))).mono (by decide)),ok.bB⟩,?_⟩
   walk_at "rd"
   exact hK' _ ⟨_,rfl⟩
  ·have e:Sd.map (λs=>pt (prB B c s))=(Sd.map (prB B c)).map pt:=by rw[List.map_map];rfl
   rw[e]
   exact hK _ rfl
 rintro ρ rfl
 refine aJ (λρ=>∃M:List IP,(M.Perm (Sd.map (prB B c))/\eE M)/\ρ=[some (.d (gT Sd)),some (.d (.int c)),some (.d (.int B)),some (.own (M.map pt)),none,none]) (λK hK=>?_) ?_
 ·simp only[dE,yP,aD,List.getElem?_cons_zero,List.getElem?_cons_succ,List.set_cons_zero,List.set_cons_succ]
  refine⟨(Sd.map (prB B c)).map λz=>[z.1,z.2],by rw[List.map_map (g:=dM)];rfl,by rw[List.length_map,List.length_map];have:=ok.len;omega,λns h=>?_,λmss pm ps=>?_⟩
  ·obtain⟨z,_,rfl⟩:=List.mem_map.mp h
   exact λe=>by cases e
  ·obtain⟨M,h1,h2,h3⟩:=BP pm ps
   rw[h2]
   exact hK _ ⟨M,⟨h1,BI h3 λx hx y hy=>unc x (h1.mem_iff.mp hx) y (h1.mem_iff.mp hy)⟩,rfl⟩
 rintro ρ ⟨M,⟨pm,up⟩,rfl⟩
 refine aJ (λρ=>∃u v,ρ=[some (.d (gT Sd)),some (.d (.int c)),some (.d (.int B)),some (.d (pts M)),u,v]) (λK hK=>?_) ?_
 ·simp only[dY,L2.R2.S.fz,cL,iN,aK,aD,nQ,iH,cZ,rC,List.getElem?_cons_zero,List.getElem?_cons_succ,List.set_cons_zero,List.set_cons_succ]
  have zz:∃ps:List (IP × IP),List.zipWith (λa b=>D.tup [a,b]) (M.map pt) (gW (M.map pt) (some 1) none)=ps.map (λp=>D.tup [pt p.1,pt p.2])/\∀p∈ps,p.1.2<=p.2.2:=by
   have c1:gW (M.map pt) (some 1) none=(M.drop 1).map pt:=by
    cases M with
    | nil=>rfl
    | cons a r=>exact mC (j:=1) (by simp)
   rw[c1]
   clear c1 pm hK
   induction M with
   | nil=>exact⟨[],rfl,λp h=>(by cases h)⟩
   | cons a r ih =>
    cases r with
    | nil=>exact⟨[],rfl,λp h=>(by cases h)⟩
    | cons b r =>
     obtain⟨ps,h1,h2⟩:=ih (List.pairwise_cons.mp up).2
     refine⟨(a,b)::ps,?_,λp hp=>?_⟩
     ·show D.tup [pt a,pt b]::List.zipWith (λa b=>D.tup [a,b]) ((b::r).map pt) (((b::r).drop 1).map pt)=_
      rw[h1];rfl
     ·rcases List.mem_cons.mp hp with rfl | hp
      ·exact ((List.pairwise_cons.mp up).1 b (.head _)).2
      ·exact h2 p hp
  obtain⟨ps,e1,e2⟩:=zz
  rw[e1]
  refine cR (λxs ρ=>∃todo:List (IP × IP),(∀p∈todo,p.1.2<=p.2.2)/\xs=todo.map (λp=>D.tup [pt p.1,pt p.2])/\∃u v,ρ=[some (.d (gT Sd)),some (.d (.int c)),some (.d (.int B)),some (.d (pts M)),u,v]) ?_ ?_ _ _ ⟨ps,e2,rfl,_,_,rfl⟩
  ·rintro x xs ρ ⟨todo,ht,exs,u,v,rfl⟩ F hr hb hn hc
   cases todo with
   | nil=>cases exs
   | cons p todo =>
    rw[List.map_cons] at exs
    injection exs with ex exs
    subst ex exs
    have le:=ht p (.head _)
    unfold dH
    walk_at "rd"
    have:¬p.2.2<p.1.2:=by omega
    simp only[this,decide_false,if_false,Bool.false_eq_true]
    exact hn _ ⟨todo,λz hz=>ht z (.tail _ hz),rfl,_,_,rfl⟩
  ·rintro ρ ⟨todo,ht,exs,u,v,rfl⟩
   exact hK _ ⟨u,v,rfl⟩
 rintro ρ ⟨u,v,rfl⟩
 simp only[dY,L2.R2.S.fz,bX,aK,List.getElem?_cons_zero,List.getElem?_cons_succ,List.set_cons_zero,List.set_cons_succ]
 exact q M pm up
theorem yW:∀(M:List IP),List.zipWith (λa b=>D.tup [a,b]) (alt ((M.map pt).drop 0)) (alt ((M.map pt).drop 1))=(fC M).map λz=>D.tup [pt z.1,pt z.2]
 | []=>by simp[alt,fC]
 | [x]=>by simp[alt,fC]
 | x::y::r=>by
  have ih:=yW r
  simp only[List.drop_zero] at ih ⊢
  have e:alt (((x::y::r).map pt).drop 1)=pt y::alt ((r.map pt).drop 1):=by
   cases r with
   | nil=>simp[alt]
   | cons w r=>simp[alt]
  have e0:alt ((x::y::r).map pt)=pt x::alt (r.map pt):=by simp[alt]
  rw[e,e0,List.zipWith_cons_cons,ih];rfl
theorem JY (n:Nat) (z w:IP):eqL (eqF (n+1)) [.int z.1,.int z.2] [.int w.1,.int w.2]=some (decide (z=w)):=by
 obtain⟨a,b⟩:=z
 obtain⟨c,d⟩:=w
 simp only[eqF,eqL]
 congr 1
 by_cases h1:a=c <;> by_cases h2:b=d <;> simp[h1,h2]
noncomputable def II (B c:Int) (z:IP × IP) (d:D):Prop:=∃p1 q1 p2 q2 p3 q3 p4 q4,(Low z.1.1 B p1 q1/\Low z.1.2 B p2 q2/\Low z.2.1 B p3 q3/\Low z.2.2 B p4 q4)/\d = .tup [.int c,fr p1 q1,fr p2 q2,fr p3 q3,fr p4 q4]
inductive RowsOf (B c:Int):List (IP × IP)->List D->Prop
 | nil:RowsOf B c [] []
 | cons {z:IP × IP} {d:D} {zs:List (IP × IP)} {ds:List D} (h:II B c z d) (t:RowsOf B c zs ds):RowsOf B c (z::zs) (d::ds)
theorem RowsOf.snoc {B c:Int} {zs:List (IP × IP)} {ds:List D} (t:RowsOf B c zs ds) {z:IP × IP} {d:D} (h:II B c z d):RowsOf B c (zs++[z]) (ds++[d]):=by
 induction t with
 | nil=>exact .cons h .nil
 | cons h' _ ih=>exact .cons h' ih
theorem RowsOf.length {B c:Int} {zs:List (IP × IP)} {ds:List D} (t:RowsOf B c zs ds):zs.length=ds.length:=by
 induction t with
 | nil=>rfl
 | cons _ _ ih=>rw[List.length_cons,List.length_cons,ih]
noncomputable abbrev kept (M:List IP):List (IP × IP):=(fC M).filter λz=>decide (z.1≠z.2)
theorem lV {α:Type}:∀L:List α,(fC L).length<=L.length
 | []=>Nat.le_refl _
 | [x]=>Nat.zero_le _
 | x::y::r=>by have:=lV r;rw[fC,List.length_cons,List.length_cons,List.length_cons];omega
structure ColIn (S:List bJ) (c:Int):Prop where
 len:S.length<=15
 bd:∀s∈S,SdB s
 ok:∀s∈S,SdOk s
 five:∀s∈S,wid s<=5
 cb:BL 200 c
 cv:∀s∈S,cov c s=true
 unc:kW S c
structure ColB (S:List bJ) (c:Int) (B:Int) (M:List IP) (rows:List D):Prop where
 pos:0<B
 dv:∀s∈S,wid s∣B
 bB:BL 50 B
 perm:M.Perm (S.map (prB B c))
 up:eE M
 rows:RowsOf B c (kept M) rows
noncomputable def F_colB:FD:=λds Q=>∃(S:List bJ) (c:Int),ds=[gT S,.int c]/\ColIn S c/\∀B M rows,ColB S c B M rows->Q (.lst rows)
theorem len_colB:∀ds Q,F_colB ds Q->ds.length=2:=by rintro ds Q ⟨_,_,rfl,_⟩;rfl
theorem pure_column_bands_G {G:FD} (hG:∀ds Q,F_ordH ds Q->G ds Q):∀ds Q,F_colB ds Q->cF F_lowm G aZ qA { nx:=λ_=>Q .non,rt:=Q } (aO ["sides","column","bottom","heights","rows","low","up","edges"] ds):=by
 rintro ds Q ⟨Sd,c,rfl,ok,q⟩
 rw[aS 6 rfl]
 unfold cF
 refine aJ (λρ=>∃B,(0<B/\(∀s∈Sd,wid s∣B)/\BL 50 B)/\ρ=[some (.d (gT Sd)),some (.d (.int c)),some (.d (.int B)),none,none,none,none,none]) (λK hK=>?_) ?_
 ·walk_at "rd"
  refine⟨bL (by rw[List.length_map];have:=ok.len;omega),?_⟩
  refine dC (λρ=>∃a,ρ=[a]) sdD (λs=>.int (wid s)) Sd ?_ ⟨_,rfl⟩ ?_
  ·rintro s hs ρ ⟨a,rfl⟩ K' hK'
   simp only[aR,aU,aB,aG,aK,List.getElem?_cons_zero,List.set_cons_zero]
   exact⟨s,rfl,hK' _ ⟨_,rfl⟩⟩
  ·refine⟨Sd.map wid,by show _=[D.lst ((Sd.map wid).map .int)];rw[List.map_map];rfl,by rw[List.length_map];exact ok.len,λw hw=>?_,λB h1 h2 h3=>?_⟩
   ·obtain⟨s,hs,rfl⟩:=List.mem_map.mp hw
    exact⟨(ok.ok s hs).pos,ok.five s hs⟩
   ·exact hK _ ⟨B,⟨h1,λs hs=>h2 _ (List.mem_map_of_mem hs),h3⟩,rfl⟩
 rintro ρ ⟨B,⟨hB0,hdv,bB⟩,rfl⟩
 refine aJ (λρ=>∃M:List IP,(M.Perm (Sd.map (prB B c))/\eE M)/\ρ=[some (.d (gT Sd)),some (.d (.int c)),some (.d (.int B)),some (.d (pts M)),none,none,none,none]) (λK hK=>?_) ?_
 ·simp only[bD,aU,aB,aG,aK,List.getElem?_cons_zero,List.getElem?_cons_succ,List.set_cons_zero,List.set_cons_succ]
  exact hG _ _ ⟨Sd,c,B,rfl,⟨ok.len,ok.bd,ok.ok,ok.cb,hB0,hdv,bB⟩,NF hB0 ok.ok hdv ok.cv ok.unc,λM pm up=>hK _ ⟨M,⟨pm,up⟩,rfl⟩⟩
 rintro ρ ⟨M,⟨pm,up⟩,rfl⟩
 have ml:M.length<=15:=by rw[pm.length_eq,List.length_map];exact ok.len
 refine aJ (λρ=>ρ=[some (.d (gT Sd)),some (.d (.int c)),some (.d (.int B)),some (.d (pts M)),some (.own []),none,none,none]) (λK hK=>?_) ?_
 ·walk_at "rd"
  exact hK _ rfl
 rintro ρ rfl
 refine aJ (λρ=>∃rows u v w,RowsOf B c (kept M) rows/\ρ=[some (.d (gT Sd)),some (.d (.int c)),some (.d (.int B)),some (.d (pts M)),some (.own rows),u,v,w]) (λK hK=>?_) ?_
 ·simp only[cL,iN,DN,aD,List.getElem?_cons_zero,List.getElem?_cons_succ]
  rw[yW M]
  have tl:(fC M).length<=15:=Nat.le_trans (lV M) ml
  generalize hT:fC M=T at tl
  refine cR (λxs ρ=>∃done todo:List (IP × IP),T=done++todo/\xs=todo.map (λz=>D.tup [pt z.1,pt z.2])/\∃rows u v w,RowsOf B c (done.filter λz=>decide (z.1≠z.2)) rows/\ρ=[some (.d (gT Sd)),some (.d (.int c)),some (.d (.int B)),some (.d (pts M)),some (.own rows),u,v,w]) ?_ ?_ _ _ ⟨[],T,rfl,rfl,[],none,none,none,.nil,rfl⟩
  ·rintro x xs ρ ⟨done,todo,eT,exs,rows,u,v,w,hR,rfl⟩ F hr hb hn hc
   cases todo with
   | nil=>cases exs
   | cons z todo =>
    rw[List.map_cons] at exs
    injection exs with ex exs
    subst ex exs
    have rl:rows.length<=15:=by
     rw[<-hR.length]
     have h1:=List.length_filter_le (λz:IP × IP=>decide (z.1≠z.2)) done
     rw[eT] at tl;simp at tl;omega
    unfold fB
    simp only[fX,cE,aR,fW,vK,List.set_cons_zero,List.set_cons_succ,List.length_cons,List.length_nil,true_and]
    simp only[gB,cD,r2,aD,dNe,List.getElem?_cons_zero,List.getElem?_cons_succ,JY,true_and]
    by_cases hz:z.1=z.2
    ·simp only[hz,decide_true,Bool.not_true,Bool.false_eq_true,if_false,cW]
     refine hn _ ⟨done++[z],todo,by rw[eT];simp,rfl,rows,some (.d (pt z.2)),some (.d (pt z.2)),w,?_,rfl⟩
     rw[List.filter_append]
     simpa [hz] using hR
    ·simp only[hz,decide_false,Bool.not_false,if_true]
     refine aJ (λρ=>∃p1 q1 p2 q2 p3 q3 p4 q4,(Low z.1.1 B p1 q1/\Low z.1.2 B p2 q2/\Low z.2.1 B p3 q3/\Low z.2.2 B p4 q4)/\ρ=[some (.d (gT Sd)),some (.d (.int c)),some (.d (.int B)),some (.d (pts M)),some (.own rows),some (.d (pt z.1)),some (.d (pt z.2)),some (.own [fr p1 q1,fr p2 q2,fr p3 q3,fr p4 q4])]) (λK' hK'=>?_) ?_
     ·have bb:B≠0/\BL 9000 B:=⟨by omega,bB.mono (by decide)⟩
      walk_at "rd"
      refine⟨by simp,?_⟩
      refine⟨_,_,rfl,bb,λp1 q1 l1=>⟨_,_,rfl,bb,λp2 q2 l2=>⟨_,_,rfl,bb,λp3 q3 l3=>⟨_,_,rfl,bb,λp4 q4 l4=>?_⟩⟩⟩⟩
      exact hK' _ ⟨p1,q1,p2,q2,p3,q3,p4,q4,⟨l1,l2,l3,l4⟩,rfl⟩
     rintro ρ ⟨p1,q1,p2,q2,p3,q3,p4,q4,⟨l1,l2,l3,l4⟩,rfl⟩
     walk_at "rd"
     refine⟨bL (by decide),bL (by omega),?_⟩
     refine hn _ ⟨done++[z],todo,by rw[eT];simp,rfl,rows++[.tup [.int c,fr p1 q1,fr p2 q2,fr p3 q3,fr p4 q4]],some (.d (pt z.1)),some (.d (pt z.2)),some (.own [fr p1 q1,fr p2 q2,fr p3 q3,fr p4 q4]),?_,rfl⟩
     rw[List.filter_append]
     have e:[z].filter (λz:IP × IP=>decide (z.1≠z.2))=[z]:=by simp[hz]
     rw[e]
     exact hR.snoc ⟨p1,q1,p2,q2,p3,q3,p4,q4,⟨l1,l2,l3,l4⟩,rfl⟩
  ·rintro ρ ⟨done,todo,eT,exs,rows,u,v,w,hR,rfl⟩
   have:todo=[]:=by cases todo with | nil=>rfl | cons _ _=>cases exs
   subst this
   rw[List.append_nil] at eT
   refine hK _ ⟨rows,u,v,w,?_,rfl⟩
   show RowsOf B c ((fC M).filter λz=>decide (z.1≠z.2)) rows
   rw[hT,eT];exact hR
 rintro ρ ⟨rows,u,v,w,hR,rfl⟩
 simp only[dY,L2.R2.S.fz,bX,aK,List.getElem?_cons_zero,List.getElem?_cons_succ,List.set_cons_zero,List.set_cons_succ]
 exact q B M rows ⟨hB0,hdv,bB,pm,up,hR⟩
structure BandsIn (R:List (List Pt)) (o:Int):Prop where
 len:R.length<=3
 each:∀g∈R,g.length<=5
 near:∀s∈bF R,o<=s.1.1/\s.2.1<=o+5
 bd:∀s∈bF R,SdB s
 unc:∀c,kW (bF R) c
theorem BandsIn.five {R:List (List Pt)} {o:Int} (h:BandsIn R o):∀s∈bF R,wid s<=5:=λs hs=>by
 have:=h.near s hs;unfold wid;omega
theorem UY {w:Int} (h0:0<w) (h5:w<=5):w∣60:=by
 have:w=1\/w=2\/w=3\/w=4\/w=5:=by omega
 rcases this with rfl | rfl | rfl | rfl | rfl <;> decide
theorem BandsIn.ok {R:List (List Pt)} {o:Int} (h:BandsIn R o):∀s∈bF R,SdOk s:=λs hs=>⟨RgsOk.pos s hs,UY (RgsOk.pos s hs) (h.five s hs)⟩
inductive AllB (Sd:List bJ):List Int->List D->Prop
 | nil:AllB Sd [] []
 | cons {c B:Int} {M:List IP} {r rows:List D} {cs:List Int} (h:ColB (Sd.filter (cov c)) c B M r) (t:AllB Sd cs rows):AllB Sd (c::cs) (r++rows)
theorem AllB.snoc {Sd:List bJ} {cs:List Int} {rows:List D} (t:AllB Sd cs rows) {c B:Int} {M:List IP} {r:List D} (h:ColB (Sd.filter (cov c)) c B M r):AllB Sd (cs++[c]) (rows++r):=by
 induction t with
 | nil=>have:=AllB.cons h .nil;simpa using this
 | cons h' _ ih=>rw[List.append_assoc];exact .cons h' ih
theorem ColB.rlen {Sd:List bJ} {c B:Int} {M:List IP} {r:List D} (h:ColB Sd c B M r):r.length<=Sd.length:=by
 rw[<-h.rows.length]
 have h1:=List.length_filter_le (λz:IP × IP=>decide (z.1≠z.2)) (fC M)
 have h2:=lV M
 have h3:=h.perm.length_eq
 rw[List.length_map] at h3
 show ((fC M).filter λz=>decide (z.1≠z.2)).length<=_
 omega
theorem AllB.rlen {Sd:List bJ} {cs:List Int} {rows:List D} (t:AllB Sd cs rows):rows.length<=cs.length*Sd.length:=by
 induction t with
 | nil=>exact Nat.zero_le _
 | @cons c B M r rows cs h t ih =>
  have h1:=h.rlen
  have h2:=List.length_filter_le (cov c) Sd
  rw[List.length_append,List.length_cons,Nat.succ_mul];omega
noncomputable def F_bands:FD:=λds Q=>∃(R:List (List Pt)) (o:Int),ds=[dB R]/\BandsIn R o/\∀cs rows,cs.Pairwise (· < ·)->(∀c,c∈cs↔∃s∈bF R,cov c s=true)->AllB (bF R) cs rows->cs.length<=5->Q (.lst rows)
theorem len_bands:∀ds Q,F_bands ds Q->ds.length=1:=by rintro ds Q ⟨_,_,rfl,_⟩;rfl
local macro_rules | `(tactic| walk_at "rd")=>do
 let a <- ("aY cW bX wJ gB bD dE BD yN aR fX cE fW aK aD rC r2 r1 cD BA rOr HP oR HQ wK rIf aG aB dU gQ aU rCB cZ iH wM cL HX riL riT oX BH lO eF gK kR sY dY iG wL lM HR vK nQ gL mD pG GD dNe pV uM iN bQ eL cB cG bV kB mI jD hU GB pF qJ gM gN jQ jG jH jI jJ jK jL jM jN jO jP hZ iA rF xO vW kZ fI GC pL pJ pK pI pM S.val cI HU DZ vI BF EA vJ EB HV HW EC wN wO wP List.map_cons List.map_nil List.cons_append List.nil_append List.length_cons List.length_nil List.getElem?_cons_zero List.getElem?_cons_succ List.set_cons_zero List.set_cons_succ List.append_nil Bool.or_false Bool.or_true Bool.false_or Bool.true_or Bool.not_true Bool.not_false if_true if_false Bool.false_eq_true sz0 sz1 sz2 sz3 sz4 true_and decide_eq_true_eq Int.reduceToNat Int.reducePow Int.reduceMul Int.reduceSub Int.reduceAdd Int.reduceNeg".splitOn " ").toArray.mapM λx=>`(Lean.Parser.Tactic.simpLemma| $(Lean.mkIdent x.toName):term)
 `(tactic| simp only[$a,*])
theorem iF {v M p q:Int} (hM:0<M) (hq:0<q) (cop:Int.gcd p q=1) (w:p*M=v*q):Low v M p q:=by
 have dq:q∣M:=by
  have d:q.natAbs∣p.natAbs*M.natAbs:=by
   rw[<-Int.natAbs_mul,w,Int.natAbs_mul];exact Nat.dvd_mul_left ..
  exact Int.natAbs_dvd_natAbs.mp (Nat.Coprime.dvd_of_dvd_mul_left (show Nat.Coprime q.natAbs p.natAbs from by
   have:Nat.gcd p.natAbs q.natAbs=1:=cop
   rw[Nat.Coprime,Nat.gcd_comm];exact this) d)
 have lq:q<=M:=Int.le_of_dvd hM dq
 refine⟨hq,cop,w,?_,by omega⟩
 have e:p.natAbs*M.natAbs=v.natAbs*q.natAbs:=by rw[<-Int.natAbs_mul,w,Int.natAbs_mul]
 have lq':q.natAbs<=M.natAbs:=by omega
 have M0:0<M.natAbs:=by omega
 apply Nat.le_of_mul_le_mul_right (c:=M.natAbs) ?_ M0
 rw[e]
 exact Nat.mul_le_mul_left _ lq'
theorem Low.scale {a b p q:Int} (h:Low a b p q) {k:Int} (hk:0<k) (hb:0<b):Low (a*k) (b*k) p q :=
 iF (Int.mul_pos hb hk) h.pos h.cop (by rw[<-Int.mul_assoc,h.worth];grind)
theorem Low.plus {M v w a b c d p q:Int} (hM:0<M) (h1:Low v M a b) (h2:Low w M c d) (h:Low (a*d+c*b) (b*d) p q):Low (v+w) M p q:=by
 refine iF hM h.pos h.cop ?_
 have bd:0<b*d:=Int.mul_pos h1.pos h2.pos
 refine Int.eq_of_mul_eq_mul_right (a:=b*d) (by omega) ?_
 have e1:=h1.worth
 have e2:=h2.worth
 have e3:=h.worth
 grind
theorem Low.minus {M v w a b c d p q:Int} (hM:0<M) (h1:Low v M a b) (h2:Low w M c d) (h:Low (a*d-c*b) (b*d) p q):Low (v-w) M p q:=by
 refine iF hM h.pos h.cop ?_
 have bd:0<b*d:=Int.mul_pos h1.pos h2.pos
 refine Int.eq_of_mul_eq_mul_right (a:=b*d) (by omega) ?_
 have e1:=h1.worth
 have e2:=h2.worth
 have e3:=h.worth
 grind
theorem Low.bl {v M p q:Int} {n:Nat} (h:Low v M p q) (hv:BL n v) (hM:BL n M):BL n p/\BL n q:=⟨hv.le h.lea,hM.le h.leb⟩
structure Row where
 x:Int
 l0:Int × Int
 l1:Int × Int
 u0:Int × Int
 u1:Int × Int
noncomputable abbrev pW (r:Row):D:=.tup [.int r.x,fr r.l0.1 r.l0.2,fr r.l1.1 r.l1.2,fr r.u0.1 r.u0.2,fr r.u1.1 r.u1.2]
structure RowV (M:Int) (r:Row) (a b c d:Int):Prop where
 l0:Low a M r.l0.1 r.l0.2
 l1:Low b M r.l1.1 r.l1.2
 u0:Low c M r.u0.1 r.u0.2
 u1:Low d M r.u1.1 r.u1.2
 ba:BL 400 a
 bb:BL 400 b
 bc:BL 400 c
 bd:BL 400 d
inductive Tot (M:Int):List Row->Int->Prop
 | nil:Tot M [] 0
 | snoc {rs:List Row} {r:Row} {N a b c d:Int} (t:Tot M rs N) (h:RowV M r a b c d):Tot M (rs++[r]) (N+(c-a+(d-b)))
theorem Tot.mono {M N N':Int} {rs:List Row} (h:Tot M rs N) (e:N=N'):Tot M rs N':=e ▸ h
noncomputable def MV:FD:=λds Q=>∃(M:Int) (r:Row) (a b c d:Int),ds=[pW r]/\(0<M/\BL 400 M)/\RowV M r a b c d/\∀p q,Low (c-a) M p q->Q (fr p q)
noncomputable def MW:FD:=λds Q=>∃(M:Int) (r:Row) (a b c d:Int),ds=[pW r]/\(0<M/\BL 400 M)/\RowV M r a b c d/\∀p q,Low (d-b) M p q->Q (fr p q)
theorem SU:∀ds Q,MV ds Q->ds.length=1:=by rintro ds Q ⟨_,_,_,_,_,_,rfl,_⟩;rfl
theorem SV:∀ds Q,MW ds Q->ds.length=1:=by rintro ds Q ⟨_,_,_,_,_,_,rfl,_⟩;rfl
theorem pU:∀ds Q,MV ds Q->fR bE { nx:=λ_=>Q .non,rt:=Q } (aO ["row"] ds):=by
 rintro ds Q ⟨M,r,a,b,c,d,rfl,⟨hM,bM⟩,V,q⟩
 rw[aS 0 rfl]
 unfold fR
 walk_at "rd"
 refine sF (dN (j:=3) rfl) ?_
 have x1:=V.u0.bl V.bc bM
 have x2:=V.l0.bl V.ba bM
 exact⟨_,_,_,_,rfl,⟨V.u0.pos,V.l0.pos⟩,⟨x1.1.mono (by decide),x1.2.mono (by decide),x2.1.mono (by decide),x2.2.mono (by decide)⟩,λp q' L=>q p q' (V.u0.minus hM V.l0 L)⟩
theorem oQ:∀ds Q,MW ds Q->eX bE { nx:=λ_=>Q .non,rt:=Q } (aO ["row"] ds):=by
 rintro ds Q ⟨M,r,a,b,c,d,rfl,⟨hM,bM⟩,V,q⟩
 rw[aS 0 rfl]
 unfold eX
 walk_at "rd"
 refine sF (dN (j:=4) rfl) ?_
 have x1:=V.u1.bl V.bd bM
 have x2:=V.l1.bl V.bb bM
 exact⟨_,_,_,_,rfl,⟨V.u1.pos,V.l1.pos⟩,⟨x1.1.mono (by decide),x1.2.mono (by decide),x2.1.mono (by decide),x2.2.mono (by decide)⟩,λp q' L=>q p q' (V.u1.minus hM V.l1 L)⟩
noncomputable def fF:FD:=λds Q=>∃(M:Int) (rs:List Row) (N:Int),ds=[.lst (rs.map pW)]/\(0<M/\BL 400 M)/\rs.length<=1000/\Tot M rs N/\∀p q,Low N (M*2) p q->Q (fr p q)
theorem KM:∀ds Q,fF ds Q->ds.length=1:=by rintro ds Q ⟨_,_,_,rfl,_⟩;rfl
theorem Tot.split {M:Int} {rs:List Row} {N:Int} (h:Tot M rs N):∀(done:List Row) (r:Row) (rest:List Row),rs=done++r::rest->∃N0 a b c d,Tot M done N0/\RowV M r a b c d/\Tot M (done++[r]) (N0+(c-a+(d-b))):=by
 induction h with
 | nil=>intro done r rest e;simp at e
 | @snoc rs r' N a b c d t V ih =>
  intro done r rest e
  rcases List.eq_nil_or_concat rest with rfl | ⟨rest',x,rfl⟩
  ·have e':rs++[r']=done++[r]:=e
   have e1:=List.append_inj_left' e' rfl
   have e2:=List.append_inj_right' e' rfl
   simp at e2
   subst e1 e2
   exact⟨N,a,b,c,d,t,V,.snoc t V⟩
  ·have e':rs++[r']=(done++r::rest')++[x]:=by rw[e];simp
   exact ih done r rest' (List.append_inj_left' e' rfl)
theorem Tot.unique {M:Int} (hM:0<M) {rs:List Row} {N N':Int} (h:Tot M rs N) (h':Tot M rs N'):N=N':=by
 induction h generalizing N' with
 | nil =>
  generalize e:([]:List Row)=l at h'
  cases h' with
  | nil=>rfl
  | snoc t V=>simp at e
 | @snoc rs r N a b c d t V ih =>
  generalize e:rs++[r]=l at h'
  cases h' with
  | nil=>simp at e
  | @snoc rs2 r2 N2 a2 b2 c2 d2 t2 V2 =>
   have e1:=List.append_inj_left' e rfl
   have e2:=List.append_inj_right' e rfl
   simp at e2
   subst e1 e2
   have k:∀{v w p q:Int},Low v M p q->Low w M p q->v=w:=λh1 h2=>by
    have:=h1.worth.symm.trans h2.worth
    exact Int.eq_of_mul_eq_mul_right (by have:=h1.pos;omega) this
   rw[ih t2,k V.l0 V2.l0,k V.l1 V2.l1,k V.u0 V2.u0,k V.u1 V2.u1]
theorem Tot.bl {M:Int} {rs:List Row} {N:Int} (h:Tot M rs N):N.natAbs<=rs.length*(4*2 ^ 400):=by
 induction h with
 | nil=>simp
 | @snoc rs r N a b c d t V ih =>
  have h1:a.natAbs<2 ^ 400:=V.ba
  have h2:b.natAbs<2 ^ 400:=V.bb
  have h3:c.natAbs<2 ^ 400:=V.bc
  have h4:d.natAbs<2 ^ 400:=V.bd
  generalize (2:Nat) ^ 400=X at *
  simp only[List.length_append,List.length_singleton,Nat.add_mul,Nat.one_mul]
  omega
theorem Tot.bl2 {M:Int} {rs:List Row} {N:Int} (h:Tot M rs N) (hl:rs.length<=1000):BL 420 N:=by
 have h1:=h.bl
 have h2:rs.length*(4*2 ^ 400)<=1000*(4*2 ^ 400):=Nat.mul_le_mul_right _ hl
 have h3:1000*(4*2 ^ 400)<2 ^ 420:=by decide
 exact Nat.lt_of_le_of_lt (Nat.le_trans h1 h2) h3
theorem HM:∀ds Q,fF ds Q->sL MV fG MW fH { nx:=λ_=>Q .non,rt:=Q } (aO ["rows","total","row"] ds):=by
 rintro ds Q ⟨M,rs,N,rfl,⟨hM,bM⟩,hl,T,q⟩
 rw[aS 2 rfl]
 unfold sL
 simp only[cI,vI,List.map_cons,List.map_nil,List.cons_append,List.nil_append]
 refine aJ (λρ=>ρ=[some (.d (.lst (rs.map pW))),some (.d (fr 0 1)),none]) (λK hK=>?_) ?_
 ·walk_at "rd"
  exact hK _ rfl
 rintro ρ rfl
 have bM2:BL 420 M:=bM.mono (by decide)
 refine aJ (λρ=>∃(p q':Int) (x:Option S),Low N M p q'/\ρ=[some (.d (.lst (rs.map pW))),some (.d (fr p q')),x]) (λK hK=>?_) ?_
 ·walk_at "rd"
  refine iD _ (λi ρ=>∃(N0 p q':Int) (x:Option S),Tot M (rs.take i) N0/\Low N0 M p q'/\ρ=[some (.d (.lst (rs.map pW))),some (.d (fr p q')),x]) ?_ ?_ _ ⟨0,0,1,none,.nil,iF hM (by decide) (by decide) (by omega),rfl⟩
  ·rintro i x ρ e ⟨N0,p,q',u,T0,L0,rfl⟩ F _ _ hn _
   rw[List.getElem?_map] at e
   cases er:rs[i]? with
   | none=>rw[er] at e;cases e
   | some r =>
    rw[er] at e
    cases e
    have hi:i<rs.length:=(List.getElem?_eq_some_iff.mp er).1
    have sp:rs=rs.take i++r::rs.drop (i+1):=by
     have:r=rs[i]:=by rw[List.getElem?_eq_getElem hi] at er;exact (Option.some.inj er).symm
     rw[this,<-List.drop_eq_getElem_cons hi,List.take_append_drop]
    obtain⟨N1,a,b,c,d,T1,V,T2⟩:=T.split _ _ _ sp
    have eN:=T0.unique hM T1
    subst eN
    have et:rs.take (i+1)=rs.take i++[r]:=by rw[List.take_succ,er];rfl
    have b0:=T0.bl2 (by simp;omega)
    have x0:=L0.bl b0 bM2
    have bca:BL 401 (c-a):=(V.bc.sub V.ba)
    have bdb:BL 401 (d-b):=(V.bd.sub V.bb)
    unfold uK
    simp only[aR,List.set_cons_zero,List.set_cons_succ]
    walk_at "rd"
    refine⟨M,r,a,b,c,d,rfl,⟨hM,bM⟩,V,λp1 q1 L1=>?_⟩
    refine⟨M,r,a,b,c,d,rfl,⟨hM,bM⟩,V,λp2 q2 L2=>?_⟩
    have x1:=L1.bl bca (bM.mono (by decide))
    have x2:=L2.bl bdb (bM.mono (by decide))
    refine⟨_,_,_,_,rfl,⟨L1.pos,L2.pos⟩,⟨x1.1.mono (by decide),x1.2.mono (by decide),x2.1.mono (by decide),x2.2.mono (by decide)⟩,λp3 q3 L3=>?_⟩
    have L3':=L1.plus hM L2 L3
    have x3:=L3'.bl (bca.add bdb) (bM.mono (by decide))
    refine⟨_,_,_,_,rfl,⟨L0.pos,L3.pos⟩,⟨x0.1.mono (by decide),x0.2.mono (by decide),x3.1.mono (by decide),x3.2.mono (by decide)⟩,λp4 q4 L4=>?_⟩
    exact hn _ ⟨_,p4,q4,some (.d (pW r)),by rw[et];exact T2,L0.plus hM L3' L4,rfl⟩
  ·rintro ρ ⟨N0,p,q',x,T0,L0,rfl⟩
   rw[List.length_map,List.take_length] at T0
   rw[T0.unique hM T] at L0
   exact hK _ ⟨p,q',x,L0,rfl⟩
 rintro ρ ⟨p,q',x,L,rfl⟩
 have b0:=T.bl2 hl
 have x0:=L.bl b0 bM2
 walk_at "rd"
 refine⟨_,_,_,_,rfl,⟨L.pos,by decide⟩,⟨x0.1.mono (by decide),x0.2.mono (by decide),BL.of_lt (m:=4000) (by decide) (by decide),BL.of_lt (m:=4000) (by decide) (by decide)⟩,λp1 q1 L1=>q p1 q1 ?_⟩
 refine iF (by omega) L1.pos L1.cop ?_
 have e1:=L1.worth
 have e2:=L.worth
 have pq:=L.pos
 refine Int.eq_of_mul_eq_mul_right (a:=q') (by omega) ?_
 grind
local macro_rules | `(tactic| walk_at "rd")=>do
 let a <- ("S.fz BC uI JG aY cW bX wJ gB bD dE BD yN aR fX cE fW aK aD rC r2 r1 cD BA rOr HP oR HQ wK rIf aG aB dU gQ aU rCB cZ iH wM cL HX riL riT oX BH lO eF gK kR sY dY iG wL lM HR vK nQ gL mD pG GD dNe pV uM iN bQ eL cB cG bV kB mI jD hU GB pF qJ gM gN jQ jG jH jI jJ jK jL jM jN jO jP hZ iA rF xO vW kZ fI GC pL pJ pK pI pM S.val cI HU DZ vI BF EA vJ EB HV HW EC wN wO wP List.map_cons List.map_nil List.cons_append List.nil_append List.length_cons List.length_nil List.getElem?_cons_zero List.getElem?_cons_succ List.set_cons_zero List.set_cons_succ List.append_nil Bool.or_false Bool.or_true Bool.false_or Bool.true_or Bool.not_true Bool.not_false if_true if_false Bool.false_eq_true sz0 sz1 sz2 sz3 sz4 true_and decide_eq_true_eq Int.reduceToNat Int.reducePow Int.reduceMul Int.reduceSub Int.reduceAdd Int.reduceNeg".splitOn " ").toArray.mapM λx=>`(Lean.Parser.Tactic.simpLemma| $(Lean.mkIdent x.toName):term)
 `(tactic| simp only[$a,*])
namespace K23
structure RgsOk (R:List (List Pt)):Prop where
 len:R.length<=5
 each:∀g∈R,g.length<=10
 wide:∀s∈bF R,wid s<=40
theorem RgsOk.pos {R:List (List Pt)}:∀s∈bF R,0<wid s:=λs hs=>by
 obtain⟨l,hl,hs⟩:=List.mem_flatten.mp hs
 obtain⟨g,hg,rfl⟩:=List.mem_map.mp hl
 exact (wS hs).2
theorem RgsOk.slen {R:List (List Pt)} (o:RgsOk R):(bF R).length<=50:=by
 have:=gO bP 10 R λg hg=>Nat.le_trans (wR g) (o.each g hg)
 have:=o.len
 show ((R.map bP).flatten).length<=50
 omega
theorem xY {s:bJ} (h:wid s<=40):(evs s).length<=40:=by unfold evs;rw[List.length_map,List.length_range];omega
noncomputable def F_byCol:FD:=λds Q=>∃R:List (List Pt),ds=[dB R]/\RgsOk R/\∀ks xs,ColOf (bF R) ks xs->Q (.dct ks xs)
theorem len_byCol:∀ds Q,F_byCol ds Q->ds.length=1:=by rintro ds Q ⟨_,rfl,_⟩;rfl
theorem pure_sides_by_column:∀ds Q,F_byCol ds Q->bZ jF { nx:=λ_=>Q .non,rt:=Q } (aO ["rings","columns","ring","side","column"] ds):=by
 rintro ds Q ⟨R,rfl,ok,q⟩
 rw[aS 4 rfl]
 unfold bZ
 have fits:∀E:List Ev,(∃E',(((bF R).map evs).flatten)=E++E')->E.length<=2000:=λE ⟨E',e⟩=>by
  have h1:=gO evs 40 (bF R) λs hs=>xY (ok.wide s hs)
  have h2:=ok.slen
  have h3:=Nat.mul_le_mul_left 40 h2
  rw[e,List.length_append] at h1;omega
 refine aJ (λρ=>ρ=[some (.d (dB R)),some (.dcl (dD [])),none,none,none]) (λK hK=>?_) ?_
 ·walk_at "rd"
  exact hK _ rfl
 rintro ρ rfl
 refine aJ (λρ=>∃u v w,ρ=[some (.d (dB R)),some (.dcl (dD (((bF R).map evs).flatten))),u,v,w]) (λK hK=>?_) ?_
 ·simp only[cL,riL,aK,List.getElem?_cons_zero]
  refine cR (λxs ρ=>∃done todo:List (List Pt),R=done++todo/\xs=todo.map pts/\∃u v w,ρ=[some (.d (dB R)),some (.dcl (dD (((bF done).map evs).flatten))),u,v,w]) ?_ ?_ _ _ ⟨[],R,rfl,rfl,_,_,_,rfl⟩
  ·rintro x xs ρ ⟨done,todo,eR,exs,u,v,w,rfl⟩ F hr hb hn hc
   cases todo with
   | nil=>cases exs
   | cons g todo =>
    rw[List.map_cons] at exs
    injection exs with ex exs
    subst ex exs
    have hg:g∈R:=by rw[eR];exact List.mem_append_right _ (.head _)
    unfold dL
    simp only[aR,cL,riL,aU,aB,aG,aK,List.getElem?_cons_zero,List.getElem?_cons_succ,List.set_cons_zero,List.set_cons_succ]
    refine⟨g,rfl,Nat.le_trans (ok.each g hg) (by decide),?_⟩
    dsimp only
    have eA:bF R=(bF done++bP g)++bF todo:=by rw[eR];simp[bF]
    refine cR (λxs ρ=>∃d2 t2:List bJ,bP g=d2++t2/\xs=t2.map sdD/\∃v w,ρ=[some (.d (dB R)),some (.dcl (dD (((bF done++d2).map evs).flatten))),some (.d (pts g)),v,w]) ?_ ?_ _ _ ⟨[],bP g,rfl,rfl,v,w,by rw[List.append_nil]⟩
    ·rintro x xs ρ ⟨d2,t2,eS,exs,v,w,rfl⟩ F2 hr2 hb2 hn2 hc2
     cases t2 with
     | nil=>cases exs
     | cons s t2 =>
      rw[List.map_cons] at exs
      injection exs with ex exs
      subst ex exs
      unfold dJ
      simp only[aR,cL,FJ,aB,aG,r2,aD,rC,gM,gN,List.getElem?_cons_zero,List.getElem?_cons_succ,List.set_cons_zero,List.set_cons_succ]
      have eW:(s.2.1-s.1.1).toNat=(wid s).toNat:=rfl
      rw[eW]
      refine iW s.1.1 (wid s).toNat (λi ρ=>∃w,ρ=[some (.d (dB R)),some (.dcl (dD (((bF done++d2).map evs).flatten++(evs s).take i))),some (.d (pts g)),some (.d (sdD s)),w]) ?_ ?_ _ ⟨w,by rw[List.take_zero,List.append_nil]⟩
      ·rintro i ρ hi ⟨w,rfl⟩ F3 hr3 hb3 hn3 hc3
       have ei:(evs s)[i]? = some (s.1.1+(i:Int),s):=by unfold evs;rw[List.getElem?_map,List.getElem?_range hi];rfl
       have et:(evs s).take (i+1)=(evs s).take i++[(s.1.1+(i:Int),s)]:=by rw[List.take_succ,ei];rfl
       obtain⟨⟨k1,k2⟩,_⟩:=CQ (((bF done++d2).map evs).flatten++(evs s).take i)
       have fit:=fits (((bF done++d2).map evs).flatten++(evs s).take i) ⟨(evs s).drop i++(t2.map evs).flatten++((bF todo).map evs).flatten,by
        rw[eA,eS];simp only[List.map_append,List.map_cons,List.flatten_append,List.flatten_cons,List.append_assoc]
        rw[<-List.append_assoc ((evs s).take i),List.take_append_drop]⟩
       unfold dI
       simp only[aR,BB,aK,List.getElem?_cons_zero,List.getElem?_cons_succ,List.set_cons_zero,List.set_cons_succ]
       refine⟨bL (by omega),λp hp=>bL (by have:=k2 p hp;omega),?_⟩
       refine hn3 _ ⟨some (.d (.int (s.1.1+(i:Int)))),?_⟩
       rw[et,<-List.append_assoc,tT]
      ·rintro ρ ⟨w,rfl⟩
       refine hn2 _ ⟨d2++[s],t2,by rw[eS];simp,rfl,some (.d (sdD s)),w,?_⟩
       have:(evs s).take (wid s).toNat=evs s:=List.take_of_length_le (by unfold evs;simp)
       rw[this,<-List.append_assoc,List.map_append,List.flatten_append]
       simp
    ·rintro ρ ⟨d2,t2,eS,exs,v,w,rfl⟩
     have:t2=[]:=by cases t2 with | nil=>rfl | cons _ _=>cases exs
     subst this
     rw[List.append_nil] at eS
     refine hn _ ⟨done++[g],todo,by rw[eR];simp,rfl,some (.d (pts g)),v,w,?_⟩
     rw[<-eS];simp[bF]
  ·rintro ρ ⟨done,todo,eR,exs,u,v,w,rfl⟩
   have:todo=[]:=by cases todo with | nil=>rfl | cons _ _=>cases exs
   subst this
   rw[List.append_nil] at eR
   rw[<-eR]
   exact hK _ ⟨u,v,w,rfl⟩
 rintro ρ ⟨u,v,w,rfl⟩
 simp only[dY,S.fz,bX,aK,List.getElem?_cons_zero,List.getElem?_cons_succ,List.set_cons_zero,List.set_cons_succ]
 exact q _ _ (QC (bF R) RgsOk.pos)
noncomputable def F_lowm:FD:=λds Q=>∃ws:List Int,ds=[il ws]/\ws.length<=10/\(∀w∈ws,0<w/\w<=40)/\∀B,0<B->(∀w∈ws,w∣B)->BL 60 B->Q (.int B)
theorem len_lowm:∀ds Q,F_lowm ds Q->ds.length=1:=by rintro ds Q ⟨_,rfl,_⟩;rfl
theorem pure_lowest_multiple:∀ds Q,F_lowm ds Q->bG sR { nx:=λ_=>Q .non,rt:=Q } (aO ["numbers","multiple","number"] ds):=by
 rintro ds Q ⟨ws,rfl,hl,hw,q⟩
 rw[aS 2 rfl]
 unfold bG
 refine aJ (λρ=>ρ=[some (.d (il ws)),some (.d (.int 1)),none]) (λK hK=>?_) ?_
 ·walk_at "rd"
  exact hK _ rfl
 rintro ρ rfl
 refine aJ (λρ=>∃(B:Int) (u:Option S),(0<B/\(∀w∈ws,w∣B)/\B<=((40 ^ 10:Nat):Int))/\ρ=[some (.d (il ws)),some (.d (.int B)),u]) (λK hK=>?_) ?_
 ·simp only[cL,riL,aK,List.getElem?_cons_zero]
  refine cR (λxs ρ=>∃done todo:List Int,ws=done++todo/\xs=todo.map .int/\∃(B:Int) (u:Option S),(0<B/\(∀w∈done,w∣B)/\B<=((40 ^ done.length:Nat):Int))/\ρ=[some (.d (il ws)),some (.d (.int B)),u]) ?_ ?_ _ _ ⟨[],ws,rfl,rfl,1,none,⟨by decide,(λw h=>by cases h),by decide⟩,rfl⟩
  ·rintro x xs ρ ⟨done,todo,e,exs,B,u,⟨h1,h2,h3⟩,rfl⟩ F hr hb hn hc
   cases todo with
   | nil=>cases exs
   | cons w todo =>
    rw[List.map_cons] at exs
    injection exs with ex exs
    subst ex exs
    obtain⟨w0,w5⟩:=hw w (by rw[e];exact List.mem_append_right _ (.head _))
    have dl:done.length<=9:=by rw[e] at hl;simp at hl;omega
    have pw:((40 ^ done.length:Nat):Int)<=((40 ^ 9:Nat):Int):=Int.ofNat_le.mpr (Nat.pow_le_pow_right (by decide) dl)
    have bB:BL 60 B:=BL.of_lt (by omega) (Int.lt_of_le_of_lt (Int.le_trans h3 pw) (by decide))
    have bw:BL 60 w:=BL.of_lt (by omega) (Int.lt_of_le_of_lt w5 (by decide))
    unfold cK
    simp only[aR,bD,aU,aB,aG,aK,List.getElem?_cons_zero,List.getElem?_cons_succ,List.set_cons_zero,List.set_cons_succ]
    refine⟨B,w,rfl,⟨h1,w0⟩,⟨bB.mono (by decide),bw.mono (by decide)⟩,λl l0 d1 d2 le=>?_⟩
    refine hn _ ⟨done++[w],todo,by rw[e];simp,rfl,l,some (.d (.int w)),⟨l0,λv hv=>?_,?_⟩,rfl⟩
    ·rcases List.mem_append.mp hv with hv | hv
     ·exact Int.dvd_trans (h2 v hv) d1
     ·rw[List.mem_singleton.mp hv];exact d2
    ·rw[List.length_append,List.length_singleton,Nat.pow_succ,Int.natCast_mul]
     have k1:=Int.mul_le_mul_of_nonneg_right h3 (Int.le_of_lt w0)
     have k2:=Int.mul_le_mul_of_nonneg_left w5 (Int.natCast_nonneg (40 ^ done.length))
     exact Int.le_trans le (Int.le_trans k1 k2)
  ·rintro ρ ⟨done,todo,e,exs,B,u,⟨h1,h2,h3⟩,rfl⟩
   have:todo=[]:=by cases todo with | nil=>rfl | cons _ _=>cases exs
   subst this
   rw[List.append_nil] at e
   subst e
   exact hK _ ⟨B,u,⟨h1,h2,Int.le_trans h3 (Int.ofNat_le.mpr (Nat.pow_le_pow_right (by decide) hl))⟩,rfl⟩
 rintro ρ ⟨B,u,⟨h1,h2,h3⟩,rfl⟩
 walk_at "rd"
 exact q B h1 h2 (BL.of_lt (by omega) (Int.lt_of_le_of_lt h3 (by decide)))
structure SdB (s:bJ):Prop where
 x1:BL 210 s.1.1
 y1:BL 210 s.1.2
 x2:BL 210 s.2.1
 y2:BL 210 s.2.2
noncomputable def F_hgt:FD:=λds Q=>∃(s:bJ) (t B:Int),ds=[sdD s,.int t,.int B]/\(SdB s/\wid s≠0/\BL 212 t/\BL 60 B)/\Q (.int (hB B s t))
theorem len_hgt:∀ds Q,F_hgt ds Q->ds.length=3:=by rintro ds Q ⟨_,_,_,rfl,_⟩;rfl
theorem pure_height_at:∀ds Q,F_hgt ds Q->eD qA { nx:=λ_=>Q .non,rt:=Q } (aO ["side","thread","bottom","left","width","climb"] ds):=by
 rintro ds Q ⟨s,t,B,rfl,⟨b,w0,bt,bB⟩,q⟩
 rw[aS 3 rfl]
 unfold eD
 have bw:BL 211 (wid s):=b.x2.sub b.x1
 refine aJ (λρ=>ρ=[some (.d (sdD s)),some (.d (.int t)),some (.d (.int B)),some (.d (pt s.1)),none,none]) (λK hK=>?_) ?_
 ·walk_at "rd"
  exact hK _ rfl
 rintro ρ rfl
 refine aJ (λρ=>ρ=[some (.d (sdD s)),some (.d (.int t)),some (.d (.int B)),some (.d (pt s.1)),some (.d (.int (wid s))),none]) (λK hK=>?_) ?_
 ·simp only[bD,aU,aB,aG,aK,List.getElem?_cons_zero,List.getElem?_cons_succ,List.set_cons_zero,List.set_cons_succ]
  exact⟨s,rfl,hK _ rfl⟩
 rintro ρ rfl
 walk_at "rd"
 refine⟨(b.y2.sub b.y1).mulOk (bt.sub b.x1),b.y1.mulOk bw,(bw.mono (by decide)).divOk w0,?_,q⟩
 exact ((b.y1.mul bw).add ((b.y2.sub b.y1).mul (bt.sub b.x1))).mulOk (bB.fdiv)
structure SdsOk (S:List bJ) (c B:Int):Prop where
 len:S.length<=10
 bd:∀s∈S,SdB s
 ok:∀s∈S,0<wid s
 cb:BL 210 c
 pos:0<B
 dv:∀s∈S,wid s∣B
 bB:BL 60 B
noncomputable def F_ordH:FD:=λds Q=>∃(S:List bJ) (c B:Int),ds=[gT S,.int c,.int B]/\SdsOk S c B/\(∀x∈S.map (prB B c),∀y∈S.map (prB B c),x.1<y.1->x.2<=y.2)/\∀M:List IP,M.Perm (S.map (prB B c))->eE M->Q (pts M)
theorem len_ordH:∀ds Q,F_ordH ds Q->ds.length=3:=by rintro ds Q ⟨_,_,_,rfl,_⟩;rfl
theorem pure_ordered_heights:∀ds Q,F_ordH ds Q->bY F_hgt { nx:=λ_=>Q .non,rt:=Q } (aO ["sides","column","bottom","heights","lower","upper"] ds):=by
 rintro ds Q ⟨Sd,c,B,rfl,ok,unc,q⟩
 rw[aS 3 rfl]
 unfold bY
 refine aJ (λρ=>ρ=[some (.d (gT Sd)),some (.d (.int c)),some (.d (.int B)),some (.own ((Sd.map (prB B c)).map pt)),none,none]) (λK hK=>?_) ?_
 ·walk_at "rd"
  refine⟨bL (by rw[List.length_map];have:=ok.len;omega),?_⟩
  refine dC (λρ=>∃a,ρ=[a,some (.d (.int c)),some (.d (.int B))]) sdD (λs=>pt (prB B c s)) Sd ?_ ⟨_,rfl⟩ ?_
  ·rintro s hs ρ ⟨a,rfl⟩ K' hK'
   walk_at "rd"
   have w0:=ok.ok s hs
   refine⟨s,c,B,rfl,⟨ok.bd s hs,by omega,ok.cb.mono (by decide),ok.bB⟩,s,c+1,B,rfl,⟨ok.bd s hs,by omega,((ok.cb.add (BL.const (n:=1) (i:=1))).mono (by decide)),ok.bB⟩,?_⟩
   walk_at "rd"
   exact hK' _ ⟨_,rfl⟩
  ·have e:Sd.map (λs=>pt (prB B c s))=(Sd.map (prB B c)).map pt:=by rw[List.map_map];rfl
   rw[e]
   exact hK _ rfl
 rintro ρ rfl
 refine aJ (λρ=>∃M:List IP,(M.Perm (Sd.map (prB B c))/\eE M)/\ρ=[some (.d (gT Sd)),some (.d (.int c)),some (.d (.int B)),some (.own (M.map pt)),none,none]) (λK hK=>?_) ?_
 ·simp only[dE,yP,aD,List.getElem?_cons_zero,List.getElem?_cons_succ,List.set_cons_zero,List.set_cons_succ]
  refine⟨(Sd.map (prB B c)).map λz=>[z.1,z.2],by rw[List.map_map (g:=dM)];rfl,by rw[List.length_map,List.length_map];have:=ok.len;omega,λns h=>?_,λmss pm ps=>?_⟩
  ·obtain⟨z,_,rfl⟩:=List.mem_map.mp h
   exact λe=>by cases e
  ·obtain⟨M,h1,h2,h3⟩:=BP pm ps
   rw[h2]
   exact hK _ ⟨M,⟨h1,BI h3 λx hx y hy=>unc x (h1.mem_iff.mp hx) y (h1.mem_iff.mp hy)⟩,rfl⟩
 rintro ρ ⟨M,⟨pm,up⟩,rfl⟩
 refine aJ (λρ=>∃u v,ρ=[some (.d (gT Sd)),some (.d (.int c)),some (.d (.int B)),some (.d (pts M)),u,v]) (λK hK=>?_) ?_
 ·simp only[dY,L2.R2.S.fz,cL,iN,aK,aD,nQ,iH,cZ,rC,List.getElem?_cons_zero,List.getElem?_cons_succ,List.set_cons_zero,List.set_cons_succ]
  have zz:∃ps:List (IP × IP),List.zipWith (λa b=>D.tup [a,b]) (M.map pt) (gW (M.map pt) (some 1) none)=ps.map (λp=>D.tup [pt p.1,pt p.2])/\∀p∈ps,p.1.2<=p.2.2:=by
   have c1:gW (M.map pt) (some 1) none=(M.drop 1).map pt:=by
    cases M with
    | nil=>rfl
    | cons a r=>exact mC (j:=1) (by simp)
   rw[c1]
   clear c1 pm hK
   induction M with
   | nil=>exact⟨[],rfl,λp h=>(by cases h)⟩
   | cons a r ih =>
    cases r with
    | nil=>exact⟨[],rfl,λp h=>(by cases h)⟩
    | cons b r =>
     obtain⟨ps,h1,h2⟩:=ih (List.pairwise_cons.mp up).2
     refine⟨(a,b)::ps,?_,λp hp=>?_⟩
     ·show D.tup [pt a,pt b]::List.zipWith (λa b=>D.tup [a,b]) ((b::r).map pt) (((b::r).drop 1).map pt)=_
      rw[h1];rfl
     ·rcases List.mem_cons.mp hp with rfl | hp
      ·exact ((List.pairwise_cons.mp up).1 b (.head _)).2
      ·exact h2 p hp
  obtain⟨ps,e1,e2⟩:=zz
  rw[e1]
  refine cR (λxs ρ=>∃todo:List (IP × IP),(∀p∈todo,p.1.2<=p.2.2)/\xs=todo.map (λp=>D.tup [pt p.1,pt p.2])/\∃u v,ρ=[some (.d (gT Sd)),some (.d (.int c)),some (.d (.int B)),some (.d (pts M)),u,v]) ?_ ?_ _ _ ⟨ps,e2,rfl,_,_,rfl⟩
  ·rintro x xs ρ ⟨todo,ht,exs,u,v,rfl⟩ F hr hb hn hc
   cases todo with
   | nil=>cases exs
   | cons p todo =>
    rw[List.map_cons] at exs
    injection exs with ex exs
    subst ex exs
    have le:=ht p (.head _)
    unfold dH
    walk_at "rd"
    have:¬p.2.2<p.1.2:=by omega
    simp only[this,decide_false,if_false,Bool.false_eq_true]
    exact hn _ ⟨todo,λz hz=>ht z (.tail _ hz),rfl,_,_,rfl⟩
  ·rintro ρ ⟨todo,ht,exs,u,v,rfl⟩
   exact hK _ ⟨u,v,rfl⟩
 rintro ρ ⟨u,v,rfl⟩
 simp only[dY,L2.R2.S.fz,bX,aK,List.getElem?_cons_zero,List.getElem?_cons_succ,List.set_cons_zero,List.set_cons_succ]
 exact q M pm up
structure ColIn (S:List bJ) (c:Int):Prop where
 len:S.length<=10
 bd:∀s∈S,SdB s
 ok:∀s∈S,0<wid s
 wide:∀s∈S,wid s<=40
 cb:BL 210 c
 unc:∀B,0<B->(∀s∈S,wid s∣B)->∀x∈S.map (prB B c),∀y∈S.map (prB B c),x.1<y.1->x.2<=y.2
structure ColB (S:List bJ) (c:Int) (B:Int) (M:List IP) (rows:List D):Prop where
 pos:0<B
 dv:∀s∈S,wid s∣B
 bB:BL 60 B
 perm:M.Perm (S.map (prB B c))
 up:eE M
 rows:RowsOf B c (kept M) rows
inductive AllB (Sd:List bJ):List Int->List D->Prop
 | nil:AllB Sd [] []
 | cons {c B:Int} {M:List IP} {r rows:List D} {cs:List Int} (h:ColB (Sd.filter (cov c)) c B M r) (t:AllB Sd cs rows):AllB Sd (c::cs) (r++rows)
theorem AllB.snoc {Sd:List bJ} {cs:List Int} {rows:List D} (t:AllB Sd cs rows) {c B:Int} {M:List IP} {r:List D} (h:ColB (Sd.filter (cov c)) c B M r):AllB Sd (cs++[c]) (rows++r):=by
 induction t with
 | nil=>have:=AllB.cons h .nil;simpa using this
 | cons h' _ ih=>rw[List.append_assoc];exact .cons h' ih
theorem ColB.rlen {Sd:List bJ} {c B:Int} {M:List IP} {r:List D} (h:ColB Sd c B M r):r.length<=Sd.length:=by
 rw[<-h.rows.length]
 have h1:=List.length_filter_le (λz:IP × IP=>decide (z.1≠z.2)) (fC M)
 have h2:=lV M
 have h3:=h.perm.length_eq
 rw[List.length_map] at h3
 show ((fC M).filter λz=>decide (z.1≠z.2)).length<=_
 omega
theorem AllB.rlen {Sd:List bJ} {cs:List Int} {rows:List D} (t:AllB Sd cs rows):rows.length<=cs.length*Sd.length:=by
 induction t with
 | nil=>exact Nat.zero_le _
 | @cons c B M r rows cs h t ih =>
  have h1:=h.rlen
  have h2:=List.length_filter_le (cov c) Sd
  rw[List.length_append,List.length_cons,Nat.succ_mul];omega
noncomputable def F_colB:FD:=λds Q=>∃(S:List bJ) (c:Int),ds=[gT S,.int c]/\ColIn S c/\∀B M rows,ColB S c B M rows->Q (.lst rows)
theorem len_colB:∀ds Q,F_colB ds Q->ds.length=2:=by rintro ds Q ⟨_,_,rfl,_⟩;rfl
theorem pure_column_bands_G {G:FD} (hG:∀ds Q,F_lowm ds Q->G ds Q):∀ds Q,F_colB ds Q->cF G F_ordH aZ qA { nx:=λ_=>Q .non,rt:=Q } (aO ["sides","column","bottom","heights","rows","low","up","edges"] ds):=by
 rintro ds Q ⟨Sd,c,rfl,ok,q⟩
 rw[aS 6 rfl]
 unfold cF
 refine aJ (λρ=>∃B,(0<B/\(∀s∈Sd,wid s∣B)/\BL 60 B)/\ρ=[some (.d (gT Sd)),some (.d (.int c)),some (.d (.int B)),none,none,none,none,none]) (λK hK=>?_) ?_
 ·walk_at "rd"
  refine⟨bL (by rw[List.length_map];have:=ok.len;omega),?_⟩
  refine dC (λρ=>∃a,ρ=[a]) sdD (λs=>.int (wid s)) Sd ?_ ⟨_,rfl⟩ ?_
  ·rintro s hs ρ ⟨a,rfl⟩ K' hK'
   simp only[aR,aU,aB,aG,aK,List.getElem?_cons_zero,List.set_cons_zero]
   exact⟨s,rfl,hK' _ ⟨_,rfl⟩⟩
  ·refine hG _ _ ⟨Sd.map wid,by show _=[D.lst ((Sd.map wid).map .int)];rw[List.map_map];rfl,by rw[List.length_map];exact ok.len,λw hw=>?_,λB h1 h2 h3=>?_⟩
   ·obtain⟨s,hs,rfl⟩:=List.mem_map.mp hw
    exact⟨ok.ok s hs,ok.wide s hs⟩
   ·exact hK _ ⟨B,⟨h1,λs hs=>h2 _ (List.mem_map_of_mem hs),h3⟩,rfl⟩
 rintro ρ ⟨B,⟨hB0,hdv,bB⟩,rfl⟩
 refine aJ (λρ=>∃M:List IP,(M.Perm (Sd.map (prB B c))/\eE M)/\ρ=[some (.d (gT Sd)),some (.d (.int c)),some (.d (.int B)),some (.d (pts M)),none,none,none,none]) (λK hK=>?_) ?_
 ·simp only[bD,aU,aB,aG,aK,List.getElem?_cons_zero,List.getElem?_cons_succ,List.set_cons_zero,List.set_cons_succ]
  exact⟨Sd,c,B,rfl,⟨ok.len,ok.bd,ok.ok,ok.cb,hB0,hdv,bB⟩,ok.unc B hB0 hdv,λM pm up=>hK _ ⟨M,⟨pm,up⟩,rfl⟩⟩
 rintro ρ ⟨M,⟨pm,up⟩,rfl⟩
 have ml:M.length<=10:=by rw[pm.length_eq,List.length_map];exact ok.len
 refine aJ (λρ=>ρ=[some (.d (gT Sd)),some (.d (.int c)),some (.d (.int B)),some (.d (pts M)),some (.own []),none,none,none]) (λK hK=>?_) ?_
 ·walk_at "rd"
  exact hK _ rfl
 rintro ρ rfl
 refine aJ (λρ=>∃rows u v w,RowsOf B c (kept M) rows/\ρ=[some (.d (gT Sd)),some (.d (.int c)),some (.d (.int B)),some (.d (pts M)),some (.own rows),u,v,w]) (λK hK=>?_) ?_
 ·simp only[cL,iN,DN,aD,List.getElem?_cons_zero,List.getElem?_cons_succ]
  rw[yW M]
  have tl:(fC M).length<=10:=Nat.le_trans (lV M) ml
  generalize hT:fC M=T at tl
  refine cR (λxs ρ=>∃done todo:List (IP × IP),T=done++todo/\xs=todo.map (λz=>D.tup [pt z.1,pt z.2])/\∃rows u v w,RowsOf B c (done.filter λz=>decide (z.1≠z.2)) rows/\ρ=[some (.d (gT Sd)),some (.d (.int c)),some (.d (.int B)),some (.d (pts M)),some (.own rows),u,v,w]) ?_ ?_ _ _ ⟨[],T,rfl,rfl,[],none,none,none,.nil,rfl⟩
  ·rintro x xs ρ ⟨done,todo,eT,exs,rows,u,v,w,hR,rfl⟩ F hr hb hn hc
   cases todo with
   | nil=>cases exs
   | cons z todo =>
    rw[List.map_cons] at exs
    injection exs with ex exs
    subst ex exs
    have rl:rows.length<=10:=by
     rw[<-hR.length]
     have h1:=List.length_filter_le (λz:IP × IP=>decide (z.1≠z.2)) done
     rw[eT] at tl;simp at tl;omega
    unfold fB
    simp only[fX,cE,aR,fW,vK,List.set_cons_zero,List.set_cons_succ,List.length_cons,List.length_nil,true_and]
    simp only[gB,cD,r2,aD,dNe,List.getElem?_cons_zero,List.getElem?_cons_succ,JY,true_and]
    by_cases hz:z.1=z.2
    ·simp only[hz,decide_true,Bool.not_true,Bool.false_eq_true,if_false,cW]
     refine hn _ ⟨done++[z],todo,by rw[eT];simp,rfl,rows,some (.d (pt z.2)),some (.d (pt z.2)),w,?_,rfl⟩
     rw[List.filter_append]
     simpa [hz] using hR
    ·simp only[hz,decide_false,Bool.not_false,if_true]
     refine aJ (λρ=>∃p1 q1 p2 q2 p3 q3 p4 q4,(Low z.1.1 B p1 q1/\Low z.1.2 B p2 q2/\Low z.2.1 B p3 q3/\Low z.2.2 B p4 q4)/\ρ=[some (.d (gT Sd)),some (.d (.int c)),some (.d (.int B)),some (.d (pts M)),some (.own rows),some (.d (pt z.1)),some (.d (pt z.2)),some (.own [fr p1 q1,fr p2 q2,fr p3 q3,fr p4 q4])]) (λK' hK'=>?_) ?_
     ·have bb:B≠0/\BL 9000 B:=⟨by omega,bB.mono (by decide)⟩
      walk_at "rd"
      refine⟨by simp,?_⟩
      refine⟨_,_,rfl,bb,λp1 q1 l1=>⟨_,_,rfl,bb,λp2 q2 l2=>⟨_,_,rfl,bb,λp3 q3 l3=>⟨_,_,rfl,bb,λp4 q4 l4=>?_⟩⟩⟩⟩
      exact hK' _ ⟨p1,q1,p2,q2,p3,q3,p4,q4,⟨l1,l2,l3,l4⟩,rfl⟩
     rintro ρ ⟨p1,q1,p2,q2,p3,q3,p4,q4,⟨l1,l2,l3,l4⟩,rfl⟩
     walk_at "rd"
     refine⟨bL (by decide),bL (by omega),?_⟩
     refine hn _ ⟨done++[z],todo,by rw[eT];simp,rfl,rows++[.tup [.int c,fr p1 q1,fr p2 q2,fr p3 q3,fr p4 q4]],some (.d (pt z.1)),some (.d (pt z.2)),some (.own [fr p1 q1,fr p2 q2,fr p3 q3,fr p4 q4]),?_,rfl⟩
     rw[List.filter_append]
     have e:[z].filter (λz:IP × IP=>decide (z.1≠z.2))=[z]:=by simp[hz]
     rw[e]
     exact hR.snoc ⟨p1,q1,p2,q2,p3,q3,p4,q4,⟨l1,l2,l3,l4⟩,rfl⟩
  ·rintro ρ ⟨done,todo,eT,exs,rows,u,v,w,hR,rfl⟩
   have:todo=[]:=by cases todo with | nil=>rfl | cons _ _=>cases exs
   subst this
   rw[List.append_nil] at eT
   refine hK _ ⟨rows,u,v,w,?_,rfl⟩
   show RowsOf B c ((fC M).filter λz=>decide (z.1≠z.2)) rows
   rw[hT,eT];exact hR
 rintro ρ ⟨rows,u,v,w,hR,rfl⟩
 simp only[dY,L2.R2.S.fz,bX,aK,List.getElem?_cons_zero,List.getElem?_cons_succ,List.set_cons_zero,List.set_cons_succ]
 exact q B M rows ⟨hB0,hdv,bB,pm,up,hR⟩
end K23
namespace K23
theorem iS:∀(x y:List Pt) (a:Pt),cA a (x++y)=cA a x++cA (oH a x) y
 | [],y,a=>rfl
 | b::x,y,a=>by
  show sd a b++cA b (x++y)=(sd a b++cA b x)++cA (oH b x) y
  rw[iS x y b,List.append_assoc]
theorem FO (a b:Pt):sd a b=sd b a:=by
 unfold sd
 rcases Int.lt_trichotomy a.1 b.1 with h | h | h
 ·rw[if_pos h,if_neg (by omega),if_pos h]
 ·rw[if_neg (by omega),if_neg (by omega),if_neg (by omega),if_neg (by omega)]
 ·rw[if_neg (by omega),if_pos h,if_pos h]
theorem FP {a b:Pt} (h:a.1=b.1):sd a b=[]:=by unfold sd;rw[if_neg (by omega),if_neg (by omega)]
theorem uS:∀(r:List Pt) (a z:Pt),(cA a (r++[z])).Perm (cA z (r.reverse++[a]))
 | [],a,z=>by
  show (sd a z++[]).Perm (sd z a++[])
  rw[FO]
 | b::r,a,z=>by
  rw[List.reverse_cons,iS (r.reverse++[b]) [a],jS]
  show (sd a b++cA b (r++[z])).Perm (_++(sd b a++[]))
  rw[List.append_nil,FO b a]
  exact (List.Perm.append_left _ (uS r b z)).trans List.perm_append_comm
theorem wV (a b:Pt) (r1 r2:List Pt):bP ((a::r1)++(b::r2))=cA a (r1++[b])++cA b (r2++[a]):=by
 show cA a ((r1++b::r2)++[a])=_
 rw[show (r1++b::r2)++[a]=(r1++[b])++(r2++[a]) by simp,iS,jS]
theorem wU (l1 l2:List Pt):(bP (l1++l2)).Perm (bP (l2++l1)):=by
 cases l1 with
 | nil=>rw[List.append_nil];exact .refl _
 | cons a r1 =>
  cases l2 with
  | nil=>rw[List.append_nil];exact .refl _
  | cons b r2=>rw[wV,wV];exact List.perm_append_comm
theorem wT (l:List Pt):(bP l.reverse).Perm (bP l):=by
 cases l with
 | nil=>exact .refl _
 | cons a r =>
  rw[List.reverse_cons]
  refine (wU r.reverse [a]).trans ?_
  exact (uS r a a).symm
theorem EG {u d:Pt} {us ds:List Pt} (h0:u.1=d.1) (h1:(oH u us).1=(oH d ds).1):(bP ((u::us)++(d::ds).reverse)).Perm (cA u us++cA d ds):=by
 have e:bP ((u::us)++(d::ds).reverse)=cA u us++(cA (oH u us) (ds.reverse++[d])++cA d [u]):=by
  show cA u ((us++(d::ds).reverse)++[u])=_
  rw[List.reverse_cons,List.append_assoc,iS us,iS (ds.reverse++[d]) [u],jS]
 rw[e,show cA d [u]=sd d u++[] from rfl,FP h0.symm,List.append_nil,List.append_nil]
 refine List.Perm.append_left _ ((uS ds d (oH u us)).symm.trans ?_)
 rw[iS ds [oH u us],show cA (oH d ds) [oH u us]=sd (oH d ds) (oH u us)++[] from rfl,FP h1.symm,List.append_nil,List.append_nil]
noncomputable def T (ts:List Int) (i:Nat):Int:=ts.getD i 0
noncomputable def Hh (hss:List (List Int)) (z j:Nat):Int:=(hss.getD z []).getD j 0
noncomputable def jY (ts:List Int) (hss:List (List Int)) (j z:Nat):Pt:=(T ts z,Hh hss z j)
noncomputable def crv (ts:List Int) (hss:List (List Int)) (j:Nat):List Pt:=(List.range ts.length).map (jY ts hss j)
noncomputable def sdz (ts:List Int) (hss:List (List Int)) (z j:Nat):bJ:=(jY ts hss j z,jY ts hss j (z+1))
noncomputable def csd (ts:List Int) (hss:List (List Int)) (j:Nat):List bJ:=(List.range (ts.length-1)).map λz=>sdz ts hss z j
theorem tG (f:Nat->Pt):∀m:Nat,oH (f 0) ((List.range m).map λk=>f (k+1))=f m
 | 0=>rfl
 | m+1=>by rw[List.range_succ,List.map_append];exact jS _ _ _
theorem BY (f:Nat->Pt):∀m:Nat,(∀k,k<m->(f k).1<(f (k+1)).1)->cA (f 0) ((List.range m).map λk=>f (k+1))=(List.range m).map λk=>(f k,f (k+1))
 | 0,_=>rfl
 | m+1,h=>by
  rw[List.range_succ,List.map_append,List.map_append,iS,BY f m (λk hk=>h k (by omega)),tG]
  show _++(sd (f m) (f (m+1))++[])=_
  unfold sd
  rw[if_pos (h m (by omega))];rfl
theorem RC {ts:List Int} {i:Nat} {a:Int} (h:ts[i]? = some a):T ts i=a:=by unfold T;rw[List.getD_eq_getElem?_getD,h];rfl
theorem gJ {ts:List Int} {i:Nat} (h:i<ts.length):ts[i]? = some (T ts i):=by unfold T;rw[List.getD_eq_getElem?_getD,List.getElem?_eq_getElem h];rfl
theorem uO {ts:List Int} (h:Thr ts) {i:Nat} (hi:i+1<ts.length):1<=T ts (i+1)-T ts i/\T ts (i+1)-T ts i<=40 :=
 h.step i _ _ (gJ (by omega)) (gJ hi)
theorem lG {ts:List Int} (h:Thr ts) {i:Nat}:∀{j:Nat},i<=j->j<ts.length->T ts i<=T ts j
 | 0,h1,_=>by rw[show i=0 by omega];exact Int.le_refl _
 | j+1,h1,h2=>by
  by_cases e:i=j+1
  ·rw[e];exact Int.le_refl _
  ·have:=lG h (i:=i) (j:=j) (by omega) (by omega)
   have:=uO h h2
   omega
theorem zN {ts:List Int} {hss:List (List Int)} {j:Nat} (h:2<=ts.length):crv ts hss j=jY ts hss j 0::(List.range (ts.length-1)).map λk=>jY ts hss j (k+1):=by
 unfold crv
 obtain⟨m,hm⟩:∃m,ts.length=m+1:=⟨ts.length-1,by omega⟩
 rw[hm,List.range_succ_eq_map,List.map_cons,List.map_map];rfl
theorem EF {ts:List Int} {hss:List (List Int)} (h:Thr ts) (a b:Nat):(bP (crv ts hss a++(crv ts hss b).reverse)).Perm (csd ts hss a++csd ts hss b):=by
 have hl:=h.len
 rw[zN (j:=a) hl.1,zN (j:=b) hl.1]
 refine (EG (u:=jY ts hss a 0) (d:=jY ts hss b 0) (show T ts 0=T ts 0 from rfl) ?_).trans ?_
 ·rw[tG (jY ts hss a),tG (jY ts hss b)];rfl
 ·have k:∀j,cA (jY ts hss j 0) ((List.range (ts.length-1)).map λk=>jY ts hss j (k+1))=csd ts hss j:=λj =>
   BY (jY ts hss j) _ λk hk=>by have:=uO h (i:=k) (by omega);show T ts k<T ts (k+1);omega
  rw[k a,k b]
theorem tJ (z:Nat):∀m:Nat,z<m->(List.range m).filter (λk=>decide (k=z))=[z]
 | 0,h=>by omega
 | m+1,h=>by
  rw[List.range_succ,List.filter_append]
  by_cases e:z<m
  ·rw[tJ z m e]
   have:¬m=z:=by omega
   simp[this]
  ·have e2:m=z:=by omega
   have e3:(List.range m).filter (λk=>decide (k=z))=[]:=List.filter_eq_nil_iff.mpr λk hk=>by
    have:=List.mem_range.mp hk
    simp;omega
   rw[e3];simp[e2]
structure Zn (ts:List Int) (c:Int) (z:Nat):Prop where
 z1:z+1<ts.length
 lo:T ts z<=c
 hi:c<T ts (z+1)
theorem ES {ts:List Int} {hss:List (List Int)} {c:Int} {z:Nat} (h:Thr ts) (Z:Zn ts c z) (j:Nat):(csd ts hss j).filter (cov c)=[sdz ts hss z j]:=by
 unfold csd
 rw[List.filter_map]
 have e:∀k∈List.range (ts.length-1),((cov c) ∘ λz=>sdz ts hss z j) k=decide (k=z):=λk hk=>by
  have hk:=List.mem_range.mp hk
  have hz:=Z.z1
  have z2:=Z.lo
  have z3:=Z.hi
  show (decide (T ts k<=c) && decide (c<T ts (k+1)))=_
  by_cases e:k=z
  ·subst e;rw[decide_eq_true z2,decide_eq_true z3,decide_eq_true rfl];rfl
  ·rw[decide_eq_false e]
   by_cases l:k<z
   ·have:=lG h (i:=k+1) (j:=z) (by omega) (by omega)
    rw[decide_eq_false (show ¬c<T ts (k+1) by omega),Bool.and_false]
   ·have:=lG h (i:=z+1) (j:=k) (by omega) (by omega)
    rw[decide_eq_false (show ¬T ts k<=c by omega),Bool.false_and]
 rw[List.filter_congr e,tJ z _ (by have:=Z.z1;omega)];rfl
theorem qG {α:Type} (p:α->Bool):∀L:List (List α),(L.flatten).filter p=(L.map λl=>l.filter p).flatten
 | []=>rfl
 | l::L=>by rw[List.flatten_cons,List.filter_append,qG p L];rfl
theorem qH {α β:Type} (f:α->β):∀L:List α,(L.map λx=>[f x]).flatten=L.map f
 | []=>rfl
 | x::L=>by rw[List.map_cons,List.flatten_cons,qH f L];rfl
theorem JB {ts:List Int} {hss:List (List Int)} {c:Int} {z:Nat} (h:Thr ts) (Z:Zn ts c z) (L:List Nat):((L.map (csd ts hss)).flatten).filter (cov c)=L.map λj=>sdz ts hss z j:=by
 rw[qG,List.map_map]
 have:((λl:List bJ=>l.filter (cov c)) ∘ csd ts hss)=λj=>[sdz ts hss z j]:=funext λj=>ES h Z j
 rw[this,qH]
end K23
namespace K23
noncomputable def Wd (ts:List Int) (z:Nat):Int:=T ts (z+1)-T ts z
noncomputable def hp (ts:List Int) (hss:List (List Int)) (z:Nat) (k:Int) (j:Nat):IP:=(lin (Wd ts z) k (Hh hss z j) (Hh hss (z+1) j),lin (Wd ts z) (k+1) (Hh hss z j) (Hh hss (z+1) j))
noncomputable def LL (ts:List Int) (hss:List (List Int)) (n z:Nat) (k:Int):List IP:=(List.range (2*n)).map (hp ts hss z k)
noncomputable def scl (f:Int) (z:IP):IP:=(z.1*f,z.2*f)
theorem PC {ts:List Int} {hss:List (List Int)} (B c:Int) (z j:Nat):prB B c (sdz ts hss z j)=scl (B.fdiv (Wd ts z)) (hp ts hss z (c-T ts z) j):=by
 unfold prB hB scl hp sdz wid jY Wd lin
 dsimp only
 congr 1
 ·congr 1;grind
 ·congr 1;grind
theorem sC {ts:List Int} {hss:List (List Int)} {n:Nat} (C:Curves ts hss n) {z i j:Nat} (hz:z<ts.length) (hij:i<j) (hj:j<2*n):Hh hss z i<=Hh hss z j:=by
 have hl:=C.len
 have e:hss[z]? = some (hss.getD z []):=by rw[List.getD_eq_getElem?_getD,List.getElem?_eq_getElem (by omega)];rfl
 unfold Hh
 obtain⟨A,eA⟩:∃A,hss.getD z []=A:=⟨_,rfl⟩
 rw[eA] at e ⊢
 have hm:=List.mem_of_getElem? e
 have l:=C.each _ hm
 have:=List.pairwise_iff_getElem.mp (C.up _ hm) i j (by omega) (by omega) hij
 rw[List.getD_eq_getElem?_getD,List.getElem?_eq_getElem (show i<A.length by omega),List.getD_eq_getElem?_getD,List.getElem?_eq_getElem (show j<A.length by omega)]
 exact this
theorem AJ {W k a b a' b':Int} (h0:0<=k) (h1:k<=W) (ha:a<=a') (hb:b<=b'):lin W k a b<=lin W k a' b':=by
 unfold lin
 have k1:=Int.mul_le_mul_of_nonneg_right ha (show 0<=W-k by omega)
 have k2:=Int.mul_le_mul_of_nonneg_right hb h0
 omega
theorem UQ {ts:List Int} {hss:List (List Int)} {n z:Nat} {k:Int} (C:Curves ts hss n) (hz:z+1<ts.length) (k0:0<=k) (k1:k+1<=Wd ts z):eE (LL ts hss n z k):=by
 unfold LL eE
 rw[List.pairwise_map]
 refine (List.pairwise_lt_range (n:=2*n)).imp_of_mem λ{i j} hi hj hij=>?_
 have hj:=List.mem_range.mp hj
 have m0:=sC C (show z<ts.length by omega) hij hj
 have m1:=sC C hz hij hj
 exact⟨AJ k0 (by omega) m0 m1,AJ (by omega) k1 m0 m1⟩
theorem TZ {L:List IP} {f:Int} (hf:0<=f) (h:eE L):eE (L.map (scl f)):=by
 unfold eE
 rw[List.pairwise_map]
 exact h.imp λ{x y} e=>⟨Int.mul_le_mul_of_nonneg_right e.1 hf,Int.mul_le_mul_of_nonneg_right e.2 hf⟩
theorem PM {M X:List IP} (p:M.Perm X) (h1:eE M) (h2:eE X):M=X :=
 List.Perm.eq_of_pairwise (λa b _ _ h h'=>Prod.ext (Int.le_antisymm h.1 h'.1) (Int.le_antisymm h.2 h'.2)) h1 h2 p
theorem MH {L:List IP} (h:eE L):∀x∈L,∀y∈L,x.1<y.1->x.2<=y.2:=by
 induction L with
 | nil=>intro x hx;cases hx
 | cons a L ih =>
  obtain⟨h1,h2⟩:=List.pairwise_cons.mp h
  intro x hx y hy l
  rcases List.mem_cons.mp hx with rfl | _
  ·rcases List.mem_cons.mp hy with rfl | hy
   ·omega
   ·exact (h1 y hy).2
  ·rename_i hx'
   rcases List.mem_cons.mp hy with e | hy'
   ·have:=(h1 x hx').1;rw[e] at l;omega
   ·exact ih h2 x hx' y hy' l
theorem wD (x:IP) (Y:List IP):∀X:List IP,kept (X++x::x::x::Y)=kept (X++x::Y)
 | []=>by
  unfold kept
  cases Y with
  | nil=>simp[fC]
  | cons y Y=>simp[fC]
 | [a]=>by
  unfold kept
  simp only[List.cons_append,List.nil_append,fC,List.filter_cons]
  simp
 | a::b::X=>by
  have ih:=wD x Y X
  unfold kept at *
  simp only[List.cons_append,fC,List.filter_cons]
  rw[ih]
theorem HY {x:IP} {X Y:List IP} (h:eE (X++x::Y)):eE (X++x::x::x::Y):=by
 obtain⟨h1,h2,h3⟩:=List.pairwise_append.mp h
 obtain⟨h4,h5⟩:=List.pairwise_cons.mp h2
 have r:x.1<=x.1/\x.2<=x.2:=⟨Int.le_refl _,Int.le_refl _⟩
 refine List.pairwise_append.mpr ⟨h1,?_,λa ha b hb=>?_⟩
 ·refine List.pairwise_cons.mpr ⟨λb hb=>?_,List.pairwise_cons.mpr ⟨λb hb=>?_,h2⟩⟩
  ·rcases List.mem_cons.mp hb with rfl | hb
   ·exact r
   ·rcases List.mem_cons.mp hb with rfl | hb
    ·exact r
    ·exact h4 b hb
  ·rcases List.mem_cons.mp hb with rfl | hb
   ·exact r
   ·exact h4 b hb
 ·refine h3 a ha b ?_
  rcases List.mem_cons.mp hb with rfl | hb
  ·exact .head _
  ·rcases List.mem_cons.mp hb with rfl | hb
   ·exact .head _
   ·exact hb
theorem wE:∀(D:List IP) {M L:List IP},eE M->eE L->(∀x∈D,x∈L)->M.Perm (L++(D++D))->kept M=kept L
 | [],M,L,h1,h2,_,p=>by
  rw[List.append_nil,List.append_nil] at p
  rw[PM p h1 h2]
 | x::D,M,L,h1,h2,hd,p=>by
  obtain⟨X,Y,e⟩:=List.append_of_mem (hd x (.head _))
  have q:(L++[x,x]).Perm (X++x::x::x::Y):=by
   rw[e,List.append_assoc]
   refine List.Perm.append_left _ ?_
   show (x::(Y++[x,x])).Perm (x::x::x::Y)
   exact .cons _ (List.perm_append_comm (l₁:=Y) (l₂:=[x,x]))
  have p2:M.Perm ((X++x::x::x::Y)++(D++D)):=by
   refine p.trans (List.Perm.trans ?_ (List.Perm.append_right (D++D) q))
   rw[List.append_assoc]
   refine List.Perm.append_left _ ?_
   show (x::(D++x::D)).Perm (x::x::(D++D))
   exact .cons _ List.perm_middle
  have r:=wE D h1 (HY (by rw[<-e];exact h2)) (λy hy=>?_) p2
  ·rw[r,wD,<-e]
  ·have:=hd y (.tail _ hy)
   rw[e] at this
   rcases List.mem_append.mp this with h | h
   ·exact List.mem_append_left _ h
   ·exact List.mem_append_right _ (.tail _ (.tail _ h))
theorem BW {α β:Type} (f:α->β):∀L:List α,fC (L.map f)=(fC L).map λz=>(f z.1,f z.2)
 | []=>rfl
 | [x]=>rfl
 | x::y::r=>by rw[List.map_cons,List.map_cons,fC,fC,BW f r];rfl
theorem KI {f:Int} (hf:0<f) (L:List IP):kept (L.map (scl f))=(kept L).map λz=>(scl f z.1,scl f z.2):=by
 unfold kept
 rw[BW,List.filter_map]
 congr 1
 refine List.filter_congr λz _=>?_
 show decide (scl f z.1≠scl f z.2)=decide (z.1≠z.2)
 have:scl f z.1=scl f z.2↔z.1=z.2:=by
  constructor
  ·intro e
   have e1:=congrArg Prod.fst e
   have e2:=congrArg Prod.snd e
   exact Prod.ext (Int.eq_of_mul_eq_mul_right (by omega) e1) (Int.eq_of_mul_eq_mul_right (by omega) e2)
  ·intro e;rw[e]
 simp[this]
theorem sJ {a W f p q p' q':Int} (hW:0<W) (hf:0<f) (h:Low a W p q) (h':Low (a*f) (W*f) p' q'):p'=p/\q'=q :=
 K12.low_eq (Int.mul_pos hW hf) h' (h.scale hf hW)
theorem FK {W f c:Int} (hW:0<W) (hf:0<f):∀{zs:List (IP × IP)} {r r':List D},RowsOf W c zs r->RowsOf (W*f) c (zs.map λz=>(scl f z.1,scl f z.2)) r'->r'=r
 | [],_,_,h,h'=>by cases h;cases h';rfl
 | z::zs,_,_,h,h'=>by
  cases h with
  | cons h t =>
   cases h' with
   | cons h' t' =>
    obtain⟨p1,q1,p2,q2,p3,q3,p4,q4,⟨l1,l2,l3,l4⟩,rfl⟩:=h
    obtain⟨p1',q1',p2',q2',p3',q3',p4',q4',⟨m1,m2,m3,m4⟩,rfl⟩:=h'
    obtain⟨rfl,rfl⟩:=sJ hW hf l1 m1
    obtain⟨rfl,rfl⟩:=sJ hW hf l2 m2
    obtain⟨rfl,rfl⟩:=sJ hW hf l3 m3
    obtain⟨rfl,rfl⟩:=sJ hW hf l4 m4
    rw[FK hW hf t t']
end K23
namespace K23
structure BandsIn (R:List (List Pt)) (o:Int):Prop where
 rgs:RgsOk R
 near:∀s∈bF R,o<=s.1.1/\s.2.1<=o+60
 col:∀c,(∃s∈bF R,cov c s=true)->ColIn ((bF R).filter (cov c)) c
noncomputable def F_bands:FD:=λds Q=>∃(R:List (List Pt)) (o:Int),ds=[dB R]/\BandsIn R o/\∀cs rows,cs.Pairwise (· < ·)->(∀c,c∈cs↔∃s∈bF R,cov c s=true)->AllB (bF R) cs rows->Q (.lst rows)
theorem len_bands:∀ds Q,F_bands ds Q->ds.length=1:=by rintro ds Q ⟨_,_,rfl,_⟩;rfl
theorem AQ:∀(l m:List Int),l.Nodup->(∀x∈l,x∈m)->l.length<=m.length
 | [],m,_,_=>Nat.zero_le _
 | x::l,m,hn,hs=>by
  have hx:=hs x (.head _)
  have hn':=List.nodup_cons.mp hn
  have:=AQ l (m.erase x) hn'.2 λy hy=>(List.mem_erase_of_ne λ(e:y=x)=>hn'.1 (e ▸ hy)).mpr (hs y (.tail _ hy))
  rw[List.length_erase_of_mem hx] at this
  exact Nat.le_trans (Nat.succ_le_succ this) (Nat.le_of_eq (Nat.succ_pred_eq_of_pos (List.length_pos_of_mem hx)))
theorem KZ {ks:List Int} {o:Int} (hn:ks.Nodup) (h:∀c∈ks,o<=c/\c<o+60):ks.length<=60:=by
 have:=AQ ks ((List.range 60).map λk:Nat=>o+(k:Int)) hn λx hx=>by
  have:=h x hx
  exact List.mem_map.mpr ⟨(x-o).toNat,List.mem_range.mpr (by omega),by omega⟩
 rw[List.length_map,List.length_range] at this
 exact this
end K23
namespace K23
structure Cloth (ts:List Int) (hss:List (List Int)) (n:Nat) (R:List (List Pt)):Prop where
 len:R.length<=5
 each:∀g∈R,g.length<=10
 sides:∃I:List bJ,(bF R).Perm (((List.range (2*n)).map (csd ts hss)).flatten++(I++I))/\(∀s∈I,∃z j,(z+1<ts.length/\j<2*n)/\s=sdz ts hss z j)/\∀c,(I.filter (cov c)).length<=2
section
variable {ts:List Int} {hss:List (List Int)} {n:Nat} {R:List (List Pt)}
theorem sE {j:Nat} {s:bJ} (h:s∈csd ts hss j):∃z,z+1<ts.length/\s=sdz ts hss z j:=by
 obtain⟨z,hz,rfl⟩:=List.mem_map.mp h
 have:=List.mem_range.mp hz
 exact⟨z,by omega,rfl⟩
theorem Cloth.mem (K:Cloth ts hss n R) {s:bJ} (hs:s∈bF R):∃z j,(z+1<ts.length/\j<2*n)/\s=sdz ts hss z j:=by
 obtain⟨I,p,hI⟩:=K.sides
 rcases List.mem_append.mp (p.mem_iff.mp hs) with h | h
 ·obtain⟨l,hl,h⟩:=List.mem_flatten.mp h
  obtain⟨j,hj,rfl⟩:=List.mem_map.mp hl
  obtain⟨z,hz,rfl⟩:=sE h
  exact⟨z,j,⟨hz,List.mem_range.mp hj⟩,rfl⟩
 ·rcases List.mem_append.mp h with h | h <;> exact hI.1 s h
theorem Cloth.has (K:Cloth ts hss n R) {z j:Nat} (hz:z+1<ts.length) (hj:j<2*n):sdz ts hss z j∈bF R:=by
 obtain⟨I,p,hI⟩:=K.sides
 refine p.mem_iff.mpr (List.mem_append_left _ (List.mem_flatten.mpr ⟨csd ts hss j,List.mem_map_of_mem (List.mem_range.mpr hj),?_⟩))
 exact List.mem_map.mpr ⟨z,List.mem_range.mpr (by omega),rfl⟩
theorem IX (C:Curves ts hss n) {z:Nat} (hz:z<ts.length):BL 210 (T ts z):=(C.thr.bl _ (List.mem_of_getElem? (gJ hz))).mono (by decide)
theorem RK (C:Curves ts hss n) {z j:Nat} (hz:z<ts.length) (hj:j<2*n):BL 210 (Hh hss z j):=by
 have hl:=C.len
 have e:hss[z]? = some (hss.getD z []):=by rw[List.getD_eq_getElem?_getD,List.getElem?_eq_getElem (by omega)];rfl
 have hm:=List.mem_of_getElem? e
 refine C.bl _ hm _ ?_
 have:=C.each _ hm
 unfold Hh
 rw[List.getD_eq_getElem?_getD (l:=hss.getD z []),List.getElem?_eq_getElem (by omega)]
 exact List.getElem_mem _
theorem UB (C:Curves ts hss n) {z j:Nat} (hz:z+1<ts.length) (hj:j<2*n):SdB (sdz ts hss z j) :=
 ⟨IX C (by omega),RK C (by omega) hj,IX C hz,RK C hz hj⟩
theorem eG (C:Curves ts hss n) {z:Nat} (hz:z+1<ts.length):0<Wd ts z/\Wd ts z<=40:=by
 have:=uO C.thr hz
 unfold Wd
 omega
theorem Zn.uniq {c:Int} {z z':Nat} (h:Thr ts) (a:Zn ts c z) (b:Zn ts c z'):z=z':=by
 have a1:=a.z1;have a2:=a.lo;have a3:=a.hi
 have b1:=b.z1;have b2:=b.lo;have b3:=b.hi
 apply Nat.le_antisymm
 ·apply Nat.not_lt.mp
  intro l
  have:=lG h (i:=z'+1) (j:=z) (by omega) (by omega)
  omega
 ·apply Nat.not_lt.mp
  intro l
  have:=lG h (i:=z+1) (j:=z') (by omega) (by omega)
  omega
theorem Zn.of {c:Int} {z j:Nat} (hz:z+1<ts.length) (k:cov c (sdz ts hss z j)=true):Zn ts c z:=⟨hz,(gC.mp k).1,(gC.mp k).2⟩
theorem Zn.cov {c:Int} {z:Nat} (Z:Zn ts c z) (j:Nat):cov c (sdz ts hss z j)=true:=gC.mpr ⟨Z.lo,Z.hi⟩
theorem Cloth.col (C:Curves ts hss n) (K:Cloth ts hss n R) {c:Int} {z:Nat} (Z:Zn ts c z):∃I:List bJ,((bF R).filter (cov c)).Perm ((List.range (2*n)).map (λj=>sdz ts hss z j)++(I++I))/\I.length<=2/\∀s∈I,∃j,j<2*n/\s=sdz ts hss z j:=by
 obtain⟨I,p,h1,h2⟩:=K.sides
 have q:=p.filter (cov c)
 rw[List.filter_append,List.filter_append,JB C.thr Z] at q
 refine⟨I.filter (cov c),q,h2 c,λs hs=>?_⟩
 obtain⟨hs,k⟩:=List.mem_filter.mp hs
 obtain⟨z',j,⟨hz',hj⟩,rfl⟩:=h1 s hs
 have e:=(Zn.of hz' k).uniq C.thr Z
 subst e
 exact⟨j,hj,rfl⟩
noncomputable def Hs (ts:List Int) (hss:List (List Int)) (n:Nat) (B c:Int) (z:Nat):List IP:=(LL ts hss n z (c-T ts z)).map (scl (B.fdiv (Wd ts z)))
theorem Cloth.heights (C:Curves ts hss n) (K:Cloth ts hss n R) {c:Int} {z:Nat} (Z:Zn ts c z) (B:Int):∃D:List IP,(∀x∈D,x∈Hs ts hss n B c z)/\(((bF R).filter (cov c)).map (prB B c)).Perm (Hs ts hss n B c z++(D++D)):=by
 obtain⟨I,p,_,hI⟩:=K.col C Z
 have q:=p.map (prB B c)
 have e:((List.range (2*n)).map λj=>sdz ts hss z j).map (prB B c)=Hs ts hss n B c z:=by
  unfold Hs LL
  rw[List.map_map,List.map_map]
  exact List.map_congr_left λj _=>PC B c z j
 rw[List.map_append,List.map_append,e] at q
 refine⟨I.map (prB B c),λx hx=>?_,q⟩
 obtain⟨s,hs,rfl⟩:=List.mem_map.mp hx
 obtain⟨j,hj,rfl⟩:=hI s hs
 rw[<-e]
 exact List.mem_map_of_mem (List.mem_map.mpr ⟨j,List.mem_range.mpr hj,rfl⟩)
theorem QA (C:Curves ts hss n) {c:Int} {z:Nat} (Z:Zn ts c z) {B:Int} (hf:0<=B.fdiv (Wd ts z)):eE (Hs ts hss n B c z):=by
 have z1:=Z.z1;have z2:=Z.lo;have z3:=Z.hi
 exact TZ hf (UQ C z1 (by omega) (by unfold Wd;omega))
theorem bottom (C:Curves ts hss n) {z:Nat} (hz:z+1<ts.length) {B:Int} (h0:0<B) (hd:Wd ts z∣B):∃f,B.fdiv (Wd ts z)=f/\0<f/\B=Wd ts z*f:=by
 obtain⟨w0,_⟩:=eG C hz
 obtain⟨q,e1,e2⟩:=yA w0 hd
 refine⟨q,e2,?_,e1⟩
 apply Int.not_le.mp
 intro l
 have:=Int.mul_nonpos_of_nonneg_of_nonpos (Int.le_of_lt w0) l
 omega
theorem Cloth.bands (C:Curves ts hss n) (K:Cloth ts hss n R):BandsIn R (T ts 0):=by
 have tl:=C.thr.len
 have nn:=C.n1
 refine⟨⟨K.len,K.each,λs hs=>?_⟩,λs hs=>?_,λc hc=>?_⟩
 ·obtain⟨z,j,⟨hz,hj⟩,rfl⟩:=K.mem hs
  exact (eG C hz).2
 ·obtain⟨z,j,⟨hz,hj⟩,rfl⟩:=K.mem hs
  refine⟨lG C.thr (Nat.zero_le z) (by omega),?_⟩
  have:=C.thr.wide _ (List.mem_of_getElem? (gJ (show 0<ts.length by omega))) _ (List.mem_of_getElem? (gJ hz))
  show T ts (z+1)<=_
  omega
 ·obtain⟨s,hs,k⟩:=hc
  obtain⟨z,j,⟨hz,hj⟩,rfl⟩:=K.mem hs
  have Z:=Zn.of hz k
  obtain⟨I,p,hI,_⟩:=K.col C Z
  refine⟨?_,λs hs=>?_,λs hs=>?_,λs hs=>?_,?_,λB h0 hd=>?_⟩
  ·rw[p.length_eq,List.length_append,List.length_append,List.length_map,List.length_range];omega
  ·obtain⟨z,j,⟨hz,hj⟩,rfl⟩:=K.mem (List.mem_filter.mp hs).1
   exact UB C hz hj
  ·obtain⟨z,j,⟨hz,hj⟩,rfl⟩:=K.mem (List.mem_filter.mp hs).1
   exact (eG C hz).1
  ·obtain⟨z,j,⟨hz,hj⟩,rfl⟩:=K.mem (List.mem_filter.mp hs).1
   exact (eG C hz).2
  ·have b1:=IX C (show z<ts.length by omega)
   have b2:=IX C hz
   have z2:=Z.lo
   have z3:=Z.hi
   unfold BL at *
   omega
  ·obtain⟨f,e,f0,_⟩:=bottom C hz h0 (hd _ (List.mem_filter.mpr ⟨K.has hz hj,k⟩))
   have up:=QA (hss:=hss) (n:=n) C Z (B:=B) (by rw[e];omega)
   have sub:∀x∈((bF R).filter (cov c)).map (prB B c),x∈Hs ts hss n B c z:=λx hx=>by
    obtain⟨D,hD,q⟩:=K.heights C Z B
    rcases List.mem_append.mp (q.mem_iff.mp hx) with h | h
    ·exact h
    ·rcases List.mem_append.mp h with h | h <;> exact hD x h
   exact λx hx y hy=>MH up x (sub x hx) y (sub y hy)
inductive LB (ts:List Int) (hss:List (List Int)) (n:Nat):List (Int × Nat)->List D->Prop
 | nil:LB ts hss n [] []
 | cons {c:Int} {z:Nat} {r rows:List D} {cs:List (Int × Nat)} (h:RowsOf (Wd ts z) c (kept (LL ts hss n z (c-T ts z))) r) (t:LB ts hss n cs rows):LB ts hss n ((c,z)::cs) (r++rows)
theorem LB.snoc {cs:List (Int × Nat)} {rows:List D} (t:LB ts hss n cs rows) {c:Int} {z:Nat} {r:List D} (h:RowsOf (Wd ts z) c (kept (LL ts hss n z (c-T ts z))) r):LB ts hss n (cs++[(c,z)]) (rows++r):=by
 induction t with
 | nil=>have:=LB.cons h .nil;simpa using this
 | cons h' _ ih=>rw[List.append_assoc];exact .cons h' ih
theorem HZ (C:Curves ts hss n) (K:Cloth ts hss n R) {cols:List (Int × Nat)} {rows:List D} (h:LB ts hss n cols rows):∀{rows':List D},(∀p∈cols,Zn ts p.1 p.2)->AllB (bF R) (cols.map (·.1)) rows'->rows'=rows:=by
 have nn:=C.n1
 induction h with
 | nil=>intro rows' _ h';cases h';rfl
 | @cons c z r rows cs h t ih =>
  intro rows' hz h'
  rw[List.map_cons] at h'
  cases h' with
  | @cons _ B M r' rows2 _ hB t' =>
   have Z:=hz (c,z) (.head _)
   have e2:=ih (λp hp=>hz p (.tail _ hp)) t'
   obtain⟨f,e,f0,eB⟩:=bottom C Z.z1 hB.pos (hB.dv (sdz ts hss z 0) (List.mem_filter.mpr ⟨K.has Z.z1 (by omega),Z.cov 0⟩))
   have up:=QA (hss:=hss) (n:=n) C Z (B:=B) (by rw[e];omega)
   obtain⟨D,hD,q⟩:=K.heights C Z B
   have ek:kept M=kept (Hs ts hss n B c z):=wE D hB.up up hD (hB.perm.trans q)
   have hr:=hB.rows
   rw[ek] at hr
   unfold Hs at hr
   rw[e,KI f0,eB] at hr
   have e1:=FK (eG C Z.z1).1 f0 h hr
   rw[e1,e2]
noncomputable def sZ (ts:List Int) (z m:Nat):List (Int × Nat):=(List.range m).map λk:Nat=>(T ts z+(k:Int),z)
noncomputable def gU (ts:List Int) (m:Nat):List (Int × Nat):=((List.range m).map λz=>sZ ts z (Wd ts z).toNat).flatten
theorem CH (z m:Nat):sZ ts z (m+1)=sZ ts z m++[(T ts z+(m:Int),z)]:=by unfold sZ;rw[List.range_succ,List.map_append];rfl
theorem qC (m:Nat):gU ts (m+1)=gU ts m++sZ ts m (Wd ts m).toNat:=by unfold gU;rw[List.range_succ,List.map_append,List.flatten_append];simp
theorem tD {m:Nat} {p:Int × Nat}:p∈gU ts m↔p.2<m/\T ts p.2<=p.1/\p.1<T ts (p.2+1):=by
 obtain⟨c,z⟩:=p
 unfold gU
 rw[List.mem_flatten]
 constructor
 ·rintro⟨l,hl,h⟩
  obtain⟨z',hz',rfl⟩:=List.mem_map.mp hl
  obtain⟨k,hk,e⟩:=List.mem_map.mp h
  have hk:=List.mem_range.mp hk
  cases e
  unfold Wd at hk
  exact⟨List.mem_range.mp hz',(by show T ts z<=T ts z+(k:Int);omega),(by show T ts z+(k:Int)<T ts (z+1);omega)⟩
 ·rintro⟨h1,h2,h3⟩
  dsimp only at h1 h2 h3
  refine⟨_,List.mem_map_of_mem (List.mem_range.mpr h1),List.mem_map.mpr ⟨(c-T ts z).toNat,List.mem_range.mpr (by unfold Wd;omega),?_⟩⟩
  exact Prod.ext (by show T ts z+(((c-T ts z).toNat:Nat):Int)=c;omega) rfl
theorem ER (h:Thr ts):∀m:Nat,m<ts.length->(gU ts m).Pairwise λp q=>p.1<q.1
 | 0,_=>List.Pairwise.nil
 | m+1,hm=>by
  rw[qC]
  refine List.pairwise_append.mpr ⟨ER h m (by omega),?_,λp hp q hq=>?_⟩
  ·unfold sZ
   rw[List.pairwise_map]
   exact (List.pairwise_lt_range (n:=(Wd ts m).toNat)).imp λ{a b} (hab:a<b)=>by show T ts m+(a:Int)<T ts m+(b:Int);omega
  ·have h1:=tD.mp hp
   obtain⟨k,_,rfl⟩:=List.mem_map.mp hq
   have:=lG h (i:=p.2+1) (j:=m) (by omega) (by omega)
   show p.1<T ts m+(k:Int)
   omega
theorem IR (C:Curves ts hss n) (K:Cloth ts hss n R) {cs:List Int} {rows rows':List D} (h1:cs.Pairwise (· < ·)) (h2:∀c,c∈cs↔∃s∈bF R,cov c s=true) (h3:AllB (bF R) cs rows') (h4:LB ts hss n (gU ts (ts.length-1)) rows):rows'=rows:=by
 have tl:=C.thr.len
 have nn:=C.n1
 have hz:∀p∈gU ts (ts.length-1),Zn ts p.1 p.2:=λp hp=>by
  have:=tD.mp hp
  exact⟨by omega,this.2.1,this.2.2⟩
 have up:((gU ts (ts.length-1)).map (·.1)).Pairwise (· < ·):=by
  rw[List.pairwise_map];exact ER C.thr _ (by omega)
 have hm:∀c,c∈cs↔c∈(gU ts (ts.length-1)).map (·.1):=λc=>by
  rw[h2 c,List.mem_map]
  constructor
  ·rintro⟨s,hs,k⟩
   obtain⟨z,j,⟨hz,hj⟩,rfl⟩:=K.mem hs
   have Z:=Zn.of hz k
   exact⟨(c,z),tD.mpr ⟨by have:=Z.z1;show z<_;omega,Z.lo,Z.hi⟩,rfl⟩
  ·rintro⟨p,hp,rfl⟩
   have Z:=hz p hp
   exact⟨sdz ts hss p.2 0,K.has Z.z1 (by omega),Z.cov 0⟩
 have nd:∀{l:List Int},l.Pairwise (· < ·)->l.Nodup:=λh=>h.imp λ{a b} (l:a<b)=>Int.ne_of_lt l
 have e:cs=(gU ts (ts.length-1)).map (·.1) :=
  List.Perm.eq_of_pairwise (le:=(· < ·)) (λa b _ _ (l:a<b) (l':b<a)=>by omega) h1 up ((List.perm_ext_iff_of_nodup (nd h1) (nd up)).mpr hm)
 rw[e] at h3
 exact HZ C K h4 hz h3
end
end K23
namespace K23
theorem wX {α:Type} (a b:α):∀L:List α,L.length % 2=0->fC (L++[a,b])=fC L++[(a,b)]
 | [],_=>rfl
 | [x],h=>by simp at h
 | x::y::r,h=>by
  show (x,y)::fC (r++[a,b])=(x,y)::(fC r++[(a,b)])
  rw[wX a b r (by simp at h;omega)]
theorem uQ {α:Type} (f:Nat->α):∀n:Nat,fC ((List.range (2*n)).map f)=(List.range n).map λi=>(f (2*i),f (2*i+1))
 | 0=>rfl
 | n+1=>by
  rw[show 2*(n+1)=(2*n+1)+1 by omega,List.range_succ,List.range_succ,List.range_succ,List.map_append,List.map_append,List.map_append,List.append_assoc]
  show fC ((List.range (2*n)).map f++[f (2*n),f (2*n+1)])=_
  rw[wX _ _ _ (by simp),uQ f n];rfl
theorem qU {hss:List (List Int)} {z:Nat} (h:z<hss.length):hss[z]? = some (hss.getD z []):=by rw[List.getD_eq_getElem?_getD,List.getElem?_eq_getElem h];rfl
theorem nX {ts:List Int} {hss:List (List Int)} {n:Nat} (C:Curves ts hss n) {z j:Nat} (hz:z<ts.length) (hj:j<2*n):(hss.getD z [])[j]? = some (Hh hss z j):=by
 have hl:=C.len
 have:=C.each _ (List.mem_of_getElem? (qU (hss:=hss) (z:=z) (by omega)))
 unfold Hh
 rw[List.getD_eq_getElem?_getD (l:=hss.getD z []),List.getElem?_eq_getElem (by omega)];rfl
noncomputable def pr2 (ts:List Int) (hss:List (List Int)) (z:Nat) (k:Int) (i:Nat):IP × IP:=(hp ts hss z k (2*i),hp ts hss z k (2*i+1))
noncomputable def kp (ts:List Int) (hss:List (List Int)) (z:Nat) (k:Int) (i:Nat):List (IP × IP):=((List.range i).map (pr2 ts hss z k)).filter λz=>decide (z.1≠z.2)
theorem SS (ts:List Int) (hss:List (List Int)) (z:Nat) (k:Int) (n:Nat):kept (LL ts hss n z k)=kp ts hss z k n:=by
 unfold kept LL kp
 rw[uQ];rfl
theorem OC (ts:List Int) (hss:List (List Int)) (z:Nat) (k:Int) (i:Nat):kp ts hss z k (i+1)=kp ts hss z k i++[pr2 ts hss z k i].filter λz=>decide (z.1≠z.2):=by
 unfold kp
 rw[List.range_succ,List.map_append,List.filter_append];rfl
end K23
namespace K23
noncomputable def PtB (p:Pt):Prop:=BL 210 p.1/\BL 210 p.2
noncomputable def F_ring23:FD:=λds Q=>∃(ts:List Int) (hss:List (List Int)) (n a b:Nat) (num:Int),ds=[il ts,ill hss,.int a,.int b,.int num]/\Curves ts hss n/\(a<2*n/\b<2*n)/\∀g:List Pt,g.length<=10->(∀p∈g,PtB p)->(bP g).Perm (csd ts hss a++csd ts hss b)->Q (pts g)
theorem len_ring23:∀ds Q,F_ring23 ds Q->ds.length=5:=by rintro ds Q ⟨_,_,_,_,_,_,rfl,_⟩;rfl
theorem NH {g:List Pt} {st:Nat} (h:st<=g.length):gW (g.map pt) (some (st:Int)) none++gW (g.map pt) none (some (st:Int))=(g.drop st++g.take st).map pt:=by
 rw[mC (by simpa using h),EU (by simpa using h),List.map_append,List.map_drop,List.map_take]
theorem zO {ts:List Int} {hss:List (List Int)} {n j k:Nat} (C:Curves ts hss n) (hj:j<2*n) (hk:k<ts.length) {Q:D->Prop} (q:Q (pt (jY ts hss j k))) :
  dIx (il ts) (.int (0+(k:Int))) λd=>dIx (ill hss) (.int (0+(k:Int))) λd1=>dIx d1 (.int (j:Int)) λd2=>Q (.tup [d,d2]):=by
 have e:(0:Int)+(k:Int)=(k:Int):=by omega
 have hl:=C.len
 rw[e]
 exact mN (gJ hk) (tL (qU (by omega)) (mN (nX C hk hj) q))
theorem pure_law_ring:∀ds Q,F_ring23 ds Q->fQ { nx:=λ_=>Q .non,rt:=Q } (aO ["_law_threads_here","_law_heights_here","_law_one","_law_other","_law_number","_law_ring_here","_law_start"] ds):=by
 rintro ds Q ⟨ts,hss,n,a,b,num,rfl,C,⟨ha,hb⟩,q⟩
 rw[aS 2 rfl]
 unfold fQ
 simp only[cI,vI,List.map_cons,List.map_nil,List.cons_append,List.nil_append]
 have tl:=C.thr.len
 refine aJ (λρ=>ρ=[some (.d (il ts)),some (.d (ill hss)),some (.d (.int a)),some (.d (.int b)),some (.d (.int num)),some (.own ((crv ts hss a).map pt)),none]) (λK hK=>?_) ?_
 ·walk_at "rd"
  refine⟨⟨by rw[List.length_map];omega,by rw[List.length_map];omega⟩,bL (by rw[iJ,List.length_map];omega),?_⟩
  rw[List.length_map,Int.toNat_natCast]
  unfold cP
  refine dC (λρ=>∃u,ρ=[u,some (.d (il ts)),some (.d (ill hss)),some (.d (.int a))]) (λk:Nat=>D.int (0+(k:Int))) (λk=>pt (jY ts hss a k)) (List.range ts.length) ?_ ⟨_,rfl⟩ ?_
  ·rintro k hk ρ ⟨u,rfl⟩ K' hK'
   walk_at "rd"
   exact zO C ha (List.mem_range.mp hk) (Q:=λd=>K' _ d) (hK' _ ⟨_,rfl⟩)
  ·have e:(List.range ts.length).map (λk=>pt (jY ts hss a k))=(crv ts hss a).map pt:=by unfold crv;rw[List.map_map];rfl
   rw[e]
   exact hK _ rfl
 rintro ρ rfl
 refine aJ (λρ=>ρ=[some (.d (il ts)),some (.d (ill hss)),some (.d (.int a)),some (.d (.int b)),some (.d (.int num)),some (.d (pts (crv ts hss a++(crv ts hss b).reverse))),none]) (λK hK=>?_) ?_
 ·walk_at "rd"
  simp only[ED]
  refine⟨⟨by omega,by rw[List.length_map];omega⟩,bL (by rw[List.length_reverse,iJ,List.length_map];omega),?_⟩
  rw[List.length_map,Int.toNat_natCast]
  unfold cP
  rw[<-List.map_reverse]
  refine dC (λρ=>∃u,ρ=[u,some (.d (il ts)),some (.d (ill hss)),some (.d (.int b))]) (λk:Nat=>D.int (0+(k:Int))) (λk=>pt (jY ts hss b k)) (List.range ts.length).reverse ?_ ⟨_,rfl⟩ ?_
  ·rintro k hk ρ ⟨u,rfl⟩ K' hK'
   walk_at "rd"
   exact zO C hb (List.mem_range.mp (List.mem_reverse.mp hk)) (Q:=λd=>K' _ d) (hK' _ ⟨_,rfl⟩)
  ·have e:(List.range ts.length).reverse.map (λk=>pt (jY ts hss b k))=((crv ts hss b).reverse).map pt:=by unfold crv;rw[<-List.map_reverse,List.map_map];rfl
   rw[e]
   refine⟨bL (by simp[crv];omega),?_⟩
   rw[<-List.map_append]
   exact hK _ rfl
 rintro ρ rfl
 have gl0:(crv ts hss a++(crv ts hss b).reverse).length=2*ts.length:=by simp[crv];omega
 have gp0:=EF (hss:=hss) C.thr a b
 have gb0:∀p∈crv ts hss a++(crv ts hss b).reverse,PtB p:=λp hp=>by
  have each:∀j,j<2*n->∀p∈crv ts hss j,PtB p:=λj hj p hp=>by
   obtain⟨z,hz,rfl⟩:=List.mem_map.mp hp
   have hz:=List.mem_range.mp hz
   exact⟨IX C hz,RK C hz hj⟩
  rcases List.mem_append.mp hp with h | h
  ·exact each a ha p h
  ·exact each b hb p (List.mem_reverse.mp h)
 generalize crv ts hss a++(crv ts hss b).reverse=g0 at gl0 gp0 gb0
 refine aJ (λρ=>∃(g:List Pt) (x:S),(g.length=2*ts.length/\(∀p∈g,PtB p)/\(bP g).Perm (csd ts hss a++csd ts hss b))/\(x = .d (pts g)\/x = .own (g.map pt))/\ρ=[some (.d (il ts)),some (.d (ill hss)),some (.d (.int a)),some (.d (.int b)),some (.d (.int num)),some x,none]) (λK hK=>?_) ?_
 ·walk_at "rd"
  refine⟨cU,?_⟩
  split
  ·simp only[lL]
   refine⟨g0.map pt,rfl,?_⟩
   refine hK _ ⟨g0.reverse,.own (g0.reverse.map pt),⟨by rw[List.length_reverse];exact gl0,(λp hp=>gb0 p (List.mem_reverse.mp hp)),(wT g0).trans gp0⟩,.inr rfl,?_⟩
   rw[List.map_reverse]
  ·exact hK _ ⟨g0,.d (pts g0),⟨gl0,gb0,gp0⟩,.inl rfl,rfl⟩
 rintro ρ ⟨g,x,⟨gl,gb,gp⟩,hx,rfl⟩
 have xv:x.val = .lst (g.map pt):=by rcases hx with rfl | rfl <;> rfl
 refine aJ (λρ=>∃st:Nat,st<=g.length/\ρ=[some (.d (il ts)),some (.d (ill hss)),some (.d (.int a)),some (.d (.int b)),some (.d (.int num)),some x,some (.d (.int st))]) (λK hK=>?_) ?_
 ·obtain⟨m0,m1⟩:=aV (a:=num.fdiv 2) (b:=(g.length:Int)) (by omega)
  have e:(((num.fdiv 2).fmod (g.length:Int)).toNat:Int)=(num.fdiv 2).fmod (g.length:Int):=by omega
  have fin:K [some (.d (il ts)),some (.d (ill hss)),some (.d (.int a)),some (.d (.int b)),some (.d (.int num)),some x,some (.d (.int ((num.fdiv 2).fmod (g.length:Int))))]:=hK _ ⟨((num.fdiv 2).fmod (g.length:Int)).toNat,by omega,by rw[e]⟩
  rcases hx with rfl | rfl
  all_goals
   walk_at "rd"
   walk_at "sides"
   rw[List.length_map]
   exact⟨⟨by omega⟩,fin⟩
 rintro ρ ⟨st,hst,rfl⟩
 have fin:Q (.lst ((g.drop st++g.take st).map pt)):=by
  refine q _ (by rw[List.length_append,List.length_drop,List.length_take];omega) (λp hp=>(List.mem_append.mp hp).elim (λh=>gb p (List.mem_of_mem_drop h)) λh=>gb p (List.mem_of_mem_take h)) ((wU _ _).trans ?_)
  rw[List.take_append_drop]
  exact gp
 have cl:∀l u:Option Int,(gW (g.map pt) l u).length<=100:=λl u=>by unfold gW;rw[List.length_take,List.length_drop,List.length_map];omega
 have sz:Sz ((gW (g.map pt) (some (st:Int)) none).length+(gW (g.map pt) none (some (st:Int))).length):=bL (by have:=cl (some (st:Int)) none;have:=cl none (some (st:Int));omega)
 rw[<-NH hst] at fin
 rcases hx with rfl | rfl
 all_goals
  walk_at "rd"
  exact⟨sz,fin⟩
end K23
namespace K23
noncomputable def idx (nb:Bool) (n k:Nat):List Nat:=((List.range k).map λi=>if nb then [i,2*n-1-i] else [2*i,2*i+1]).flatten
theorem KD (nb:Bool) (n k:Nat):idx nb n (k+1)=idx nb n k++(if nb then [k,2*n-1-k] else [2*k,2*k+1]):=by
 unfold idx
 rw[List.range_succ,List.map_append,List.flatten_append];simp
theorem NV (nb:Bool) {n:Nat} (h:1<=n/\n<=3):(idx nb n n).Perm (List.range (2*n)):=by
 have:n=1\/n=2\/n=3:=by omega
 cases nb <;> rcases this with rfl | rfl | rfl <;> decide
noncomputable def F_rings23:FD:=λds Q=>∃(ns ts:List Int) (hss:List (List Int)) (n:Nat),ds=[il ns,il ts,ill hss]/\Curves ts hss n/\∀R:List (List Pt),R.length=n->(∀g∈R,g.length<=10/\∀p∈g,PtB p)->(bF R).Perm (((List.range (2*n)).map (csd ts hss)).flatten)->Q (dB R)
theorem len_rings23:∀ds Q,F_rings23 ds Q->ds.length=3:=by rintro ds Q ⟨_,_,_,_,rfl,_⟩;rfl
theorem NU {ts:List Int} {hss:List (List Int)} {n:Nat} (C:Curves ts hss n) {Q:D->Prop} (q:∀A:List Int,A.length=2*n->Q (il A)):dIx (ill hss) (.int 0) Q:=by
 have tl:=C.thr.len
 have hl:=C.len
 have i0:=qU (hss:=hss) (z:=0) (by omega)
 exact gD (x:=il (hss.getD 0 [])) (dN (j:=0) (by rw[List.getElem?_map,i0];rfl)) (q _ (C.each _ (List.mem_of_getElem? i0)))
theorem pure_law_rings:∀ds Q,F_rings23 ds Q->gH kA F_ring23 { nx:=λ_=>Q .non,rt:=Q } (aO ["_law_script","_law_threads_here","_law_heights_here","_law_many","_law_nested","_law_rings_here","_law_k","_law_pair"] ds):=by
 rintro ds Q ⟨ns,ts,hss,n,rfl,C,q⟩
 rw[aS 5 rfl]
 unfold gH
 simp only[cI,vJ,List.map_cons,List.map_nil,List.cons_append,List.nil_append]
 have nn:=C.n1
 refine aJ (λρ=>ρ=[some (.d (il ns)),some (.d (il ts)),some (.d (ill hss)),some (.d (.int ((2*n:Nat):Int))),none,none,none,none]) (λK hK=>?_) ?_
 ·walk_at "rd"
  refine NU C λA hA=>?_
  walk_at "rd"
  rw[List.length_map,hA]
  exact hK _ rfl
 rintro ρ rfl
 refine aJ (λρ=>∃nb:Bool,ρ=[some (.d (il ns)),some (.d (il ts)),some (.d (ill hss)),some (.d (.int ((2*n:Nat):Int))),some (.d (.bl nb)),none,none,none]) (λK hK=>?_) ?_
 ·walk_at "rd"
  refine⟨ns,200,rfl,by decide,λv v0 v1=>?_⟩
  walk_at "rd"
  exact⟨cU,hK _ ⟨_,rfl⟩⟩
 rintro ρ ⟨nb,rfl⟩
 refine aJ (λρ=>ρ=[some (.d (il ns)),some (.d (il ts)),some (.d (ill hss)),some (.d (.int ((2*n:Nat):Int))),some (.d (.bl nb)),some (.own []),none,none]) (λK hK=>?_) ?_
 ·walk_at "rd"
  exact hK _ rfl
 rintro ρ rfl
 refine aJ (λρ=>∃(R:List (List Pt)) (u v:Option S),(R.length=n/\(∀g∈R,g.length<=10/\∀p∈g,PtB p)/\(bF R).Perm (((idx nb n n).map (csd ts hss)).flatten))/\ρ=[some (.d (il ns)),some (.d (il ts)),some (.d (ill hss)),some (.d (.int ((2*n:Nat):Int))),some (.d (.bl nb)),some (.own (R.map pts)),u,v]) (λK hK=>?_) ?_
 ·walk_at "rd"
  walk_at "sides"
  have e2:(((2*n:Nat):Int)).fdiv 2=(n:Int):=by
   rw[show ((2*n:Nat):Int)=(n:Int)*2 by omega];exact Int.mul_fdiv_cancel _ (by decide)
  rw[e2]
  refine⟨⟨by omega,by omega⟩,?_⟩
  rw[Int.toNat_natCast]
  refine iW 0 n (λk ρ=>∃(R:List (List Pt)) (u v:Option S),(R.length=k/\(∀g∈R,g.length<=10/\∀p∈g,PtB p)/\(bF R).Perm (((idx nb n k).map (csd ts hss)).flatten))/\ρ=[some (.d (il ns)),some (.d (il ts)),some (.d (ill hss)),some (.d (.int ((2*n:Nat):Int))),some (.d (.bl nb)),some (.own (R.map pts)),u,v]) ?_ ?_ _ ⟨[],none,none,⟨rfl,(λg h=>by cases h),.refl _⟩,rfl⟩
  ·rintro k ρ hk ⟨R,u,v,⟨r1,r2,r3⟩,rfl⟩ F _ _ hn _
   have e0:(0:Int)+(k:Int)=(k:Int):=by omega
   unfold jV
   simp only[aR,List.set_cons_zero,List.set_cons_succ]
   rw[e0]
   refine aJ (λρ=>∃a b:Nat,((a<2*n/\b<2*n)/\(if nb then [k,2*n-1-k] else [2*k,2*k+1])=[a,b])/\ρ=[some (.d (il ns)),some (.d (il ts)),some (.d (ill hss)),some (.d (.int ((2*n:Nat):Int))),some (.d (.bl nb)),some (.own (R.map pts)),some (.d (.int k)),some (.d (.tup [.int a,.int b]))]) (λK' hK'=>?_) ?_
   ·have mo:∀{P:Prop},P->(MulOk 2 (k:Int)/\P):=λp=>⟨(BL.const (n:=20) (by decide)).mulOk (n:=20) (BL.of_lt (by omega) (by omega)),p⟩
    cases nb with
    | false =>
     walk_at "rd"
     refine mo (mo ?_)
     refine hK' _ ⟨2*k,2*k+1,⟨⟨by omega,by omega⟩,rfl⟩,?_⟩
     rw[show ((2*k:Nat):Int)=2*(k:Int) by omega,show ((2*k+1:Nat):Int)=2*(k:Int)+1 by omega]
    | true =>
     walk_at "rd"
     refine mo (mo ?_)
     refine hK' _ ⟨k,2*n-1-k,⟨⟨by omega,by omega⟩,rfl⟩,?_⟩
     rw[show ((2*n-1-k:Nat):Int)=((2*n:Nat):Int)-1-(k:Int) by omega]
   rintro ρ ⟨a,b,⟨⟨ha,hb⟩,eab⟩,rfl⟩
   walk_at "rd"
   refine⟨ns,201+(k:Int),rfl,⟨by omega,by omega⟩,λv v0 v1=>?_⟩
   refine⟨ts,hss,n,a,b,v,rfl,C,⟨ha,hb⟩,λg g1 gb g2=>?_⟩
   refine⟨bL (by rw[List.length_map];omega),hn _ ⟨R++[g],some (.d (.int k)),some (.d (.tup [.int a,.int b])),⟨by simp[r1],λx hx=>?_,?_⟩,by rw[List.map_append];rfl⟩⟩
   ·rcases List.mem_append.mp hx with h | h
    ·exact r2 x h
    ·rw[List.mem_singleton.mp h];exact⟨g1,gb⟩
   ·rw[KD,eab]
    simp only[bF,List.map_append,List.flatten_append,List.map_cons,List.map_nil,List.flatten_cons,List.flatten_nil,List.append_nil]
    exact List.Perm.append r3 g2
  ·rintro ρ ⟨R,u,v,h,rfl⟩
   exact hK _ ⟨R,u,v,h,rfl⟩
 rintro ρ ⟨R,u,v,⟨r1,r2,r3⟩,rfl⟩
 walk_at "rd"
 exact q R r1 r2 (r3.trans ((NV nb nn).map (csd ts hss)).flatten)
end K23
namespace K23
end K23
namespace K22
noncomputable abbrev ck (p:IP):List Int:=[p.1,p.2]
noncomputable abbrev frP (p:IP):D:=.tup [.int p.1,.int p.2]
noncomputable def one (u p:IP):Int:=if u=p then 1 else 0
theorem AV (p:IP):one p p=1:=if_pos rfl
theorem yJ {u p:IP} (h:u≠p):one u p=0:=if_neg h
theorem xM {p q:IP} (h:ck p=ck q):p=q:=by
 injection h with h1 h2
 injection h2 with h2 _
 exact Prod.ext h1 h2
theorem xN {p:IP} {kl:List IP}:ck p∈kl.map ck↔p∈kl:=by
 constructor
 ·intro h
  obtain⟨q,hq,e⟩:=List.mem_map.mp h
  rw[<-xM e];exact hq
 ·exact λh=>List.mem_map.mpr ⟨p,h,rfl⟩
theorem IM {f:IP->D} {p:IP}:∀{kl:List IP},p∈kl->gZ (kl.map ck) (kl.map f) (ck p)=some (f p)
 | q::kl,h=>by
  show (if ck q=ck p then some (f q) else gZ (kl.map ck) (kl.map f) (ck p))=_
  by_cases e:q=p
  ·subst e;rw[if_pos rfl]
  ·rw[if_neg λz=>e (xM z)]
   exact IM (by cases h with | head=>exact absurd rfl e | tail _ h=>exact h)
theorem IN {f:IP->D} {p:IP}:∀{kl:List IP},p ∉ kl->gZ (kl.map ck) (kl.map f) (ck p)=none
 | [],_=>rfl
 | q::kl,h=>by
  show (if ck q=ck p then some (f q) else gZ (kl.map ck) (kl.map f) (ck p))=_
  rw[if_neg λz=>h (by rw[xM z];exact .head _)]
  exact IN λz=>h (.tail _ z)
theorem FT {f:IP->D} {p:IP} {x:D}:∀kl:List IP,List.zipWith (λk' y=>if k'=ck p then x else y) (kl.map ck) (kl.map f)=kl.map λq=>if q=p then x else f q
 | []=>rfl
 | q::kl=>by
  show (if ck q=ck p then x else f q)::List.zipWith _ (kl.map ck) (kl.map f)=_
  rw[FT kl]
  by_cases e:q=p
  ·subst e;simp
  ·rw[if_neg λz=>e (xM z)];simp[e]
structure Cts (L:List IP) (ks:List (List Int)) (xs:List D) (c:IP->Int):Prop where
 ex:∃kl:List IP,ks=kl.map ck/\xs=kl.map (λp=>D.int (c p))/\kl.Nodup/\(∀p∈kl,p∈L)/\∀p,p ∉ kl->c p=0
theorem Cts.nil (L:List IP):Cts L [] [] λ_=>0:=⟨[],rfl,rfl,.nil,(λp h=>by cases h),λ_ _=>rfl⟩
variable {L:List IP} {ks:List (List Int)} {xs:List D} {c c':IP->Int}
theorem Cts.mono (h:Cts L ks xs c) (e:∀p,c p=c' p):Cts L ks xs c':=by rw[<-funext e];exact h
theorem Cts.get (h:Cts L ks xs c) (p:IP):(gZ ks xs (ck p)).getD (.int 0) = .int (c p):=by
 obtain⟨kl,rfl,rfl,nd,sub,z⟩:=h.ex
 by_cases hp:p∈kl
 ·rw[IM (f:=λp=>D.int (c p)) hp];rfl
 ·rw[IN (f:=λp=>D.int (c p)) hp,z p hp];rfl
theorem Cts.put (h:Cts L ks xs c) {p:IP} (hL:p∈L) (v:Int):Cts L (uU ks (ck p)) (putX ks xs (ck p) (.int (c p+v))) λq=>c q+v*one p q:=by
 obtain⟨kl,rfl,rfl,nd,sub,z⟩:=h.ex
 unfold uU putX
 by_cases hp:p∈kl
 ·rw[if_pos (xN.mpr hp),if_pos (xN.mpr hp),FT (f:=λp=>D.int (c p))]
  refine⟨kl,rfl,List.map_congr_left λq _=>?_,nd,sub,λq hq=>?_⟩
  ·by_cases e:q=p
   ·subst e;rw[if_pos rfl,AV,Int.mul_one]
   ·rw[if_neg e,yJ λz=>e z.symm,Int.mul_zero,Int.add_zero]
  ·rw[z q hq,yJ (u:=p) (p:=q) λe=>hq (e ▸ hp)];omega
 ·rw[if_neg λz=>hp (xN.mp z),if_neg λz=>hp (xN.mp z)]
  refine⟨kl++[p],by rw[List.map_append];rfl,?_,?_,λq hq=>?_,λq hq=>?_⟩
  ·rw[List.map_append]
   congr 1
   ·refine List.map_congr_left λq hq=>?_
    rw[yJ (u:=p) (p:=q) λe=>hp (e ▸ hq),Int.mul_zero,Int.add_zero]
   ·show [D.int (c p+v)]=[D.int (c p+v*one p p)];rw[AV,Int.mul_one]
  ·exact List.nodup_append.mpr ⟨nd,by simp,λa ha b hb e=>hp (by rw[List.mem_singleton.mp hb] at e;exact e ▸ ha)⟩
  ·rcases List.mem_append.mp hq with h | h
   ·exact sub q h
   ·rw[List.mem_singleton.mp h];exact hL
  ·rw[z q λh=>hq (List.mem_append_left _ h),yJ λe=>hq (List.mem_append_right _ (by rw[e];exact List.mem_singleton.mpr rfl))];omega
theorem Cts.len (h:Cts L ks xs c):ks.length<=L.length:=by
 obtain⟨kl,rfl,rfl,nd,sub,z⟩:=h.ex
 rw[List.length_map];exact oM kl L nd sub
structure LOk (L:List IP):Prop where
 len:L.length<=24
 each:∀p∈L,0<p.2/\p.2<=40/\Int.gcd p.1 p.2=1/\BL 250 p.1
noncomputable def ltR (p q:IP):Prop:=p.1*q.2<q.1*p.2
structure Lns (L:List IP) (c:IP->Int) (fl:List IP):Prop where
 mem:∀p,p∈fl↔c p≠0
 inc:fl.Pairwise ltR
 sub:∀p∈fl,p∈L
theorem ltR.ne {p q:IP} (h:ltR p q):p≠q:=λe=>by subst e;exact absurd h (Int.lt_irrefl _)
noncomputable def F_lowm:FD:=λds Q=>∃ws:List Int,ds=[il ws]/\ws.length<=24/\(∀w∈ws,0<w/\w<=40)/\∀B,0<B->(∀w∈ws,w∣B)->BL 140 B->Q (.int B)
theorem len_lowm:∀ds Q,F_lowm ds Q->ds.length=1:=by rintro ds Q ⟨_,rfl,_⟩;rfl
theorem pure_lowest_multiple:∀ds Q,F_lowm ds Q->bG sR { nx:=λ_=>Q .non,rt:=Q } (aO ["numbers","multiple","number"] ds):=by
 rintro ds Q ⟨ws,rfl,hl,hw,q⟩
 rw[aS 2 rfl]
 unfold bG
 refine aJ (λρ=>ρ=[some (.d (il ws)),some (.d (.int 1)),none]) (λK hK=>?_) ?_
 ·walk_at "rd"
  exact hK _ rfl
 rintro ρ rfl
 refine aJ (λρ=>∃(B:Int) (u:Option S),(0<B/\(∀w∈ws,w∣B)/\B<=((40 ^ 24:Nat):Int))/\ρ=[some (.d (il ws)),some (.d (.int B)),u]) (λK hK=>?_) ?_
 ·simp only[cL,riL,aK,List.getElem?_cons_zero]
  refine cR (λxs ρ=>∃done todo:List Int,ws=done++todo/\xs=todo.map .int/\∃(B:Int) (u:Option S),(0<B/\(∀w∈done,w∣B)/\B<=((40 ^ done.length:Nat):Int))/\ρ=[some (.d (il ws)),some (.d (.int B)),u]) ?_ ?_ _ _ ⟨[],ws,rfl,rfl,1,none,⟨by decide,(λw h=>by cases h),by decide⟩,rfl⟩
  ·rintro x xs ρ ⟨done,todo,e,exs,B,u,⟨h1,h2,h3⟩,rfl⟩ F hr hb hn hc
   cases todo with
   | nil=>cases exs
   | cons w todo =>
    rw[List.map_cons] at exs
    injection exs with ex exs
    subst ex exs
    obtain⟨w0,w5⟩:=hw w (by rw[e];exact List.mem_append_right _ (.head _))
    have dl:done.length<=23:=by rw[e] at hl;simp at hl;omega
    have pw:((40 ^ done.length:Nat):Int)<=((40 ^ 23:Nat):Int):=Int.ofNat_le.mpr (Nat.pow_le_pow_right (by decide) dl)
    have bB:BL 140 B:=BL.of_lt (by omega) (Int.lt_of_le_of_lt (Int.le_trans h3 pw) (by decide))
    have bw:BL 140 w:=BL.of_lt (by omega) (Int.lt_of_le_of_lt w5 (by decide))
    unfold cK
    simp only[aR,bD,aU,aB,aG,aK,List.getElem?_cons_zero,List.getElem?_cons_succ,List.set_cons_zero,List.set_cons_succ]
    refine⟨B,w,rfl,⟨h1,w0⟩,⟨bB.mono (by decide),bw.mono (by decide)⟩,λl l0 d1 d2 le=>?_⟩
    refine hn _ ⟨done++[w],todo,by rw[e];simp,rfl,l,some (.d (.int w)),⟨l0,λv hv=>?_,?_⟩,rfl⟩
    ·rcases List.mem_append.mp hv with hv | hv
     ·exact Int.dvd_trans (h2 v hv) d1
     ·rw[List.mem_singleton.mp hv];exact d2
    ·rw[List.length_append,List.length_singleton,Nat.pow_succ,Int.natCast_mul]
     have k1:=Int.mul_le_mul_of_nonneg_right h3 (Int.le_of_lt w0)
     have k2:=Int.mul_le_mul_of_nonneg_left w5 (Int.natCast_nonneg (40 ^ done.length))
     exact Int.le_trans le (Int.le_trans k1 k2)
  ·rintro ρ ⟨done,todo,e,exs,B,u,⟨h1,h2,h3⟩,rfl⟩
   have:todo=[]:=by cases todo with | nil=>rfl | cons _ _=>cases exs
   subst this
   rw[List.append_nil] at e
   subst e
   exact hK _ ⟨B,u,⟨h1,h2,Int.le_trans h3 (Int.ofNat_le.mpr (Nat.pow_le_pow_right (by decide) hl))⟩,rfl⟩
 rintro ρ ⟨B,u,⟨h1,h2,h3⟩,rfl⟩
 walk_at "rd"
 exact q B h1 h2 (BL.of_lt (by omega) (Int.lt_of_le_of_lt h3 (by decide)))
theorem CU {B:Int} {p q:IP} (B0:0<B) (hp:0<p.2) (hq:0<q.2) (gp:Int.gcd p.1 p.2=1) (gq:Int.gcd q.1 q.2=1) (dp:p.2∣B) (dq:q.2∣B) (ne:p≠q) (h:p.1*B.fdiv p.2<=q.1*B.fdiv q.2):ltR p q:=by
 obtain⟨m,em⟩:=dp
 obtain⟨n,en⟩:=dq
 have e1:B.fdiv p.2=m:=by rw[em,Int.mul_fdiv_cancel_left _ (by omega)]
 have e2:B.fdiv q.2=n:=by rw[en,Int.mul_fdiv_cancel_left _ (by omega)]
 rw[e1,e2] at h
 have h2:=Int.mul_le_mul_of_nonneg_right h (Int.le_of_lt (Int.mul_pos hp hq))
 have h3:p.1*m*(p.2*q.2)=p.1*q.2*B:=by rw[em];grind
 have h4:q.1*n*(p.2*q.2)=q.1*p.2*B:=by rw[en];grind
 rw[h3,h4] at h2
 have h5:=Int.le_of_mul_le_mul_right h2 B0
 refine Int.lt_iff_le_and_ne.mpr ⟨h5,λe=>ne ?_⟩
 have l1:Low p.1 p.2 p.1 p.2:=iF hp hp gp rfl
 have l2:Low p.1 p.2 q.1 q.2:=iF hp hq gq e.symm
 obtain⟨a,b⟩:=K12.low_eq hp l1 l2
 exact Prod.ext a b
noncomputable def F_rising:FD:=λds Q=>∃(L kl:List IP),ds=[.lst (kl.map frP)]/\(LOk L/\kl.Nodup/\∀p∈kl,p∈L)/\∀gs:List IP,gs.Perm kl->gs.Pairwise ltR->Q (.lst (gs.map frP))
theorem len_rising:∀ds Q,F_rising ds Q->ds.length=1:=by rintro ds Q ⟨_,_,rfl,_⟩;rfl
theorem vF {G:FD} (hG:∀ds Q,F_lowm ds Q->G ds Q):∀ds Q,F_rising ds Q->jX G { nx:=λ_=>Q .non,rt:=Q } (aO ["ones","bottom"] ds):=by
 rintro ds Q ⟨L,kl,rfl,⟨lok,nd,sub⟩,q⟩
 rw[aS 1 rfl]
 unfold jX
 simp only[cI,DZ,List.map_cons,List.map_nil,List.cons_append,List.nil_append]
 have kl24:kl.length<=24:=Nat.le_trans (oM kl L nd sub) lok.len
 refine aJ (λρ=>∃B:Int,(0<B/\(∀p∈kl,p.2∣B)/\BL 140 B)/\ρ=[some (.d (.lst (kl.map frP))),some (.d (.int B))]) (λK hK=>?_) ?_
 ·walk_at "rd"
  refine⟨bL (by rw[List.length_map];omega),?_⟩
  refine dC (λρ=>∃u,ρ=[u]) frP (λp=>D.int p.2) kl ?_ ⟨_,rfl⟩ ?_
  ·rintro p hp ρ ⟨u,rfl⟩ K' hK'
   walk_at "rd"
   exact hK' _ ⟨_,rfl⟩
  ·refine hG _ _ ⟨kl.map (·.2),by show _=[D.lst (List.map D.int (List.map (·.2) kl))];rw[List.map_map];rfl,by rw[List.length_map];exact kl24,λw hw=>?_,λB B0 dv bB=>?_⟩
   ·obtain⟨p,hp,rfl⟩:=List.mem_map.mp hw
    have:=lok.each p (sub p hp)
    exact⟨this.1,this.2.1⟩
   ·exact hK _ ⟨B,⟨B0,λp hp=>dv _ (List.mem_map_of_mem hp),bB⟩,rfl⟩
 rintro ρ ⟨B,⟨B0,dv,bB⟩,rfl⟩
 simp only[bX,yO,aD,List.getElem?_cons_zero,List.getElem?_cons_succ,L2.R2.S.val]
 refine⟨B,kl,rfl,rfl,by omega,λf hf=>?_,λgs pm pw=>q gs pm ?_⟩
 ·obtain⟨f0,f1,f2,f3⟩:=lok.each f (sub f hf)
  exact⟨((BL.of_lt (m:=10) (by omega) (Int.lt_of_le_of_lt f1 (by decide))).mono (by decide)).divOk (by omega),f3.mulOk (bB.fdiv)⟩
 ·have ndg:gs.Nodup:=pm.nodup_iff.mpr nd
  refine List.Pairwise.imp_of_mem (λ{a b} ha hb h=>?_) (List.pairwise_and_iff.mpr ⟨ndg,pw⟩)
  have ka:=pm.mem_iff.mp ha
  have kb:=pm.mem_iff.mp hb
  have xa:=lok.each a (sub a ka)
  have xb:=lok.each b (sub b kb)
  exact CU B0 xa.1 xb.1 xa.2.2.1 xb.2.2.1 (dv a ka) (dv b kb) h.1 h.2
end K22
namespace K22
variable {L:List IP} {ks:List (List Int)} {xs:List D} {c c':IP->Int}
structure RowS (r:D) (u l:IP):Prop where
 ex:∃(row:Row) (W a b c d:Int),r=pW row/\(0<W/\BL 400 W)/\RowV W row a b c d/\Low (d-c) W u.1 u.2/\Low (b-a) W l.1 l.2
noncomputable def F_lslope:FD:=λds Q=>∃(r:D) (u l:IP),ds=[r]/\RowS r u l/\Q (frP l)
noncomputable def F_uslope:FD:=λds Q=>∃(r:D) (u l:IP),ds=[r]/\RowS r u l/\Q (frP u)
theorem len_lslope:∀ds Q,F_lslope ds Q->ds.length=1:=by rintro ds Q ⟨_,_,_,rfl,_⟩;rfl
theorem len_uslope:∀ds Q,F_uslope ds Q->ds.length=1:=by rintro ds Q ⟨_,_,_,rfl,_⟩;rfl
theorem pure_lower_slope:∀ds Q,F_lslope ds Q->fS bE { nx:=λ_=>Q .non,rt:=Q } (aO ["row"] ds):=by
 rintro ds Q ⟨r,u,l,rfl,⟨row,M,a,b,c,d,rfl,⟨hM,bM⟩,V,lu,ll⟩,q⟩
 rw[aS 0 rfl]
 unfold fS
 walk_at "rd"
 have x1:=V.l1.bl V.bb bM
 have x2:=V.l0.bl V.ba bM
 refine⟨_,_,_,_,rfl,⟨V.l1.pos,V.l0.pos⟩,⟨x1.1.mono (by decide),x1.2.mono (by decide),x2.1.mono (by decide),x2.2.mono (by decide)⟩,λp q' L=>?_⟩
 obtain⟨e1,e2⟩:=K12.low_eq hM (V.l1.minus hM V.l0 L) ll
 rw[e1,e2];exact q
theorem pure_upper_slope:∀ds Q,F_uslope ds Q->fT bE { nx:=λ_=>Q .non,rt:=Q } (aO ["row"] ds):=by
 rintro ds Q ⟨r,u,l,rfl,⟨row,M,a,b,c,d,rfl,⟨hM,bM⟩,V,lu,ll⟩,q⟩
 rw[aS 0 rfl]
 unfold fT
 walk_at "rd"
 refine sF (dN (j:=4) rfl) (sF (dN (j:=3) rfl) ?_)
 have x1:=V.u1.bl V.bd bM
 have x2:=V.u0.bl V.bc bM
 refine⟨_,_,_,_,rfl,⟨V.u1.pos,V.u0.pos⟩,⟨x1.1.mono (by decide),x1.2.mono (by decide),x2.1.mono (by decide),x2.2.mono (by decide)⟩,λp q' L=>?_⟩
 obtain⟨e1,e2⟩:=K12.low_eq hM (V.u1.minus hM V.u0 L) lu
 rw[e1,e2];exact q
noncomputable abbrev uT:=D × IP × IP
noncomputable def EsOk (L:List IP) (es:List uT):Prop:=∀e∈es,RowS e.1 e.2.1 e.2.2/\e.2.1∈L/\e.2.2∈L
noncomputable def cOf (p:IP):List uT->Int
 | []=>0
 | e::es=>(one e.2.1 p-one e.2.2 p)+cOf p es
theorem sX (p:IP) (e:uT):∀es,cOf p (es++[e])=cOf p es+(one e.2.1 p-one e.2.2 p)
 | []=>by show _+0=0+_;omega
 | x::es=>by show _+cOf p (es++[e])=_+cOf p es+_;rw[sX p e es];omega
theorem iU {α:Type} {g:RG} {tt:RT} {te:RE} (R:En->Prop) (enc f:α->D) (t:α->Bool):∀(src:List α) {Q:List D->Prop} (_:∀a∈src,∀ρ,R ρ->∀K:En->Bool->Prop,(∀ρ1,R ρ1->(t a=true->∀K':D->Prop,K' (f a)->te ρ1 K')->K ρ1 (t a))->g (enc a) ρ λρ1=>tt ρ1 λb=>K ρ1 b)
  (ρ:En) (acc:List D),R ρ->Q (acc++(src.filter t).map f)->cM g tt te (src.map enc) ρ acc Q
 | [],Q,_,ρ,acc,_,q=>by
  show Q acc
  simpa using q
 | a::src,Q,step,ρ,acc,h,q=>by
  show g (enc a) ρ λρ'=>tt ρ' λb=>if b=true then te ρ' λd=>cM g tt te (src.map enc) ρ' (acc++[d]) Q else cM g tt te (src.map enc) ρ' acc Q
  refine step a List.mem_cons_self ρ h (λρ' b=>if b=true then te ρ' λd=>cM g tt te (src.map enc) ρ' (acc++[d]) Q else cM g tt te (src.map enc) ρ' acc Q) λρ1 h1 ev=>?_
  cases e:t a with
  | true =>
   rw[if_pos rfl]
   refine ev e _ ?_
   refine iU R enc f t src (λb hb=>step b (List.mem_cons_of_mem _ hb)) ρ1 _ h1 ?_
   rw[List.filter_cons_of_pos e] at q
   simpa using q
  | false =>
   rw[if_neg (by decide)]
   refine iU R enc f t src (λb hb=>step b (List.mem_cons_of_mem _ hb)) ρ1 _ h1 ?_
   rw[List.filter_cons_of_neg (by rw[e];decide)] at q
   exact q
noncomputable abbrev lnD (c:IP->Int) (p:IP):D:=.tup [frP p,.int (c p)]
noncomputable def F_leanings:FD:=λds Q=>∃(L:List IP) (es:List uT),ds=[.lst (es.map (·.1))]/\(LOk L/\EsOk L es)/\∀fl,Lns L (λp=>cOf p es) fl->Q (.lst (fl.map (lnD λp=>cOf p es)))
theorem len_leanings:∀ds Q,F_leanings ds Q->ds.length=1:=by rintro ds Q ⟨_,_,rfl,_⟩;rfl
theorem JE (h:Cts L ks xs c):∃kl:List IP,ks.map dM=kl.map frP/\kl.Nodup/\(∀p∈kl,p∈L)/\(∀p,c p≠0->p∈kl)/\(∀p∈kl,gZ ks xs (ck p)=some (.int (c p))):=by
 obtain⟨kl,rfl,rfl,nd,sub,z⟩:=h.ex
 refine⟨kl,by rw[List.map_map];rfl,nd,sub,λp hp=>Decidable.byContradiction λn=>hp (z p n),λp hp=>IM (f:=λp=>D.int (c p)) hp⟩
end K22
namespace K22
open K23
noncomputable def cV (a b:Int):IP:=(a.fdiv (Int.gcd a b:Nat),b.fdiv (Int.gcd a b:Nat))
noncomputable def slp (ts:List Int) (hss:List (List Int)) (z j:Nat):IP:=cV (Hh hss (z+1) j-Hh hss z j) (Wd ts z)
theorem sP {ts:List Int} (hss:List (List Int)) {z:Nat} (w:0<Wd ts z) (j:Nat):Low (Hh hss (z+1) j-Hh hss z j) (Wd ts z) (slp ts hss z j).1 (slp ts hss z j).2:=cJ w
noncomputable def SL (ts:List Int) (hss:List (List Int)) (n:Nat):List IP:=(List.range (ts.length-1)).flatMap λz=>(List.range (2*n)).map (slp ts hss z)
theorem yS {ts:List Int} {hss:List (List Int)} {n:Nat} (C:Curves ts hss n) {z j:Nat} (hz:z+1<ts.length) (hj:j<2*n):slp ts hss z j∈SL ts hss n :=
 List.mem_flatMap.mpr ⟨z,List.mem_range.mpr (by omega),List.mem_map.mpr ⟨j,List.mem_range.mpr hj,rfl⟩⟩
theorem nW {ts:List Int} {hss:List (List Int)} {n:Nat} (C:Curves ts hss n) {z j:Nat} (hz:z<ts.length) (hj:j<2*n):BL 210 (Hh hss z j):=by
 have hl:=C.len
 exact C.bl _ (List.mem_of_getElem? (qU (hss:=hss) (z:=z) (by omega))) _ (List.mem_of_getElem? (nX C hz hj))
theorem gO {α β:Type} (f:α->List β) (m:Nat):∀l:List α,(∀x∈l,(f x).length=m)->(l.flatMap f).length=l.length*m
 | [],_=>by simp
 | x::l,h=>by
  rw[List.flatMap_cons,List.length_append,gO f m l λy hy=>h y (.tail _ hy),h x (.head _),List.length_cons,Nat.add_mul,Nat.one_mul,Nat.add_comm]
theorem IJ {ts:List Int} {hss:List (List Int)} {n:Nat} (C:Curves ts hss n):LOk (SL ts hss n):=by
 have tl:=C.thr.len
 have nn:=C.n1
 refine⟨?_,λp hp=>?_⟩
 ·unfold SL
  rw[gO _ (2*n) _ λx _=>by rw[List.length_map,List.length_range],List.length_range]
  exact Nat.le_trans (Nat.mul_le_mul (show ts.length-1<=4 by omega) (show 2*n<=6 by omega)) (by decide)
 ·obtain⟨z,hz,hp⟩:=List.mem_flatMap.mp hp
  obtain⟨j,hj,rfl⟩:=List.mem_map.mp hp
  have hz:=List.mem_range.mp hz
  have hj:=List.mem_range.mp hj
  obtain⟨w0,w1⟩:=eG C (z:=z) (by omega)
  have l:=sP hss w0 j
  have b1:=nW C (z:=z+1) (j:=j) (by omega) hj
  have b0:=nW C (z:=z) (j:=j) (by omega) hj
  have:=l.leb
  have:=l.pos
  exact⟨l.pos,by omega,l.cop,((b1.sub b0).le l.lea).mono (by decide)⟩
noncomputable def lC (ts:List Int) (hss:List (List Int)) (z:Nat):Nat->IP->Int
 | 0,_=>0
 | i+1,p=>lC ts hss z i p+(one (slp ts hss z (2*i+1)) p-one (slp ts hss z (2*i)) p)
noncomputable def zs (ts:List Int) (hss:List (List Int)) (n:Nat):Nat->IP->Int
 | 0,_=>0
 | z+1,p=>zs ts hss n z p+Wd ts z*lC ts hss z n p
end K22
namespace K22
open K23
variable {L:List IP} {ks:List (List Int)} {xs:List D} {c c':IP->Int}
noncomputable def GQ (ts:List Int) (hss:List (List Int)) (z:Nat):Nat->IP->Int
 | 0,_=>0
 | j+1,p=>GQ ts hss z j p+(Wd ts z*(if j % 2=0 then -1 else 1))*one (slp ts hss z j) p
theorem AD (ts:List Int) (hss:List (List Int)) (z:Nat) (p:IP):∀i:Nat,GQ ts hss z (2*i) p=Wd ts z*lC ts hss z i p
 | 0=>by show (0:Int)=_*0;rw[Int.mul_zero]
 | i+1=>by
  show GQ ts hss z (2*i) p+(Wd ts z*(if (2*i) % 2=0 then -1 else 1))*one (slp ts hss z (2*i)) p+(Wd ts z*(if (2*i+1) % 2=0 then -1 else 1))*one (slp ts hss z (2*i+1)) p=Wd ts z*(lC ts hss z i p+(one (slp ts hss z (2*i+1)) p-one (slp ts hss z (2*i)) p))
  rw[AD ts hss z p i,if_pos (by omega),if_neg (by omega)]
  grind
noncomputable def pZ:FD:=λds Q=>∃(ts:List Int) (hss:List (List Int)) (n:Nat),ds=[il ts,ill hss]/\Curves ts hss n/\∀ks xs,Cts (SL ts hss n) ks xs (zs ts hss n (ts.length-1))->Q (.dtt ks xs)
theorem uZ:∀ds Q,pZ ds Q->ds.length=2:=by rintro ds Q ⟨_,_,_,rfl,_⟩;rfl
end K22
namespace K23
theorem pure_bandsN:∀ds Q,F_bands ds Q->oT F_colB F_byCol { nx:=λ_=>Q .non,rt:=Q } (aO ["rings","columns","rows","column"] ds):=by
 rintro ds Q ⟨R,o,rfl,ok,q⟩
 rw[aS 3 rfl]
 unfold oT
 refine aJ (λρ=>∃ks xs,ColOf (bF R) ks xs/\ρ=[some (.d (dB R)),some (.d (.dct ks xs)),none,none]) (λK hK=>?_) ?_
 ·simp only[bD,aU,aB,aG,aK,cI,BF,List.map_cons,List.map_nil,List.cons_append,List.nil_append,List.getElem?_cons_zero,List.getElem?_cons_succ,List.set_cons_zero,List.set_cons_succ]
  exact⟨R,rfl,ok.rgs,λks xs h=>hK _ ⟨ks,xs,h,rfl⟩⟩
 rintro ρ ⟨ks,xs,co,rfl⟩
 have kl:ks.length<=60:=KZ (o:=o) co.nodup λc hc=>by
  obtain⟨s,hs,k⟩:=(co.mem c).mp hc
  have:=ok.near s hs
  have:=gC.mp k
  omega
 refine aJ (λρ=>ρ=[some (.d (dB R)),some (.d (.dct ks xs)),some (.own []),none]) (λK hK=>?_) ?_
 ·walk_at "rd"
  exact hK _ rfl
 rintro ρ rfl
 refine aJ (λρ=>∃cs rows u,(cs.Perm ks/\cs.Pairwise (·<=·))/\AllB (bF R) cs rows/\ρ=[some (.d (dB R)),some (.d (.dct ks xs)),some (.own rows),u]) (λK hK=>?_) ?_
 ·simp only[cL,riL,DV,DR,aK,List.getElem?_cons_zero,List.getElem?_cons_succ]
  refine⟨ks,xs,rfl,co.len,ks,rfl,by omega,λcs pm srt=>?_⟩
  refine cR (λys ρ=>∃done todo:List Int,cs=done++todo/\ys=todo.map .int/\∃rows u,AllB (bF R) done rows/\ρ=[some (.d (dB R)),some (.d (.dct ks xs)),some (.own rows),u]) ?_ ?_ _ _ ⟨[],cs,rfl,rfl,[],none,.nil,rfl⟩
  ·rintro x ys ρ ⟨done,todo,ec,exs,rows,u,hR,rfl⟩ F hr hb hn hc
   cases todo with
   | nil=>cases exs
   | cons c todo =>
    rw[List.map_cons] at exs
    injection exs with ex exs
    subst ex exs
    have hc:c∈ks:=pm.mem_iff.mp (by rw[ec];exact List.mem_append_right _ (.head _))
    have dl:done.length<=59:=by have:=pm.length_eq;rw[ec] at this;simp at this;omega
    have sl:=ok.rgs.slen
    have rl:=hR.rlen
    have rl2:done.length*(bF R).length<=59*50:=Nat.mul_le_mul dl sl
    unfold qP
    simp only[aR,uI,aU,aB,aG,r2,NI,aK,List.getElem?_cons_zero,List.getElem?_cons_succ,List.set_cons_zero,List.set_cons_succ]
    refine⟨_,co.here c hc,_,c,rfl,ok.col c ((co.mem c).mp hc),λB M r hB=>?_⟩
    have fl:=hB.rlen
    have f2:=List.length_filter_le (cov c) (bF R)
    dsimp only
    exact⟨bL (by omega),hn _ ⟨done++[c],todo,by rw[ec];simp,rfl,rows++r,some (.d (.int c)),hR.snoc hB,rfl⟩⟩
  ·rintro ρ ⟨done,todo,ec,exs,rows,u,hR,rfl⟩
   have:todo=[]:=by cases todo with | nil=>rfl | cons _ _=>cases exs
   subst this
   rw[List.append_nil] at ec
   subst ec
   exact hK _ ⟨cs,rows,u,⟨pm,srt⟩,hR,rfl⟩
 rintro ρ ⟨cs,rows,u,⟨pm,srt⟩,hR,rfl⟩
 simp only[dY,S.fz,bX,aK,List.getElem?_cons_zero,List.getElem?_cons_succ,List.set_cons_zero,List.set_cons_succ]
 have nd:cs.Nodup:=pm.nodup_iff.mpr co.nodup
 refine q cs rows ?_ (λc=>pm.mem_iff.trans (co.mem c)) hR
 exact (srt.and nd).imp λh=>Int.lt_iff_le_and_ne.mpr h
end K23
namespace K22
open K23
variable {ts:List Int} {hss:List (List Int)} {n:Nat}
theorem TV {W c:Int} (hW:0<W) (z:IP × IP):II W c z (pW ⟨c,cV z.1.1 W,cV z.1.2 W,cV z.2.1 W,cV z.2.2 W⟩):=⟨_,_,_,_,_,_,_,_,⟨cJ hW,cJ hW,cJ hW,cJ hW⟩,rfl⟩
noncomputable def enT (ts:List Int) (hss:List (List Int)) (z:Nat) (k:Int) (i:Nat):uT :=
 (pW ⟨T ts z+k,cV (K23.pr2 ts hss z k i).1.1 (Wd ts z),cV (K23.pr2 ts hss z k i).1.2 (Wd ts z),cV (K23.pr2 ts hss z k i).2.1 (Wd ts z),cV (K23.pr2 ts hss z k i).2.2 (Wd ts z)⟩,slp ts hss z (2*i+1),slp ts hss z (2*i))
noncomputable def ez (ts:List Int) (hss:List (List Int)) (z:Nat) (k:Int):Nat->List uT
 | 0=>[]
 | i+1=>ez ts hss z k i++if (K23.pr2 ts hss z k i).1=(K23.pr2 ts hss z k i).2 then [] else [enT ts hss z k i]
theorem oN (W k a b:Int):lin W (k+1) a b-lin W k a b=b-a:=by unfold lin;grind
theorem SE (C:Curves ts hss n) {z i:Nat} {k:Int} (hz:z+1<ts.length) (hi:i<n) (k0:0<=k) (k1:k+1<=Wd ts z):RowS (enT ts hss z k i).1 (slp ts hss z (2*i+1)) (slp ts hss z (2*i)):=by
 obtain⟨w0,w1⟩:=eG C hz
 have ba0:=nW C (z:=z) (j:=2*i) (by omega) (by omega)
 have ba1:=nW C (z:=z) (j:=2*i+1) (by omega) (by omega)
 have bb0:=nW C (z:=z+1) (j:=2*i) (by omega) (by omega)
 have bb1:=nW C (z:=z+1) (j:=2*i+1) (by omega) (by omega)
 have kl:∀{j:Int} {a b:Int},0<=j->j<=40->BL 210 a->BL 210 b->BL 400 (lin (Wd ts z) j a b):=λ{j a b} j0 j1 ha hb =>
  ((ha.mul (n:=10) (BL.of_lt (by omega) (by omega))).add (hb.mul (n:=10) (BL.of_lt (by omega) (by omega)))).mono (by decide)
 refine⟨_,Wd ts z,_,_,_,_,rfl,⟨w0,(BL.of_lt (m:=10) (by omega) (by omega)).mono (by decide)⟩,⟨cJ w0,cJ w0,cJ w0,cJ w0,?_,?_,?_,?_⟩,?_,?_⟩
 ·exact kl k0 (by omega) ba0 bb0
 ·exact kl (by omega) (by omega) ba0 bb0
 ·exact kl k0 (by omega) ba1 bb1
 ·exact kl (by omega) (by omega) ba1 bb1
 ·have:=sP hss w0 (2*i+1)
  rw[<-oN (Wd ts z) k] at this
  exact this
 ·have:=sP hss w0 (2*i)
  rw[<-oN (Wd ts z) k] at this
  exact this
theorem QH (C:Curves ts hss n) {z:Nat} {k:Int} (hz:z+1<ts.length) (k0:0<=k) (k1:k+1<=Wd ts z):∀i,i<=n->RowsOf (Wd ts z) (T ts z+k) (kp ts hss z k i) ((ez ts hss z k i).map (·.1))/\EsOk (SL ts hss n) (ez ts hss z k i)/\(∀p,cOf p (ez ts hss z k i)=lC ts hss z i p)/\(ez ts hss z k i).length<=i
 | 0,_=>⟨.nil,(λe h=>by cases h),λ_=>rfl,Nat.le_refl _⟩
 | i+1,hi=>by
  obtain⟨h1,h2,h3,h4⟩:=QH C hz k0 k1 i (by omega)
  obtain⟨w0,_⟩:=eG C hz
  rw[OC]
  unfold ez
  by_cases e:(K23.pr2 ts hss z k i).1=(K23.pr2 ts hss z k i).2
  ·rw[if_pos e,List.append_nil]
   refine⟨by rw[show [K23.pr2 ts hss z k i].filter (λz=>decide (z.1≠z.2))=[] by simp[e],List.append_nil];exact h1,h2,λp=>?_,by omega⟩
   have q0:lin (Wd ts z) k (Hh hss z (2*i)) (Hh hss (z+1) (2*i))=lin (Wd ts z) k (Hh hss z (2*i+1)) (Hh hss (z+1) (2*i+1)):=congrArg Prod.fst e
   have q1:lin (Wd ts z) (k+1) (Hh hss z (2*i)) (Hh hss (z+1) (2*i))=lin (Wd ts z) (k+1) (Hh hss z (2*i+1)) (Hh hss (z+1) (2*i+1)):=congrArg Prod.snd e
   have l1:=oN (Wd ts z) k (Hh hss z (2*i)) (Hh hss (z+1) (2*i))
   have l2:=oN (Wd ts z) k (Hh hss z (2*i+1)) (Hh hss (z+1) (2*i+1))
   have e2:slp ts hss z (2*i)=slp ts hss z (2*i+1):=by
    unfold slp
    rw[show Hh hss (z+1) (2*i)-Hh hss z (2*i)=Hh hss (z+1) (2*i+1)-Hh hss z (2*i+1) by omega]
   show _=lC ts hss z i p+(one (slp ts hss z (2*i+1)) p-one (slp ts hss z (2*i)) p)
   rw[h3,e2];omega
  ·rw[if_neg e]
   refine⟨?_,λx hx=>?_,λp=>?_,by rw[List.length_append,List.length_singleton];omega⟩
   ·rw[show [K23.pr2 ts hss z k i].filter (λz=>decide (z.1≠z.2))=[K23.pr2 ts hss z k i] by simp[e],List.map_append]
    exact h1.snoc (TV w0 _)
   ·rcases List.mem_append.mp hx with h | h
    ·exact h2 x h
    ·rw[List.mem_singleton.mp h]
     exact⟨SE C hz (by omega) k0 k1,yS C hz (by omega),yS C hz (by omega)⟩
   ·rw[sX,h3];rfl
theorem xI (p:IP):∀a b:List uT,cOf p (a++b)=cOf p a+cOf p b
 | [],b=>by show cOf p b=0+cOf p b;omega
 | x::a,b=>by show _+cOf p (a++b)=_+cOf p a+_;rw[xI p a b];omega
theorem EsOk.app {L:List IP} {a b:List uT} (h1:EsOk L a) (h2:EsOk L b):EsOk L (a++b):=λe h=>by
 rcases List.mem_append.mp h with h | h
 ·exact h1 e h
 ·exact h2 e h
noncomputable def eZ (ts:List Int) (hss:List (List Int)) (n z:Nat):Nat->List uT
 | 0=>[]
 | m+1=>eZ ts hss n z m++ez ts hss z m n
noncomputable def eA (ts:List Int) (hss:List (List Int)) (n:Nat):Nat->List uT
 | 0=>[]
 | m+1=>eA ts hss n m++eZ ts hss n m (Wd ts m).toNat
theorem FU (C:Curves ts hss n) {z:Nat} (hz:z+1<ts.length):∀m:Nat,(m:Int)<=Wd ts z->LB ts hss n (sZ ts z m) ((eZ ts hss n z m).map (·.1))/\EsOk (SL ts hss n) (eZ ts hss n z m)/\(∀p,cOf p (eZ ts hss n z m)=m*lC ts hss z n p)/\(eZ ts hss n z m).length<=n*m
 | 0,_=>⟨.nil,(λe h=>by cases h),λp=>by show 0=0*_;omega,Nat.zero_le _⟩
 | m+1,hm=>by
  obtain⟨h1,h2,h3,h4⟩:=FU C hz m (by omega)
  obtain⟨g1,g2,g3,g4⟩:=QH C (k:=(m:Int)) hz (by omega) (by omega) n (Nat.le_refl _)
  unfold eZ
  refine⟨?_,h2.app g2,λp=>?_,by rw[List.length_append,Nat.mul_add,Nat.mul_one];omega⟩
  ·rw[CH,List.map_append]
   refine h1.snoc ?_
   rw[show T ts z+(m:Int)-T ts z=(m:Int) by omega,SS]
   exact g1
  ·rw[xI,h3,g3,show ((m+1:Nat):Int)=(m:Int)+1 by omega,Int.add_mul,Int.one_mul]
theorem LB.app {cs cs':List (Int × Nat)} {r r':List D} (h:LB ts hss n cs r) (h':LB ts hss n cs' r'):LB ts hss n (cs++cs') (r++r'):=by
 induction h with
 | nil=>exact h'
 | cons a _ ih=>rw[List.append_assoc];exact .cons a ih
theorem xD (C:Curves ts hss n):∀m:Nat,m<ts.length->LB ts hss n (gU ts m) ((eA ts hss n m).map (·.1))/\EsOk (SL ts hss n) (eA ts hss n m)/\(∀p,cOf p (eA ts hss n m)=zs ts hss n m p)/\((eA ts hss n m).length:Int)<=n*(T ts m-T ts 0)
 | 0,_=>⟨.nil,(λe h=>by cases h),λ_=>rfl,by show (0:Int)<=n*(T ts 0-T ts 0);rw[Int.sub_self,Int.mul_zero];exact Int.le_refl _⟩
 | m+1,hm=>by
  obtain⟨h1,h2,h3,h4⟩:=xD C m (by omega)
  obtain⟨w0,w1⟩:=eG C (z:=m) hm
  have hW:(((Wd ts m).toNat:Nat):Int)=Wd ts m:=by omega
  obtain⟨g1,g2,g3,g4⟩:=FU C hm (Wd ts m).toNat (by omega)
  unfold eA
  refine⟨by rw[qC,List.map_append];exact LB.app h1 g1,h2.app g2,λp=>by rw[xI,h3,g3,hW];rfl,?_⟩
  have g5:((eZ ts hss n m (Wd ts m).toNat).length:Int)<=n*Wd ts m:=by
   have:((n*(Wd ts m).toNat:Nat):Int)=n*Wd ts m:=by rw[Int.natCast_mul,hW]
   omega
  have e:(n:Int)*(T ts (m+1)-T ts 0)=n*(T ts m-T ts 0)+n*Wd ts m:=by unfold Wd;grind
  rw[List.length_append,e]
  omega
theorem IQ {R:List (List Pt)} (C:Curves ts hss n) (K:Cloth ts hss n R) {cs:List Int} {rows':List D} (a:cs.Pairwise (· < ·)) (b:∀c,c∈cs↔∃s∈bF R,cov c s=true) (c:K23.AllB (bF R) cs rows'):rows'=(eA ts hss n (ts.length-1)).map (·.1):=by
 have tl:=C.thr.len
 exact IR C K a b c (xD C (ts.length-1) (by omega)).1
noncomputable def F_lowmU:FD:=λds Q=>K23.F_lowm ds Q\/K22.F_lowm ds Q
theorem len_lowmU:∀ds Q,F_lowmU ds Q->ds.length=1:=λds Q h=>h.elim (K23.len_lowm ds Q) (K22.len_lowm ds Q)
theorem pure_lowmU:∀ds Q,F_lowmU ds Q->bG sR { nx:=λ_=>Q .non,rt:=Q } (aO ["numbers","multiple","number"] ds):=λds Q h=>h.elim (K23.pure_lowest_multiple ds Q) (K22.pure_lowest_multiple ds Q)
theorem pure_column_bandsU:∀ds Q,K23.F_colB ds Q->cF F_lowmU K23.F_ordH aZ qA { nx:=λ_=>Q .non,rt:=Q } (aO ["sides","column","bottom","heights","rows","low","up","edges"] ds):=K23.pure_column_bands_G λ_ _ h=>.inl h
theorem pure_risingU:∀ds Q,F_rising ds Q->jX F_lowmU { nx:=λ_=>Q .non,rt:=Q } (aO ["ones","bottom"] ds):=vF λ_ _ h=>.inr h
end K22
namespace K26
open K22 K23
noncomputable def si (sx:Int) (m z:Nat):Nat:=if sx=1 then z else m-z
noncomputable def ti (fy:Int) (n j:Nat):Nat:=if fy=1 then j else 2*n-1-j
noncomputable def trT (ts:List Int) (sx rx:Int):List Int:=(List.range ts.length).map λz=>sx*(T ts (si sx (ts.length-1) z)+rx)
noncomputable def trH (ts:List Int) (hss:List (List Int)) (n:Nat) (sx fy uy:Int):List (List Int):=(List.range ts.length).map λz=>(List.range (2*n)).map λj=>fy*(Hh hss (si sx (ts.length-1) z) (ti fy n j)+uy)
noncomputable def trP (sx rx fy uy:Int) (p:Pt):Pt:=(sx*(p.1+rx),fy*(p.2+uy))
section
variable {ts:List Int} {hss:List (List Int)} {n:Nat} {sx rx fy uy:Int}
theorem mF:(trT ts sx rx).length=ts.length:=by unfold trT;rw[List.length_map,List.length_range]
theorem PX:(trH ts hss n sx fy uy).length=ts.length:=by unfold trH;rw[List.length_map,List.length_range]
theorem zA {z:Nat} (hz:z<ts.length):T (trT ts sx rx) z=sx*(T ts (si sx (ts.length-1) z)+rx):=RC (by unfold trT;rw[List.getElem?_map,List.getElem?_range hz];rfl)
theorem yZ {z j:Nat} (hz:z<ts.length) (hj:j<2*n):Hh (trH ts hss n sx fy uy) z j=fy*(Hh hss (si sx (ts.length-1) z) (ti fy n j)+uy):=by
 unfold Hh
 have e:(trH ts hss n sx fy uy).getD z []=(List.range (2*n)).map λj=>fy*(Hh hss (si sx (ts.length-1) z) (ti fy n j)+uy):=by
  unfold trH
  rw[List.getD_eq_getElem?_getD,List.getElem?_map,List.getElem?_range hz];rfl
 rw[e,List.getD_eq_getElem?_getD,List.getElem?_map,List.getElem?_range hj];rfl
theorem BO {m z:Nat} (hz:z<=m):si sx m z<=m:=by unfold si;split <;> omega
theorem BS {j:Nat} (hj:j<2*n):ti fy n j<2*n:=by unfold ti;split <;> omega
theorem WS {j:Nat} (hj:j<2*n):ti fy n (ti fy n j)=j:=by unfold ti;split <;> omega
theorem vE {x:Int} (h:sx=1\/sx = -1):(sx=1/\sx*x=x)\/(sx = -1/\sx*x = -x):=by
 rcases h with rfl | rfl
 ·exact .inl ⟨rfl,Int.one_mul x⟩
 ·exact .inr ⟨rfl,by omega⟩
theorem BT (C:Curves ts hss n) (G:Tgt ts hss) (hs:sx=1\/sx = -1) (hf:fy=1\/fy = -1) (br:-2000<=rx/\rx<=2000) (bu:BL 200 uy):Curves (trT ts sx rx) (trH ts hss n sx fy uy) n:=by
 have tl:=C.thr.len
 have hl:=C.len
 have tg:∀{z},z<ts.length->BL 190 (T ts z):=λhz=>G.t _ (List.mem_of_getElem? (gJ hz))
 have bl1:∀{a b:Int} {k:Nat},(a=1\/a = -1)->BL k b->BL k (a*b):=λ{a b k} h hb=>by
  rcases vE (x:=b) h with ⟨_,e⟩ | ⟨_,e⟩
  ·rw[e];exact hb
  ·rw[e];unfold BL at *;omega
 refine⟨⟨by rw[mF];exact tl,λx hx=>?_,λi a b e1 e2=>?_,λx hx y hy=>?_⟩,by rw[mF,PX],C.n1,λh hh=>?_,λh hh x hx=>?_,λh hh=>?_⟩
 ·obtain⟨z,hz,rfl⟩:=List.mem_map.mp hx
  have hz:=List.mem_range.mp hz
  have:=BO (sx:=sx) (m:=ts.length-1) (z:=z) (by omega)
  exact bl1 hs (((tg (by omega)).add (BL.of_lt (m:=20) (by omega) (by omega))).mono (by decide))
 ·have h1:i+1<ts.length:=by have:=(List.getElem?_eq_some_iff.mp e2).1;rw[mF] at this;exact this
  have q1:T (trT ts sx rx) i=a:=RC e1
  have q2:T (trT ts sx rx) (i+1)=b:=RC e2
  rw[zA (by omega)] at q1
  rw[zA h1] at q2
  rcases hs with rfl | rfl
  ·have:=uO C.thr h1
   unfold si at q1 q2
   rw[if_pos rfl] at q1 q2
   omega
  ·have:=uO C.thr (i:=ts.length-1-(i+1)) (by omega)
   unfold si at q1 q2
   rw[if_neg (by decide)] at q1 q2
   rw[show ts.length-1-(i+1)+1=ts.length-1-i by omega] at this
   omega
 ·obtain⟨z,hz,rfl⟩:=List.mem_map.mp hx
  obtain⟨z',hz',rfl⟩:=List.mem_map.mp hy
  have hz:=List.mem_range.mp hz
  have hz':=List.mem_range.mp hz'
  have l1:=BO (sx:=sx) (m:=ts.length-1) (z:=z) (by omega)
  have l2:=BO (sx:=sx) (m:=ts.length-1) (z:=z') (by omega)
  have w1:=C.thr.wide _ (List.mem_of_getElem? (gJ (ts:=ts) (i:=si sx (ts.length-1) z) (by omega))) _ (List.mem_of_getElem? (gJ (ts:=ts) (i:=si sx (ts.length-1) z') (by omega)))
  have w2:=C.thr.wide _ (List.mem_of_getElem? (gJ (ts:=ts) (i:=si sx (ts.length-1) z') (by omega))) _ (List.mem_of_getElem? (gJ (ts:=ts) (i:=si sx (ts.length-1) z) (by omega)))
  rcases hs with rfl | rfl
  ·omega
  ·omega
 ·obtain⟨z,hz,rfl⟩:=List.mem_map.mp hh
  rw[List.length_map,List.length_range]
 ·obtain⟨z,hz,rfl⟩:=List.mem_map.mp hh
  obtain⟨j,hj,rfl⟩:=List.mem_map.mp hx
  have hz:=List.mem_range.mp hz
  have hj:=List.mem_range.mp hj
  have:=BO (sx:=sx) (m:=ts.length-1) (z:=z) (by omega)
  have hb:=G.h _ (List.mem_of_getElem? (qU (hss:=hss) (z:=si sx (ts.length-1) z) (by omega))) _ (List.mem_of_getElem? (nX C (z:=si sx (ts.length-1) z) (by omega) (BS (fy:=fy) hj)))
  exact bl1 hf ((hb.add bu).mono (by decide))
 ·obtain⟨z,hz,rfl⟩:=List.mem_map.mp hh
  have hz:=List.mem_range.mp hz
  have l1:=BO (sx:=sx) (m:=ts.length-1) (z:=z) (by omega)
  refine List.pairwise_map.mpr (List.pairwise_lt_range.imp_of_mem λ{a b} ha hb hab=>?_)
  have ha:=List.mem_range.mp ha
  have hb:=List.mem_range.mp hb
  rcases hf with rfl | rfl
  ·have:=sC C (z:=si sx (ts.length-1) z) (by omega) (show ti 1 n a<ti 1 n b by unfold ti;rw[if_pos rfl,if_pos rfl];exact hab) (BS hb)
   omega
  ·have:=sC C (z:=si sx (ts.length-1) z) (by omega) (show ti (-1) n b<ti (-1) n a by unfold ti;rw[if_neg (by decide),if_neg (by decide)];omega) (BS ha)
   omega
noncomputable def trS (sx rx fy uy:Int) (s:bJ):bJ:=if sx=1 then (trP sx rx fy uy s.1,trP sx rx fy uy s.2) else (trP sx rx fy uy s.2,trP sx rx fy uy s.1)
theorem WG (hs:sx=1\/sx = -1) (a b:Pt):sd (trP sx rx fy uy a) (trP sx rx fy uy b)=(sd a b).map (trS sx rx fy uy):=by
 rcases hs with rfl | rfl
 ·unfold sd
  have e1:(trP 1 rx fy uy a).1<(trP 1 rx fy uy b).1↔a.1<b.1:=by unfold trP;dsimp only;omega
  have e2:(trP 1 rx fy uy b).1<(trP 1 rx fy uy a).1↔b.1<a.1:=by unfold trP;dsimp only;omega
  by_cases h1:a.1<b.1
  ·rw[if_pos h1,if_pos (e1.mpr h1)];rfl
  ·rw[if_neg h1,if_neg λz=>h1 (e1.mp z)]
   by_cases h2:b.1<a.1
   ·rw[if_pos h2,if_pos (e2.mpr h2)];rfl
   ·rw[if_neg h2,if_neg λz=>h2 (e2.mp z)];rfl
 ·unfold sd
  have e1:(trP (-1) rx fy uy a).1<(trP (-1) rx fy uy b).1↔b.1<a.1:=by unfold trP;dsimp only;omega
  have e2:(trP (-1) rx fy uy b).1<(trP (-1) rx fy uy a).1↔a.1<b.1:=by unfold trP;dsimp only;omega
  by_cases h1:a.1<b.1
  ·rw[if_pos h1,if_neg λz=>by have:=e1.mp z;omega,if_pos (e2.mpr h1)];rfl
  ·rw[if_neg h1]
   by_cases h2:b.1<a.1
   ·rw[if_pos h2,if_pos (e1.mpr h2)];rfl
   ·rw[if_neg h2,if_neg λz=>h2 (e1.mp z),if_neg λz=>h1 (e2.mp z)];rfl
theorem FS (hs:sx=1\/sx = -1):∀(r:List Pt) (a:Pt),cA (trP sx rx fy uy a) (r.map (trP sx rx fy uy))=(cA a r).map (trS sx rx fy uy)
 | [],_=>rfl
 | b::r,a=>by
  show sd (trP sx rx fy uy a) (trP sx rx fy uy b)++cA (trP sx rx fy uy b) (r.map (trP sx rx fy uy))=List.map _ (sd a b++cA b r)
  rw[WG hs,FS hs r b,List.map_append]
theorem RD (hs:sx=1\/sx = -1) (R:List (List Pt)):bF (R.map λg=>g.map (trP sx rx fy uy))=(bF R).map (trS sx rx fy uy):=by
 unfold bF
 rw[List.map_map,List.map_flatten,List.map_map]
 congr 1
 refine List.map_congr_left λg _=>?_
 cases g with
 | nil=>rfl
 | cons a r =>
  show cA (trP sx rx fy uy a) (r.map (trP sx rx fy uy)++[trP sx rx fy uy a])=(cA a (r++[a])).map _
  rw[<-FS hs,List.map_append];rfl
noncomputable def zi (sx:Int) (m z:Nat):Nat:=if sx=1 then z else m-1-z
theorem MO (hs:sx=1\/sx = -1) {z j:Nat} (hz:z+1<ts.length) (hj:j<2*n):trS sx rx fy uy (sdz ts hss z j)=sdz (trT ts sx rx) (trH ts hss n sx fy uy) (zi sx (ts.length-1) z) (ti fy n j):=by
 have tj:=BS (fy:=fy) hj
 have tt:=WS (fy:=fy) hj
 rcases hs with rfl | rfl
 ·unfold trS sdz jY trP zi
  rw[if_pos rfl,if_pos rfl,zA (by omega),zA (by omega),yZ (by omega) tj,yZ (by omega) tj,tt]
  unfold si
  rw[if_pos rfl,if_pos rfl]
 ·unfold trS sdz jY trP zi
  rw[if_neg (by decide),if_neg (by decide),zA (by omega),zA (by omega),yZ (by omega) tj,yZ (by omega) tj,tt]
  unfold si
  rw[if_neg (by decide),if_neg (by decide),show ts.length-1-(ts.length-1-1-z)=z+1 by omega,show ts.length-1-(ts.length-1-1-z+1)=z by omega]
theorem fU:∀m:Nat,((List.range m).map λz=>m-1-z).Perm (List.range m)
 | 0=>.refl _
 | m+1=>by
  have e:(List.range (m+1)).map (λz=>m+1-1-z)=m::(List.range m).map λz=>m-1-z:=by
   rw[List.range_succ_eq_map,List.map_cons,List.map_map]
   congr 1
   exact List.map_congr_left λz _=>by show m+1-1-(z+1)=m-1-z;omega
  rw[e,List.range_succ]
  exact (List.Perm.cons m (fU m)).trans (List.perm_append_comm (l₁:=[m]))
theorem PZ (m:Nat):((List.range m).map (zi sx m)).Perm (List.range m):=by
 by_cases h:sx=1
 ·have:(List.range m).map (zi sx m)=List.range m:=by
   conv=>rhs;rw[<-List.map_id (List.range m)]
   exact List.map_congr_left λz _=>by unfold zi;rw[if_pos h];rfl
  rw[this]
 ·have:(List.range m).map (zi sx m)=(List.range m).map λz=>m-1-z:=List.map_congr_left λz _=>by unfold zi;rw[if_neg h]
  rw[this];exact fU m
theorem PV (n:Nat):((List.range (2*n)).map (ti fy n)).Perm (List.range (2*n)):=by
 by_cases h:fy=1
 ·have:(List.range (2*n)).map (ti fy n)=List.range (2*n):=by
   conv=>rhs;rw[<-List.map_id (List.range (2*n))]
   exact List.map_congr_left λz _=>by unfold ti;rw[if_pos h];rfl
  rw[this]
 ·have:(List.range (2*n)).map (ti fy n)=(List.range (2*n)).map λz=>2*n-1-z:=List.map_congr_left λz _=>by unfold ti;rw[if_neg h]
  rw[this];exact fU (2*n)
theorem RQ (hs:sx=1\/sx = -1) {j:Nat} (hj:j<2*n):((csd ts hss j).map (trS sx rx fy uy)).Perm (csd (trT ts sx rx) (trH ts hss n sx fy uy) (ti fy n j)):=by
 unfold csd
 rw[List.map_map,mF]
 have e:(List.range (ts.length-1)).map (trS sx rx fy uy ∘ λz=>sdz ts hss z j)=((List.range (ts.length-1)).map (zi sx (ts.length-1))).map λz=>sdz (trT ts sx rx) (trH ts hss n sx fy uy) z (ti fy n j):=by
  rw[List.map_map]
  exact List.map_congr_left λz hz=>MO hs (by have:=List.mem_range.mp hz;omega) hj
 rw[e]
 exact (PZ _).map _
theorem vZ {α β:Type} {f g:α->List β}:∀l:List α,(∀x∈l,(f x).Perm (g x))->((l.map f).flatten).Perm ((l.map g).flatten)
 | [],_=>.refl _
 | x::l,h=>by
  rw[List.map_cons,List.map_cons,List.flatten_cons,List.flatten_cons]
  exact (h x (.head _)).append (vZ l λy hy=>h y (.tail _ hy))
theorem RP (hs:sx=1\/sx = -1) (c:Int):∃c',∀s:bJ,cov c (trS sx rx fy uy s)=cov c' s:=by
 rcases hs with rfl | rfl
 ·refine⟨c-rx,λs=>?_⟩
  rw[Bool.eq_iff_iff,gC,gC]
  unfold trS trP
  rw[if_pos rfl]
  dsimp only
  omega
 ·refine⟨-c-rx-1,λs=>?_⟩
  rw[Bool.eq_iff_iff,gC,gC]
  unfold trS trP
  rw[if_neg (by decide)]
  dsimp only
  omega
theorem EJ {R:List (List Pt)} (K:Cloth ts hss n R) (hs:sx=1\/sx = -1):Cloth (trT ts sx rx) (trH ts hss n sx fy uy) n (R.map λg=>g.map (trP sx rx fy uy)):=by
 obtain⟨I,p,h1,h2⟩:=K.sides
 refine⟨by rw[List.length_map];exact K.len,λg hg=>?_,I.map (trS sx rx fy uy),?_,λs hs'=>?_,λc=>?_⟩
 ·obtain⟨g',hg',rfl⟩:=List.mem_map.mp hg
  rw[List.length_map];exact K.each g' hg'
 ·rw[RD hs]
  refine (p.map _).trans ?_
  rw[List.map_append,List.map_append]
  refine List.Perm.append_right _ ?_
  rw[List.map_flatten,List.map_map]
  refine (vZ (g:=λj=>csd (trT ts sx rx) (trH ts hss n sx fy uy) (ti fy n j)) _ λj hj=>RQ hs (List.mem_range.mp hj)).trans ?_
  have e:(List.range (2*n)).map (λj=>csd (trT ts sx rx) (trH ts hss n sx fy uy) (ti fy n j))=((List.range (2*n)).map (ti fy n)).map (csd (trT ts sx rx) (trH ts hss n sx fy uy)):=by rw[List.map_map];rfl
  rw[e]
  exact ((PV n).map _).flatten
 ·obtain⟨s',hs'',rfl⟩:=List.mem_map.mp hs'
  obtain⟨z,j,⟨hz,hj⟩,rfl⟩:=h1 s' hs''
  refine⟨zi sx (ts.length-1) z,ti fy n j,⟨?_,BS hj⟩,MO hs hz hj⟩
  rw[mF]
  unfold zi;split <;> omega
 ·obtain⟨c',hc⟩:=RP (sx:=sx) (rx:=rx) (fy:=fy) (uy:=uy) hs c
  rw[List.filter_map,List.length_map]
  have:(cov c ∘ trS sx rx fy uy)=cov c':=funext hc
  rw[this];exact h2 c'
end
end K26
namespace K26
open K22 K23
noncomputable def sm (f:Nat->Int):Nat->Int
 | 0=>0
 | k+1=>sm f k+f k
theorem dF {f g:Nat->Int}:∀k:Nat,(∀i,i<k->f i=g i)->sm f k=sm g k
 | 0,_=>rfl
 | k+1,h=>by
  show sm f k+f k=sm g k+g k
  rw[dF k λi hi=>h i (by omega),h k (by omega)]
theorem FQ (f:Nat->Int):∀k:Nat,sm f (k+1)=f 0+sm (λi=>f (i+1)) k
 | 0=>by show 0+f 0=f 0+0;omega
 | k+1=>by
  show sm f (k+1)+f (k+1)=f 0+(sm (λi=>f (i+1)) k+f (k+1))
  rw[FQ f k];omega
theorem yT (f:Nat->Int):∀k:Nat,sm (λi=>f (k-1-i)) k=sm f k
 | 0=>rfl
 | k+1=>by
  rw[FQ f]
  show sm (λi=>f (k+1-1-i)) k+f (k+1-1-k)=_
  rw[show k+1-1-k=0 by omega,<-yT (λi=>f (i+1)) k]
  have:sm (λi=>f (k+1-1-i)) k=sm (λi=>f (k-1-i+1)) k:=dF k λi hi=>by show f (k+1-1-i)=f (k-1-i+1);rw[show k+1-1-i=k-1-i+1 by omega]
  rw[this];omega
theorem EH (a:Int) (f:Nat->Int):∀k:Nat,sm (λi=>a*f i) k=a*sm f k
 | 0=>by show (0:Int)=a*0;rw[Int.mul_zero]
 | k+1=>by show sm (λi=>a*f i) k+a*f k=a*(sm f k+f k);rw[EH a f k,Int.mul_add]
theorem QX {sx:Int} (f:Nat->Int) (m:Nat):sm (λz=>f (zi sx m z)) m=sm f m:=by
 by_cases h:sx=1
 ·exact dF m λi _=>by show f (zi sx m i)=f i;unfold zi;rw[if_pos h]
 ·rw[<-yT f m]
  exact dF m λi _=>by show f (zi sx m i)=f (m-1-i);unfold zi;rw[if_neg h]
theorem yB (ts:List Int) (hss:List (List Int)) (z:Nat) (p:IP):∀i:Nat,lC ts hss z i p=sm (λi=>one (slp ts hss z (2*i+1)) p-one (slp ts hss z (2*i)) p) i
 | 0=>rfl
 | i+1=>by show lC ts hss z i p+_=sm _ i+_;rw[yB ts hss z p i]
theorem MT (ts:List Int) (hss:List (List Int)) (n:Nat) (p:IP):∀m:Nat,zs ts hss n m p=sm (λz=>Wd ts z*lC ts hss z n p) m
 | 0=>rfl
 | m+1=>by show zs ts hss n m p+_=sm _ m+_;rw[MT ts hss n p m]
noncomputable def hsm (hss:List (List Int)) (z i:Nat):Int:=sm (λi=>Hh hss z (2*i+1)-Hh hss z (2*i)) i
noncomputable def zsm (ts:List Int) (hss:List (List Int)) (n m:Nat):Int:=sm (λz=>Wd ts z*(hsm hss z n+hsm hss (z+1) n)) m
noncomputable def sgn (e:Int) (p:IP):IP:=(e*p.1,p.2)
theorem HA {a b:Int} (hb:0<b):cV (-a) b=(-(cV a b).1,(cV a b).2):=by
 have l1:Low (-a) b (cV (-a) b).1 (cV (-a) b).2:=cJ hb
 have l:Low a b (cV a b).1 (cV a b).2:=cJ hb
 have l2:Low (-a) b (-(cV a b).1) (cV a b).2:=iF hb l.pos (by rw[Int.neg_gcd];exact l.cop) (by rw[Int.neg_mul,Int.neg_mul,l.worth])
 obtain⟨e1,e2⟩:=K12.low_eq hb l1 l2
 exact Prod.ext e1 e2
theorem sO {e:Int} (h:e=1\/e = -1) (p:IP):sgn e (sgn e p)=p:=by
 unfold sgn
 rcases h with rfl | rfl
 ·exact Prod.ext (by show 1*(1*p.1)=p.1;omega) rfl
 ·exact Prod.ext (by show -1*(-1*p.1)=p.1;omega) rfl
theorem FC {e:Int} (h:e=1\/e = -1) (q p:IP):one (sgn e q) p=one q (sgn e p):=by
 unfold one
 by_cases k:sgn e q=p
 ·rw[if_pos k,if_pos (by rw[<-k,sO h])]
 ·rw[if_neg k,if_neg λz=>k (by rw[z,sO h])]
section
variable {ts:List Int} {hss:List (List Int)} {n:Nat} {sx rx fy uy:Int}
theorem IK (hs:sx=1\/sx = -1) {z:Nat} (hz:z+1<ts.length):Wd (trT ts sx rx) z=Wd ts (zi sx (ts.length-1) z):=by
 unfold Wd
 rw[zA hz,zA (show z<ts.length by omega)]
 rcases hs with rfl | rfl
 ·unfold si zi
  rw[if_pos rfl,if_pos rfl,if_pos rfl];omega
 ·unfold si zi
  rw[if_neg (by decide),if_neg (by decide),if_neg (by decide),show ts.length-1-1-z+1=ts.length-1-z by omega,show ts.length-1-(z+1)=ts.length-1-1-z by omega];omega
theorem UC (hs:sx=1\/sx = -1) (hf:fy=1\/fy = -1):sx*fy=1\/sx*fy = -1:=by
 rcases hs with rfl | rfl <;> rcases hf with rfl | rfl <;> decide
theorem MP (C:Curves ts hss n) (hs:sx=1\/sx = -1) (hf:fy=1\/fy = -1) {z j:Nat} (hz:z+1<ts.length) (hj:j<2*n):slp (trT ts sx rx) (trH ts hss n sx fy uy) z j=sgn (sx*fy) (slp ts hss (zi sx (ts.length-1) z) (ti fy n j)):=by
 have zl:zi sx (ts.length-1) z+1<ts.length:=by unfold zi;split <;> omega
 obtain⟨w0,_⟩:=eG C zl
 have key:Hh (trH ts hss n sx fy uy) (z+1) j-Hh (trH ts hss n sx fy uy) z j=sx*fy*(Hh hss (zi sx (ts.length-1) z+1) (ti fy n j)-Hh hss (zi sx (ts.length-1) z) (ti fy n j)):=by
  rw[yZ (by omega) hj,yZ (by omega) hj]
  rcases hs with rfl | rfl
  ·unfold si zi
   rw[if_pos rfl,if_pos rfl,if_pos rfl,Int.one_mul];grind
  ·unfold si zi
   rw[if_neg (by decide),if_neg (by decide),if_neg (by decide),show ts.length-1-1-z+1=ts.length-1-z by omega,show ts.length-1-(z+1)=ts.length-1-1-z by omega];grind
 unfold slp
 rw[key,IK hs hz]
 rcases UC hs hf with e | e <;> rw[e]
 ·rw[Int.one_mul];unfold sgn;rw[Int.one_mul]
 ·rw[show (-1:Int)*(Hh hss (zi sx (ts.length-1) z+1) (ti fy n j)-Hh hss (zi sx (ts.length-1) z) (ti fy n j)) = -(Hh hss (zi sx (ts.length-1) z+1) (ti fy n j)-Hh hss (zi sx (ts.length-1) z) (ti fy n j)) by omega,HA w0]
  unfold sgn
  exact Prod.ext (by show -_ = -1*_;omega) rfl
theorem NW (C:Curves ts hss n) (hs:sx=1\/sx = -1) (hf:fy=1\/fy = -1) {z:Nat} (hz:z+1<ts.length) (p:IP):lC (trT ts sx rx) (trH ts hss n sx fy uy) z n p=fy*lC ts hss (zi sx (ts.length-1) z) n (sgn (sx*fy) p):=by
 rw[yB,yB]
 have e:=UC hs hf
 have each:∀i,i<n->one (slp (trT ts sx rx) (trH ts hss n sx fy uy) z (2*i+1)) p-one (slp (trT ts sx rx) (trH ts hss n sx fy uy) z (2*i)) p=one (slp ts hss (zi sx (ts.length-1) z) (ti fy n (2*i+1))) (sgn (sx*fy) p)-one (slp ts hss (zi sx (ts.length-1) z) (ti fy n (2*i))) (sgn (sx*fy) p):=λi hi=>by
  rw[MP C hs hf hz (by omega),MP C hs hf hz (by omega),FC e,FC e]
 rw[dF n each]
 rcases hf with rfl | rfl
 ·rw[Int.one_mul]
  exact dF n λi _=>by unfold ti;rw[if_pos rfl,if_pos rfl]
 ·rw[<-yT (λi=>one (slp ts hss (zi sx (ts.length-1) z) (2*i+1)) (sgn (sx * -1) p)-one (slp ts hss (zi sx (ts.length-1) z) (2*i)) (sgn (sx * -1) p)) n,<-EH]
  refine dF n λi hi=>?_
  unfold ti
  rw[if_neg (by decide),if_neg (by decide),show 2*n-1-(2*i+1)=2*(n-1-i) by omega,show 2*n-1-2*i=2*(n-1-i)+1 by omega]
  omega
theorem WT (C:Curves ts hss n) (hs:sx=1\/sx = -1) (hf:fy=1\/fy = -1) (p:IP):zs (trT ts sx rx) (trH ts hss n sx fy uy) n (ts.length-1) p=fy*zs ts hss n (ts.length-1) (sgn (sx*fy) p):=by
 rw[MT,MT,<-QX (sx:=sx) (λz=>Wd ts z*lC ts hss z n (sgn (sx*fy) p)),<-EH]
 refine dF _ λz hz=>?_
 rw[IK hs (by omega),NW C hs hf (by omega)]
 grind
theorem KC (hf:fy=1\/fy = -1) {z:Nat} (hz:z<ts.length):hsm (trH ts hss n sx fy uy) z n=hsm hss (si sx (ts.length-1) z) n:=by
 unfold hsm
 have each:∀i,i<n->Hh (trH ts hss n sx fy uy) z (2*i+1)-Hh (trH ts hss n sx fy uy) z (2*i)=fy*(Hh hss (si sx (ts.length-1) z) (ti fy n (2*i+1))-Hh hss (si sx (ts.length-1) z) (ti fy n (2*i))):=λi hi=>by
  rw[yZ hz (by omega),yZ hz (by omega)];grind
 rw[dF n each]
 rcases hf with rfl | rfl
 ·exact dF n λi _=>by unfold ti;rw[if_pos rfl,if_pos rfl,Int.one_mul]
 ·rw[<-yT (λi=>Hh hss (si sx (ts.length-1) z) (2*i+1)-Hh hss (si sx (ts.length-1) z) (2*i)) n]
  refine dF n λi hi=>?_
  unfold ti
  rw[if_neg (by decide),if_neg (by decide),show 2*n-1-(2*i+1)=2*(n-1-i) by omega,show 2*n-1-2*i=2*(n-1-i)+1 by omega]
  omega
theorem UN (hs:sx=1\/sx = -1) (hf:fy=1\/fy = -1):zsm (trT ts sx rx) (trH ts hss n sx fy uy) n (ts.length-1)=zsm ts hss n (ts.length-1):=by
 unfold zsm
 rw[<-QX (sx:=sx) (λz=>Wd ts z*(hsm hss z n+hsm hss (z+1) n))]
 refine dF _ λz hz=>?_
 rw[IK hs (by omega),KC hf (by omega),KC hf (by omega)]
 rcases hs with rfl | rfl
 ·unfold si zi
  rw[if_pos rfl,if_pos rfl,if_pos rfl]
 ·unfold si zi
  rw[if_neg (by decide),if_neg (by decide),if_neg (by decide),show ts.length-1-1-z+1=ts.length-1-z by omega,show ts.length-1-(z+1)=ts.length-1-1-z by omega,Int.add_comm (hsm hss (ts.length-1-z) n)]
theorem QZ (C:Curves ts hss n) (p:IP):∀m:Nat,m<ts.length->(zs ts hss n m p).natAbs<=120*m
 | 0,_=>by show (0:Int).natAbs<=_;omega
 | m+1,h=>by
  have ih:=QZ C p m (by omega)
  have nn:=C.n1
  obtain⟨w0,w1⟩:=eG C (z:=m) h
  have ib:∀i:Nat,(lC ts hss m i p).natAbs<=i:=λi=>by
   induction i with
   | zero=>exact Nat.le_refl _
   | succ i ih =>
    show (lC ts hss m i p+(one (slp ts hss m (2*i+1)) p-one (slp ts hss m (2*i)) p)).natAbs<=i+1
    have o:∀q:IP,one q p=0\/one q p=1:=λq=>by unfold one;split <;> simp
    rcases o (slp ts hss m (2*i+1)) with e1 | e1 <;> rcases o (slp ts hss m (2*i)) with e2 | e2 <;> rw[e1,e2] <;> omega
  have hi:=ib n
  have:(Wd ts m*lC ts hss m n p).natAbs<=40*3:=by
   rw[Int.natAbs_mul]
   exact Nat.mul_le_mul (by omega) (by omega)
  show (zs ts hss n m p+Wd ts m*lC ts hss m n p).natAbs<=_
  omega
end
end K26
namespace K26
open K22 K23
section
variable {ts:List Int} {hss:List (List Int)} {n:Nat} {M:Int}
noncomputable def enR (ts:List Int) (hss:List (List Int)) (z:Nat) (k:Int) (i:Nat):Row :=
 ⟨T ts z+k,cV (K23.pr2 ts hss z k i).1.1 (Wd ts z),cV (K23.pr2 ts hss z k i).1.2 (Wd ts z),cV (K23.pr2 ts hss z k i).2.1 (Wd ts z),cV (K23.pr2 ts hss z k i).2.2 (Wd ts z)⟩
noncomputable def rz (ts:List Int) (hss:List (List Int)) (z:Nat) (k:Int):Nat->List Row
 | 0=>[]
 | i+1=>rz ts hss z k i++if (K23.pr2 ts hss z k i).1=(K23.pr2 ts hss z k i).2 then [] else [enR ts hss z k i]
noncomputable def rZ (ts:List Int) (hss:List (List Int)) (n z:Nat):Nat->List Row
 | 0=>[]
 | m+1=>rZ ts hss n z m++rz ts hss z m n
noncomputable def rA (ts:List Int) (hss:List (List Int)) (n:Nat):Nat->List Row
 | 0=>[]
 | m+1=>rA ts hss n m++rZ ts hss n m (Wd ts m).toNat
theorem MK (z:Nat) (k:Int):∀i,(ez ts hss z k i).map (·.1)=(rz ts hss z k i).map pW
 | 0=>rfl
 | i+1=>by
  unfold ez rz
  rw[List.map_append,List.map_append,MK z k i]
  by_cases e:(K23.pr2 ts hss z k i).1=(K23.pr2 ts hss z k i).2
  ·rw[if_pos e,if_pos e];rfl
  ·rw[if_neg e,if_neg e];rfl
theorem MD (z:Nat):∀m,(eZ ts hss n z m).map (·.1)=(rZ ts hss n z m).map pW
 | 0=>rfl
 | m+1=>by unfold eZ rZ;rw[List.map_append,List.map_append,MD z m,MK]
theorem DM:∀m,(eA ts hss n m).map (·.1)=(rA ts hss n m).map pW
 | 0=>rfl
 | m+1=>by unfold eA rA;rw[List.map_append,List.map_append,DM m,MD]
theorem FR {a b:List Row} {N N':Int} (h:Tot M a N) (h':Tot M b N'):Tot M (a++b) (N+N'):=by
 induction h' with
 | nil=>rw[List.append_nil];exact h.mono (by omega)
 | @snoc rs r N1 a' b' c' d' t V ih=>rw[<-List.append_assoc];exact (Tot.snoc ih V).mono (by omega)
theorem ML (C:Curves ts hss n) {z:Nat} {k c':Int} (hz:z+1<ts.length) (k0:0<=k) (k1:k+1<=Wd ts z) (eM:M=Wd ts z*c') (pc:0<c') (bc:BL 100 c'):∀i,i<=n->Tot M (rz ts hss z k i) (c'*(hsm hss z i*(2*Wd ts z-2*k-1)+hsm hss (z+1) i*(2*k+1)))
 | 0,_=>Tot.nil.mono (by show (0:Int)=c'*(0*_+0*_);rw[Int.zero_mul,Int.zero_mul,Int.add_zero,Int.mul_zero])
 | i+1,hi=>by
  have ih:=ML C hz k0 k1 eM pc bc i (by omega)
  obtain⟨w0,w1⟩:=eG C hz
  have ba0:=nW C (z:=z) (j:=2*i) (by omega) (by omega)
  have ba1:=nW C (z:=z) (j:=2*i+1) (by omega) (by omega)
  have bb0:=nW C (z:=z+1) (j:=2*i) (by omega) (by omega)
  have bb1:=nW C (z:=z+1) (j:=2*i+1) (by omega) (by omega)
  have s0:hsm hss z (i+1)=hsm hss z i+(Hh hss z (2*i+1)-Hh hss z (2*i)):=rfl
  have s1:hsm hss (z+1) (i+1)=hsm hss (z+1) i+(Hh hss (z+1) (2*i+1)-Hh hss (z+1) (2*i)):=rfl
  rw[s0,s1]
  have q11:(K23.pr2 ts hss z k i).1.1=lin (Wd ts z) k (Hh hss z (2*i)) (Hh hss (z+1) (2*i)):=rfl
  have q12:(K23.pr2 ts hss z k i).1.2=lin (Wd ts z) (k+1) (Hh hss z (2*i)) (Hh hss (z+1) (2*i)):=rfl
  have q21:(K23.pr2 ts hss z k i).2.1=lin (Wd ts z) k (Hh hss z (2*i+1)) (Hh hss (z+1) (2*i+1)):=rfl
  have q22:(K23.pr2 ts hss z k i).2.2=lin (Wd ts z) (k+1) (Hh hss z (2*i+1)) (Hh hss (z+1) (2*i+1)):=rfl
  have eR:enR ts hss z k i=⟨T ts z+k,cV (lin (Wd ts z) k (Hh hss z (2*i)) (Hh hss (z+1) (2*i))) (Wd ts z),cV (lin (Wd ts z) (k+1) (Hh hss z (2*i)) (Hh hss (z+1) (2*i))) (Wd ts z),cV (lin (Wd ts z) k (Hh hss z (2*i+1)) (Hh hss (z+1) (2*i+1))) (Wd ts z),cV (lin (Wd ts z) (k+1) (Hh hss z (2*i+1)) (Hh hss (z+1) (2*i+1))) (Wd ts z)⟩:=rfl
  unfold rz
  generalize Hh hss z (2*i)=La at *
  generalize Hh hss z (2*i+1)=Ua at *
  generalize Hh hss (z+1) (2*i)=Lb at *
  generalize Hh hss (z+1) (2*i+1)=Ub at *
  by_cases e:(K23.pr2 ts hss z k i).1=(K23.pr2 ts hss z k i).2
  ·rw[if_pos e,List.append_nil]
   refine ih.mono ?_
   have e1:=congrArg Prod.fst e
   have e2:=congrArg Prod.snd e
   rw[q11,q21] at e1
   rw[q12,q22] at e2
   unfold lin at e1 e2
   grind
  ·rw[if_neg e]
   have kl:∀{j:Int} {a b:Int},0<=j->j<=40->BL 210 a->BL 210 b->BL 400 (lin (Wd ts z) j a b*c'):=λ{j a b} j0 j1 ha hb =>
    (((ha.mul (n:=10) (BL.of_lt (by omega) (by omega))).add (hb.mul (n:=10) (BL.of_lt (by omega) (by omega)))).mul bc).mono (by decide)
   have V:RowV M (enR ts hss z k i) (lin (Wd ts z) k La Lb*c') (lin (Wd ts z) (k+1) La Lb*c') (lin (Wd ts z) k Ua Ub*c') (lin (Wd ts z) (k+1) Ua Ub*c'):=by
    rw[eM,eR]
    exact⟨(cJ w0).scale pc w0,(cJ w0).scale pc w0,(cJ w0).scale pc w0,(cJ w0).scale pc w0,kl k0 (by omega) ba0 bb0,kl (by omega) (by omega) ba0 bb0,kl k0 (by omega) ba1 bb1,kl (by omega) (by omega) ba1 bb1⟩
   refine (Tot.snoc ih V).mono ?_
   unfold lin
   grind
theorem ME (C:Curves ts hss n) {z:Nat} {c':Int} (hz:z+1<ts.length) (eM:M=Wd ts z*c') (pc:0<c') (bc:BL 100 c'):∀m:Nat,(m:Int)<=Wd ts z->Tot M (rZ ts hss n z m) (c'*(hsm hss z n*(2*Wd ts z*m-m*m)+hsm hss (z+1) n*(m*m)))
 | 0,_=>Tot.nil.mono (by simp)
 | m+1,h=>by
  have h1:=ME C hz eM pc bc m (by omega)
  have h2:=ML C (k:=(m:Int)) hz (by omega) (by omega) eM pc bc n (Nat.le_refl _)
  unfold rZ
  refine (FR h1 h2).mono ?_
  rw[show ((m+1:Nat):Int)=(m:Int)+1 by omega]
  grind
theorem LY (C:Curves ts hss n) (hM:0<M) (bM:BL 100 M) (dv:∀z,z+1<ts.length->Wd ts z∣M):∀m:Nat,m<ts.length->Tot M (rA ts hss n m) (M*zsm ts hss n m)
 | 0,_=>Tot.nil.mono (by show (0:Int)=M*0;rw[Int.mul_zero])
 | m+1,h=>by
  have h1:=LY C hM bM dv m (by omega)
  obtain⟨w0,w1⟩:=eG C (z:=m) h
  obtain⟨c',ec⟩:=dv m h
  have pc:0<c':=by
   apply Int.not_le.mp
   intro hn
   have:Wd ts m*c'<=0:=Int.mul_nonpos_of_nonneg_of_nonpos (by omega) hn
   omega
  have bc:BL 100 c':=by
   refine bM.le ?_
   have:c'<=M:=by
    rw[ec]
    have:0<=(Wd ts m-1)*c':=Int.mul_nonneg (by omega) (by omega)
    have e:Wd ts m*c'=c'+(Wd ts m-1)*c':=by grind
    omega
   omega
  have hW:(((Wd ts m).toNat:Nat):Int)=Wd ts m:=by omega
  have h2:=ME (M:=M) C h ec pc bc (Wd ts m).toNat (by omega)
  rw[hW] at h2
  unfold rA
  refine (FR h1 h2).mono ?_
  show _=M*(zsm ts hss n m+Wd ts m*(hsm hss m n+hsm hss (m+1) n))
  rw[ec]
  grind
noncomputable def pw (ts:List Int):Nat->Int
 | 0=>1
 | z+1=>pw ts z*Wd ts z
theorem QT (C:Curves ts hss n):∀m:Nat,m<ts.length->0<pw ts m/\pw ts m<=((40 ^ m:Nat):Int)/\∀z,z<m->Wd ts z∣pw ts m
 | 0,_=>⟨show (0:Int)<1 by decide,show (1:Int)<=((40 ^ 0:Nat):Int) by decide,λz h=>by omega⟩
 | m+1,h=>by
  obtain⟨h1,h2,h3⟩:=QT C m (by omega)
  obtain⟨w0,w1⟩:=eG C (z:=m) h
  refine⟨Int.mul_pos h1 w0,?_,λz hz=>?_⟩
  ·rw[Nat.pow_succ,Int.natCast_mul]
   exact Int.le_trans (Int.mul_le_mul_of_nonneg_right h2 (by omega)) (Int.mul_le_mul_of_nonneg_left w1 (Int.natCast_nonneg _))
  ·by_cases e:z=m
   ·subst e;exact Int.dvd_mul_left ..
   ·exact Int.dvd_trans (h3 z (by omega)) (Int.dvd_mul_right ..)
theorem NB (C:Curves ts hss n) {Q:D->Prop} (q:∀p q',Low (zsm ts hss n (ts.length-1)) 2 p q'->Q (fr p q')):fF [.lst ((eA ts hss n (ts.length-1)).map (·.1))] Q:=by
 have tl:=C.thr.len
 have nn:=C.n1
 obtain⟨p0,p1,p2⟩:=QT C (ts.length-1) (by omega)
 have bM:BL 100 (pw ts (ts.length-1)):=BL.of_lt (by omega) (Int.lt_of_le_of_lt (Int.le_trans p1 (Int.ofNat_le.mpr (Nat.pow_le_pow_right (by decide) (show ts.length-1<=4 by omega)))) (by decide))
 have tt:=LY C p0 bM (λz hz=>p2 z (by omega)) (ts.length-1) (by omega)
 obtain⟨_,_,_,len⟩:=xD C (ts.length-1) (by omega)
 have rl:(rA ts hss n (ts.length-1)).length<=1000:=by
  have e:=congrArg List.length (DM (ts:=ts) (hss:=hss) (n:=n) (ts.length-1))
  rw[List.length_map,List.length_map] at e
  have w:=C.thr.wide _ (List.mem_of_getElem? (gJ (ts:=ts) (i:=0) (by omega))) _ (List.mem_of_getElem? (gJ (ts:=ts) (i:=ts.length-1) (by omega)))
  have w0:0<=T ts (ts.length-1)-T ts 0:=by have:=lG C.thr (i:=0) (j:=ts.length-1) (by omega) (by omega);omega
  have:(n:Int)*(T ts (ts.length-1)-T ts 0)<=3*60:=Int.mul_le_mul (by omega) w w0 (by decide)
  omega
 refine⟨_,_,_,by rw[DM],⟨p0,bM.mono (by decide)⟩,rl,tt,λp q' L=>q p q' ?_⟩
 refine iF (by decide) L.pos L.cop ?_
 have w:=L.worth
 refine Int.eq_of_mul_eq_mul_left (a:=pw ts (ts.length-1)) (by omega) ?_
 grind
end
end K26
namespace K26
open K22 K23
noncomputable def sA:FD:=λds Q=>∃(ts:List Int) (hss:List (List Int)) (n:Nat),ds=[il ts,ill hss]/\Curves ts hss n/\∀p q,Low (zsm ts hss n (ts.length-1)) 2 p q->Q (fr p q)
theorem GX:∀ds Q,sA ds Q->ds.length=2:=by rintro ds Q ⟨_,_,_,rfl,_⟩;rfl
theorem rS:∀ds Q,sA ds Q->fM yY { nx:=λ_=>Q .non,rt:=Q } (aO ["_law_threads_here","_law_heights_here","_law_total","_law_zone","_law_low","_law_ends","_law_high"] ds):=by
 rintro ds Q ⟨ts,hss,n,rfl,C,q⟩
 have tl:=C.thr.len
 have hl:=C.len
 have nn:=C.n1
 rw[aS 5 rfl]
 unfold fM
 simp only[cI,vJ,List.map_cons,List.map_nil,List.cons_append,List.nil_append]
 refine aJ (λρ=>ρ=[some (.d (il ts)),some (.d (ill hss)),some (.d (.int 0)),none,none,none,none]) (λK hK=>?_) ?_
 ·walk_at "rd"
  exact hK _ rfl
 rintro ρ rfl
 refine aJ (λρ=>∃a b c d:Option S,ρ=[some (.d (il ts)),some (.d (ill hss)),some (.d (.int (zsm ts hss n (ts.length-1)))),a,b,c,d]) (λK hK=>?_) ?_
 ·walk_at "rd"
  refine⟨⟨by rw[List.length_map];omega,by rw[List.length_map];omega⟩,?_⟩
  rw[List.length_map,show ((ts.length:Int)-1).toNat=ts.length-1 by omega]
  refine iW 0 (ts.length-1) (λz ρ=>∃a b c d:Option S,ρ=[some (.d (il ts)),some (.d (ill hss)),some (.d (.int (zsm ts hss n z))),a,b,c,d]) ?_ (λρ ⟨a,b,c,d,e⟩=>hK ρ ⟨a,b,c,d,e⟩) _ ⟨none,none,none,none,rfl⟩
  rintro z ρ hz ⟨a,b,c,d,rfl⟩ F _ _ hn _
  have e0:=gJ (ts:=ts) (i:=z) (by omega)
  have e1:=gJ (ts:=ts) (i:=z+1) (by omega)
  have g0:=qU (hss:=hss) (z:=z) (by omega)
  have g1:=qU (hss:=hss) (z:=z+1) (by omega)
  obtain⟨w0,w1⟩:=eG C (z:=z) (by omega)
  have i0:=qU (hss:=hss) (z:=0) (by omega)
  have l0:=C.each _ (List.mem_of_getElem? i0)
  have ez:((0:Int)+(z:Int))=(z:Int):=by omega
  have ez1:((z:Int)+1)=((z+1:Nat):Int):=by omega
  unfold iZ
  simp only[aR,List.set_cons_zero,List.set_cons_succ]
  rw[ez]
  walk_at "rd"
  refine gD (x:=il (hss.getD 0 [])) (dN (j:=0) (by rw[List.getElem?_map,i0];rfl)) ?_
  walk_at "rd"
  refine⟨⟨⟨by decide,by decide⟩,⟨by rw[List.length_map];omega,by rw[List.length_map];omega⟩,trivial⟩,?_⟩
  rw[List.length_map,l0,show (((2*n:Nat):Int)-0+1) / 2=(n:Int) by omega,Int.toNat_natCast]
  refine NS 0 n (λi ρ=>∃b c d:Option S,ρ=[some (.d (il ts)),some (.d (ill hss)),some (.d (.int (zsm ts hss n z+Wd ts z*(hsm hss z i+hsm hss (z+1) i)))),some (.d (.int z)),b,c,d]) ?_ ?_ _ ⟨b,c,d,?_⟩
  ·rintro i ρ hi ⟨b,c,d,rfl⟩ F' _ _ hn' _
   have a0:=nX C (z:=z) (j:=2*i) (by omega) (by omega)
   have a1:=nX C (z:=z) (j:=2*i+1) (by omega) (by omega)
   have b0:=nX C (z:=z+1) (j:=2*i) (by omega) (by omega)
   have b1:=nX C (z:=z+1) (j:=2*i+1) (by omega) (by omega)
   have ba0:=nW C (z:=z) (j:=2*i) (by omega) (by omega)
   have ba1:=nW C (z:=z) (j:=2*i+1) (by omega) (by omega)
   have bb0:=nW C (z:=z+1) (j:=2*i) (by omega) (by omega)
   have bb1:=nW C (z:=z+1) (j:=2*i+1) (by omega) (by omega)
   have ei:((0:Int)+(i:Int)*2)=((2*i:Nat):Int):=by omega
   have ei1:(((2*i:Nat):Int)+1)=((2*i+1:Nat):Int):=by omega
   unfold iY
   simp only[aR,List.set_cons_zero,List.set_cons_succ]
   rw[ei]
   simp only[cL,riL,gQ,aB,aG,r2,r1,aD,aK,rC,bQ,L2.R2.S.val,List.getElem?_cons_zero,List.getElem?_cons_succ]
   refine tL g0 ?_
   rw[ez1]
   refine tL g1 ?_
   refine⟨sz2,?_⟩
   have step:∀(j:Nat) (t:Int) (E:DEnds) (y c d:Option S),(hss.getD j [])[2*i]? = some (Hh hss j (2*i))->(hss.getD j [])[2*i+1]? = some (Hh hss j (2*i+1))->BL 210 (Hh hss j (2*i))->BL 210 (Hh hss j (2*i+1)) ->
     (∀d,E.nx [some (.d (il ts)),some (.d (ill hss)),some (.d (.int (t+(Hh hss j (2*i+1)-Hh hss j (2*i))*Wd ts z))),some (.d (.int z)),some (.d (.int ((2*i:Nat):Int))),some (.d (il (hss.getD j []))),d]) ->
     fN E [some (.d (il ts)),some (.d (ill hss)),some (.d (.int t)),some (.d (.int z)),some (.d (.int ((2*i:Nat):Int))),some (.d (il (hss.getD j []))),d]:=λj t E y c d k0 k1 l0 l1 fin=>by
    unfold fN
    refine aJ (λρ=>ρ=[some (.d (il ts)),some (.d (ill hss)),some (.d (.int t)),some (.d (.int z)),some (.d (.int ((2*i:Nat):Int))),some (.d (il (hss.getD j []))),some (.d (.int (Hh hss j (2*i+1)-Hh hss j (2*i))))]) (λK hK=>?_) ?_
    ·simp only[bD,r2,aD,rC,bQ,L2.R2.S.val,List.getElem?_cons_zero,List.getElem?_cons_succ]
     rw[ei1]
     refine mN k1 (mN k0 ?_)
     exact hK _ rfl
    rintro ρ rfl
    simp only[bD,r2,aD,rC,bQ,eL,cB,L2.R2.S.val,List.getElem?_cons_zero,List.getElem?_cons_succ,List.set_cons_zero,List.set_cons_succ]
    rw[ez1]
    refine mN e1 (mN e0 ?_)
    exact⟨(l1.sub l0).mulOk (n:=10) (BL.of_lt (show _<T ts (z+1)-T ts z from by show _<Wd ts z;omega) (show T ts (z+1)-T ts z<_ from by show Wd ts z<_;omega)),fin _⟩
   simp only[tK,aR,List.set_cons_zero,List.set_cons_succ]
   refine step z _ _ none none d a0 a1 ba0 ba1 λd1=>?_
   simp only[List.set_cons_zero,List.set_cons_succ]
   refine step (z+1) _ _ none none d1 b0 b1 bb0 bb1 λd2=>?_
   have s0:hsm hss z (i+1)=hsm hss z i+(Hh hss z (2*i+1)-Hh hss z (2*i)):=rfl
   have s1:hsm hss (z+1) (i+1)=hsm hss (z+1) i+(Hh hss (z+1) (2*i+1)-Hh hss (z+1) (2*i)):=rfl
   rw[show zsm ts hss n z+Wd ts z*(hsm hss z i+hsm hss (z+1) i)+(Hh hss z (2*i+1)-Hh hss z (2*i))*Wd ts z+(Hh hss (z+1) (2*i+1)-Hh hss (z+1) (2*i))*Wd ts z=zsm ts hss n z+Wd ts z*(hsm hss z (i+1)+hsm hss (z+1) (i+1)) by rw[s0,s1];grind]
   exact hn' _ ⟨_,_,d2,rfl⟩
  ·rintro ρ ⟨b,c,d,rfl⟩
   exact hn _ ⟨_,b,c,d,rfl⟩
  ·show _=[some (.d (il ts)),some (.d (ill hss)),some (.d (.int (zsm ts hss n z+Wd ts z*(0+0)))),some (.d (.int z)),b,c,d]
   rw[Int.add_zero,Int.mul_zero,Int.add_zero]
 rintro ρ ⟨a,b,c,d,rfl⟩
 walk_at "rd"
 exact⟨_,_,rfl,⟨by decide,(BL.of_lt (m:=10) (by decide) (by decide)).mono (by decide)⟩,q⟩
noncomputable def iT:FD:=pZ
theorem vA:∀ds Q,iT ds Q->ds.length=2:=uZ
theorem nO:∀ds Q,iT ds Q->dR yY { nx:=λ_=>Q .non,rt:=Q } (aO ["_law_threads_here","_law_heights_here","_law_numbers_here","_law_zone","_law_wide","_law_curve","_law_rise","_law_slope"] ds):=by
 rintro ds Q ⟨ts,hss,n,rfl,C,q⟩
 have lok:=IJ C
 have tl:=C.thr.len
 have hl:=C.len
 have nn:=C.n1
 rw[aS 6 rfl]
 unfold dR
 simp only[cI,EB,List.map_cons,List.map_nil,List.cons_append,List.nil_append]
 refine aJ (λρ=>ρ=[some (.d (il ts)),some (.d (ill hss)),some (.dt [] []),none,none,none,none,none]) (λK hK=>hK _ rfl) ?_
 rintro ρ rfl
 refine aJ (λρ=>∃(ks:List (List Int)) (xs:List D) (a b c d e:Option S),Cts (SL ts hss n) ks xs (zs ts hss n (ts.length-1))/\ρ=[some (.d (il ts)),some (.d (ill hss)),some (.dt ks xs),a,b,c,d,e]) (λK hK=>?_) ?_
 ·walk_at "rd"
  refine⟨⟨by rw[List.length_map];omega,by rw[List.length_map];omega⟩,?_⟩
  rw[List.length_map,show ((ts.length:Int)-1).toNat=ts.length-1 by omega]
  refine iW 0 (ts.length-1) (λz ρ=>∃(ks:List (List Int)) (xs:List D) (a b c d e:Option S),Cts (SL ts hss n) ks xs (zs ts hss n z)/\ρ=[some (.d (il ts)),some (.d (ill hss)),some (.dt ks xs),a,b,c,d,e]) ?_ ?_ _ ⟨[],[],none,none,none,none,none,Cts.nil _,rfl⟩
  ·rintro z ρ hz ⟨ks0,xs0,a,b,c,d,e,T0,rfl⟩ F _ _ hn _
   have e0:=gJ (ts:=ts) (i:=z) (by omega)
   have e1:=gJ (ts:=ts) (i:=z+1) (by omega)
   obtain⟨w0,w1⟩:=eG C (z:=z) (by omega)
   unfold gS
   simp only[aR,List.set_cons_zero,List.set_cons_succ]
   have ez:((0:Int)+(z:Int)+1)=((z+1:Nat):Int):=by omega
   have ez0:((0:Int)+(z:Int))=(z:Int):=by omega
   refine aJ (λρ=>ρ=[some (.d (il ts)),some (.d (ill hss)),some (.dt ks0 xs0),some (.d (.int z)),some (.d (.int (Wd ts z))),c,d,e]) (λK hK=>?_) ?_
   ·walk_at "rd"
    rw[ez,ez0]
    refine mN e1 (mN e0 ?_)
    exact hK _ rfl
   rintro ρ rfl
   walk_at "rd"
   have i0:=qU (hss:=hss) (z:=0) (by omega)
   refine gD (x:=il (hss.getD 0 [])) (dN (j:=0) (by rw[List.getElem?_map,i0];rfl)) ?_
   have l0:=C.each _ (List.mem_of_getElem? i0)
   walk_at "rd"
   refine⟨⟨by rw[List.length_map];omega,by rw[List.length_map];omega⟩,?_⟩
   rw[List.length_map,l0,Int.toNat_natCast]
   refine iW 0 (2*n) (λj ρ=>∃(ks:List (List Int)) (xs:List D) (c d e:Option S),Cts (SL ts hss n) ks xs (λp=>zs ts hss n z p+GQ ts hss z j p)/\ρ=[some (.d (il ts)),some (.d (ill hss)),some (.dt ks xs),some (.d (.int z)),some (.d (.int (Wd ts z))),c,d,e]) ?_ ?_ _ ⟨ks0,xs0,c,d,e,T0.mono λp=>(Int.add_zero _).symm,rfl⟩
   ·rintro j ρ hj ⟨ks1,xs1,c,d,e,T1,rfl⟩ F' _ _ hn' _
    have ej:((0:Int)+(j:Int))=(j:Int):=by omega
    have g0:=qU (hss:=hss) (z:=z) (by omega)
    have g1:=qU (hss:=hss) (z:=z+1) (by omega)
    have a0:=nX C (z:=z) (j:=j) (by omega) (by omega)
    have a1:=nX C (z:=z+1) (j:=j) (by omega) (by omega)
    have ez1:((z:Int)+1)=((z+1:Nat):Int):=by omega
    unfold gR
    simp only[aR,List.set_cons_zero,List.set_cons_succ]
    rw[ej]
    refine aJ (λρ=>ρ=[some (.d (il ts)),some (.d (ill hss)),some (.dt ks1 xs1),some (.d (.int z)),some (.d (.int (Wd ts z))),some (.d (.int j)),some (.d (.int (Hh hss (z+1) j-Hh hss z j))),e]) (λK hK=>?_) ?_
    ·walk_at "rd"
     rw[ez1]
     refine tL g1 (mN a1 (tL g0 (mN a0 ?_)))
     exact hK _ rfl
    rintro ρ rfl
    refine aJ (λρ=>ρ=[some (.d (il ts)),some (.d (ill hss)),some (.dt ks1 xs1),some (.d (.int z)),some (.d (.int (Wd ts z))),some (.d (.int j)),some (.d (.int (Hh hss (z+1) j-Hh hss z j))),some (.d (frP (slp ts hss z j)))]) (λK hK=>?_) ?_
    ·walk_at "rd"
     refine⟨_,_,rfl,⟨w0,(BL.of_lt (m:=10) (by omega) (by omega)).mono (by decide)⟩,λp q' lo=>?_⟩
     obtain⟨x1,x2⟩:=K12.low_eq w0 lo (sP hss w0 j)
     rw[x1,x2]
     exact hK _ rfl
    rintro ρ rfl
    simp only[qO,qN,r2,aK,rC,List.getElem?_cons_zero,List.getElem?_cons_succ,List.set_cons_zero,List.set_cons_succ]
    refine⟨ck (slp ts hss z j),rfl,?_⟩
    rw[T1.get]
    have hm:(j:Int).fmod 2=((j % 2:Nat):Int):=by rw[Int.fmod_eq_emod_of_nonneg _ (by decide)];rfl
    walk_at "rd"
    refine⟨cU,?_⟩
    rw[hm]
    refine gD (x:=.int (if j % 2=0 then -1 else 1)) (dN (j:=j % 2) ?_) ?_
    ·rcases Nat.mod_two_eq_zero_or_one j with h | h <;> rw[h] <;> rfl
    walk_at "rd"
    refine⟨(BL.of_lt (m:=10) (by omega) (by omega)).mulOk (n:=10) (BL.of_lt (by split <;> omega) (by split <;> omega)),ck (slp ts hss z j),rfl,bL (by have:=T1.len;have:=lok.len;omega),?_⟩
    refine hn' _ ⟨_,_,_,_,_,(T1.put (yS C (by omega) hj) _).mono λp=>?_,rfl⟩
    show _+GQ ts hss z j p+_=_+(GQ ts hss z j p+_)
    omega
   ·rintro ρ ⟨ks1,xs1,c,d,e,T1,rfl⟩
    exact hn _ ⟨ks1,xs1,_,_,c,d,e,T1.mono λp=>by rw[AD];rfl,rfl⟩
  ·rintro ρ ⟨ks,xs,a,b,c,d,e,T,rfl⟩
   exact hK _ ⟨ks,xs,a,b,c,d,e,T,rfl⟩
 rintro ρ ⟨ks,xs,a,b,c,d,e,T,rfl⟩
 simp only[dY,S.fz,bX,aK,List.getElem?_cons_zero,List.getElem?_cons_succ,List.set_cons_zero,List.set_cons_succ]
 exact q ks xs T
end K26
namespace K26
open K22 K23
theorem HB {p q r:IP} (hp:0<p.2) (hq:0<q.2) (hr:0<r.2) (h1:ltR p q) (h2:ltR q r):ltR p r:=by
 unfold ltR at *
 have a:=Int.mul_lt_mul_of_pos_right h1 hr
 have b:=Int.mul_lt_mul_of_pos_right h2 hp
 have e1:q.1*p.2*r.2=q.1*r.2*p.2:=by grind
 have e2:p.1*q.2*r.2=p.1*r.2*q.2:=by grind
 have e3:r.1*q.2*p.2=r.1*p.2*q.2:=by grind
 rw[e1,e2] at a
 rw[e3] at b
 exact Int.lt_of_mul_lt_mul_right (Int.lt_trans a b) (Int.le_of_lt hq)
theorem SZ {p q:IP} (hp:0<p.2) (hq:0<q.2) (gp:Int.gcd p.1 p.2=1) (gq:Int.gcd q.1 q.2=1) (ne:p≠q):ltR p q\/ltR q p:=by
 unfold ltR
 rcases Int.lt_trichotomy (p.1*q.2) (q.1*p.2) with h | h | h
 ·exact .inl h
 ·refine absurd ?_ ne
  have l1:Low p.1 p.2 p.1 p.2:=iF hp hp gp rfl
  have l2:Low p.1 p.2 q.1 q.2:=iF hp hq gq h.symm
  obtain⟨a,b⟩:=K12.low_eq hp l1 l2
  exact Prod.ext a b
 ·exact .inr h
noncomputable def smaller (o:IP) (gs:List IP):Nat:=(gs.filter λr=>decide (r.1*o.2<o.1*r.2)).length
theorem KG {o:IP} (ho:0<o.2):∀gs:List IP,gs.Pairwise ltR->(∀r∈gs,0<r.2/\(ltR r o\/ltR o r))->(gs.take (smaller o gs)++o::gs.drop (smaller o gs)).Pairwise ltR/\smaller o gs<=gs.length
 | [],_,_=>⟨List.pairwise_singleton _ _,Nat.le_refl _⟩
 | r::gs,hp,hr=>by
  obtain⟨p1,p2⟩:=List.pairwise_cons.mp hp
  obtain⟨r0,rc⟩:=hr r (.head _)
  by_cases h:ltR r o
  ·have e:smaller o (r::gs)=smaller o gs+1:=by
    unfold smaller
    rw[List.filter_cons_of_pos (by exact decide_eq_true h),List.length_cons]
   obtain⟨i1,i2⟩:=KG ho gs p2 λx hx=>hr x (.tail _ hx)
   rw[e,List.take_succ_cons,List.drop_succ_cons]
   refine⟨List.pairwise_cons.mpr ⟨λx hx=>?_,i1⟩,by rw[List.length_cons];omega⟩
   rcases List.mem_append.mp hx with hx | hx
   ·exact p1 x (List.mem_of_mem_take hx)
   ·rcases List.mem_cons.mp hx with rfl | hx
    ·exact h
    ·exact p1 x (List.mem_of_mem_drop hx)
  ·have h':ltR o r:=rc.resolve_left h
   have all:∀x∈r::gs,ltR o x:=λx hx=>by
    rcases List.mem_cons.mp hx with rfl | hx
    ·exact h'
    ·exact HB ho r0 (hr x (.tail _ hx)).1 h' (p1 x hx)
   have e:smaller o (r::gs)=0:=by
    unfold smaller
    rw[List.filter_eq_nil_iff.mpr λx hx=>?_]
    ·rfl
    ·have:=all x hx
     unfold ltR at this
     simp
     omega
   rw[e,List.take_zero,List.drop_zero,List.nil_append]
   exact⟨List.pairwise_cons.mpr ⟨all,hp⟩,Nat.zero_le _⟩
noncomputable def oF (c:IP->Int) (e s1:Int) (p:IP):D:=.tup [frP p,.int (c (sgn e p)*s1)]
noncomputable def rY:FD:=λds Q=>∃(L:List IP) (c:IP->Int) (ks:List (List Int)) (xs:List D) (e s1:Int),ds=[.dtt ks xs,.tup [.int e,.int s1]]/\(LOk L/\Cts L ks xs c/\(e=1\/e = -1)/\BL 10 s1/\∀p,BL 100 (c p))/\∀gs:List IP,gs.Pairwise ltR->(∀p,p∈gs↔c (sgn e p)≠0)->Q (.lst (gs.map (oF c e s1)))
theorem GW:∀ds Q,rY ds Q->ds.length=2:=by rintro ds Q ⟨_,_,_,_,_,_,rfl,_⟩;rfl
theorem xB (c:IP->Int):∀kl:List IP,List.zipWith (λk x=>D.tup [dM k,x]) (kl.map ck) (kl.map λp=>D.int (c p))=kl.map λp=>D.tup [frP p,.int (c p)]
 | []=>rfl
 | p::kl=>by
  show _::List.zipWith _ (kl.map ck) _=_
  rw[xB c kl];rfl
theorem uG:∀ds Q,rY ds Q->gF { nx:=λ_=>Q .non,rt:=Q } (aO ["_law_numbers_here","_law_signs","_law_found","_law_slope","_law_number","_law_one","_law_at"] ds):=by
 rintro ds Q ⟨L,c,ks,xs,e,s1,rfl,⟨lok,T,he,bs,bc⟩,q⟩
 rw[aS 5 rfl]
 unfold gF
 simp only[cI,vJ,List.map_cons,List.map_nil,List.cons_append,List.nil_append]
 obtain⟨kl,rfl,rfl,nd,sub,zer⟩:=T.ex
 have l24:=lok.len
 have kl24:=oM kl L nd sub
 have se:∀p:IP,p.1*e=e*p.1:=λp=>Int.mul_comm ..
 refine aJ (λρ=>ρ=[some (.d (.dtt (kl.map ck) (kl.map λp=>D.int (c p)))),some (.d (.tup [.int e,.int s1])),some (.own []),none,none,none,none]) (λK hK=>?_) ?_
 ·walk_at "rd"
  exact hK _ rfl
 rintro ρ rfl
 refine aJ (λρ=>∃(gs:List IP) (a b d f:Option S),(gs.Pairwise ltR/\∀p,p∈gs↔c (sgn e p)≠0)/\ρ=[some (.d (.dtt (kl.map ck) (kl.map λp=>D.int (c p)))),some (.d (.tup [.int e,.int s1])),some (.own (gs.map (oF c e s1))),a,b,d,f]) (λK hK=>?_) ?_
 ·simp only[cL,yQ,aK,List.getElem?_cons_zero]
  rw[xB]
  refine iD _ (λi ρ=>∃(gs:List IP) (a b d f:Option S),(gs.Pairwise ltR/\gs.length<=i/\∀p,p∈gs↔c (sgn e p)≠0/\sgn e p∈kl.take i)/\ρ=[some (.d (.dtt (kl.map ck) (kl.map λp=>D.int (c p)))),some (.d (.tup [.int e,.int s1])),some (.own (gs.map (oF c e s1))),a,b,d,f]) ?_ ?_ _ ⟨[],none,none,none,none,⟨.nil,Nat.le_refl _,λp=>⟨(λh=>by cases h),(λh=>by cases h.2)⟩⟩,rfl⟩
  ·rintro i x ρ ex ⟨gs,a,b,d,f,⟨g1,gl,g2⟩,rfl⟩ F _ _ hn _
   rw[List.getElem?_map] at ex
   cases er:kl[i]? with
   | none=>rw[er] at ex;cases ex
   | some p =>
    rw[er] at ex
    cases ex
    have hp:=List.mem_of_getElem? er
    have hi:i<kl.length:=(List.getElem?_eq_some_iff.mp er).1
    obtain⟨p0,p1,p2,p3⟩:=lok.each p (sub p hp)
    have et:kl.take (i+1)=kl.take i++[p]:=by rw[List.take_succ,er];rfl
    simp only[fX,cE,fW,aR,List.length_cons,List.length_nil,List.set_cons_zero,List.set_cons_succ]
    refine⟨trivial,?_⟩
    unfold jU
    by_cases cp:c p=0
    ·walk_at "rd"
     rw[if_neg (by simp[cp])]
     refine hn _ ⟨gs,_,_,_,_,⟨g1,by omega,λr=>?_⟩,rfl⟩
     rw[g2,et,List.mem_append,List.mem_singleton]
     constructor
     ·exact λh=>⟨h.1,.inl h.2⟩
     ·rintro⟨h1,h2 | h2⟩
      ·exact⟨h1,h2⟩
      ·rw[h2] at h1;exact absurd cp h1
    ·have ho:sgn e (sgn e p)=p:=sO he p
     have o2:(sgn e p).2=p.2:=rfl
     have og:Int.gcd (sgn e p).1 (sgn e p).2=1:=by
      show Int.gcd (e*p.1) p.2=1
      rcases he with rfl | rfl
      ·rw[Int.one_mul];exact p2
      ·rw[show (-1:Int)*p.1 = -p.1 by omega,Int.neg_gcd];exact p2
     have ob:BL 250 (sgn e p).1:=by
      show BL 250 (e*p.1)
      rcases he with rfl | rfl
      ·rw[Int.one_mul];exact p3
      ·rw[show (-1:Int)*p.1 = -p.1 by omega];unfold BL at *;omega
     have nin:sgn e p ∉ gs:=λz=>by
      have:=((g2 _).mp z).2
      rw[ho] at this
      obtain⟨k,hk,ek⟩:=List.getElem_of_mem this
      rw[List.length_take] at hk
      rw[List.getElem_take] at ek
      have hki:k<i:=by omega
      have e1:kl[k]? = some p:=by rw[List.getElem?_eq_getElem (by omega),ek]
      have e2:kl[i]=p:=by rw[List.getElem?_eq_getElem hi] at er;exact Option.some.inj er
      exact List.pairwise_iff_getElem.mp nd k i (by omega) hi hki (ek.trans e2.symm)
     have facts:∀r∈gs,0<r.2/\r.2<=40/\Int.gcd r.1 r.2=1/\BL 250 r.1:=λr hr=>by
      have:=((g2 r).mp hr).2
      have hL:=sub _ (List.mem_of_mem_take this)
      obtain⟨a0,a1,a2,a3⟩:=lok.each _ hL
      refine⟨a0,a1,?_,?_⟩
      ·have a2:Int.gcd (e*r.1) r.2=1:=a2
       rcases he with rfl | rfl
       ·rw[Int.one_mul] at a2;exact a2
       ·rw[show (-1:Int)*r.1 = -r.1 by omega,Int.neg_gcd] at a2;exact a2
      ·have a3:BL 250 (e*r.1):=a3
       rcases he with rfl | rfl
       ·rw[Int.one_mul] at a3;exact a3
       ·rw[show (-1:Int)*r.1 = -r.1 by omega] at a3;unfold BL at *;omega
     obtain⟨i1,i2⟩:=KG (o:=sgn e p) p0 gs g1 λr hr=>⟨(facts r hr).1,SZ (facts r hr).1 p0 (facts r hr).2.2.1 og λz=>nin (z ▸ hr)⟩
     simp only[gB,cD,r2,aD,rC,hU,L2.R2.S.val,List.getElem?_cons_zero,List.getElem?_cons_succ]
     rw[if_pos (by simp[cp])]
     refine aJ (λρ=>ρ=[some (.d (.dtt (kl.map ck) (kl.map λp=>D.int (c p)))),some (.d (.tup [.int e,.int s1])),some (.own (gs.map (oF c e s1))),some (.d (frP p)),some (.d (.int (c p))),some (.d (frP (sgn e p))),f]) (λK hK=>?_) ?_
     ·walk_at "rd"
      refine⟨p3.mulOk (n:=10) (by rcases he with rfl | rfl <;> exact BL.of_lt (by decide) (by decide)),?_⟩
      rw[se]
      exact hK _ rfl
     rintro ρ rfl
     refine aJ (λρ=>ρ=[some (.d (.dtt (kl.map ck) (kl.map λp=>D.int (c p)))),some (.d (.tup [.int e,.int s1])),some (.own (gs.map (oF c e s1))),some (.d (frP p)),some (.d (.int (c p))),some (.d (frP (sgn e p))),some (.d (.int (smaller (sgn e p) gs)))]) (λK hK=>?_) ?_
     ·simp only[bD,DQ,OI,r1,lK,riL,aK,List.getElem?_cons_zero,List.getElem?_cons_succ,List.set_cons_zero,List.set_cons_succ]
      refine⟨bL (by rw[List.length_map];omega),?_⟩
      refine iU (λρ=>∃u,ρ=[u,some (.d (frP (sgn e p)))]) (oF c e s1) (oF c e s1) (λr=>decide (r.1*(sgn e p).2<(sgn e p).1*r.2)) gs ?_ _ [] ⟨_,rfl⟩ ?_
      ·rintro r hr ρ ⟨u,rfl⟩ K' hK'
       obtain⟨r0,r1',r2',r3⟩:=facts r hr
       unfold oF
       walk_at "rd"
       refine⟨r3.mulOk (n:=10) (BL.of_lt (by rw[o2];omega) (by rw[o2];omega)),ob.mulOk (n:=10) (BL.of_lt (by omega) (by omega)),?_⟩
       exact hK' _ ⟨_,rfl⟩ λ_ K'' hk=>hk
      ·simp only[fI,List.nil_append,List.length_map]
       exact⟨_,rfl,hK _ rfl⟩
     rintro ρ rfl
     simp only[FI,aK,dU,aB,aG,r2,aD,rC,L2.R2.S.val,List.getElem?_cons_zero,List.getElem?_cons_succ,List.set_cons_zero,List.set_cons_succ]
     walk_at "rd"
     refine⟨(bc p).mulOk bs,smaller (sgn e p) gs,rfl,by rw[List.length_map];exact i2,bL (by rw[List.length_map];omega),?_⟩
     have eq:(gs.map (oF c e s1)).take (smaller (sgn e p) gs)++D.tup [frP (sgn e p),.int (c p*s1)]::(gs.map (oF c e s1)).drop (smaller (sgn e p) gs)=(gs.take (smaller (sgn e p) gs)++sgn e p::gs.drop (smaller (sgn e p) gs)).map (oF c e s1):=by
      rw[List.map_append,List.map_cons,List.map_take,List.map_drop]
      unfold oF
      rw[ho]
     rw[eq]
     refine hn _ ⟨gs.take (smaller (sgn e p) gs)++sgn e p::gs.drop (smaller (sgn e p) gs),_,_,_,_,⟨i1,by rw[List.length_append,List.length_cons,List.length_take,List.length_drop];omega,λr=>?_⟩,rfl⟩
     have mem:r∈gs.take (smaller (sgn e p) gs)++sgn e p::gs.drop (smaller (sgn e p) gs)↔r∈gs\/r=sgn e p:=by
      conv=>rhs;rw[<-List.take_append_drop (smaller (sgn e p) gs) gs]
      rw[List.mem_append,List.mem_cons,List.mem_append]
      constructor
      ·rintro (h | h | h)
       ·exact .inl (.inl h)
       ·exact .inr h
       ·exact .inl (.inr h)
      ·rintro ((h | h) | h)
       ·exact .inl h
       ·exact .inr (.inr h)
       ·exact .inr (.inl h)
     rw[mem,g2,et,List.mem_append,List.mem_singleton]
     constructor
     ·rintro (⟨h1,h2⟩ | rfl)
      ·exact⟨h1,.inl h2⟩
      ·rw[ho];exact⟨cp,.inr rfl⟩
     ·rintro⟨h1,h2 | h2⟩
      ·exact .inl ⟨h1,h2⟩
      ·exact .inr (by rw[<-h2,sO he])
  ·rintro ρ ⟨gs,a,b,d,f,⟨g1,gl,g2⟩,rfl⟩
   rw[List.length_map,List.take_length] at g2
   refine hK _ ⟨gs,a,b,d,f,⟨g1,λp=>(g2 p).trans ⟨λh=>h.1,λh=>⟨h,Decidable.byContradiction λz=>h (zer _ z)⟩⟩⟩,rfl⟩
 rintro ρ ⟨gs,a,b,d,f,⟨g1,g2⟩,rfl⟩
 simp only[dY,S.fz,bX,aK,List.getElem?_cons_zero,List.getElem?_cons_succ,List.set_cons_zero,List.set_cons_succ]
 exact q gs g1 g2
end K26
namespace K22
theorem pure_leaningsF:∀ds Q,F_leanings ds Q->gI F_lslope F_rising F_uslope { nx:=λ_=>Q .non,rt:=Q } (aO ["rows","numbers","row","upper","lower"] ds):=by
 rintro ds Q ⟨L,es,rfl,⟨lok,eok⟩,q⟩
 rw[aS 4 rfl]
 unfold gI
 simp only[cI,EA,List.map_cons,List.map_nil,List.cons_append,List.nil_append]
 refine aJ (λρ=>ρ=[some (.d (.lst (es.map (·.1)))),some (.dt [] []),none,none,none]) (λK hK=>?_) ?_
 ·exact hK _ rfl
 rintro ρ rfl
 refine aJ (λρ=>∃(ks:List (List Int)) (xs:List D) (a b c:Option S),Cts L ks xs (λp=>cOf p es)/\ρ=[some (.d (.lst (es.map (·.1)))),some (.dt ks xs),a,b,c]) (λK hK=>?_) ?_
 ·simp only[cL,riL,aK,List.getElem?_cons_zero]
  refine iD _ (λi ρ=>∃(ks:List (List Int)) (xs:List D) (a b c:Option S),Cts L ks xs (λp=>cOf p (es.take i))/\ρ=[some (.d (.lst (es.map (·.1)))),some (.dt ks xs),a,b,c]) ?_ ?_ _ ⟨[],[],none,none,none,(Cts.nil L).mono λp=>rfl,rfl⟩
  ·rintro i x ρ e ⟨ks,xs,a,b,c,C,rfl⟩ F _ _ hn _
   rw[List.getElem?_map] at e
   cases er:es[i]? with
   | none=>rw[er] at e;cases e
   | some en =>
    rw[er] at e
    cases e
    obtain⟨rs,hu,hl⟩:=eok en (List.mem_of_getElem? er)
    have et:es.take (i+1)=es.take i++[en]:=by rw[List.take_succ,er];rfl
    have l24:=lok.len
    unfold jW
    simp only[aR,List.set_cons_zero,List.set_cons_succ]
    refine aJ (λρ=>ρ=[some (.d (.lst (es.map (·.1)))),some (.dt ks xs),some (.d en.1),some (.d (frP en.2.1)),c]) (λK hK=>?_) ?_
    ·simp only[bD,aU,aB,aG,aK,List.getElem?_cons_zero,List.getElem?_cons_succ,List.set_cons_zero,List.set_cons_succ]
     exact⟨en.1,_,_,rfl,rs,hK _ rfl⟩
    rintro ρ rfl
    have C1:=C.put hu 1
    refine aJ (λρ=>∃ks1 xs1,Cts L ks1 xs1 (λp=>cOf p (es.take i)+1*one en.2.1 p)/\ρ=[some (.d (.lst (es.map (·.1)))),some (.dt ks1 xs1),some (.d en.1),some (.d (frP en.2.1)),c]) (λK hK=>?_) ?_
    ·simp only[qO,qN,r2,aK,rC,List.getElem?_cons_zero,List.getElem?_cons_succ,List.set_cons_zero,List.set_cons_succ]
     refine⟨ck en.2.1,rfl,?_⟩
     rw[C.get]
     refine⟨ck en.2.1,rfl,bL (by have:=C.len;omega),hK _ ⟨_,_,C1,rfl⟩⟩
    rintro ρ ⟨ks1,xs1,C1,rfl⟩
    refine aJ (λρ=>ρ=[some (.d (.lst (es.map (·.1)))),some (.dt ks1 xs1),some (.d en.1),some (.d (frP en.2.1)),some (.d (frP en.2.2))]) (λK hK=>?_) ?_
    ·simp only[bD,aU,aB,aG,aK,List.getElem?_cons_zero,List.getElem?_cons_succ,List.set_cons_zero,List.set_cons_succ]
     exact⟨en.1,_,_,rfl,rs,hK _ rfl⟩
    rintro ρ rfl
    have C2:=C1.put hl (-1)
    simp only[qO,qN,r2,aK,rC,List.getElem?_cons_zero,List.getElem?_cons_succ,List.set_cons_zero,List.set_cons_succ]
    refine⟨ck en.2.2,rfl,?_⟩
    rw[C1.get]
    refine⟨ck en.2.2,rfl,bL (by have:=C1.len;omega),hn _ ⟨_,_,_,_,_,C2.mono λp=>?_,rfl⟩⟩
    rw[et,sX];omega
  ·rintro ρ ⟨ks,xs,a,b,c,C,rfl⟩
   rw[List.length_map,List.take_length] at C
   exact hK _ ⟨ks,xs,a,b,c,C,rfl⟩
 rintro ρ ⟨ks,xs,a,b,c,C,rfl⟩
 obtain⟨kl,ek,nd,sub,all,hat⟩:=JE C
 have l24:=lok.len
 have kl24:=oM kl L nd sub
 simp only[dY,S.fz,bX,lK,riL,aU,aB,aG,DU,aK,List.getElem?_cons_zero,List.getElem?_cons_succ,List.set_cons_zero,List.set_cons_succ]
 refine⟨ks,xs,rfl,?_⟩
 rw[ek]
 refine⟨L,kl,rfl,⟨lok,nd,sub⟩,λgs pm pw=>?_⟩
 refine⟨bL (by rw[List.length_map,pm.length_eq];omega),?_⟩
 have hg:∀p∈gs,p∈kl:=λp hp=>pm.mem_iff.mp hp
 refine iU (λρ=>∃u,ρ=[u,some (.d (.dtt ks xs))]) frP (lnD λp=>cOf p es) (λp=>decide (cOf p es≠0)) gs ?_ _ [] ⟨_,rfl⟩ ?_
 ·rintro p hp ρ ⟨u,rfl⟩ K hK
  simp only[aR,cD,r2,aK,rC,vV,List.getElem?_cons_zero,List.getElem?_cons_succ,List.set_cons_zero,List.set_cons_succ]
  refine⟨ck p,_,rfl,hat p (hg p hp),?_⟩
  walk_at "rd"
  have:=hK [some (.d (frP p)),some (.d (.dtt ks xs))] ⟨_,rfl⟩ λ_ K' hk=>by
   simp only[dU,aB,aG,r2,aK,vV,List.getElem?_cons_zero,List.getElem?_cons_succ]
   exact⟨ck p,_,rfl,hat p (hg p hp),sz2,hk⟩
  rw[<-decide_not];exact this
 ·refine q _ ⟨λp=>?_,pw.filter _,λp hp=>sub p (hg p (List.mem_filter.mp hp).1)⟩
  rw[List.mem_filter]
  constructor
  ·exact λh=>by simpa using h.2
  ·exact λh=>⟨pm.mem_iff.mpr (all p h),by simpa using h⟩
end K22
namespace K26
open K22 K23
theorem SY {p q:IP} (h:ltR p q) (h':ltR q p):False:=by unfold ltR at *;omega
theorem KF:∀{a b:List IP},a.Pairwise ltR->b.Pairwise ltR->(∀p,p∈a↔p∈b)->a=b
 | [],[],_,_,_=>rfl
 | [],q::b,_,_,h=>by cases (h q).mpr (.head _)
 | p::a,[],_,_,h=>by cases (h p).mp (.head _)
 | p::a,q::b,ha,hb,h=>by
  obtain⟨a1,a2⟩:=List.pairwise_cons.mp ha
  obtain⟨b1,b2⟩:=List.pairwise_cons.mp hb
  have e:p=q:=by
   rcases List.mem_cons.mp ((h p).mp (.head _)) with e | h1
   ·exact e
   ·rcases List.mem_cons.mp ((h q).mpr (.head _)) with e | h2
    ·exact e.symm
    ·exact (SY (b1 p h1) (a1 q h2)).elim
  subst e
  rw[KF a2 b2 λr=>?_]
  have hr:=h r
  constructor
  ·intro k
   rcases List.mem_cons.mp (hr.mp (.tail _ k)) with e | k'
   ·exact absurd e.symm (a1 r k).ne
   ·exact k'
  ·intro k
   rcases List.mem_cons.mp (hr.mpr (.tail _ k)) with e | k'
   ·exact absurd e.symm (b1 r k).ne
   ·exact k'
theorem xW {f:D->D->Option Bool}:∀(xs:List D),(∀x∈xs,f x x=some true)->eqL f xs xs=some true
 | [],_=>rfl
 | x::xs,h=>by
  simp only[eqL,h x (by simp),xW xs λy hy=>h y (by simp[hy])]
  rfl
theorem QG (n:Nat) (i:Int):eqF (n+1) (.int i) (.int i)=some true:=by simp[eqF]
theorem JX (n:Nat) (p q:Int):eqF (n+2) (fr p q) (fr p q)=some true:=by
 show eqL (eqF (n+1)) _ _=_
 refine xW _ λx hx=>?_
 simp only[List.mem_cons,List.not_mem_nil,or_false] at hx
 rcases hx with rfl | rfl <;> exact QG n _
theorem zR {d:D} {Q:D->Prop} (h:eqF 6 d d=some true) (q:Q (.bl true)):dEq d d Q:=by unfold dEq;rw[h];exact q
theorem ET {ts:List Int} {hss:List (List Int)} (h:Thr ts) (c:Int) (j:Nat):((csd ts hss j).filter (cov c)).length<=1:=by
 by_cases k:∃z,Zn ts c z
 ·obtain⟨z,Z⟩:=k
  rw[ES h Z];exact Nat.le_refl _
 ·rw[List.filter_eq_nil_iff.mpr λs hs=>?_]
  ·exact Nat.zero_le _
  ·obtain⟨z,hz,rfl⟩:=sE hs
   exact λe=>k ⟨z,Zn.of hz e⟩
theorem EN (A B:List (List Pt)):bF (A++B)=bF A++bF B:=by simp[bF]
theorem zI {ts:List Int} {hss:List (List Int)} {n a b:Nat} {R:List (List Pt)} {g:List Pt} (C:Curves ts hss n) (r1:R.length=n) (r2:∀g∈R,g.length<=10) (r3:(bF R).Perm (((List.range (2*n)).map (csd ts hss)).flatten)) (ha:a<2*n) (hb:b<2*n) (gl:g.length<=10)
  (gp:(bP g).Perm (csd ts hss a++csd ts hss b)):Cloth ts hss n ([g]++R++[g.reverse]):=by
 have nn:=C.n1
 refine⟨?_,λx hx=>?_,csd ts hss a++csd ts hss b,?_,λs hs=>?_,λc=>?_⟩
 ·rw[List.length_append,List.length_append,List.length_singleton,List.length_singleton];omega
 ·rcases List.mem_append.mp hx with h | h
  ·rcases List.mem_append.mp h with h | h
   ·rw[List.mem_singleton.mp h];exact gl
   ·exact r2 x h
  ·rw[List.mem_singleton.mp h,List.length_reverse];exact gl
 ·rw[EN,EN]
  have e:∀g:List Pt,bF [g]=bP g:=λg=>by simp[bF]
  rw[e,e]
  refine List.Perm.trans ((gp.append r3).append ((wT g).trans gp)) ?_
  refine (List.Perm.append_right _ List.perm_append_comm).trans ?_
  rw[List.append_assoc]
 ·rcases List.mem_append.mp hs with h | h
  ·obtain⟨z,hz,rfl⟩:=sE h
   exact⟨z,a,⟨hz,ha⟩,rfl⟩
  ·obtain⟨z,hz,rfl⟩:=sE h
   exact⟨z,b,⟨hz,hb⟩,rfl⟩
 ·rw[List.filter_append,List.length_append]
  have:=ET (hss:=hss) C.thr c a
  have:=ET (hss:=hss) C.thr c b
  omega
theorem LU:∀ds Q,FV 63 ds Q->kG sA mS nU rY kA iT F_ring23 F_rings23 fF K23.F_bands F_leanings { nx:=λ_=>Q .non,rt:=Q } (aO ["_law_script","_law_threads_here","_law_heights_here","_law_rings_here","_law_number","_law_one","_law_other","_law_twice","_law_right","_law_up","_law_sign","_law_flip","_law_turned","_law_ring_here","_law_rows","_law_numbers_here"] ds):=by
 rintro ds Q ⟨ns,rfl,hn,Qt⟩
 rw[aS 15 rfl]
 unfold kG
 have rep15:List.replicate 15 (none:Option S)=[none,none,none,none,none,none,none,none,none,none,none,none,none,none,none]:=rfl
 simp only[cI,rep15,List.map_cons,List.map_nil,List.cons_append,List.nil_append]
 refine aJ (λρ=>∃ts hss n,(Curves ts hss n/\Tgt ts hss)/\ρ=[some (.d (il ns)),some (.d (il ts)),some (.d (ill hss)),none,none,none,none,none,none,none,none,none,none,none,none,none]) (λK hK=>?_) ?_
 ·walk_at "rd"
  refine⟨ns,rfl,λts hss n C G=>?_⟩
  walk_at "rd"
  exact hK _ ⟨ts,hss,n,⟨C,G⟩,rfl⟩
 rintro ρ ⟨ts,hss,n,⟨C,G⟩,rfl⟩
 have nn:=C.n1
 have tl:=C.thr.len
 refine aJ (λρ=>∃R:List (List Pt),(R.length=n/\(∀g∈R,g.length<=10/\∀p∈g,PtB p)/\(bF R).Perm (((List.range (2*n)).map (csd ts hss)).flatten))/\ρ=[some (.d (il ns)),some (.d (il ts)),some (.d (ill hss)),some (.d (dB R)),none,none,none,none,none,none,none,none,none,none,none,none]) (λK hK=>?_) ?_
 ·simp only[bD,aU,aB,aG,aK,List.getElem?_cons_zero,List.getElem?_cons_succ,List.set_cons_zero,List.set_cons_succ]
  exact⟨ns,ts,hss,n,rfl,C,λR ra rb rc=>hK _ ⟨R,⟨ra,rb,rc⟩,rfl⟩⟩
 rintro ρ ⟨R0,⟨ra,rb,rc⟩,rfl⟩
 refine aJ (λρ=>∃v:Int,(0<=v/\v<2147483647)/\ρ=[some (.d (il ns)),some (.d (il ts)),some (.d (ill hss)),some (.d (dB R0)),some (.d (.int v)),none,none,none,none,none,none,none,none,none,none,none]) (λK hK=>?_) ?_
 ·walk_at "rd"
  exact⟨ns,220,rfl,by decide,λv v0 v1=>hK _ ⟨v,⟨v0,v1⟩,rfl⟩⟩
 rintro ρ ⟨v,⟨v0,v1⟩,rfl⟩
 refine aJ (λρ=>∃(R:List (List Pt)) (a b c:Option S),(Cloth ts hss n R/\∀g∈R,∀p∈g,PtB p)/\ρ=[some (.d (il ns)),some (.d (il ts)),some (.d (ill hss)),some (.d (dB R)),some (.d (.int v)),a,b,c,none,none,none,none,none,none,none,none]) (λK hK=>?_) ?_
 ·simp only[gB,cD,r2,aD,rC,bV,hU,cW,L2.R2.S.val,List.getElem?_cons_zero,List.getElem?_cons_succ,Bool.false_eq_true,if_false]
  refine⟨cU,?_⟩
  split
  ·have i0:=qU (hss:=hss) (z:=0) (by have:=C.len;omega)
   have l0:=C.each _ (List.mem_of_getElem? i0)
   have len0:∀{Q:D->Prop},Q (.int ((2*n:Nat):Int))->(dIx (ill hss) (.int 0) λd=>fI d Q):=λ{Q} h=>gD (x:=il (hss.getD 0 [])) (dN (j:=0) (by rw[List.getElem?_map,i0];rfl)) (by show Q _;rw[List.length_map,l0];exact h)
   refine aJ (λρ=>∃a:Nat,a<2*n/\ρ=[some (.d (il ns)),some (.d (il ts)),some (.d (ill hss)),some (.d (dB R0)),some (.d (.int v)),some (.d (.int (a:Int))),none,none,none,none,none,none,none,none,none,none]) (λK hK=>?_) ?_
   ·simp only[bD,r2,r1,aD,rC,cG,L2.R2.S.val,List.getElem?_cons_zero,List.getElem?_cons_succ,List.set_cons_zero,List.set_cons_succ]
    refine⟨(BL.const (n:=9000) (by decide)).divOk (by decide),len0 ?_⟩
    obtain⟨m0,m1⟩:=aV (a:=v.fdiv 2) (b:=((2*n:Nat):Int)) (by omega)
    refine⟨⟨by omega⟩,?_⟩
    have:=hK [some (.d (il ns)),some (.d (il ts)),some (.d (ill hss)),some (.d (dB R0)),some (.d (.int v)),some (.d (.int (((v.fdiv 2).fmod ((2*n:Nat):Int)).toNat:Int))),none,none,none,none,none,none,none,none,none,none] ⟨_,by omega,rfl⟩
    rw[Int.toNat_of_nonneg m0] at this
    exact this
   rintro ρ ⟨a,ha,rfl⟩
   refine aJ (λρ=>∃b:Nat,b<2*n/\ρ=[some (.d (il ns)),some (.d (il ts)),some (.d (ill hss)),some (.d (dB R0)),some (.d (.int v)),some (.d (.int (a:Int))),some (.d (.int (b:Int))),none,none,none,none,none,none,none,none,none]) (λK hK=>?_) ?_
   ·simp only[bD,r2,r1,aD,rC,cG,L2.R2.S.val,List.getElem?_cons_zero,List.getElem?_cons_succ,List.set_cons_zero,List.set_cons_succ]
    refine⟨(BL.const (n:=9000) (by decide)).divOk (by decide),len0 ?_⟩
    obtain⟨m0,m1⟩:=aV (a:=v.fdiv 16) (b:=((2*n:Nat):Int)) (by omega)
    refine⟨⟨by omega⟩,?_⟩
    have:=hK [some (.d (il ns)),some (.d (il ts)),some (.d (ill hss)),some (.d (dB R0)),some (.d (.int v)),some (.d (.int (a:Int))),some (.d (.int (((v.fdiv 16).fmod ((2*n:Nat):Int)).toNat:Int))),none,none,none,none,none,none,none,none,none] ⟨_,by omega,rfl⟩
    rw[Int.toNat_of_nonneg m0] at this
    exact this
   rintro ρ ⟨b,hb,rfl⟩
   refine aJ (λρ=>∃g:List Pt,(g.length<=10/\(∀p∈g,PtB p)/\(bP g).Perm (csd ts hss a++csd ts hss b))/\ρ=[some (.d (il ns)),some (.d (il ts)),some (.d (ill hss)),some (.d (dB R0)),some (.d (.int v)),some (.d (.int (a:Int))),some (.d (.int (b:Int))),some (.d (pts g)),none,none,none,none,none,none,none,none]) (λK hK=>?_) ?_
   ·walk_at "rd"
    refine⟨(BL.const (n:=9000) (by decide)).divOk (by decide),ts,hss,n,a,b,_,rfl,C,⟨ha,hb⟩,λg g1 g2 g3=>hK _ ⟨g,⟨g1,g2,g3⟩,rfl⟩⟩
   rintro ρ ⟨g,⟨g1,g2,g3⟩,rfl⟩
   have e:dB ([g]++R0++[g.reverse]) = .lst ([pts g]++R0.map pts++[D.lst (g.map pt).reverse]):=by
    show D.lst (([g]++R0++[g.reverse]).map pts)=_
    rw[List.map_append,List.map_append,<-List.map_reverse];rfl
   have fin:=hK [some (.d (il ns)),some (.d (il ts)),some (.d (ill hss)),some (.d (dB ([g]++R0++[g.reverse]))),some (.d (.int v)),some (.d (.int (a:Int))),some (.d (.int (b:Int))),some (.d (pts g)),none,none,none,none,none,none,none,none] ⟨_,_,_,_,⟨zI C ra (λg hg=>(rb g hg).1) rc ha hb g1 g3,λx hx p hp=>by
    rcases List.mem_append.mp hx with h | h
    ·rcases List.mem_append.mp h with h | h
     ·rw[List.mem_singleton.mp h] at hp;exact g2 p hp
     ·exact (rb x h).2 p hp
    ·rw[List.mem_singleton.mp h] at hp;exact g2 p (List.mem_reverse.mp hp)⟩,rfl⟩
   rw[e] at fin
   simp only[bD,r2,aD,aK,lL,gQ,aB,aG,L2.R2.S.val,List.getElem?_cons_zero,List.getElem?_cons_succ,List.set_cons_zero,List.set_cons_succ]
   refine⟨sz1,?_⟩
   show Sz ([pts g].length+(R0.map pts).length)/\_
   refine⟨bL (by rw[List.length_singleton,List.length_map];omega),g.map pt,rfl,sz1,?_⟩
   show Sz (([pts g]++R0.map pts).length+[D.lst (g.map pt).reverse].length)/\_
   exact⟨bL (by rw[List.length_append,List.length_singleton,List.length_singleton,List.length_map];omega),fin⟩
  ·exact hK _ ⟨R0,none,none,none,⟨⟨by omega,λg hg=>(rb g hg).1,[],by rw[List.append_nil,List.append_nil];exact rc,(λs h=>by cases h),λc=>Nat.zero_le _⟩,λg hg=>(rb g hg).2⟩,rfl⟩
 rintro ρ ⟨R,a,b,c,⟨K0,pb⟩,rfl⟩
 have rl:=K0.len
 refine aJ (λρ=>∃rx:Int,(-2000<=rx/\rx<=2000)/\ρ=[some (.d (il ns)),some (.d (il ts)),some (.d (ill hss)),some (.d (dB R)),some (.d (.int v)),a,b,c,some (.d (.int rx)),none,none,none,none,none,none,none]) (λK hK=>?_) ?_
 ·walk_at "rd"
  refine⟨ns,6,rfl,by decide,λx=>?_⟩
  walk_at "rd"
  obtain⟨a0,a1⟩:=aV (a:=x) (b:=2001) (by decide)
  exact⟨cU,hK _ ⟨_,⟨by omega,by omega⟩,rfl⟩⟩
 rintro ρ ⟨rx,br,rfl⟩
 refine aJ (λρ=>∃uy:Int,BL 200 uy/\ρ=[some (.d (il ns)),some (.d (il ts)),some (.d (ill hss)),some (.d (dB R)),some (.d (.int v)),a,b,c,some (.d (.int rx)),some (.d (.int uy)),none,none,none,none,none,none]) (λK hK=>?_) ?_
 ·walk_at "rd"
  refine⟨ns,7,rfl,by decide,λx=>?_⟩
  walk_at "rd"
  obtain⟨a0,a1⟩:=aV (a:=x) (b:=jT) (by decide)
  exact⟨lI,cU,hK _ ⟨_,BL.of_lt (by omega) (Int.lt_trans a1 (by decide)),rfl⟩⟩
 rintro ρ ⟨uy,bu,rfl⟩
 refine aJ (λρ=>∃sx fy:Int,((sx=1\/sx = -1)/\(fy=1\/fy = -1))/\ρ=[some (.d (il ns)),some (.d (il ts)),some (.d (ill hss)),some (.d (dB R)),some (.d (.int v)),a,b,c,some (.d (.int rx)),some (.d (.int uy)),some (.d (.int sx)),some (.d (.int fy)),none,none,none,none]) (λK hK=>?_) ?_
 ·walk_at "rd"
  refine⟨ns,8,rfl,by decide,λx=>?_⟩
  walk_at "rd"
  obtain⟨a0,a1⟩:=aV (a:=x) (b:=4) (by decide)
  refine⟨cU,?_⟩
  refine oB a0 (by simpa using a1) λz hz=>?_
  simp only[List.mem_cons,List.not_mem_nil,or_false] at hz
  rcases hz with rfl | rfl | rfl | rfl
  all_goals
   walk_at "rd"
   exact hK _ ⟨_,_,⟨by decide,by decide⟩,rfl⟩
 rintro ρ ⟨sx,fy,⟨hs,hf⟩,rfl⟩
 have C':=BT (rx:=rx) (uy:=uy) C G hs hf br bu
 have K':=EJ (rx:=rx) (fy:=fy) (uy:=uy) K0 hs
 have lok:=IJ C
 have lok':=IJ C'
 have tln:(trT ts sx rx).length=ts.length:=mF
 refine aJ (λρ=>ρ=[some (.d (il ns)),some (.d (il ts)),some (.d (ill hss)),some (.d (dB R)),some (.d (.int v)),a,b,c,some (.d (.int rx)),some (.d (.int uy)),some (.d (.int sx)),some (.d (.int fy)),some (.own []),none,none,none]) (λK hK=>?_) ?_
 ·walk_at "rd"
  exact hK _ rfl
 rintro ρ rfl
 refine aJ (λρ=>∃u,ρ=[some (.d (il ns)),some (.d (il ts)),some (.d (ill hss)),some (.d (dB R)),some (.d (.int v)),a,b,c,some (.d (.int rx)),some (.d (.int uy)),some (.d (.int sx)),some (.d (.int fy)),some (.own ((R.map λg=>g.map (trP sx rx fy uy)).map pts)),u,none,none]) (λK hK=>?_) ?_
 ·simp only[cL,riL,aK,List.getElem?_cons_zero,List.getElem?_cons_succ]
  refine iD _ (λi ρ=>∃u,ρ=[some (.d (il ns)),some (.d (il ts)),some (.d (ill hss)),some (.d (dB R)),some (.d (.int v)),a,b,c,some (.d (.int rx)),some (.d (.int uy)),some (.d (.int sx)),some (.d (.int fy)),some (.own (((R.take i).map λg=>g.map (trP sx rx fy uy)).map pts)),u,none,none]) ?_ ?_ _ ⟨none,rfl⟩
  ·rintro i x ρ e ⟨u,rfl⟩ F _ _ hn' _
   rw[List.getElem?_map] at e
   cases er:R[i]? with
   | none=>rw[er] at e;cases e
   | some g =>
    rw[er] at e
    cases e
    have hg:=List.mem_of_getElem? er
    have et:R.take (i+1)=R.take i++[g]:=by rw[List.take_succ,er];rfl
    have tl2:(R.take i).length<=R.length:=by rw[List.length_take];exact Nat.min_le_right ..
    have gl:=K0.each g hg
    unfold mP
    simp only[aR,List.set_cons_zero,List.set_cons_succ]
    walk_at "rd"
    refine⟨bL (by rw[List.length_map];omega),?_⟩
    refine dC (λρ=>∃u w,ρ=[u,w,some (.d (.int sx)),some (.d (.int rx)),some (.d (.int fy)),some (.d (.int uy))]) pt (λp=>pt (trP sx rx fy uy p)) g ?_ ⟨_,_,rfl⟩ ?_
    ·rintro p hp ρ ⟨u,w,rfl⟩ K2 hK2
     walk_at "rd"
     obtain⟨b1,b2⟩:=pb g hg p hp
     have k1:BL 10 sx:=by rcases hs with rfl | rfl <;> exact BL.of_lt (by decide) (by decide)
     have k2:BL 10 fy:=by rcases hf with rfl | rfl <;> exact BL.of_lt (by decide) (by decide)
     exact⟨k1.mulOk (n:=250) ((b1.add (BL.of_lt (m:=20) (by omega) (by omega))).mono (by decide)),k2.mulOk (n:=250) ((b2.add bu).mono (by decide)),hK2 _ ⟨_,_,rfl⟩⟩
    ·refine⟨bL (by rw[List.length_map,List.length_map];omega),?_⟩
     rw[show ((R.take i).map λg=>g.map (trP sx rx fy uy)).map pts++[D.lst (g.map λp=>pt (trP sx rx fy uy p))]=((R.take (i+1)).map λg=>g.map (trP sx rx fy uy)).map pts by
      rw[et,List.map_append,List.map_append,List.map_cons,List.map_nil,List.map_cons,List.map_nil]
      show _=_++[D.lst ((g.map (trP sx rx fy uy)).map pt)]
      rw[List.map_map (l:=g)];rfl]
     exact hn' _ ⟨_,rfl⟩
  ·rintro ρ ⟨u,rfl⟩
   rw[List.length_map,List.take_length]
   exact hK _ ⟨u,rfl⟩
 rintro ρ ⟨u,rfl⟩
 refine aJ (λρ=>ρ=[some (.d (il ns)),some (.d (il ts)),some (.d (ill hss)),some (.d (dB R)),some (.d (.int v)),a,b,c,some (.d (.int rx)),some (.d (.int uy)),some (.d (.int sx)),some (.d (.int fy)),some (.d (dB (R.map λg=>g.map (trP sx rx fy uy)))),u,some (.d (.lst ((eA (trT ts sx rx) (trH ts hss n sx fy uy) n (ts.length-1)).map (·.1)))),none]) (λK hK=>?_) ?_
 ·simp only[dY,S.fz,bD,aU,aB,aG,aK,List.getElem?_cons_zero,List.getElem?_cons_succ,List.set_cons_zero,List.set_cons_succ]
  refine⟨_,_,rfl,K'.bands C',λcs rows h1 h2 h3=>?_⟩
  rw[IQ C' K' h1 h2 h3,tln]
  exact hK _ rfl
 rintro ρ rfl
 refine aJ (λρ=>∃ks xs,Cts (SL ts hss n) ks xs (zs ts hss n (ts.length-1))/\ρ=[some (.d (il ns)),some (.d (il ts)),some (.d (ill hss)),some (.d (dB R)),some (.d (.int v)),a,b,c,some (.d (.int rx)),some (.d (.int uy)),some (.d (.int sx)),some (.d (.int fy)),some (.d (dB (R.map λg=>g.map (trP sx rx fy uy)))),u,some (.d (.lst ((eA (trT ts sx rx) (trH ts hss n sx fy uy) n (ts.length-1)).map (·.1)))),some (.d (.dtt ks xs))]) (λK hK=>?_) ?_
 ·simp only[bD,aU,aB,aG,aK,List.getElem?_cons_zero,List.getElem?_cons_succ,List.set_cons_zero,List.set_cons_succ]
  exact⟨ts,hss,n,rfl,C,λks xs T=>hK _ ⟨ks,xs,T,rfl⟩⟩
 rintro ρ ⟨ks,xs,T0,rfl⟩
 obtain⟨_,ok',cz,_⟩:=xD C' (ts.length-1) (by rw[tln];omega)
 have ar:∀{Q:D->Prop},(∀p q',Low (zsm ts hss n (ts.length-1)) 2 p q'->Q (fr p q'))->fF [.lst ((eA (trT ts sx rx) (trH ts hss n sx fy uy) n (ts.length-1)).map (·.1))] Q:=λ{Q} h=>by
  have:=NB C' (Q:=Q)
  rw[tln,UN hs hf] at this
  exact this h
 simp only[bX,oR,r2,aU,aB,aG,aK,aD,dU,cB,L2.R2.S.val,List.getElem?_cons_zero,List.getElem?_cons_succ]
 refine ar λp q' L1=>?_
 refine⟨ts,hss,n,rfl,C,λp2 q2 L2'=>?_⟩
 obtain⟨x1,x2⟩:=K12.low_eq (by decide) L1 L2'
 rw[x1,x2]
 refine zR (JX 4 _ _) ?_
 dsimp only
 rw[if_pos rfl]
 have k1:BL 10 sx:=by rcases hs with rfl | rfl <;> exact BL.of_lt (by decide) (by decide)
 have k2:BL 10 fy:=by rcases hf with rfl | rfl <;> exact BL.of_lt (by decide) (by decide)
 refine⟨_,_,rfl,⟨lok',ok'⟩,λfl N=>⟨k1.mulOk k2,sz2,?_⟩⟩
 refine⟨_,_,ks,xs,_,_,rfl,⟨lok,T0,UC hs hf,k2,λp=>?_⟩,λgs g1 g2=>?_⟩
 ·have:=QZ C p (ts.length-1) (by omega)
  show (zs ts hss n (ts.length-1) p).natAbs<2 ^ 100
  exact Nat.lt_of_le_of_lt (Nat.le_trans this (Nat.mul_le_mul_left 120 (show ts.length-1<=4 by omega))) (by decide)
 have cc:∀p,cOf p (eA (trT ts sx rx) (trH ts hss n sx fy uy) n (ts.length-1))=zs ts hss n (ts.length-1) (sgn (sx*fy) p)*fy:=λp=>by
  rw[cz,WT C hs hf,Int.mul_comm]
 have ef:fl=gs:=KF N.inc g1 λp=>by
  rw[N.mem,g2]
  show cOf p _≠0↔_
  rw[cc]
  rcases hf with rfl | rfl <;> omega
 have el:fl.map (lnD λp=>cOf p (eA (trT ts sx rx) (trH ts hss n sx fy uy) n (ts.length-1)))=gs.map (oF (zs ts hss n (ts.length-1)) (sx*fy) fy):=by
  rw[ef]
  exact List.map_congr_left λp _=>by unfold lnD oF;dsimp only;rw[cc]
 rw[el]
 refine zR ?_ Qt
 show eqL (eqF 5) _ _=_
 refine xW _ λd hd=>?_
 obtain⟨p,_,rfl⟩:=List.mem_map.mp hd
 show eqL (eqF 4) [frP p,.int _] [frP p,.int _]=_
 refine xW _ λd hd=>?_
 simp only[List.mem_cons,List.not_mem_nil,or_false] at hd
 rcases hd with rfl | rfl
 ·exact JX 2 p.1 p.2
 ·exact QG 3 _
end K26
namespace K26
set_option maxHeartbeats 4000000
noncomputable def top (i:Nat):Stmt:=PySem.Challenge.pw_recut_k26_a_cloth_turned.main.body.getD i (.Pass ⟨0,0,0,0⟩)
noncomputable abbrev s__law_divisor:Stmt:=top 30
noncomputable abbrev s__law_lowest:Stmt:=top 31
noncomputable abbrev s__law_area:Stmt:=top 40
noncomputable abbrev s__law_cell_at:Stmt:=top 28
noncomputable abbrev s__law_mixed:Stmt:=top 32
noncomputable abbrev s__law_heights:Stmt:=top 34
noncomputable abbrev s__law_threads:Stmt:=top 33
noncomputable abbrev s__law_curves:Stmt:=top 35
noncomputable abbrev s__law_due:Stmt:=top 39
noncomputable abbrev s__law_numbers:Stmt:=top 38
noncomputable abbrev s__law_ring:Stmt:=top 36
noncomputable abbrev s__law_rings:Stmt:=top 37
noncomputable abbrev s_shared_divisor:Stmt:=top 5
noncomputable abbrev s_ratio:Stmt:=top 7
noncomputable abbrev s_minus:Stmt:=top 9
noncomputable abbrev s_left_height:Stmt:=top 21
noncomputable abbrev s_plus:Stmt:=top 8
noncomputable abbrev s_right_height:Stmt:=top 22
noncomputable abbrev s_times:Stmt:=top 10
noncomputable abbrev s_area:Stmt:=top 25
noncomputable abbrev s_shared_multiple:Stmt:=top 6
noncomputable abbrev s_lowest_multiple:Stmt:=top 11
noncomputable abbrev s_width_of:Stmt:=top 16
noncomputable abbrev s_height_at:Stmt:=top 17
noncomputable abbrev s_ordered_heights:Stmt:=top 18
noncomputable abbrev s_column_bands:Stmt:=top 19
noncomputable abbrev s_sides_of:Stmt:=top 14
noncomputable abbrev s_sides_by_column:Stmt:=top 15
noncomputable abbrev s_bands:Stmt:=top 20
noncomputable abbrev s_lower_slope:Stmt:=top 23
noncomputable abbrev s_rising:Stmt:=top 12
noncomputable abbrev s_upper_slope:Stmt:=top 24
noncomputable abbrev s_leanings:Stmt:=top 26
noncomputable abbrev s_law:Stmt:=top 41
section
variable {P:Program} {w:World} {K:PySem.W.Frag} {mg:Str->Option Value} {base:Heap}
theorem kL:FnScope ["_law_one","_law_other"] ["_law_one","_law_other"] (aC s__law_divisor):=⟨rfl,rfl,rfl,by decide +kernel,rfl,by decide +kernel,by decide +kernel⟩
theorem qW {f:Addr} {cdv:Value} {A:Around} {outer:List Env} {s:Shared} {H:Hp} {E:XK} (m_abs:mg "abs" = none) (hr:Room 0 (A.deeper (envOfC "_law_divisor" (aC s__law_divisor) s.heap.objs.size f cdv))) :
  DSs (cN CX0 P w K mg base ["_law_one","_law_other"] "_law_divisor" (aC s__law_divisor) f cdv A outer s H E).nox (aM s__law_divisor) (eQ) :=
 have nd:=kL.nd
 aF (aX nd (lA xL m_abs mB (aA (dv 0) (aH))))
 (aF (aX nd (lA xL m_abs mB (aA (dv 1) (aH))))
 (aF (zZ PassesOwn.never (cX QQ (dvb 1) (DE.bor (aE))) (aP (SC rfl nd (aA (dv 1) (aA (aL bR (dvb 0) (dvb 1)) (aH))))))
 (aP (bH (dv 0)))))
theorem rM (Z:DefAt K mg "_law_divisor" s__law_divisor ["_law_one","_law_other"]) (m_abs:mg "abs" = none) {F:FD} (len:∀ds Q,F ds Q->ds.length=2) (pure:∀ds Q,F ds Q->eQ { nx:=λ_=>Q .non,rt:=Q } (aO ["_law_one","_law_other"] ds)):FnAt P w K mg base "_law_divisor" ["_law_one","_law_other"] 1 F :=
 Z.ok kL (λcdv A outer s H E hr=>qW m_abs hr) len pure
theorem lQ:FnScope ["_law_top","_law_bottom","_law_by"] ["_law_top","_law_bottom"] (aC s__law_lowest):=⟨rfl,rfl,rfl,by decide +kernel,rfl,by decide +kernel,by decide +kernel⟩
theorem sT {f:Addr} {cdv:Value} {A:Around} {outer:List Env} {s:Shared} {H:Hp} {E:XK} {YH:FD} (YU:FnAt P w K mg base "_law_divisor" ["_law_one","_law_other"] 1 YH) (hr:Room 1 (A.deeper (envOfC "_law_lowest" (aC s__law_lowest) s.heap.objs.size f cdv))) :
  DSs (cN CX0 P w K mg base ["_law_top","_law_bottom","_law_by"] "_law_lowest" (aC s__law_lowest) f cdv A outer s H E).nox (aM s__law_lowest) (fP YH) :=
 have nd:=lQ.nd
 aF (aX nd (aN YU (hr.mono (by decide)) (aA (dv 0) (aA (dv 1) (aH)))))
 (aP (bH (cO (aA (aL cY (dvb 0) (dvb 2)) (aA (aL cY (dvb 1) (dvb 2)) (aH))))))
theorem uA (Z:DefAt K mg "_law_lowest" s__law_lowest ["_law_top","_law_bottom"]) {YH:FD} (YU:FnAt P w K mg base "_law_divisor" ["_law_one","_law_other"] 1 YH) {F:FD} (len:∀ds Q,F ds Q->ds.length=2) (pure:∀ds Q,F ds Q->fP YH { nx:=λ_=>Q .non,rt:=Q } (aO ["_law_top","_law_bottom","_law_by"] ds)):FnAt P w K mg base "_law_lowest" ["_law_top","_law_bottom"] 2 F :=
 Z.ok lQ (λcdv A outer s H E hr=>sT YU hr) len pure
theorem oY:FnScope ["_law_threads_here","_law_heights_here","_law_total","_law_zone","_law_low","_law_ends","_law_high"] ["_law_threads_here","_law_heights_here"] (aC s__law_area):=⟨rfl,rfl,rfl,by decide +kernel,rfl,by decide +kernel,by decide +kernel⟩
theorem xF {f:Addr} {cdv:Value} {A:Around} {outer:List Env} {s:Shared} {H:Hp} {E:XK} {YA:FD} (YF:FnAt P w K mg base "_law_lowest" ["_law_top","_law_bottom"] 2 YA) (m_len:mg "len" = none) (m_range:mg "range" = none) (hr:Room 2 (A.deeper (envOfC "_law_area" (aC s__law_area) s.heap.objs.size f cdv))) :
  DSs (cN CX0 P w K mg base ["_law_threads_here","_law_heights_here","_law_total","_law_zone","_law_low","_law_ends","_law_high"] "_law_area" (aC s__law_area) f cdv A outer s H E).nox (aM s__law_area) (fM YA) :=
 have nd:=oY.nd
 aF (aX nd (aE))
 (aF (cT PassesOwn.never rfl (fY m_range (aA (aL dG (DE.bor (eY m_len (dvb 0))) (DE.bor (aE))) (aH))) (bC nd) (aP (cT PassesOwn.never rfl (NL m_range (aA (aE) (aA (eY m_len (DE.bor (aT (dvb 1) (DE.bor (aE))))) (aA (aE) (aH))))) (bC nd) (aP (cT PassesOwn.never rfl (dO (DO.val (eI (aA (aT (dvb 1) (dvb 3)) (aA (aT (dvb 1) (DE.bor (aL bW (dvb 3) (DE.bor (aE))))) (aH)))))) (bC nd) (aF (aX nd (aL dG (DE.bor (aT (dvb 5) (DE.bor (aL bW (dvb 4) (DE.bor (aE)))))) (DE.bor (aT (dvb 5) (dvb 4)))))
 (aP (aX nd (aL bW (dvb 2) (DE.bor (aL bS (dvb 6) (DE.bor (aL dG (DE.bor (aT (dvb 0) (DE.bor (aL bW (dvb 3) (DE.bor (aE)))))) (DE.bor (aT (dvb 0) (dvb 3))))))))))))))))
 (aP (bH (aN YF (hr.mono (by decide)) (aA (dv 2) (aA (aE) (aH)))))))
theorem yG (Z:DefAt K mg "_law_area" s__law_area ["_law_threads_here","_law_heights_here"]) {YA:FD} (YF:FnAt P w K mg base "_law_lowest" ["_law_top","_law_bottom"] 2 YA) (m_len:mg "len" = none) (m_range:mg "range" = none) {F:FD} (len:∀ds Q,F ds Q->ds.length=2) (pure:∀ds Q,F ds Q->fM YA { nx:=λ_=>Q .non,rt:=Q } (aO ["_law_threads_here","_law_heights_here","_law_total","_law_zone","_law_low","_law_ends","_law_high"] ds)):FnAt P w K mg base "_law_area" ["_law_threads_here","_law_heights_here"] 3 F :=
 Z.ok oY (λcdv A outer s H E hr=>xF YF m_len m_range hr) len pure
theorem kK:FnScope ["_law_script","_law_k"] ["_law_script","_law_k"] (aC s__law_cell_at):=⟨rfl,rfl,rfl,by decide +kernel,rfl,by decide +kernel,by decide +kernel⟩
theorem qV {f:Addr} {cdv:Value} {A:Around} {outer:List Env} {s:Shared} {H:Hp} {E:XK} (m_len:mg "len" = none) (hr:Room 0 (A.deeper (envOfC "_law_cell_at" (aC s__law_cell_at) s.heap.objs.size f cdv))) :
  DSs (cN CX0 P w K mg base ["_law_script","_law_k"] "_law_cell_at" (aC s__law_cell_at) f cdv A outer s H E).nox (aM s__law_cell_at) (eP) :=
 have nd:=kK.nd
 aF (iV (cX wH (dvb 1) (DE.bor (eY m_len (dvb 0)))) (aP (bH (aT (dvb 0) (dvb 1)))) (dP))
 (aP (bH (aE)))
theorem rL (Z:DefAt K mg "_law_cell_at" s__law_cell_at ["_law_script","_law_k"]) (m_len:mg "len" = none) {F:FD} (len:∀ds Q,F ds Q->ds.length=2) (pure:∀ds Q,F ds Q->eP { nx:=λ_=>Q .non,rt:=Q } (aO ["_law_script","_law_k"] ds)):FnAt P w K mg base "_law_cell_at" ["_law_script","_law_k"] 1 F :=
 Z.ok kK (λcdv A outer s H E hr=>qV m_len hr) len pure
theorem mQ:FnScope ["_law_script","_law_k","_law_cell","_law_number"] ["_law_script","_law_k"] (aC s__law_mixed):=⟨rfl,rfl,rfl,by decide +kernel,rfl,by decide +kernel,by decide +kernel⟩
theorem uV {f:Addr} {cdv:Value} {A:Around} {outer:List Env} {s:Shared} {H:Hp} {E:XK} (m_len:mg "len" = none) (m_min:mg "min" = none) (hr:Room 0 (A.deeper (envOfC "_law_mixed" (aC s__law_mixed) s.heap.objs.size f cdv))) :
  DSs (cN CX0 P w K mg base ["_law_script","_law_k","_law_cell","_law_number"] "_law_mixed" (aC s__law_mixed) f cdv A outer s H E).nox (aM s__law_mixed) (gG) :=
 have nd:=mQ.nd
 aF (aX nd (aE))
 (aF (iV (cX QQ (DE.bor (eY m_len (dvb 0))) (DE.bor (aE))) (aP (aX nd (aT (dvb 0) (DE.bor (aL bR (dvb 1) (DE.bor (lA (NE rfl) m_min FY (aA (aE) (aA (eY m_len (dvb 0)) (aH)))))))))) (dP))
 (aF (aX nd (aL bW (DE.bor (aL bR (dvb 2) (DE.bor (aL nH (DE.bor (aE)) (DE.bor (aE)))))) (DE.bor (aL bS (DE.bor (aE)) (DE.bor (aL bW (dvb 1) (DE.bor (aE))))))))
 (aP (bH (aL bR (DE.bor (aL bS (dvb 3) (dvb 3))) (DE.bor (aE)))))))
theorem vC (Z:DefAt K mg "_law_mixed" s__law_mixed ["_law_script","_law_k"]) (m_len:mg "len" = none) (m_min:mg "min" = none) {F:FD} (len:∀ds Q,F ds Q->ds.length=2) (pure:∀ds Q,F ds Q->gG { nx:=λ_=>Q .non,rt:=Q } (aO ["_law_script","_law_k","_law_cell","_law_number"] ds)):FnAt P w K mg base "_law_mixed" ["_law_script","_law_k"] 1 F :=
 Z.ok mQ (λcdv A outer s H E hr=>uV m_len m_min hr) len pure
theorem kM:FnScope ["_law_script","_law_many","_law_place","_law_cell","_law_number","_law_found","_law_k","_law_step"] ["_law_script","_law_many","_law_place"] (aC s__law_heights):=⟨rfl,rfl,rfl,by decide +kernel,rfl,by decide +kernel,by decide +kernel⟩
theorem qX {f:Addr} {cdv:Value} {A:Around} {outer:List Env} {s:Shared} {H:Hp} {E:XK} {XX:FD} (XZ:FnAt P w K mg base "_law_cell_at" ["_law_script","_law_k"] 1 XX) {XY:FD} (YB:FnAt P w K mg base "_law_mixed" ["_law_script","_law_k"] 1 XY) (m_range:mg "range" = none) (hr:Room 1 (A.deeper (envOfC "_law_heights" (aC s__law_heights) s.heap.objs.size f cdv))) :
  DSs (cN CX0 P w K mg base ["_law_script","_law_many","_law_place","_law_cell","_law_number","_law_found","_law_k","_law_step"] "_law_heights" (aC s__law_heights) f cdv A outer s H E).nox (aM s__law_heights) (eU XX XY) :=
 have nd:=kM.nd
 aF (aX nd (aN XZ (hr.mono (by decide)) (aA (dv 0) (aA (aL bW (DE.bor (aE)) (dvb 2)) (aH)))))
 (aF (aX nd (aL dG (DE.bor (aL bR (dvb 3) (DE.bor (aE)))) (DE.bor (aE))))
 (aF (iV (cX lH (DE.bor (aL bR (DE.bor (aN XZ (hr.mono (by decide)) (aA (dv 0) (aA (aE) (aH))))) (DE.bor (aE)))) (DE.bor (aE))) (aP (aX nd (aL dG (DE.bor (aL bR (dvb 3) (DE.bor (aL bS (DE.bor (aE)) (DE.bor (aL nH (DE.bor (aE)) (DE.bor (aE)))))))) (DE.bor (aL nH (DE.bor (aE)) (DE.bor (aE))))))) (dP))
 (aF (fJ nd (eI (aA (dv 4) (aH))))
 (aF (cT PassesOwn.never rfl (GH m_range (aA (aE) (aA (dv 1) (aH)))) (bC nd) (aF (aX nd (aN YB (hr.mono (by decide)) (aA (dv 0) (aA (aL bW (DE.bor (aL bS (DE.bor (aE)) (dvb 2))) (dvb 6)) (aH)))))
 (aF (aX nd (aT (DE.bor (DO.val (eI (aA (aE) (aA (aE) (aA (aL bR (DE.bor (aL cY (dvb 4) (DE.bor (aE)))) (DE.bor (aE))) (aA (aL bR (DE.bor (aL cY (dvb 4) (DE.bor (aE)))) (DE.bor (aL nH (DE.bor (aE)) (DE.bor (aE))))) (aH)))))))) (DE.bor (aL bR (dvb 4) (DE.bor (aE))))))
 (aP (fZ 5 (aL bW (DE.bor (aT (dvb 5) (DE.bor (qE lW (DE.bor (aE)))))) (dvb 7)))))))
 (aP (jR 5 (bH (dv 5))))))))
theorem rN (Z:DefAt K mg "_law_heights" s__law_heights ["_law_script","_law_many","_law_place"]) {XX:FD} (XZ:FnAt P w K mg base "_law_cell_at" ["_law_script","_law_k"] 1 XX) {XY:FD} (YB:FnAt P w K mg base "_law_mixed" ["_law_script","_law_k"] 1 XY) (m_range:mg "range" = none) {F:FD} (len:∀ds Q,F ds Q->ds.length=3) (pure:∀ds Q,F ds Q->eU XX XY { nx:=λ_=>Q .non,rt:=Q } (aO ["_law_script","_law_many","_law_place","_law_cell","_law_number","_law_found","_law_k","_law_step"] ds)):FnAt P w K mg base "_law_heights" ["_law_script","_law_many","_law_place"] 2 F :=
 Z.ok kM (λcdv A outer s H E hr=>qX XZ YB m_range hr) len pure
theorem kO:FnScope ["_law_script","_law_found","_law_k","_law_wide"] ["_law_script"] (aC s__law_threads):=⟨rfl,rfl,rfl,by decide +kernel,rfl,by decide +kernel,by decide +kernel⟩
theorem qZ {f:Addr} {cdv:Value} {A:Around} {outer:List Env} {s:Shared} {H:Hp} {E:XK} {XX:FD} (XZ:FnAt P w K mg base "_law_cell_at" ["_law_script","_law_k"] 1 XX) {XY:FD} (YB:FnAt P w K mg base "_law_mixed" ["_law_script","_law_k"] 1 XY) (m_range:mg "range" = none) (hr:Room 1 (A.deeper (envOfC "_law_threads" (aC s__law_threads) s.heap.objs.size f cdv))) :
  DSs (cN CX0 P w K mg base ["_law_script","_law_found","_law_k","_law_wide"] "_law_threads" (aC s__law_threads) f cdv A outer s H E).nox (aM s__law_threads) (eV XX XY) :=
 have nd:=kO.nd
 aF (fJ nd (eI (aA (aL dG (DE.bor (aL bR (DE.bor (aN XZ (hr.mono (by decide)) (aA (dv 0) (aA (aE) (aH))))) (DE.bor (aE)))) (DE.bor (aE))) (aH))))
 (aF (iV (cX lH (DE.bor (aL bR (DE.bor (aL cY (DE.bor (aN XZ (hr.mono (by decide)) (aA (dv 0) (aA (aE) (aH))))) (DE.bor (aE)))) (DE.bor (aE)))) (DE.bor (aE))) (aP (fJ nd (eI (aA (aL dG (DE.bor (aL bR (DE.bor (aN XZ (hr.mono (by decide)) (aA (dv 0) (aA (aE) (aH))))) (DE.bor (aL bS (DE.bor (aE)) (DE.bor (aL nH (DE.bor (aE)) (DE.bor (aE)))))))) (DE.bor (aL nH (DE.bor (aE)) (DE.bor (aE))))) (aH))))) (dP))
 (aF (cT PassesOwn.never rfl (fY m_range (aA (aL bW (DE.bor (aE)) (DE.bor (aL bR (DE.bor (aN XZ (hr.mono (by decide)) (aA (dv 0) (aA (aE) (aH))))) (DE.bor (aE))))) (aH))) (bC nd) (aF (aX nd (aL bW (DE.bor (aE)) (DE.bor (aL bR (DE.bor (aN YB (hr.mono (by decide)) (aA (dv 0) (aA (aL bW (DE.bor (aE)) (dvb 2)) (aH))))) (DE.bor (aE))))))
 (aF (iV (DW.tst (SD (cX lH (dvb 2) (DE.bor (aE))) (NQ (cX lH (DE.bor (aL bR (DE.bor (aN XZ (hr.mono (by decide)) (aA (dv 0) (aA (aE) (aH))))) (DE.bor (aE)))) (DE.bor (aE)))))) (aP (aX nd (aL bW (DE.bor (aE)) (DE.bor (aL bR (DE.bor (aL cY (DE.bor (aN XZ (hr.mono (by decide)) (aA (dv 0) (aA (aE) (aH))))) (DE.bor (aE)))) (DE.bor (aE))))))) (dP))
 (aP (fZ 1 (aL bW (DE.bor (aT (dvb 1) (DE.bor (qE lW (DE.bor (aE)))))) (dvb 3)))))))
 (aP (jR 1 (bH (dv 1))))))
theorem rP (Z:DefAt K mg "_law_threads" s__law_threads ["_law_script"]) {XX:FD} (XZ:FnAt P w K mg base "_law_cell_at" ["_law_script","_law_k"] 1 XX) {XY:FD} (YB:FnAt P w K mg base "_law_mixed" ["_law_script","_law_k"] 1 XY) (m_range:mg "range" = none) {F:FD} (len:∀ds Q,F ds Q->ds.length=1) (pure:∀ds Q,F ds Q->eV XX XY { nx:=λ_=>Q .non,rt:=Q } (aO ["_law_script","_law_found","_law_k","_law_wide"] ds)):FnAt P w K mg base "_law_threads" ["_law_script"] 2 F :=
 Z.ok kO (λcdv A outer s H E hr=>qZ XZ YB m_range hr) len pure
theorem lP:FnScope ["_law_script","_law_threads_here","_law_many"] ["_law_script"] (aC s__law_curves):=⟨rfl,rfl,rfl,by decide +kernel,rfl,by decide +kernel,by decide +kernel⟩
theorem oO:List.Nodup (["_law_place","_law_script","_law_many"]:List Str):=by decide +kernel
theorem sS {f:Addr} {cdv:Value} {A:Around} {outer:List Env} {s:Shared} {H:Hp} {E:XK} {XX:FD} (XZ:FnAt P w K mg base "_law_cell_at" ["_law_script","_law_k"] 1 XX) {YI:FD} (YV:FnAt P w K mg base "_law_heights" ["_law_script","_law_many","_law_place"] 2 YI) {YK:FD} (YX:FnAt P w K mg base "_law_threads" ["_law_script"] 2 YK) (m_len:mg "len" = none) (m_range:mg "range" = none) (hr:Room 2 (A.deeper (envOfC "_law_curves" (aC s__law_curves) s.heap.objs.size f cdv))) :
  DSs (cN CX0 P w K mg base ["_law_script","_law_threads_here","_law_many"] "_law_curves" (aC s__law_curves) f cdv A outer s H E).nox (aM s__law_curves) (fO XX YI YK) :=
 have nd:=lP.nd
 aF (aX nd (aN YX (hr.mono (by decide)) (aA (dv 0) (aH))))
 (aF (aX nd (aL bW (DE.bor (aE)) (DE.bor (aL bS (DE.bor (aE)) (DE.bor (aL bR (DE.bor (aN XZ (hr.mono (by decide)) (aA (dv 0) (aA (aE) (aH))))) (DE.bor (aE))))))))
 (aP (bH (cO (aA (dv 1) (aA (DO.val (oC ["_law_place","_law_script","_law_many"] 1 [0,2] (fY m_range (aA (eY m_len (dvb 1)) (aH))) (λcl C s H fp=>bC oO) (λcl C s H fp=>aN YV (hr.mono (by decide)) (aA (dv 1) (aA (dv 2) (aA (dv 0) (aH))))))) (aH)))))))
theorem tZ (Z:DefAt K mg "_law_curves" s__law_curves ["_law_script"]) {XX:FD} (XZ:FnAt P w K mg base "_law_cell_at" ["_law_script","_law_k"] 1 XX) {YI:FD} (YV:FnAt P w K mg base "_law_heights" ["_law_script","_law_many","_law_place"] 2 YI) {YK:FD} (YX:FnAt P w K mg base "_law_threads" ["_law_script"] 2 YK) (m_len:mg "len" = none) (m_range:mg "range" = none) {F:FD} (len:∀ds Q,F ds Q->ds.length=1) (pure:∀ds Q,F ds Q->fO XX YI YK { nx:=λ_=>Q .non,rt:=Q } (aO ["_law_script","_law_threads_here","_law_many"] ds)):FnAt P w K mg base "_law_curves" ["_law_script"] 3 F :=
 Z.ok lP (λcdv A outer s H E hr=>sS XZ YV YX m_len m_range hr) len pure
theorem qQ:FnScope ["_law_numbers_here","_law_signs","_law_found","_law_slope","_law_number","_law_one","_law_at"] ["_law_numbers_here","_law_signs"] (aC s__law_due):=⟨rfl,rfl,rfl,by decide +kernel,rfl,by decide +kernel,by decide +kernel⟩
theorem tV:List.Nodup (["_law_row","_law_one"]:List Str):=by decide +kernel
theorem zC {f:Addr} {cdv:Value} {A:Around} {outer:List Env} {s:Shared} {H:Hp} {E:XK} (m_len:mg "len" = none) (hr:Room 0 (A.deeper (envOfC "_law_due" (aC s__law_due) s.heap.objs.size f cdv))) :
  DSs (cN CX0 P w K mg base ["_law_numbers_here","_law_signs","_law_found","_law_slope","_law_number","_law_one","_law_at"] "_law_due" (aC s__law_due) f cdv A outer s H E).nox (aM s__law_due) (gF) :=
 have nd:=qQ.nd
 aF (fJ nd (eI (aH)))
 (aF (cT PassesOwn.never rfl (JK (dv 0)) (mZ rfl (cQ (bC nd) (cQ (bC nd) (kC)))) (aP (iV (cX DC (dvb 4) (DE.bor (aE))) (aF (aX nd (cO (aA (aL bS (DE.bor (aT (dvb 3) (DE.bor (aE)))) (DE.bor (aT (dvb 1) (DE.bor (aE))))) (aA (aT (dvb 3) (DE.bor (aE))) (aH)))))
 (aF (aX nd (JI 2 (eY m_len (DE.bor (DO.val (tE ["_law_row","_law_one"] 1 [5] (dO (dv 2)) (λcl C s H fp=>bC tV) (λcl C s H fp=>zV (cX wH (DE.bor (aL bS (DE.bor (aT (DE.bor (aT (dvb 0) (DE.bor (aE)))) (DE.bor (aE)))) (DE.bor (aT (dvb 1) (DE.bor (aE)))))) (DE.bor (aL bS (DE.bor (aT (dvb 1) (DE.bor (aE)))) (DE.bor (aT (DE.bor (aT (dvb 0) (DE.bor (aE)))) (DE.bor (aE)))))))) (λcl C s H fp=>dv 0)))))))
 (aP (GM 2 (dv 6) (cO (aA (dv 5) (aA (aL bS (dvb 4) (DE.bor (aT (dvb 1) (DE.bor (aE))))) (aH)))))))) (dP))))
 (aP (jR 2 (bH (dv 2)))))
theorem AR (Z:DefAt K mg "_law_due" s__law_due ["_law_numbers_here","_law_signs"]) (m_len:mg "len" = none) {F:FD} (len:∀ds Q,F ds Q->ds.length=2) (pure:∀ds Q,F ds Q->gF { nx:=λ_=>Q .non,rt:=Q } (aO ["_law_numbers_here","_law_signs","_law_found","_law_slope","_law_number","_law_one","_law_at"] ds)):FnAt P w K mg base "_law_due" ["_law_numbers_here","_law_signs"] 1 F :=
 Z.ok qQ (λcdv A outer s H E hr=>zC m_len hr) len pure
theorem kN:FnScope ["_law_threads_here","_law_heights_here","_law_numbers_here","_law_zone","_law_wide","_law_curve","_law_rise","_law_slope"] ["_law_threads_here","_law_heights_here"] (aC s__law_numbers):=⟨rfl,rfl,rfl,by decide +kernel,rfl,by decide +kernel,by decide +kernel⟩
theorem qY {f:Addr} {cdv:Value} {A:Around} {outer:List Env} {s:Shared} {H:Hp} {E:XK} {YA:FD} (YF:FnAt P w K mg base "_law_lowest" ["_law_top","_law_bottom"] 2 YA) (m_len:mg "len" = none) (m_range:mg "range" = none) (hr:Room 2 (A.deeper (envOfC "_law_numbers" (aC s__law_numbers) s.heap.objs.size f cdv))) :
  DSs (cN CX0 P w K mg base ["_law_threads_here","_law_heights_here","_law_numbers_here","_law_zone","_law_wide","_law_curve","_law_rise","_law_slope"] "_law_numbers" (aC s__law_numbers) f cdv A outer s H E).nox (aM s__law_numbers) (dR YA) :=
 have nd:=kN.nd
 aF (EZ nd)
 (aF (cT PassesOwn.never rfl (fY m_range (aA (aL dG (DE.bor (eY m_len (dvb 0))) (DE.bor (aE))) (aH))) (bC nd) (aF (aX nd (aL dG (DE.bor (aT (dvb 0) (DE.bor (aL bW (dvb 3) (DE.bor (aE)))))) (DE.bor (aT (dvb 0) (dvb 3)))))
 (aP (cT PassesOwn.never rfl (fY m_range (aA (eY m_len (DE.bor (aT (dvb 1) (DE.bor (aE))))) (aH))) (bC nd) (aF (aX nd (aL dG (DE.bor (aT (DE.bor (aT (dvb 1) (DE.bor (aL bW (dvb 3) (DE.bor (aE)))))) (dvb 5))) (DE.bor (aT (DE.bor (aT (dvb 1) (dvb 3))) (dvb 5)))))
 (aF (aX nd (aN YF (hr.mono (by decide)) (aA (dv 6) (aA (dv 4) (aH)))))
 (aP (xU 2 hr (dv 7) (aL bW (DE.bor (xQ 2 hr (dv 7) (aE))) (DE.bor (aL bS (dvb 4) (DE.bor (aT (DE.bor (DO.val (eI (aA (qE lW (DE.bor (aE))) (aA (aE) (aH)))))) (DE.bor (aL bR (dvb 5) (DE.bor (aE)))))))))))))))))
 (aP (jR 2 (bH (dv 2)))))
theorem rO (Z:DefAt K mg "_law_numbers" s__law_numbers ["_law_threads_here","_law_heights_here"]) {YA:FD} (YF:FnAt P w K mg base "_law_lowest" ["_law_top","_law_bottom"] 2 YA) (m_len:mg "len" = none) (m_range:mg "range" = none) {F:FD} (len:∀ds Q,F ds Q->ds.length=2) (pure:∀ds Q,F ds Q->dR YA { nx:=λ_=>Q .non,rt:=Q } (aO ["_law_threads_here","_law_heights_here","_law_numbers_here","_law_zone","_law_wide","_law_curve","_law_rise","_law_slope"] ds)):FnAt P w K mg base "_law_numbers" ["_law_threads_here","_law_heights_here"] 3 F :=
 Z.ok kN (λcdv A outer s H E hr=>qY YF m_len m_range hr) len pure
theorem oZ:FnScope ["_law_threads_here","_law_heights_here","_law_one","_law_other","_law_number","_law_ring_here","_law_start"] ["_law_threads_here","_law_heights_here","_law_one","_law_other","_law_number"] (aC s__law_ring):=⟨rfl,rfl,rfl,by decide +kernel,rfl,by decide +kernel,by decide +kernel⟩
theorem rJ:List.Nodup (["_law_k","_law_threads_here","_law_heights_here","_law_other"]:List Str):=by decide +kernel
theorem rK:List.Nodup (["_law_k","_law_threads_here","_law_heights_here","_law_one"]:List Str):=by decide +kernel
theorem xG {f:Addr} {cdv:Value} {A:Around} {outer:List Env} {s:Shared} {H:Hp} {E:XK} (m_len:mg "len" = none) (m_list:mg "list" = none) (m_reversed:mg "reversed" = none) (m_range:mg "range" = none) (hr:Room 0 (A.deeper (envOfC "_law_ring" (aC s__law_ring) s.heap.objs.size f cdv))) :
  DSs (cN CX0 P w K mg base ["_law_threads_here","_law_heights_here","_law_one","_law_other","_law_number","_law_ring_here","_law_start"] "_law_ring" (aC s__law_ring) f cdv A outer s H E).nox (aM s__law_ring) (fQ) :=
 have nd:=oZ.nd
 aF (xT ["_law_k","_law_threads_here","_law_heights_here","_law_one"] 1 [0,1,2] nd (fY m_range (aA (eY m_len (dvb 0)) (aH))) (λcl C s H fp=>bC rK) (λcl C s H fp=>cO (aA (aT (dvb 1) (dvb 0)) (aA (aT (DE.bor (aT (dvb 2) (dvb 0))) (dvb 3)) (aH)))))
 (aF (aX nd (aL mE (dvb 5) (DE.bor (DO.val (oC ["_law_k","_law_threads_here","_law_heights_here","_law_other"] 1 [0,1,3] (NK m_reversed m_range (aA (eY m_len (dvb 0)) (aH))) (λcl C s H fp=>bC rJ) (λcl C s H fp=>cO (aA (aT (dvb 1) (dvb 0)) (aA (aT (DE.bor (aT (dvb 2) (dvb 0))) (dvb 3)) (aH)))))))))
 (aF (iV (cX lH (DE.bor (aL bR (dvb 4) (DE.bor (aE)))) (DE.bor (aE))) (aP (fJ nd (tF m_list m_reversed rfl (dvb 5)))) (dP))
 (aF (aX nd (aL bR (DE.bor (aL cY (dvb 4) (DE.bor (aE)))) (DE.bor (eY m_len (dvb 5)))))
 (aP (bH (aL mE (DE.bor (lB (dvb 5) (oE (dv 6)) (oD))) (DE.bor (lB (dvb 5) (oD) (oE (dv 6))))))))))
theorem yH (Z:DefAt K mg "_law_ring" s__law_ring ["_law_threads_here","_law_heights_here","_law_one","_law_other","_law_number"]) (m_len:mg "len" = none) (m_list:mg "list" = none) (m_reversed:mg "reversed" = none) (m_range:mg "range" = none) {F:FD} (len:∀ds Q,F ds Q->ds.length=5) (pure:∀ds Q,F ds Q->fQ { nx:=λ_=>Q .non,rt:=Q } (aO ["_law_threads_here","_law_heights_here","_law_one","_law_other","_law_number","_law_ring_here","_law_start"] ds)):FnAt P w K mg base "_law_ring" ["_law_threads_here","_law_heights_here","_law_one","_law_other","_law_number"] 1 F :=
 Z.ok oZ (λcdv A outer s H E hr=>xG m_len m_list m_reversed m_range hr) len pure
theorem mR:FnScope ["_law_script","_law_threads_here","_law_heights_here","_law_many","_law_nested","_law_rings_here","_law_k","_law_pair"] ["_law_script","_law_threads_here","_law_heights_here"] (aC s__law_rings):=⟨rfl,rfl,rfl,by decide +kernel,rfl,by decide +kernel,by decide +kernel⟩
theorem uW {f:Addr} {cdv:Value} {A:Around} {outer:List Env} {s:Shared} {H:Hp} {E:XK} {XY:FD} (YB:FnAt P w K mg base "_law_mixed" ["_law_script","_law_k"] 1 XY) {YD:FD} (YG:FnAt P w K mg base "_law_ring" ["_law_threads_here","_law_heights_here","_law_one","_law_other","_law_number"] 1 YD) (m_range:mg "range" = none) (m_int:mg "int" = none) (m_len:mg "len" = none) (hr:Room 1 (A.deeper (envOfC "_law_rings" (aC s__law_rings) s.heap.objs.size f cdv))) :
  DSs (cN CX0 P w K mg base ["_law_script","_law_threads_here","_law_heights_here","_law_many","_law_nested","_law_rings_here","_law_k","_law_pair"] "_law_rings" (aC s__law_rings) f cdv A outer s H E).nox (aM s__law_rings) (gH XY YD) :=
 have nd:=mR.nd
 aF (aX nd (eY m_len (DE.bor (aT (dvb 2) (DE.bor (aE))))))
 (aF (aX nd (CI lH (DE.bor (aL bR (DE.bor (aN YB (hr.mono (by decide)) (aA (dv 0) (aA (aE) (aH))))) (DE.bor (aE)))) (DE.bor (aE))))
 (aF (fJ nd (eI (aH)))
 (aF (cT PassesOwn.never rfl (fY m_range (aA (aL cY (dvb 3) (DE.bor (aE))) (aH))) (bC nd) (aF (aX nd (aT (DE.bor (DO.val (eI (aA (cO (aA (aL bS (DE.bor (aE)) (dvb 6)) (aA (aL bW (DE.bor (aL bS (DE.bor (aE)) (dvb 6))) (DE.bor (aE))) (aH)))) (aA (cO (aA (dv 6) (aA (aL dG (DE.bor (aL dG (dvb 3) (DE.bor (aE)))) (dvb 6)) (aH)))) (aH)))))) (DE.bor (GG RN m_int FX (aA (dv 4) (aH))))))
 (aP (fZ 5 (aN YG (hr.mono (by decide)) (aA (dv 1) (aA (dv 2) (aA (aT (dvb 7) (DE.bor (aE))) (aA (aT (dvb 7) (DE.bor (aE))) (aA (aN YB (hr.mono (by decide)) (aA (dv 0) (aA (aL bW (DE.bor (aE)) (dvb 6)) (aH)))) (aH)))))))))))
 (aP (jR 5 (bH (dv 5)))))))
theorem vD (Z:DefAt K mg "_law_rings" s__law_rings ["_law_script","_law_threads_here","_law_heights_here"]) {XY:FD} (YB:FnAt P w K mg base "_law_mixed" ["_law_script","_law_k"] 1 XY) {YD:FD} (YG:FnAt P w K mg base "_law_ring" ["_law_threads_here","_law_heights_here","_law_one","_law_other","_law_number"] 1 YD) (m_range:mg "range" = none) (m_int:mg "int" = none) (m_len:mg "len" = none) {F:FD} (len:∀ds Q,F ds Q->ds.length=3) (pure:∀ds Q,F ds Q->gH XY YD { nx:=λ_=>Q .non,rt:=Q } (aO ["_law_script","_law_threads_here","_law_heights_here","_law_many","_law_nested","_law_rings_here","_law_k","_law_pair"] ds)):FnAt P w K mg base "_law_rings" ["_law_script","_law_threads_here","_law_heights_here"] 2 F :=
 Z.ok mR (λcdv A outer s H E hr=>uW YB YG m_range m_int m_len hr) len pure
theorem jC:FnScope ["one","other","larger","smaller","rest"] ["one","other"] (aC s_shared_divisor):=⟨rfl,rfl,rfl,by decide +kernel,rfl,by decide +kernel,by decide +kernel⟩
theorem oA {f:Addr} {cdv:Value} {A:Around} {outer:List Env} {s:Shared} {H:Hp} {E:XK} (m_abs:mg "abs" = none) (hr:Room 0 (A.deeper (envOfC "shared_divisor" (aC s_shared_divisor) s.heap.objs.size f cdv))) :
  DSs (cN CX0 P w K mg base ["one","other","larger","smaller","rest"] "shared_divisor" (aC s_shared_divisor) f cdv A outer s H E).nox (aM s_shared_divisor) (dS) :=
 have nd:=jC.nd
 aF (aX nd (lA xL m_abs mB (aA (dv 0) (aH))))
 (aF (aX nd (lA xL m_abs mB (aA (dv 1) (aH))))
 (aF (zZ PassesOwn.never (cX DC (dvb 3) (DE.bor (aE))) (aF (aX nd (aL bR (dvb 2) (dvb 3)))
 (aF (aX nd (dv 3))
 (aP (aX nd (dv 4))))))
 (aP (bH (dv 2)))))
theorem oP (Z:DefAt K mg "shared_divisor" s_shared_divisor ["one","other"]) (m_abs:mg "abs" = none) {F:FD} (len:∀ds Q,F ds Q->ds.length=2) (pure:∀ds Q,F ds Q->dS { nx:=λ_=>Q .non,rt:=Q } (aO ["one","other","larger","smaller","rest"] ds)):FnAt P w K mg base "shared_divisor" ["one","other"] 1 F :=
 Z.ok jC (λcdv A outer s H E hr=>oA m_abs hr) len pure
theorem BM:FnScope ["top","bottom","divisor"] ["top","bottom"] (aC s_ratio):=⟨rfl,rfl,rfl,by decide +kernel,rfl,by decide +kernel,by decide +kernel⟩
theorem IU {f:Addr} {cdv:Value} {A:Around} {outer:List Env} {s:Shared} {H:Hp} {E:XK} {F_shared_divisor:FD} (YE:FnAt P w K mg base "shared_divisor" ["one","other"] 1 F_shared_divisor) (hr:Room 1 (A.deeper (envOfC "ratio" (aC s_ratio) s.heap.objs.size f cdv))) :
  DSs (cN CX0 P w K mg base ["top","bottom","divisor"] "ratio" (aC s_ratio) f cdv A outer s H E).nox (aM s_ratio) (oV F_shared_divisor) :=
 have nd:=BM.nd
 aF (iV (cX lH (dvb 1) (DE.bor (aE))) (aP (zY)) (dP))
 (aF (aX nd (aN YE (hr.mono (by decide)) (aA (dv 0) (aA (dv 1) (aH)))))
 (aF (iV (cX wH (dvb 1) (DE.bor (aE))) (aP (aX nd (qE lW (dvb 2)))) (dP))
 (aP (bH (cO (aA (aL cY (dvb 0) (dvb 2)) (aA (aL cY (dvb 1) (dvb 2)) (aH))))))))
theorem LG (Z:DefAt K mg "ratio" s_ratio ["top","bottom"]) {F_shared_divisor:FD} (YE:FnAt P w K mg base "shared_divisor" ["one","other"] 1 F_shared_divisor) {F:FD} (len:∀ds Q,F ds Q->ds.length=2) (pure:∀ds Q,F ds Q->oV F_shared_divisor { nx:=λ_=>Q .non,rt:=Q } (aO ["top","bottom","divisor"] ds)):FnAt P w K mg base "ratio" ["top","bottom"] 2 F :=
 Z.ok BM (λcdv A outer s H E hr=>IU YE hr) len pure
theorem BK:FnScope ["one","other"] ["one","other"] (aC s_minus):=⟨rfl,rfl,rfl,by decide +kernel,rfl,by decide +kernel,by decide +kernel⟩
theorem IT {f:Addr} {cdv:Value} {A:Around} {outer:List Env} {s:Shared} {H:Hp} {E:XK} {aZ:FD} (YN:FnAt P w K mg base "ratio" ["top","bottom"] 2 aZ) (hr:Room 2 (A.deeper (envOfC "minus" (aC s_minus) s.heap.objs.size f cdv))) :
  DSs (cN CX0 P w K mg base ["one","other"] "minus" (aC s_minus) f cdv A outer s H E).nox (aM s_minus) (oU aZ) :=
 have nd:=BK.nd
 aP (bH (aN YN (hr.mono (by decide)) (aA (aL dG (DE.bor (aL bS (DE.bor (aT (dvb 0) (DE.bor (aE)))) (DE.bor (aT (dvb 1) (DE.bor (aE)))))) (DE.bor (aL bS (DE.bor (aT (dvb 1) (DE.bor (aE)))) (DE.bor (aT (dvb 0) (DE.bor (aE))))))) (aA (aL bS (DE.bor (aT (dvb 0) (DE.bor (aE)))) (DE.bor (aT (dvb 1) (DE.bor (aE))))) (aH)))))
theorem LF (Z:DefAt K mg "minus" s_minus ["one","other"]) {aZ:FD} (YN:FnAt P w K mg base "ratio" ["top","bottom"] 2 aZ) {F:FD} (len:∀ds Q,F ds Q->ds.length=2) (pure:∀ds Q,F ds Q->oU aZ { nx:=λ_=>Q .non,rt:=Q } (aO ["one","other"] ds)):FnAt P w K mg base "minus" ["one","other"] 3 F :=
 Z.ok BK (λcdv A outer s H E hr=>IT YN hr) len pure
theorem lR:FnScope ["row"] ["row"] (aC s_left_height):=⟨rfl,rfl,rfl,by decide +kernel,rfl,by decide +kernel,by decide +kernel⟩
theorem sU {f:Addr} {cdv:Value} {A:Around} {outer:List Env} {s:Shared} {H:Hp} {E:XK} {bE:FD} (YL:FnAt P w K mg base "minus" ["one","other"] 3 bE) (hr:Room 3 (A.deeper (envOfC "left_height" (aC s_left_height) s.heap.objs.size f cdv))) :
  DSs (cN CX0 P w K mg base ["row"] "left_height" (aC s_left_height) f cdv A outer s H E).nox (aM s_left_height) (fR bE) :=
 have nd:=lR.nd
 aP (bH (aN YL (hr.mono (by decide)) (aA (aT (dvb 0) (DE.bor (aE))) (aA (aT (dvb 0) (DE.bor (aE))) (aH)))))
theorem uC (Z:DefAt K mg "left_height" s_left_height ["row"]) {bE:FD} (YL:FnAt P w K mg base "minus" ["one","other"] 3 bE) {F:FD} (len:∀ds Q,F ds Q->ds.length=1) (pure:∀ds Q,F ds Q->fR bE { nx:=λ_=>Q .non,rt:=Q } (aO ["row"] ds)):FnAt P w K mg base "left_height" ["row"] 4 F :=
 Z.ok lR (λcdv A outer s H E hr=>sU YL hr) len pure
theorem FN:FnScope ["one","other"] ["one","other"] (aC s_plus):=⟨rfl,rfl,rfl,by decide +kernel,rfl,by decide +kernel,by decide +kernel⟩
theorem ND {f:Addr} {cdv:Value} {A:Around} {outer:List Env} {s:Shared} {H:Hp} {E:XK} {aZ:FD} (YN:FnAt P w K mg base "ratio" ["top","bottom"] 2 aZ) (hr:Room 2 (A.deeper (envOfC "plus" (aC s_plus) s.heap.objs.size f cdv))) :
  DSs (cN CX0 P w K mg base ["one","other"] "plus" (aC s_plus) f cdv A outer s H E).nox (aM s_plus) (sM aZ) :=
 have nd:=FN.nd
 aP (bH (aN YN (hr.mono (by decide)) (aA (aL bW (DE.bor (aL bS (DE.bor (aT (dvb 0) (DE.bor (aE)))) (DE.bor (aT (dvb 1) (DE.bor (aE)))))) (DE.bor (aL bS (DE.bor (aT (dvb 1) (DE.bor (aE)))) (DE.bor (aT (dvb 0) (DE.bor (aE))))))) (aA (aL bS (DE.bor (aT (dvb 0) (DE.bor (aE)))) (DE.bor (aT (dvb 1) (DE.bor (aE))))) (aH)))))
theorem OS (Z:DefAt K mg "plus" s_plus ["one","other"]) {aZ:FD} (YN:FnAt P w K mg base "ratio" ["top","bottom"] 2 aZ) {F:FD} (len:∀ds Q,F ds Q->ds.length=2) (pure:∀ds Q,F ds Q->sM aZ { nx:=λ_=>Q .non,rt:=Q } (aO ["one","other"] ds)):FnAt P w K mg base "plus" ["one","other"] 3 F :=
 Z.ok FN (λcdv A outer s H E hr=>ND YN hr) len pure
theorem kQ:FnScope ["row"] ["row"] (aC s_right_height):=⟨rfl,rfl,rfl,by decide +kernel,rfl,by decide +kernel,by decide +kernel⟩
theorem rE {f:Addr} {cdv:Value} {A:Around} {outer:List Env} {s:Shared} {H:Hp} {E:XK} {bE:FD} (YL:FnAt P w K mg base "minus" ["one","other"] 3 bE) (hr:Room 3 (A.deeper (envOfC "right_height" (aC s_right_height) s.heap.objs.size f cdv))) :
  DSs (cN CX0 P w K mg base ["row"] "right_height" (aC s_right_height) f cdv A outer s H E).nox (aM s_right_height) (eX bE) :=
 have nd:=kQ.nd
 aP (bH (aN YL (hr.mono (by decide)) (aA (aT (dvb 0) (DE.bor (aE))) (aA (aT (dvb 0) (DE.bor (aE))) (aH)))))
theorem rR (Z:DefAt K mg "right_height" s_right_height ["row"]) {bE:FD} (YL:FnAt P w K mg base "minus" ["one","other"] 3 bE) {F:FD} (len:∀ds Q,F ds Q->ds.length=1) (pure:∀ds Q,F ds Q->eX bE { nx:=λ_=>Q .non,rt:=Q } (aO ["row"] ds)):FnAt P w K mg base "right_height" ["row"] 4 F :=
 Z.ok kQ (λcdv A outer s H E hr=>rE YL hr) len pure
theorem BN:FnScope ["one","other"] ["one","other"] (aC s_times):=⟨rfl,rfl,rfl,by decide +kernel,rfl,by decide +kernel,by decide +kernel⟩
theorem IV {f:Addr} {cdv:Value} {A:Around} {outer:List Env} {s:Shared} {H:Hp} {E:XK} {aZ:FD} (YN:FnAt P w K mg base "ratio" ["top","bottom"] 2 aZ) (hr:Room 2 (A.deeper (envOfC "times" (aC s_times) s.heap.objs.size f cdv))) :
  DSs (cN CX0 P w K mg base ["one","other"] "times" (aC s_times) f cdv A outer s H E).nox (aM s_times) (oW aZ) :=
 have nd:=BN.nd
 aP (bH (aN YN (hr.mono (by decide)) (aA (aL bS (DE.bor (aT (dvb 0) (DE.bor (aE)))) (DE.bor (aT (dvb 1) (DE.bor (aE))))) (aA (aL bS (DE.bor (aT (dvb 0) (DE.bor (aE)))) (DE.bor (aT (dvb 1) (DE.bor (aE))))) (aH)))))
theorem LH (Z:DefAt K mg "times" s_times ["one","other"]) {aZ:FD} (YN:FnAt P w K mg base "ratio" ["top","bottom"] 2 aZ) {F:FD} (len:∀ds Q,F ds Q->ds.length=2) (pure:∀ds Q,F ds Q->oW aZ { nx:=λ_=>Q .non,rt:=Q } (aO ["one","other"] ds)):FnAt P w K mg base "times" ["one","other"] 3 F :=
 Z.ok BN (λcdv A outer s H E hr=>IV YN hr) len pure
theorem FL:FnScope ["rows","total","row"] ["rows"] (aC s_area):=⟨rfl,rfl,rfl,by decide +kernel,rfl,by decide +kernel,by decide +kernel⟩
theorem NC {f:Addr} {cdv:Value} {A:Around} {outer:List Env} {s:Shared} {H:Hp} {E:XK} {F_left_height:FD} (ZC:FnAt P w K mg base "left_height" ["row"] 4 F_left_height) {fG:FD} (ZQ:FnAt P w K mg base "plus" ["one","other"] 3 fG) {F_right_height:FD} (YZ:FnAt P w K mg base "right_height" ["row"] 4 F_right_height) {fH:FD} (ZP:FnAt P w K mg base "times" ["one","other"] 3 fH) (hr:Room 4 (A.deeper (envOfC "area" (aC s_area) s.heap.objs.size f cdv))) :
  DSs (cN CX0 P w K mg base ["rows","total","row"] "area" (aC s_area) f cdv A outer s H E).nox (aM s_area) (sL F_left_height fG F_right_height fH) :=
 have nd:=FL.nd
 aF (aX nd (cO (aA (aE) (aA (aE) (aH)))))
 (aF (cT PassesOwn.never rfl (dO (dv 0)) (bC nd) (aP (aX nd (aN ZQ (hr.mono (by decide)) (aA (dv 1) (aA (aN ZQ (hr.mono (by decide)) (aA (aN ZC (hr.mono (by decide)) (aA (dv 2) (aH))) (aA (aN YZ (hr.mono (by decide)) (aA (dv 2) (aH))) (aH)))) (aH)))))))
 (aP (bH (aN ZP (hr.mono (by decide)) (aA (dv 1) (aA (cO (aA (aE) (aA (aE) (aH)))) (aH)))))))
theorem OR (Z:DefAt K mg "area" s_area ["rows"]) {F_left_height:FD} (ZC:FnAt P w K mg base "left_height" ["row"] 4 F_left_height) {fG:FD} (ZQ:FnAt P w K mg base "plus" ["one","other"] 3 fG) {F_right_height:FD} (YZ:FnAt P w K mg base "right_height" ["row"] 4 F_right_height) {fH:FD} (ZP:FnAt P w K mg base "times" ["one","other"] 3 fH) {F:FD} (len:∀ds Q,F ds Q->ds.length=1) (pure:∀ds Q,F ds Q->sL F_left_height fG F_right_height fH { nx:=λ_=>Q .non,rt:=Q } (aO ["rows","total","row"] ds)):FnAt P w K mg base "area" ["rows"] 5 F :=
 Z.ok FL (λcdv A outer s H E hr=>NC ZC ZQ YZ ZP hr) len pure
theorem iQ:FnScope ["one","other"] ["one","other"] (aC s_shared_multiple):=⟨rfl,rfl,rfl,by decide +kernel,rfl,by decide +kernel,by decide +kernel⟩
theorem mV {f:Addr} {cdv:Value} {A:Around} {outer:List Env} {s:Shared} {H:Hp} {E:XK} {F_shared_divisor:FD} (YE:FnAt P w K mg base "shared_divisor" ["one","other"] 1 F_shared_divisor) (hr:Room 1 (A.deeper (envOfC "shared_multiple" (aC s_shared_multiple) s.heap.objs.size f cdv))) :
  DSs (cN CX0 P w K mg base ["one","other"] "shared_multiple" (aC s_shared_multiple) f cdv A outer s H E).nox (aM s_shared_multiple) (dA F_shared_divisor) :=
 have nd:=iQ.nd
 aP (bH (aL bS (dvb 0) (DE.bor (aL cY (dvb 1) (DE.bor (aN YE (hr.mono (by decide)) (aA (dv 0) (aA (dv 1) (aH)))))))))
theorem nM (Z:DefAt K mg "shared_multiple" s_shared_multiple ["one","other"]) {F_shared_divisor:FD} (YE:FnAt P w K mg base "shared_divisor" ["one","other"] 1 F_shared_divisor) {F:FD} (len:∀ds Q,F ds Q->ds.length=2) (pure:∀ds Q,F ds Q->dA F_shared_divisor { nx:=λ_=>Q .non,rt:=Q } (aO ["one","other"] ds)):FnAt P w K mg base "shared_multiple" ["one","other"] 2 F :=
 Z.ok iQ (λcdv A outer s H E hr=>mV YE hr) len pure
theorem iO:FnScope ["numbers","multiple","number"] ["numbers"] (aC s_lowest_multiple):=⟨rfl,rfl,rfl,by decide +kernel,rfl,by decide +kernel,by decide +kernel⟩
theorem mT {f:Addr} {cdv:Value} {A:Around} {outer:List Env} {s:Shared} {H:Hp} {E:XK} {F_shared_multiple:FD} (YO:FnAt P w K mg base "shared_multiple" ["one","other"] 2 F_shared_multiple) (hr:Room 2 (A.deeper (envOfC "lowest_multiple" (aC s_lowest_multiple) s.heap.objs.size f cdv))) :
  DSs (cN CX0 P w K mg base ["numbers","multiple","number"] "lowest_multiple" (aC s_lowest_multiple) f cdv A outer s H E).nox (aM s_lowest_multiple) (bG F_shared_multiple) :=
 have nd:=iO.nd
 aF (aX nd (aE))
 (aF (cT PassesOwn.never rfl (dO (dv 0)) (bC nd) (aP (aX nd (aN YO (hr.mono (by decide)) (aA (dv 1) (aA (dv 2) (aH)))))))
 (aP (bH (dv 1))))
theorem nJ (Z:DefAt K mg "lowest_multiple" s_lowest_multiple ["numbers"]) {F_shared_multiple:FD} (YO:FnAt P w K mg base "shared_multiple" ["one","other"] 2 F_shared_multiple) {F:FD} (len:∀ds Q,F ds Q->ds.length=1) (pure:∀ds Q,F ds Q->bG F_shared_multiple { nx:=λ_=>Q .non,rt:=Q } (aO ["numbers","multiple","number"] ds)):FnAt P w K mg base "lowest_multiple" ["numbers"] 3 F :=
 Z.ok iO (λcdv A outer s H E hr=>mT YO hr) len pure
theorem qT:FnScope ["side"] ["side"] (aC s_width_of):=⟨rfl,rfl,rfl,by decide +kernel,rfl,by decide +kernel,by decide +kernel⟩
theorem zF {f:Addr} {cdv:Value} {A:Around} {outer:List Env} {s:Shared} {H:Hp} {E:XK} (hr:Room 0 (A.deeper (envOfC "width_of" (aC s_width_of) s.heap.objs.size f cdv))) :
  DSs (cN CX0 P w K mg base ["side"] "width_of" (aC s_width_of) f cdv A outer s H E).nox (aM s_width_of) (jB) :=
 have nd:=qT.nd
 aP (bH (aL dG (DE.bor (aT (DE.bor (aT (dvb 0) (DE.bor (aE)))) (DE.bor (aE)))) (DE.bor (aT (DE.bor (aT (dvb 0) (DE.bor (aE)))) (DE.bor (aE))))))
theorem AU (Z:DefAt K mg "width_of" s_width_of ["side"]) {F:FD} (len:∀ds Q,F ds Q->ds.length=1) (pure:∀ds Q,F ds Q->jB { nx:=λ_=>Q .non,rt:=Q } (aO ["side"] ds)):FnAt P w K mg base "width_of" ["side"] 1 F :=
 Z.ok qT (λcdv A outer s H E hr=>zF hr) len pure
theorem pA:FnScope ["side","thread","bottom","left","width","climb"] ["side","thread","bottom"] (aC s_height_at):=⟨rfl,rfl,rfl,by decide +kernel,rfl,by decide +kernel,by decide +kernel⟩
theorem xH {f:Addr} {cdv:Value} {A:Around} {outer:List Env} {s:Shared} {H:Hp} {E:XK} {F_width_of:FD} (YS:FnAt P w K mg base "width_of" ["side"] 1 F_width_of) (hr:Room 1 (A.deeper (envOfC "height_at" (aC s_height_at) s.heap.objs.size f cdv))) :
  DSs (cN CX0 P w K mg base ["side","thread","bottom","left","width","climb"] "height_at" (aC s_height_at) f cdv A outer s H E).nox (aM s_height_at) (eD F_width_of) :=
 have nd:=pA.nd
 aF (aX nd (aT (dvb 0) (DE.bor (aE))))
 (aF (aX nd (aN YS (hr.mono (by decide)) (aA (dv 0) (aH))))
 (aF (aX nd (aL bS (DE.bor (aL dG (DE.bor (aT (DE.bor (aT (dvb 0) (DE.bor (aE)))) (DE.bor (aE)))) (DE.bor (aT (dvb 3) (DE.bor (aE)))))) (DE.bor (aL dG (dvb 1) (DE.bor (aT (dvb 3) (DE.bor (aE))))))))
 (aP (bH (aL bS (DE.bor (aL bW (DE.bor (aL bS (DE.bor (aT (dvb 3) (DE.bor (aE)))) (dvb 4))) (dvb 5))) (DE.bor (aL cY (dvb 2) (dvb 4))))))))
theorem yI (Z:DefAt K mg "height_at" s_height_at ["side","thread","bottom"]) {F_width_of:FD} (YS:FnAt P w K mg base "width_of" ["side"] 1 F_width_of) {F:FD} (len:∀ds Q,F ds Q->ds.length=3) (pure:∀ds Q,F ds Q->eD F_width_of { nx:=λ_=>Q .non,rt:=Q } (aO ["side","thread","bottom","left","width","climb"] ds)):FnAt P w K mg base "height_at" ["side","thread","bottom"] 2 F :=
 Z.ok pA (λcdv A outer s H E hr=>xH YS hr) len pure
theorem iP:FnScope ["sides","column","bottom","heights","lower","upper"] ["sides","column","bottom"] (aC s_ordered_heights):=⟨rfl,rfl,rfl,by decide +kernel,rfl,by decide +kernel,by decide +kernel⟩
theorem kS:List.Nodup (["side","column","bottom"]:List Str):=by decide +kernel
theorem mU {f:Addr} {cdv:Value} {A:Around} {outer:List Env} {s:Shared} {H:Hp} {E:XK} {F_height_at:FD} (ZF:FnAt P w K mg base "height_at" ["side","thread","bottom"] 2 F_height_at) (m_zip:mg "zip" = none) (m_sorted:mg "sorted" = none) (hr:Room 2 (A.deeper (envOfC "ordered_heights" (aC s_ordered_heights) s.heap.objs.size f cdv))) :
  DSs (cN CX0 P w K mg base ["sides","column","bottom","heights","lower","upper"] "ordered_heights" (aC s_ordered_heights) f cdv A outer s H E).nox (aM s_ordered_heights) (bY F_height_at) :=
 have nd:=iP.nd
 aF (xT ["side","column","bottom"] 1 [1,2] nd (dO (dv 0)) (λcl C s H fp=>bC kS) (λcl C s H fp=>cO (aA (aN ZF (hr.mono (by decide)) (aA (dv 0) (aA (dv 1) (aA (dv 2) (aH))))) (aA (aN ZF (hr.mono (by decide)) (aA (dv 0) (aA (aL bW (dvb 1) (DE.bor (aE))) (aA (dv 2) (aH))))) (aH)))))
 (aF (fJ nd (JT m_sorted (dvb 3)))
 (aF (jR 3 (cT PassesOwn.never rfl (CJ m_zip (dv 3) (lB (dvb 3) (oE (aE)) (oD))) (mZ rfl (cQ (bC nd) (cQ (bC nd) (kC)))) (aP (iV (cX wH (DE.bor (aT (dvb 5) (DE.bor (aE)))) (DE.bor (aT (dvb 4) (DE.bor (aE))))) (aP (zY)) (dP)))))
 (aP (jR 3 (bH (dv 3))))))
theorem nK (Z:DefAt K mg "ordered_heights" s_ordered_heights ["sides","column","bottom"]) {F_height_at:FD} (ZF:FnAt P w K mg base "height_at" ["side","thread","bottom"] 2 F_height_at) (m_zip:mg "zip" = none) (m_sorted:mg "sorted" = none) {F:FD} (len:∀ds Q,F ds Q->ds.length=3) (pure:∀ds Q,F ds Q->bY F_height_at { nx:=λ_=>Q .non,rt:=Q } (aO ["sides","column","bottom","heights","lower","upper"] ds)):FnAt P w K mg base "ordered_heights" ["sides","column","bottom"] 3 F :=
 Z.ok iP (λcdv A outer s H E hr=>mU ZF m_zip m_sorted hr) len pure
theorem kP:FnScope ["sides","column","bottom","heights","rows","low","up","edges"] ["sides","column"] (aC s_column_bands):=⟨rfl,rfl,rfl,by decide +kernel,rfl,by decide +kernel,by decide +kernel⟩
theorem nF:List.Nodup (["height","bottom"]:List Str):=by decide +kernel
theorem nG:List.Nodup (["side"]:List Str):=by decide +kernel
theorem rD {f:Addr} {cdv:Value} {A:Around} {outer:List Env} {s:Shared} {H:Hp} {E:XK} {F_lowest_multiple:FD} (YC:FnAt P w K mg base "lowest_multiple" ["numbers"] 3 F_lowest_multiple) {F_ordered_heights:FD} (YM:FnAt P w K mg base "ordered_heights" ["sides","column","bottom"] 3 F_ordered_heights) {aZ:FD} (YN:FnAt P w K mg base "ratio" ["top","bottom"] 2 aZ) {F_width_of:FD} (YS:FnAt P w K mg base "width_of" ["side"] 1 F_width_of) (m_zip:mg "zip" = none) (hr:Room 3 (A.deeper (envOfC "column_bands" (aC s_column_bands) s.heap.objs.size f cdv))) :
  DSs (cN CX0 P w K mg base ["sides","column","bottom","heights","rows","low","up","edges"] "column_bands" (aC s_column_bands) f cdv A outer s H E).nox (aM s_column_bands) (cF F_lowest_multiple F_ordered_heights aZ F_width_of) :=
 have nd:=kP.nd
 aF (aX nd (aN YC (hr.mono (by decide)) (aA (DO.val (oC ["side"] 1 [] (dO (dv 0)) (λcl C s H fp=>bC nG) (λcl C s H fp=>aN YS (hr.mono (by decide)) (aA (dv 0) (aH))))) (aH))))
 (aF (aX nd (aN YM (hr.mono (by decide)) (aA (dv 0) (aA (dv 1) (aA (dv 2) (aH))))))
 (aF (fJ nd (eI (aH)))
 (aF (cT PassesOwn.never rfl (CJ m_zip (DO.val (NM (dvb 3))) (DO.val (NN (dvb 3)))) (mZ rfl (cQ (bC nd) (cQ (bC nd) (kC)))) (aP (iV (cX (VP hr) (dvb 5) (dvb 6)) (aF (xT ["height","bottom"] 1 [2] nd (SA (aL mE (dvb 5) (dvb 6))) (λcl C s H fp=>bC nF) (λcl C s H fp=>aN YN (hr.mono (by decide)) (aA (dv 0) (aA (dv 1) (aH)))))
 (aP (fZ 4 (cO (aA (dv 1) (aA (aT (dvb 7) (DE.bor (aE))) (aA (aT (dvb 7) (DE.bor (aE))) (aA (aT (dvb 7) (DE.bor (aE))) (aA (aT (dvb 7) (DE.bor (aE))) (aH)))))))))) (dP))))
 (aP (jR 4 (bH (dv 4)))))))
theorem rQ (Z:DefAt K mg "column_bands" s_column_bands ["sides","column"]) {F_lowest_multiple:FD} (YC:FnAt P w K mg base "lowest_multiple" ["numbers"] 3 F_lowest_multiple) {F_ordered_heights:FD} (YM:FnAt P w K mg base "ordered_heights" ["sides","column","bottom"] 3 F_ordered_heights) {aZ:FD} (YN:FnAt P w K mg base "ratio" ["top","bottom"] 2 aZ) {F_width_of:FD} (YS:FnAt P w K mg base "width_of" ["side"] 1 F_width_of) (m_zip:mg "zip" = none) {F:FD} (len:∀ds Q,F ds Q->ds.length=2) (pure:∀ds Q,F ds Q->cF F_lowest_multiple F_ordered_heights aZ F_width_of { nx:=λ_=>Q .non,rt:=Q } (aO ["sides","column","bottom","heights","rows","low","up","edges"] ds)):FnAt P w K mg base "column_bands" ["sides","column"] 4 F :=
 Z.ok kP (λcdv A outer s H E hr=>rD YC YM YN YS m_zip hr) len pure
theorem qS:FnScope ["ring","sides","one","other"] ["ring"] (aC s_sides_of):=⟨rfl,rfl,rfl,by decide +kernel,rfl,by decide +kernel,by decide +kernel⟩
theorem zE {f:Addr} {cdv:Value} {A:Around} {outer:List Env} {s:Shared} {H:Hp} {E:XK} (m_zip:mg "zip" = none) (hr:Room 0 (A.deeper (envOfC "sides_of" (aC s_sides_of) s.heap.objs.size f cdv))) :
  DSs (cN CX0 P w K mg base ["ring","sides","one","other"] "sides_of" (aC s_sides_of) f cdv A outer s H E).nox (aM s_sides_of) (jA) :=
 have nd:=qS.nd
 aF (fJ nd (eI (aH)))
 (aF (cT PassesOwn.never rfl (CJ m_zip (dv 0) (aL mE (DE.bor (lB (dvb 0) (oE (aE)) (oD))) (DE.bor (lB (dvb 0) (oD) (oE (aE)))))) (mZ rfl (cQ (bC nd) (cQ (bC nd) (kC)))) (aF (iV (cX wH (DE.bor (aT (dvb 2) (DE.bor (aE)))) (DE.bor (aT (dvb 3) (DE.bor (aE))))) (aP (fZ 1 (cO (aA (dv 2) (aA (dv 3) (aH)))))) (dP))
 (aP (iV (cX wH (DE.bor (aT (dvb 3) (DE.bor (aE)))) (DE.bor (aT (dvb 2) (DE.bor (aE))))) (aP (fZ 1 (cO (aA (dv 3) (aA (dv 2) (aH)))))) (dP)))))
 (aP (jR 1 (bH (dv 1)))))
theorem AT (Z:DefAt K mg "sides_of" s_sides_of ["ring"]) (m_zip:mg "zip" = none) {F:FD} (len:∀ds Q,F ds Q->ds.length=1) (pure:∀ds Q,F ds Q->jA { nx:=λ_=>Q .non,rt:=Q } (aO ["ring","sides","one","other"] ds)):FnAt P w K mg base "sides_of" ["ring"] 1 F :=
 Z.ok qS (λcdv A outer s H E hr=>zE m_zip hr) len pure
theorem iR:FnScope ["rings","columns","ring","side","column"] ["rings"] (aC s_sides_by_column):=⟨rfl,rfl,rfl,by decide +kernel,rfl,by decide +kernel,by decide +kernel⟩
theorem mW {f:Addr} {cdv:Value} {A:Around} {outer:List Env} {s:Shared} {H:Hp} {E:XK} {F_sides_of:FD} (ZL:FnAt P w K mg base "sides_of" ["ring"] 1 F_sides_of) (m_range:mg "range" = none) (hr:Room 1 (A.deeper (envOfC "sides_by_column" (aC s_sides_by_column) s.heap.objs.size f cdv))) :
  DSs (cN CX0 P w K mg base ["rings","columns","ring","side","column"] "sides_by_column" (aC s_sides_by_column) f cdv A outer s H E).nox (aM s_sides_by_column) (bZ F_sides_of) :=
 have nd:=iR.nd
 aF (NP nd)
 (aF (cT PassesOwn.never rfl (dO (dv 0)) (bC nd) (aP (cT PassesOwn.never rfl (dO (aN ZL (hr.mono (by decide)) (aA (dv 2) (aH)))) (bC nd) (aP (cT PassesOwn.never rfl (RZ m_range (aA (aT (DE.bor (aT (dvb 3) (DE.bor (aE)))) (DE.bor (aE))) (aA (aT (DE.bor (aT (dvb 3) (DE.bor (aE)))) (DE.bor (aE))) (aH)))) (bC nd) (aP (NO 1 (dv 4) (dv 3))))))))
 (aP (jR 1 (bH (dv 1)))))
theorem nN (Z:DefAt K mg "sides_by_column" s_sides_by_column ["rings"]) {F_sides_of:FD} (ZL:FnAt P w K mg base "sides_of" ["ring"] 1 F_sides_of) (m_range:mg "range" = none) {F:FD} (len:∀ds Q,F ds Q->ds.length=1) (pure:∀ds Q,F ds Q->bZ F_sides_of { nx:=λ_=>Q .non,rt:=Q } (aO ["rings","columns","ring","side","column"] ds)):FnAt P w K mg base "sides_by_column" ["rings"] 2 F :=
 Z.ok iR (λcdv A outer s H E hr=>mW ZL m_range hr) len pure
theorem BJ:FnScope ["rings","columns","rows","column"] ["rings"] (aC s_bands):=⟨rfl,rfl,rfl,by decide +kernel,rfl,by decide +kernel,by decide +kernel⟩
theorem IS {f:Addr} {cdv:Value} {A:Around} {outer:List Env} {s:Shared} {H:Hp} {E:XK} {F_column_bands:FD} (YY:FnAt P w K mg base "column_bands" ["sides","column"] 4 F_column_bands) {F_sides_by_column:FD} (YQ:FnAt P w K mg base "sides_by_column" ["rings"] 2 F_sides_by_column) (m_list:mg "list" = none) (m_sorted:mg "sorted" = none) (hr:Room 4 (A.deeper (envOfC "bands" (aC s_bands) s.heap.objs.size f cdv))) :
  DSs (cN CX0 P w K mg base ["rings","columns","rows","column"] "bands" (aC s_bands) f cdv A outer s H E).nox (aM s_bands) (oT F_column_bands F_sides_by_column) :=
 have nd:=BJ.nd
 aF (aX nd (aN YQ (hr.mono (by decide)) (aA (dv 0) (aH))))
 (aF (fJ nd (eI (aH)))
 (aF (cT PassesOwn.never rfl (dO (DO.val (JS m_sorted (DE.bor (DO.val (JQ m_list rfl (dv 1))))))) (bC nd) (aP (GL 2 (aN YY (hr.mono (by decide)) (aA (RX hr (dv 1) (dv 3)) (aA (dv 3) (aH)))))))
 (aP (jR 2 (bH (dv 2))))))
theorem LE (Z:DefAt K mg "bands" s_bands ["rings"]) {F_column_bands:FD} (YY:FnAt P w K mg base "column_bands" ["sides","column"] 4 F_column_bands) {F_sides_by_column:FD} (YQ:FnAt P w K mg base "sides_by_column" ["rings"] 2 F_sides_by_column) (m_list:mg "list" = none) (m_sorted:mg "sorted" = none) {F:FD} (len:∀ds Q,F ds Q->ds.length=1) (pure:∀ds Q,F ds Q->oT F_column_bands F_sides_by_column { nx:=λ_=>Q .non,rt:=Q } (aO ["rings","columns","rows","column"] ds)):FnAt P w K mg base "bands" ["rings"] 5 F :=
 Z.ok BJ (λcdv A outer s H E hr=>IS YY YQ m_list m_sorted hr) len pure
theorem lS:FnScope ["row"] ["row"] (aC s_lower_slope):=⟨rfl,rfl,rfl,by decide +kernel,rfl,by decide +kernel,by decide +kernel⟩
theorem sV {f:Addr} {cdv:Value} {A:Around} {outer:List Env} {s:Shared} {H:Hp} {E:XK} {bE:FD} (YL:FnAt P w K mg base "minus" ["one","other"] 3 bE) (hr:Room 3 (A.deeper (envOfC "lower_slope" (aC s_lower_slope) s.heap.objs.size f cdv))) :
  DSs (cN CX0 P w K mg base ["row"] "lower_slope" (aC s_lower_slope) f cdv A outer s H E).nox (aM s_lower_slope) (fS bE) :=
 have nd:=lS.nd
 aP (bH (aN YL (hr.mono (by decide)) (aA (aT (dvb 0) (DE.bor (aE))) (aA (aT (dvb 0) (DE.bor (aE))) (aH)))))
theorem uD (Z:DefAt K mg "lower_slope" s_lower_slope ["row"]) {bE:FD} (YL:FnAt P w K mg base "minus" ["one","other"] 3 bE) {F:FD} (len:∀ds Q,F ds Q->ds.length=1) (pure:∀ds Q,F ds Q->fS bE { nx:=λ_=>Q .non,rt:=Q } (aO ["row"] ds)):FnAt P w K mg base "lower_slope" ["row"] 4 F :=
 Z.ok lS (λcdv A outer s H E hr=>sV YL hr) len pure
theorem wQ:FnScope ["ones","bottom"] ["ones"] (aC s_rising):=⟨rfl,rfl,rfl,by decide +kernel,rfl,by decide +kernel,by decide +kernel⟩
theorem yF:List.Nodup (["one"]:List Str):=by decide +kernel
theorem FW {f:Addr} {cdv:Value} {A:Around} {outer:List Env} {s:Shared} {H:Hp} {E:XK} {lc lt:Addr} (W:LamW K mg base "rising" lc lt) (hcd:cdv = .ref lc) {F_lowest_multiple:FD} (YC:FnAt P w K mg base "lowest_multiple" ["numbers"] 3 F_lowest_multiple) (m_sorted:mg "sorted" = none) (hr:Room 3 (A.deeper (envOfC "rising" (aC s_rising) s.heap.objs.size f cdv))) :
  DSs (cN CX0 P w K mg base ["ones","bottom"] "rising" (aC s_rising) f cdv A outer s H E).nox (aM s_rising) (jX F_lowest_multiple) :=
 have nd:=wQ.nd
 aF (aX nd (aN YC (hr.mono (by decide)) (aA (DO.val (oC ["one"] 1 [] (dO (dv 0)) (λcl C s H fp=>bC yF) (λcl C s H fp=>aT (dvb 0) (DE.bor (aE))))) (aH))))
 (aP (bH (DO.val (GK (k:=0) (j:=1) hr m_sorted W (by decide) hcd (dvb 0) (by rfl) (hfree:=KK rfl)))))
theorem HG (Z:DefAt K mg "rising" s_rising ["ones"]) {lc lt:Addr} (W:LamW K mg base "rising" lc lt) {F_lowest_multiple:FD} (YC:FnAt P w K mg base "lowest_multiple" ["numbers"] 3 F_lowest_multiple) (m_sorted:mg "sorted" = none) {F:FD} (len:∀ds Q,F ds Q->ds.length=1) (pure:∀ds Q,F ds Q->jX F_lowest_multiple { nx:=λ_=>Q .non,rt:=Q } (aO ["ones","bottom"] ds)):FnAt P w K mg base "rising" ["ones"] 4 F :=
 Z.okC wQ (λcdv A outer s H E hc hr=>FW W (hc _ _ W.tab) YC m_sorted hr) len pure
theorem lT:FnScope ["row"] ["row"] (aC s_upper_slope):=⟨rfl,rfl,rfl,by decide +kernel,rfl,by decide +kernel,by decide +kernel⟩
theorem sW {f:Addr} {cdv:Value} {A:Around} {outer:List Env} {s:Shared} {H:Hp} {E:XK} {bE:FD} (YL:FnAt P w K mg base "minus" ["one","other"] 3 bE) (hr:Room 3 (A.deeper (envOfC "upper_slope" (aC s_upper_slope) s.heap.objs.size f cdv))) :
  DSs (cN CX0 P w K mg base ["row"] "upper_slope" (aC s_upper_slope) f cdv A outer s H E).nox (aM s_upper_slope) (fT bE) :=
 have nd:=lT.nd
 aP (bH (aN YL (hr.mono (by decide)) (aA (aT (dvb 0) (DE.bor (aE))) (aA (aT (dvb 0) (DE.bor (aE))) (aH)))))
theorem uE (Z:DefAt K mg "upper_slope" s_upper_slope ["row"]) {bE:FD} (YL:FnAt P w K mg base "minus" ["one","other"] 3 bE) {F:FD} (len:∀ds Q,F ds Q->ds.length=1) (pure:∀ds Q,F ds Q->fT bE { nx:=λ_=>Q .non,rt:=Q } (aO ["row"] ds)):FnAt P w K mg base "upper_slope" ["row"] 4 F :=
 Z.ok lT (λcdv A outer s H E hr=>sW YL hr) len pure
theorem qR:FnScope ["rows","numbers","row","upper","lower"] ["rows"] (aC s_leanings):=⟨rfl,rfl,rfl,by decide +kernel,rfl,by decide +kernel,by decide +kernel⟩
theorem tW:List.Nodup (["slope","numbers"]:List Str):=by decide +kernel
theorem zD {f:Addr} {cdv:Value} {A:Around} {outer:List Env} {s:Shared} {H:Hp} {E:XK} {F_lower_slope:FD} (ZD:FnAt P w K mg base "lower_slope" ["row"] 4 F_lower_slope) {F_rising:FD} (ZM:FnAt P w K mg base "rising" ["ones"] 4 F_rising) {F_upper_slope:FD} (ZE:FnAt P w K mg base "upper_slope" ["row"] 4 F_upper_slope) (m_list:mg "list" = none) (hr:Room 4 (A.deeper (envOfC "leanings" (aC s_leanings) s.heap.objs.size f cdv))) :
  DSs (cN CX0 P w K mg base ["rows","numbers","row","upper","lower"] "leanings" (aC s_leanings) f cdv A outer s H E).nox (aM s_leanings) (gI F_lower_slope F_rising F_upper_slope) :=
 have nd:=qR.nd
 aF (EZ nd)
 (aF (cT PassesOwn.never rfl (dO (dv 0)) (bC nd) (aF (aX nd (aN ZE (hr.mono (by decide)) (aA (dv 2) (aH))))
 (aF (xU 1 hr (dv 3) (aL bW (DE.bor (xQ 1 hr (dv 3) (aE))) (DE.bor (aE))))
 (aF (aX nd (aN ZD (hr.mono (by decide)) (aA (dv 2) (aH))))
 (aP (xU 1 hr (dv 4) (aL dG (DE.bor (xQ 1 hr (dv 4) (aE))) (DE.bor (aE)))))))))
 (aP (jR 1 (bH (DO.val (tE ["slope","numbers"] 1 [1] (dO (aN ZM (hr.mono (by decide)) (aA (DO.val (JR m_list rfl (dv 1))) (aH)))) (λcl C s H fp=>bC tW) (λcl C s H fp=>zV (cX DC (DE.bor (EV hr (dv 1) (dv 0))) (DE.bor (aE)))) (λcl C s H fp=>cO (aA (dv 0) (aA (EV hr (dv 1) (dv 0)) (aH))))))))))
theorem AS (Z:DefAt K mg "leanings" s_leanings ["rows"]) {F_lower_slope:FD} (ZD:FnAt P w K mg base "lower_slope" ["row"] 4 F_lower_slope) {F_rising:FD} (ZM:FnAt P w K mg base "rising" ["ones"] 4 F_rising) {F_upper_slope:FD} (ZE:FnAt P w K mg base "upper_slope" ["row"] 4 F_upper_slope) (m_list:mg "list" = none) {F:FD} (len:∀ds Q,F ds Q->ds.length=1) (pure:∀ds Q,F ds Q->gI F_lower_slope F_rising F_upper_slope { nx:=λ_=>Q .non,rt:=Q } (aO ["rows","numbers","row","upper","lower"] ds)):FnAt P w K mg base "leanings" ["rows"] 5 F :=
 Z.ok qR (λcdv A outer s H E hr=>zD ZD ZM ZE m_list hr) len pure
theorem MM:FnScope ["_law_script","_law_threads_here","_law_heights_here","_law_rings_here","_law_number","_law_one","_law_other","_law_twice","_law_right","_law_up","_law_sign","_law_flip","_law_turned","_law_ring_here","_law_rows","_law_numbers_here"] ["_law_script"] (aC s_law):=⟨rfl,rfl,rfl,by decide +kernel,rfl,by decide +kernel,by decide +kernel⟩
theorem wG:List.Nodup (["_law_x","_law_y","_law_sign","_law_right","_law_flip","_law_up"]:List Str):=by decide +kernel
theorem RI {f:Addr} {cdv:Value} {A:Around} {outer:List Env} {s:Shared} {H:Hp} {E:XK} {ZA:FD} (ZI:FnAt P w K mg base "_law_area" ["_law_threads_here","_law_heights_here"] 3 ZA) {XX:FD} (XZ:FnAt P w K mg base "_law_cell_at" ["_law_script","_law_k"] 1 XX) {YR:FD} (ZB:FnAt P w K mg base "_law_curves" ["_law_script"] 3 YR) {ZG:FD} (ZJ:FnAt P w K mg base "_law_due" ["_law_numbers_here","_law_signs"] 1 ZG) {XY:FD} (YB:FnAt P w K mg base "_law_mixed" ["_law_script","_law_k"] 1 XY) {YJ:FD} (YW:FnAt P w K mg base "_law_numbers" ["_law_threads_here","_law_heights_here"] 3 YJ) {YD:FD} (YG:FnAt P w K mg base "_law_ring" ["_law_threads_here","_law_heights_here","_law_one","_law_other","_law_number"] 1 YD) {YT:FD} (ZH:FnAt P w K mg base "_law_rings" ["_law_script","_law_threads_here","_law_heights_here"] 2 YT) {fF:FD} (ZR:FnAt P w K mg base "area" ["rows"] 5 fF) {F_bands:FD} (ZO:FnAt P w K mg base "bands" ["rings"] 5 F_bands) {F_leanings:FD} (ZK:FnAt P w K mg base "leanings" ["rows"] 5 F_leanings) (m_list:mg "list" = none) (m_reversed:mg "reversed" = none) (m_len:mg "len" = none) (hr:Room 5 (A.deeper (envOfC "law" (aC s_law) s.heap.objs.size f cdv))) :
  DSs (cN CX0 P w K mg base ["_law_script","_law_threads_here","_law_heights_here","_law_rings_here","_law_number","_law_one","_law_other","_law_twice","_law_right","_law_up","_law_sign","_law_flip","_law_turned","_law_ring_here","_law_rows","_law_numbers_here"] "law" (aC s_law) f cdv A outer s H E).nox (aM s_law) (kG ZA XX YR ZG XY YJ YD YT fF F_bands F_leanings) :=
 have nd:=MM.nd
 aF (JU (aN ZB (hr.mono (by decide)) (aA (dv 0) (aH))) (mZ rfl (cQ (bC nd) (cQ (bC nd) (kC)))))
 (aF (aX nd (aN ZH (hr.mono (by decide)) (aA (dv 0) (aA (dv 1) (aA (dv 2) (aH))))))
 (aF (aX nd (aN YB (hr.mono (by decide)) (aA (dv 0) (aA (aE) (aH)))))
 (aF (iV (cX lH (DE.bor (aL bR (dvb 4) (DE.bor (aE)))) (DE.bor (aE))) (aF (aX nd (aL bR (DE.bor (aL cY (dvb 4) (DE.bor (aE)))) (DE.bor (eY m_len (DE.bor (aT (dvb 2) (DE.bor (aE))))))))
 (aF (aX nd (aL bR (DE.bor (aL cY (dvb 4) (DE.bor (aE)))) (DE.bor (eY m_len (DE.bor (aT (dvb 2) (DE.bor (aE))))))))
 (aF (aX nd (aN YG (hr.mono (by decide)) (aA (dv 1) (aA (dv 2) (aA (dv 5) (aA (dv 6) (aA (aL cY (dvb 4) (DE.bor (aE))) (aH))))))))
 (aP (aX nd (aL mE (DE.bor (aL mE (DE.bor (DO.val (eI (aA (dv 7) (aH))))) (dvb 3))) (DE.bor (DO.val (eI (aA (DO.val (tF m_list m_reversed rfl (dvb 7))) (aH))))))))))) (dP))
 (aF (aX nd (aL dG (DE.bor (aL bR (DE.bor (aN XZ (hr.mono (by decide)) (aA (dv 0) (aA (aE) (aH))))) (DE.bor (aE)))) (DE.bor (aE))))
 (aF (aX nd (aL bR (DE.bor (aN XZ (hr.mono (by decide)) (aA (dv 0) (aA (aE) (aH))))) (DE.bor (aL nH (DE.bor (aE)) (DE.bor (aE))))))
 (aF (JU (aT (DE.bor (DO.val (eI (aA (cO (aA (aE) (aA (aE) (aH)))) (aA (cO (aA (qE lW (DE.bor (aE))) (aA (qE lW (DE.bor (aE))) (aH)))) (aA (cO (aA (aE) (aA (qE lW (DE.bor (aE))) (aH)))) (aA (cO (aA (qE lW (DE.bor (aE))) (aA (aE) (aH)))) (aH)))))))) (DE.bor (aL bR (DE.bor (aN XZ (hr.mono (by decide)) (aA (dv 0) (aA (aE) (aH))))) (DE.bor (aE))))) (mZ rfl (cQ (bC nd) (cQ (bC nd) (kC)))))
 (aF (fJ nd (eI (aH)))
 (aF (cT PassesOwn.never rfl (dO (dv 3)) (bC nd) (aP (fZ 12 (DO.val (oC ["_law_x","_law_y","_law_sign","_law_right","_law_flip","_law_up"] 2 [10,8,11,9] (dO (dv 13)) (λcl C s H fp=>mZ rfl (cQ (bC wG) (cQ (bC wG) (kC)))) (λcl C s H fp=>cO (aA (aL bS (dvb 2) (DE.bor (aL bW (dvb 0) (dvb 3)))) (aA (aL bS (dvb 4) (DE.bor (aL bW (dvb 1) (dvb 5)))) (aH)))))))))
 (aF (jR 12 (aX nd (aN ZO (hr.mono (by decide)) (aA (dv 12) (aH)))))
 (aF (aX nd (aN YW (hr.mono (by decide)) (aA (dv 1) (aA (dv 2) (aH)))))
 (aP (bH (RW (CI (QP hr) (DE.bor (aN ZR (hr.mono (by decide)) (aA (dv 14) (aH)))) (DE.bor (aN ZI (hr.mono (by decide)) (aA (dv 1) (aA (dv 2) (aH)))))) (RY (CI (QP hr) (DE.bor (aN ZK (hr.mono (by decide)) (aA (dv 14) (aH)))) (DE.bor (aN ZJ (hr.mono (by decide)) (aA (dv 15) (aA (cO (aA (aL bS (dvb 10) (dvb 11)) (aA (dv 11) (aH)))) (aH))))))))))))))))))))
theorem SI {ZA:FD} (ZI:FnAt P w K mg base "_law_area" ["_law_threads_here","_law_heights_here"] 3 ZA) {XX:FD} (XZ:FnAt P w K mg base "_law_cell_at" ["_law_script","_law_k"] 1 XX) {YR:FD} (ZB:FnAt P w K mg base "_law_curves" ["_law_script"] 3 YR) {ZG:FD} (ZJ:FnAt P w K mg base "_law_due" ["_law_numbers_here","_law_signs"] 1 ZG) {XY:FD} (YB:FnAt P w K mg base "_law_mixed" ["_law_script","_law_k"] 1 XY) {YJ:FD} (YW:FnAt P w K mg base "_law_numbers" ["_law_threads_here","_law_heights_here"] 3 YJ) {YD:FD} (YG:FnAt P w K mg base "_law_ring" ["_law_threads_here","_law_heights_here","_law_one","_law_other","_law_number"] 1 YD) {YT:FD} (ZH:FnAt P w K mg base "_law_rings" ["_law_script","_law_threads_here","_law_heights_here"] 2 YT) {fF:FD} (ZR:FnAt P w K mg base "area" ["rows"] 5 fF) {F_bands:FD} (ZO:FnAt P w K mg base "bands" ["rings"] 5 F_bands) {F_leanings:FD} (ZK:FnAt P w K mg base "leanings" ["rows"] 5 F_leanings) (m_list:mg "list" = none) (m_reversed:mg "reversed" = none) (m_len:mg "len" = none) {F:FD} {f:Addr} {fd:FuncData} (Fu:Fun K "law" "law" s_law f fd) (len:∀ds Q,F ds Q->ds.length=1) (pure:∀ds Q,F ds Q->kG ZA XX YR ZG XY YJ YD YT fF F_bands F_leanings { nx:=λ_=>Q .non,rt:=Q } (aO ["_law_script","_law_threads_here","_law_heights_here","_law_rings_here","_law_number","_law_one","_law_other","_law_twice","_law_right","_law_up","_law_sign","_law_flip","_law_turned","_law_ring_here","_law_rows","_law_numbers_here"] ds)):FnOk P w K mg base CX0 6 f fd ["_law_script"] (spD K F) :=
 QJ Fu MM (λcdv A outer s H E hr=>RI ZI XZ ZB ZJ YB YW YG ZH ZR ZO ZK m_list m_reversed m_len hr) len pure
end
structure TopF (K:PySem.W.Frag) (mg:Str->Option Value):Prop where
 d__law_divisor:DefAt K mg "_law_divisor" s__law_divisor ["_law_one","_law_other"]
 d__law_lowest:DefAt K mg "_law_lowest" s__law_lowest ["_law_top","_law_bottom"]
 d__law_area:DefAt K mg "_law_area" s__law_area ["_law_threads_here","_law_heights_here"]
 d__law_cell_at:DefAt K mg "_law_cell_at" s__law_cell_at ["_law_script","_law_k"]
 d__law_mixed:DefAt K mg "_law_mixed" s__law_mixed ["_law_script","_law_k"]
 d__law_heights:DefAt K mg "_law_heights" s__law_heights ["_law_script","_law_many","_law_place"]
 d__law_threads:DefAt K mg "_law_threads" s__law_threads ["_law_script"]
 d__law_curves:DefAt K mg "_law_curves" s__law_curves ["_law_script"]
 d__law_due:DefAt K mg "_law_due" s__law_due ["_law_numbers_here","_law_signs"]
 d__law_numbers:DefAt K mg "_law_numbers" s__law_numbers ["_law_threads_here","_law_heights_here"]
 d__law_ring:DefAt K mg "_law_ring" s__law_ring ["_law_threads_here","_law_heights_here","_law_one","_law_other","_law_number"]
 d__law_rings:DefAt K mg "_law_rings" s__law_rings ["_law_script","_law_threads_here","_law_heights_here"]
 d_shared_divisor:DefAt K mg "shared_divisor" s_shared_divisor ["one","other"]
 d_ratio:DefAt K mg "ratio" s_ratio ["top","bottom"]
 d_minus:DefAt K mg "minus" s_minus ["one","other"]
 d_left_height:DefAt K mg "left_height" s_left_height ["row"]
 d_plus:DefAt K mg "plus" s_plus ["one","other"]
 d_right_height:DefAt K mg "right_height" s_right_height ["row"]
 d_times:DefAt K mg "times" s_times ["one","other"]
 d_area:DefAt K mg "area" s_area ["rows"]
 d_shared_multiple:DefAt K mg "shared_multiple" s_shared_multiple ["one","other"]
 d_lowest_multiple:DefAt K mg "lowest_multiple" s_lowest_multiple ["numbers"]
 d_width_of:DefAt K mg "width_of" s_width_of ["side"]
 d_height_at:DefAt K mg "height_at" s_height_at ["side","thread","bottom"]
 d_ordered_heights:DefAt K mg "ordered_heights" s_ordered_heights ["sides","column","bottom"]
 d_column_bands:DefAt K mg "column_bands" s_column_bands ["sides","column"]
 d_sides_of:DefAt K mg "sides_of" s_sides_of ["ring"]
 d_sides_by_column:DefAt K mg "sides_by_column" s_sides_by_column ["rings"]
 d_bands:DefAt K mg "bands" s_bands ["rings"]
 d_lower_slope:DefAt K mg "lower_slope" s_lower_slope ["row"]
 d_rising:DefAt K mg "rising" s_rising ["ones"]
 d_upper_slope:DefAt K mg "upper_slope" s_upper_slope ["row"]
 d_leanings:DefAt K mg "leanings" s_leanings ["rows"]
 d_law:DefAt K mg "law" s_law ["_law_script"]
 m_abs:mg "abs" = none
 m_len:mg "len" = none
 m_range:mg "range" = none
 m_min:mg "min" = none
 m_list:mg "list" = none
 m_reversed:mg "reversed" = none
 m_int:mg "int" = none
 m_zip:mg "zip" = none
 m_sorted:mg "sorted" = none
 t_rising:∃c T,PySem.W.tabIn K "rising" = some (c,T)
theorem top_mk {K:PySem.W.Frag} {h:Heap} {mg:Str->Option Value} (X:K.In h) (G:h.Ns mainGlobals mg)
  {f0:Addr} {od0 an0:Option Addr} {sl0:Array (Option Value)} {oc0 kV0 dc0 pm0 cd0 ct0:Value}
  {f1:Addr} {od1 an1:Option Addr} {sl1:Array (Option Value)} {oc1 kV1 dc1 pm1 cd1 ct1:Value}
  {f2:Addr} {od2 an2:Option Addr} {sl2:Array (Option Value)} {oc2 kV2 dc2 pm2 cd2 ct2:Value}
  {f3:Addr} {od3 an3:Option Addr} {sl3:Array (Option Value)} {oc3 kV3 dc3 pm3 cd3 ct3:Value}
  {f4:Addr} {od4 an4:Option Addr} {sl4:Array (Option Value)} {oc4 kV4 dc4 pm4 cd4 ct4:Value}
  {f5:Addr} {od5 an5:Option Addr} {sl5:Array (Option Value)} {oc5 kV5 dc5 pm5 cd5 ct5:Value}
  {f6:Addr} {od6 an6:Option Addr} {sl6:Array (Option Value)} {oc6 kV6 dc6 pm6 cd6 ct6:Value}
  {f7:Addr} {od7 an7:Option Addr} {sl7:Array (Option Value)} {oc7 kV7 dc7 pm7 cd7 ct7:Value}
  {f8:Addr} {od8 an8:Option Addr} {sl8:Array (Option Value)} {oc8 kV8 dc8 pm8 cd8 ct8:Value}
  {f9:Addr} {od9 an9:Option Addr} {sl9:Array (Option Value)} {oc9 kV9 dc9 pm9 cd9 ct9:Value}
  {f10:Addr} {od10 an10:Option Addr} {sl10:Array (Option Value)} {oc10 kV10 dc10 pm10 cd10 ct10:Value}
  {f11:Addr} {od11 an11:Option Addr} {sl11:Array (Option Value)} {oc11 kV11 dc11 pm11 cd11 ct11:Value}
  {f12:Addr} {od12 an12:Option Addr} {sl12:Array (Option Value)} {oc12 kV12 dc12 pm12 cd12 ct12:Value}
  {f13:Addr} {od13 an13:Option Addr} {sl13:Array (Option Value)} {oc13 kV13 dc13 pm13 cd13 ct13:Value}
  {f14:Addr} {od14 an14:Option Addr} {sl14:Array (Option Value)} {oc14 kV14 dc14 pm14 cd14 ct14:Value}
  {f15:Addr} {od15 an15:Option Addr} {sl15:Array (Option Value)} {oc15 kV15 dc15 pm15 cd15 ct15:Value}
  {f16:Addr} {od16 an16:Option Addr} {sl16:Array (Option Value)} {oc16 kV16 dc16 pm16 cd16 ct16:Value}
  {f17:Addr} {od17 an17:Option Addr} {sl17:Array (Option Value)} {oc17 kV17 dc17 pm17 cd17 ct17:Value}
  {f18:Addr} {od18 an18:Option Addr} {sl18:Array (Option Value)} {oc18 kV18 dc18 pm18 cd18 ct18:Value}
  {f19:Addr} {od19 an19:Option Addr} {sl19:Array (Option Value)} {oc19 kV19 dc19 pm19 cd19 ct19:Value}
  {f20:Addr} {od20 an20:Option Addr} {sl20:Array (Option Value)} {oc20 kV20 dc20 pm20 cd20 ct20:Value}
  {f21:Addr} {od21 an21:Option Addr} {sl21:Array (Option Value)} {oc21 kV21 dc21 pm21 cd21 ct21:Value}
  {f22:Addr} {od22 an22:Option Addr} {sl22:Array (Option Value)} {oc22 kV22 dc22 pm22 cd22 ct22:Value}
  {f23:Addr} {od23 an23:Option Addr} {sl23:Array (Option Value)} {oc23 kV23 dc23 pm23 cd23 ct23:Value}
  {f24:Addr} {od24 an24:Option Addr} {sl24:Array (Option Value)} {oc24 kV24 dc24 pm24 cd24 ct24:Value}
  {f25:Addr} {od25 an25:Option Addr} {sl25:Array (Option Value)} {oc25 kV25 dc25 pm25 cd25 ct25:Value}
  {f26:Addr} {od26 an26:Option Addr} {sl26:Array (Option Value)} {oc26 kV26 dc26 pm26 cd26 ct26:Value}
  {f27:Addr} {od27 an27:Option Addr} {sl27:Array (Option Value)} {oc27 kV27 dc27 pm27 cd27 ct27:Value}
  {f28:Addr} {od28 an28:Option Addr} {sl28:Array (Option Value)} {oc28 kV28 dc28 pm28 cd28 ct28:Value}
  {f29:Addr} {od29 an29:Option Addr} {sl29:Array (Option Value)} {oc29 kV29 dc29 pm29 cd29 ct29:Value}
  {f30:Addr} {od30 an30:Option Addr} {sl30:Array (Option Value)} {oc30 kV30 dc30 pm30 cd30 ct30:Value}
  {f31:Addr} {od31 an31:Option Addr} {sl31:Array (Option Value)} {oc31 kV31 dc31 pm31 cd31 ct31:Value}
  {f32:Addr} {od32 an32:Option Addr} {sl32:Array (Option Value)} {oc32 kV32 dc32 pm32 cd32 ct32:Value}
  {f33:Addr} {od33 an33:Option Addr} {sl33:Array (Option Value)} {oc33 kV33 dc33 pm33 cd33 ct33:Value}
  {tc0 tT0:Addr} {tod0:Option Addr} {tsl0:Array (Option Value)} {toc0:Value} {tvs0:Array Value}
  (a0:PySem.W.nsIn K mainGlobals "_law_divisor" = some (some (.ref f0))) (l0:K.lookup f0=some ⟨oc0,od0,.func (PySem.W.fnOf "_law_divisor" "_law_divisor" (bA s__law_divisor) (aM s__law_divisor) (aC s__law_divisor) .none kV0 dc0 pm0 an0 cd0 ct0),sl0⟩) (c0:PySem.W.codeIn K cd0 "_law_divisor" = true) (k0:PySem.W.keepIn K (.ref f0)=true)
  (a1:PySem.W.nsIn K mainGlobals "_law_lowest" = some (some (.ref f1))) (l1:K.lookup f1=some ⟨oc1,od1,.func (PySem.W.fnOf "_law_lowest" "_law_lowest" (bA s__law_lowest) (aM s__law_lowest) (aC s__law_lowest) .none kV1 dc1 pm1 an1 cd1 ct1),sl1⟩) (c1:PySem.W.codeIn K cd1 "_law_lowest" = true) (k1:PySem.W.keepIn K (.ref f1)=true)
  (a2:PySem.W.nsIn K mainGlobals "_law_area" = some (some (.ref f2))) (l2:K.lookup f2=some ⟨oc2,od2,.func (PySem.W.fnOf "_law_area" "_law_area" (bA s__law_area) (aM s__law_area) (aC s__law_area) .none kV2 dc2 pm2 an2 cd2 ct2),sl2⟩) (c2:PySem.W.codeIn K cd2 "_law_area" = true) (k2:PySem.W.keepIn K (.ref f2)=true)
  (a3:PySem.W.nsIn K mainGlobals "_law_cell_at" = some (some (.ref f3))) (l3:K.lookup f3=some ⟨oc3,od3,.func (PySem.W.fnOf "_law_cell_at" "_law_cell_at" (bA s__law_cell_at) (aM s__law_cell_at) (aC s__law_cell_at) .none kV3 dc3 pm3 an3 cd3 ct3),sl3⟩) (c3:PySem.W.codeIn K cd3 "_law_cell_at" = true) (k3:PySem.W.keepIn K (.ref f3)=true)
  (a4:PySem.W.nsIn K mainGlobals "_law_mixed" = some (some (.ref f4))) (l4:K.lookup f4=some ⟨oc4,od4,.func (PySem.W.fnOf "_law_mixed" "_law_mixed" (bA s__law_mixed) (aM s__law_mixed) (aC s__law_mixed) .none kV4 dc4 pm4 an4 cd4 ct4),sl4⟩) (c4:PySem.W.codeIn K cd4 "_law_mixed" = true) (k4:PySem.W.keepIn K (.ref f4)=true)
  (a5:PySem.W.nsIn K mainGlobals "_law_heights" = some (some (.ref f5))) (l5:K.lookup f5=some ⟨oc5,od5,.func (PySem.W.fnOf "_law_heights" "_law_heights" (bA s__law_heights) (aM s__law_heights) (aC s__law_heights) .none kV5 dc5 pm5 an5 cd5 ct5),sl5⟩) (c5:PySem.W.codeIn K cd5 "_law_heights" = true) (k5:PySem.W.keepIn K (.ref f5)=true)
  (a6:PySem.W.nsIn K mainGlobals "_law_threads" = some (some (.ref f6))) (l6:K.lookup f6=some ⟨oc6,od6,.func (PySem.W.fnOf "_law_threads" "_law_threads" (bA s__law_threads) (aM s__law_threads) (aC s__law_threads) .none kV6 dc6 pm6 an6 cd6 ct6),sl6⟩) (c6:PySem.W.codeIn K cd6 "_law_threads" = true) (k6:PySem.W.keepIn K (.ref f6)=true)
  (a7:PySem.W.nsIn K mainGlobals "_law_curves" = some (some (.ref f7))) (l7:K.lookup f7=some ⟨oc7,od7,.func (PySem.W.fnOf "_law_curves" "_law_curves" (bA s__law_curves) (aM s__law_curves) (aC s__law_curves) .none kV7 dc7 pm7 an7 cd7 ct7),sl7⟩) (c7:PySem.W.codeIn K cd7 "_law_curves" = true) (k7:PySem.W.keepIn K (.ref f7)=true)
  (a8:PySem.W.nsIn K mainGlobals "_law_due" = some (some (.ref f8))) (l8:K.lookup f8=some ⟨oc8,od8,.func (PySem.W.fnOf "_law_due" "_law_due" (bA s__law_due) (aM s__law_due) (aC s__law_due) .none kV8 dc8 pm8 an8 cd8 ct8),sl8⟩) (c8:PySem.W.codeIn K cd8 "_law_due" = true) (k8:PySem.W.keepIn K (.ref f8)=true)
  (a9:PySem.W.nsIn K mainGlobals "_law_numbers" = some (some (.ref f9))) (l9:K.lookup f9=some ⟨oc9,od9,.func (PySem.W.fnOf "_law_numbers" "_law_numbers" (bA s__law_numbers) (aM s__law_numbers) (aC s__law_numbers) .none kV9 dc9 pm9 an9 cd9 ct9),sl9⟩) (c9:PySem.W.codeIn K cd9 "_law_numbers" = true) (k9:PySem.W.keepIn K (.ref f9)=true)
  (a10:PySem.W.nsIn K mainGlobals "_law_ring" = some (some (.ref f10))) (l10:K.lookup f10=some ⟨oc10,od10,.func (PySem.W.fnOf "_law_ring" "_law_ring" (bA s__law_ring) (aM s__law_ring) (aC s__law_ring) .none kV10 dc10 pm10 an10 cd10 ct10),sl10⟩) (c10:PySem.W.codeIn K cd10 "_law_ring" = true) (k10:PySem.W.keepIn K (.ref f10)=true)
  (a11:PySem.W.nsIn K mainGlobals "_law_rings" = some (some (.ref f11))) (l11:K.lookup f11=some ⟨oc11,od11,.func (PySem.W.fnOf "_law_rings" "_law_rings" (bA s__law_rings) (aM s__law_rings) (aC s__law_rings) .none kV11 dc11 pm11 an11 cd11 ct11),sl11⟩) (c11:PySem.W.codeIn K cd11 "_law_rings" = true) (k11:PySem.W.keepIn K (.ref f11)=true)
  (a12:PySem.W.nsIn K mainGlobals "shared_divisor" = some (some (.ref f12))) (l12:K.lookup f12=some ⟨oc12,od12,.func (PySem.W.fnOf "shared_divisor" "shared_divisor" (bA s_shared_divisor) (aM s_shared_divisor) (aC s_shared_divisor) .none kV12 dc12 pm12 an12 cd12 ct12),sl12⟩) (c12:PySem.W.codeIn K cd12 "shared_divisor" = true) (k12:PySem.W.keepIn K (.ref f12)=true)
  (a13:PySem.W.nsIn K mainGlobals "ratio" = some (some (.ref f13))) (l13:K.lookup f13=some ⟨oc13,od13,.func (PySem.W.fnOf "ratio" "ratio" (bA s_ratio) (aM s_ratio) (aC s_ratio) .none kV13 dc13 pm13 an13 cd13 ct13),sl13⟩) (c13:PySem.W.codeIn K cd13 "ratio" = true) (k13:PySem.W.keepIn K (.ref f13)=true)
  (a14:PySem.W.nsIn K mainGlobals "minus" = some (some (.ref f14))) (l14:K.lookup f14=some ⟨oc14,od14,.func (PySem.W.fnOf "minus" "minus" (bA s_minus) (aM s_minus) (aC s_minus) .none kV14 dc14 pm14 an14 cd14 ct14),sl14⟩) (c14:PySem.W.codeIn K cd14 "minus" = true) (k14:PySem.W.keepIn K (.ref f14)=true)
  (a15:PySem.W.nsIn K mainGlobals "left_height" = some (some (.ref f15))) (l15:K.lookup f15=some ⟨oc15,od15,.func (PySem.W.fnOf "left_height" "left_height" (bA s_left_height) (aM s_left_height) (aC s_left_height) .none kV15 dc15 pm15 an15 cd15 ct15),sl15⟩) (c15:PySem.W.codeIn K cd15 "left_height" = true) (k15:PySem.W.keepIn K (.ref f15)=true)
  (a16:PySem.W.nsIn K mainGlobals "plus" = some (some (.ref f16))) (l16:K.lookup f16=some ⟨oc16,od16,.func (PySem.W.fnOf "plus" "plus" (bA s_plus) (aM s_plus) (aC s_plus) .none kV16 dc16 pm16 an16 cd16 ct16),sl16⟩) (c16:PySem.W.codeIn K cd16 "plus" = true) (k16:PySem.W.keepIn K (.ref f16)=true)
  (a17:PySem.W.nsIn K mainGlobals "right_height" = some (some (.ref f17))) (l17:K.lookup f17=some ⟨oc17,od17,.func (PySem.W.fnOf "right_height" "right_height" (bA s_right_height) (aM s_right_height) (aC s_right_height) .none kV17 dc17 pm17 an17 cd17 ct17),sl17⟩) (c17:PySem.W.codeIn K cd17 "right_height" = true) (k17:PySem.W.keepIn K (.ref f17)=true)
  (a18:PySem.W.nsIn K mainGlobals "times" = some (some (.ref f18))) (l18:K.lookup f18=some ⟨oc18,od18,.func (PySem.W.fnOf "times" "times" (bA s_times) (aM s_times) (aC s_times) .none kV18 dc18 pm18 an18 cd18 ct18),sl18⟩) (c18:PySem.W.codeIn K cd18 "times" = true) (k18:PySem.W.keepIn K (.ref f18)=true)
  (a19:PySem.W.nsIn K mainGlobals "area" = some (some (.ref f19))) (l19:K.lookup f19=some ⟨oc19,od19,.func (PySem.W.fnOf "area" "area" (bA s_area) (aM s_area) (aC s_area) .none kV19 dc19 pm19 an19 cd19 ct19),sl19⟩) (c19:PySem.W.codeIn K cd19 "area" = true) (k19:PySem.W.keepIn K (.ref f19)=true)
  (a20:PySem.W.nsIn K mainGlobals "shared_multiple" = some (some (.ref f20))) (l20:K.lookup f20=some ⟨oc20,od20,.func (PySem.W.fnOf "shared_multiple" "shared_multiple" (bA s_shared_multiple) (aM s_shared_multiple) (aC s_shared_multiple) .none kV20 dc20 pm20 an20 cd20 ct20),sl20⟩) (c20:PySem.W.codeIn K cd20 "shared_multiple" = true) (k20:PySem.W.keepIn K (.ref f20)=true)
  (a21:PySem.W.nsIn K mainGlobals "lowest_multiple" = some (some (.ref f21))) (l21:K.lookup f21=some ⟨oc21,od21,.func (PySem.W.fnOf "lowest_multiple" "lowest_multiple" (bA s_lowest_multiple) (aM s_lowest_multiple) (aC s_lowest_multiple) .none kV21 dc21 pm21 an21 cd21 ct21),sl21⟩) (c21:PySem.W.codeIn K cd21 "lowest_multiple" = true) (k21:PySem.W.keepIn K (.ref f21)=true)
  (a22:PySem.W.nsIn K mainGlobals "width_of" = some (some (.ref f22))) (l22:K.lookup f22=some ⟨oc22,od22,.func (PySem.W.fnOf "width_of" "width_of" (bA s_width_of) (aM s_width_of) (aC s_width_of) .none kV22 dc22 pm22 an22 cd22 ct22),sl22⟩) (c22:PySem.W.codeIn K cd22 "width_of" = true) (k22:PySem.W.keepIn K (.ref f22)=true)
  (a23:PySem.W.nsIn K mainGlobals "height_at" = some (some (.ref f23))) (l23:K.lookup f23=some ⟨oc23,od23,.func (PySem.W.fnOf "height_at" "height_at" (bA s_height_at) (aM s_height_at) (aC s_height_at) .none kV23 dc23 pm23 an23 cd23 ct23),sl23⟩) (c23:PySem.W.codeIn K cd23 "height_at" = true) (k23:PySem.W.keepIn K (.ref f23)=true)
  (a24:PySem.W.nsIn K mainGlobals "ordered_heights" = some (some (.ref f24))) (l24:K.lookup f24=some ⟨oc24,od24,.func (PySem.W.fnOf "ordered_heights" "ordered_heights" (bA s_ordered_heights) (aM s_ordered_heights) (aC s_ordered_heights) .none kV24 dc24 pm24 an24 cd24 ct24),sl24⟩) (c24:PySem.W.codeIn K cd24 "ordered_heights" = true) (k24:PySem.W.keepIn K (.ref f24)=true)
  (a25:PySem.W.nsIn K mainGlobals "column_bands" = some (some (.ref f25))) (l25:K.lookup f25=some ⟨oc25,od25,.func (PySem.W.fnOf "column_bands" "column_bands" (bA s_column_bands) (aM s_column_bands) (aC s_column_bands) .none kV25 dc25 pm25 an25 cd25 ct25),sl25⟩) (c25:PySem.W.codeIn K cd25 "column_bands" = true) (k25:PySem.W.keepIn K (.ref f25)=true)
  (a26:PySem.W.nsIn K mainGlobals "sides_of" = some (some (.ref f26))) (l26:K.lookup f26=some ⟨oc26,od26,.func (PySem.W.fnOf "sides_of" "sides_of" (bA s_sides_of) (aM s_sides_of) (aC s_sides_of) .none kV26 dc26 pm26 an26 cd26 ct26),sl26⟩) (c26:PySem.W.codeIn K cd26 "sides_of" = true) (k26:PySem.W.keepIn K (.ref f26)=true)
  (a27:PySem.W.nsIn K mainGlobals "sides_by_column" = some (some (.ref f27))) (l27:K.lookup f27=some ⟨oc27,od27,.func (PySem.W.fnOf "sides_by_column" "sides_by_column" (bA s_sides_by_column) (aM s_sides_by_column) (aC s_sides_by_column) .none kV27 dc27 pm27 an27 cd27 ct27),sl27⟩) (c27:PySem.W.codeIn K cd27 "sides_by_column" = true) (k27:PySem.W.keepIn K (.ref f27)=true)
  (a28:PySem.W.nsIn K mainGlobals "bands" = some (some (.ref f28))) (l28:K.lookup f28=some ⟨oc28,od28,.func (PySem.W.fnOf "bands" "bands" (bA s_bands) (aM s_bands) (aC s_bands) .none kV28 dc28 pm28 an28 cd28 ct28),sl28⟩) (c28:PySem.W.codeIn K cd28 "bands" = true) (k28:PySem.W.keepIn K (.ref f28)=true)
  (a29:PySem.W.nsIn K mainGlobals "lower_slope" = some (some (.ref f29))) (l29:K.lookup f29=some ⟨oc29,od29,.func (PySem.W.fnOf "lower_slope" "lower_slope" (bA s_lower_slope) (aM s_lower_slope) (aC s_lower_slope) .none kV29 dc29 pm29 an29 cd29 ct29),sl29⟩) (c29:PySem.W.codeIn K cd29 "lower_slope" = true) (k29:PySem.W.keepIn K (.ref f29)=true)
  (a30:PySem.W.nsIn K mainGlobals "rising" = some (some (.ref f30))) (l30:K.lookup f30=some ⟨oc30,od30,.func (PySem.W.fnOf "rising" "rising" (bA s_rising) (aM s_rising) (aC s_rising) .none kV30 dc30 pm30 an30 cd30 ct30),sl30⟩) (c30:PySem.W.codeIn K cd30 "rising" = true) (k30:PySem.W.keepIn K (.ref f30)=true)
  (a31:PySem.W.nsIn K mainGlobals "upper_slope" = some (some (.ref f31))) (l31:K.lookup f31=some ⟨oc31,od31,.func (PySem.W.fnOf "upper_slope" "upper_slope" (bA s_upper_slope) (aM s_upper_slope) (aC s_upper_slope) .none kV31 dc31 pm31 an31 cd31 ct31),sl31⟩) (c31:PySem.W.codeIn K cd31 "upper_slope" = true) (k31:PySem.W.keepIn K (.ref f31)=true)
  (a32:PySem.W.nsIn K mainGlobals "leanings" = some (some (.ref f32))) (l32:K.lookup f32=some ⟨oc32,od32,.func (PySem.W.fnOf "leanings" "leanings" (bA s_leanings) (aM s_leanings) (aC s_leanings) .none kV32 dc32 pm32 an32 cd32 ct32),sl32⟩) (c32:PySem.W.codeIn K cd32 "leanings" = true) (k32:PySem.W.keepIn K (.ref f32)=true)
  (a33:PySem.W.nsIn K mainGlobals "law" = some (some (.ref f33))) (l33:K.lookup f33=some ⟨oc33,od33,.func (PySem.W.fnOf "law" "law" (bA s_law) (aM s_law) (aC s_law) .none kV33 dc33 pm33 an33 cd33 ct33),sl33⟩) (c33:PySem.W.codeIn K cd33 "law" = true) (k33:PySem.W.keepIn K (.ref f33)=true)
  (z0:PySem.W.nsIn K mainGlobals "abs" = some none)
  (z1:PySem.W.nsIn K mainGlobals "len" = some none)
  (z2:PySem.W.nsIn K mainGlobals "range" = some none)
  (z3:PySem.W.nsIn K mainGlobals "min" = some none)
  (z4:PySem.W.nsIn K mainGlobals "list" = some none)
  (z5:PySem.W.nsIn K mainGlobals "reversed" = some none)
  (z6:PySem.W.nsIn K mainGlobals "int" = some none)
  (z7:PySem.W.nsIn K mainGlobals "zip" = some none)
  (z8:PySem.W.nsIn K mainGlobals "sorted" = some none)
  (te0:cd30 = .ref tc0) (tl0:K.lookup tc0=some ⟨toc0,tod0,.fields tvs0,tsl0⟩) (tv0:tvs0[11]? = some (.ref tT0)):TopF K mg :=
 ⟨⟨_,_,bI (st:=s__law_divisor) l0 c0 k0,PySem.W.mg_of X G a0,iC (λ_ _=>rfl)⟩,
  ⟨_,_,bI (st:=s__law_lowest) l1 c1 k1,PySem.W.mg_of X G a1,iC (λ_ _=>rfl)⟩,
  ⟨_,_,bI (st:=s__law_area) l2 c2 k2,PySem.W.mg_of X G a2,iC (λ_ _=>rfl)⟩,
  ⟨_,_,bI (st:=s__law_cell_at) l3 c3 k3,PySem.W.mg_of X G a3,iC (λ_ _=>rfl)⟩,
  ⟨_,_,bI (st:=s__law_mixed) l4 c4 k4,PySem.W.mg_of X G a4,iC (λ_ _=>rfl)⟩,
  ⟨_,_,bI (st:=s__law_heights) l5 c5 k5,PySem.W.mg_of X G a5,zG (λ_ _ _=>rfl)⟩,
  ⟨_,_,bI (st:=s__law_threads) l6 c6 k6,PySem.W.mg_of X G a6,gY (λ_=>rfl)⟩,
  ⟨_,_,bI (st:=s__law_curves) l7 c7 k7,PySem.W.mg_of X G a7,gY (λ_=>rfl)⟩,
  ⟨_,_,bI (st:=s__law_due) l8 c8 k8,PySem.W.mg_of X G a8,iC (λ_ _=>rfl)⟩,
  ⟨_,_,bI (st:=s__law_numbers) l9 c9 k9,PySem.W.mg_of X G a9,iC (λ_ _=>rfl)⟩,
  ⟨_,_,bI (st:=s__law_ring) l10 c10 k10,PySem.W.mg_of X G a10,UV (λ_ _ _ _ _=>rfl)⟩,
  ⟨_,_,bI (st:=s__law_rings) l11 c11 k11,PySem.W.mg_of X G a11,zG (λ_ _ _=>rfl)⟩,
  ⟨_,_,bI (st:=s_shared_divisor) l12 c12 k12,PySem.W.mg_of X G a12,iC (λ_ _=>rfl)⟩,
  ⟨_,_,bI (st:=s_ratio) l13 c13 k13,PySem.W.mg_of X G a13,iC (λ_ _=>rfl)⟩,
  ⟨_,_,bI (st:=s_minus) l14 c14 k14,PySem.W.mg_of X G a14,iC (λ_ _=>rfl)⟩,
  ⟨_,_,bI (st:=s_left_height) l15 c15 k15,PySem.W.mg_of X G a15,gY (λ_=>rfl)⟩,
  ⟨_,_,bI (st:=s_plus) l16 c16 k16,PySem.W.mg_of X G a16,iC (λ_ _=>rfl)⟩,
  ⟨_,_,bI (st:=s_right_height) l17 c17 k17,PySem.W.mg_of X G a17,gY (λ_=>rfl)⟩,
  ⟨_,_,bI (st:=s_times) l18 c18 k18,PySem.W.mg_of X G a18,iC (λ_ _=>rfl)⟩,
  ⟨_,_,bI (st:=s_area) l19 c19 k19,PySem.W.mg_of X G a19,gY (λ_=>rfl)⟩,
  ⟨_,_,bI (st:=s_shared_multiple) l20 c20 k20,PySem.W.mg_of X G a20,iC (λ_ _=>rfl)⟩,
  ⟨_,_,bI (st:=s_lowest_multiple) l21 c21 k21,PySem.W.mg_of X G a21,gY (λ_=>rfl)⟩,
  ⟨_,_,bI (st:=s_width_of) l22 c22 k22,PySem.W.mg_of X G a22,gY (λ_=>rfl)⟩,
  ⟨_,_,bI (st:=s_height_at) l23 c23 k23,PySem.W.mg_of X G a23,zG (λ_ _ _=>rfl)⟩,
  ⟨_,_,bI (st:=s_ordered_heights) l24 c24 k24,PySem.W.mg_of X G a24,zG (λ_ _ _=>rfl)⟩,
  ⟨_,_,bI (st:=s_column_bands) l25 c25 k25,PySem.W.mg_of X G a25,iC (λ_ _=>rfl)⟩,
  ⟨_,_,bI (st:=s_sides_of) l26 c26 k26,PySem.W.mg_of X G a26,gY (λ_=>rfl)⟩,
  ⟨_,_,bI (st:=s_sides_by_column) l27 c27 k27,PySem.W.mg_of X G a27,gY (λ_=>rfl)⟩,
  ⟨_,_,bI (st:=s_bands) l28 c28 k28,PySem.W.mg_of X G a28,gY (λ_=>rfl)⟩,
  ⟨_,_,bI (st:=s_lower_slope) l29 c29 k29,PySem.W.mg_of X G a29,gY (λ_=>rfl)⟩,
  ⟨_,_,bI (st:=s_rising) l30 c30 k30,PySem.W.mg_of X G a30,gY (λ_=>rfl)⟩,
  ⟨_,_,bI (st:=s_upper_slope) l31 c31 k31,PySem.W.mg_of X G a31,gY (λ_=>rfl)⟩,
  ⟨_,_,bI (st:=s_leanings) l32 c32 k32,PySem.W.mg_of X G a32,gY (λ_=>rfl)⟩,
  ⟨_,_,bI (st:=s_law) l33 c33 k33,PySem.W.mg_of X G a33,gY (λ_=>rfl)⟩,
  PySem.W.mg_none_of X G z0,
  PySem.W.mg_none_of X G z1,
  PySem.W.mg_none_of X G z2,
  PySem.W.mg_none_of X G z3,
  PySem.W.mg_none_of X G z4,
  PySem.W.mg_none_of X G z5,
  PySem.W.mg_none_of X G z6,
  PySem.W.mg_none_of X G z7,
  PySem.W.mg_none_of X G z8,
  ⟨_,_,UK a30 l30 te0 tl0 tv0⟩⟩
theorem TopF.hid {K K':PySem.W.Frag} {mg:Str->Option Value} (T:TopF K mg) (z:Hid K K'):TopF K' mg :=
 ⟨z.def T.d__law_divisor,
  z.def T.d__law_lowest,
  z.def T.d__law_area,
  z.def T.d__law_cell_at,
  z.def T.d__law_mixed,
  z.def T.d__law_heights,
  z.def T.d__law_threads,
  z.def T.d__law_curves,
  z.def T.d__law_due,
  z.def T.d__law_numbers,
  z.def T.d__law_ring,
  z.def T.d__law_rings,
  z.def T.d_shared_divisor,
  z.def T.d_ratio,
  z.def T.d_minus,
  z.def T.d_left_height,
  z.def T.d_plus,
  z.def T.d_right_height,
  z.def T.d_times,
  z.def T.d_area,
  z.def T.d_shared_multiple,
  z.def T.d_lowest_multiple,
  z.def T.d_width_of,
  z.def T.d_height_at,
  z.def T.d_ordered_heights,
  z.def T.d_column_bands,
  z.def T.d_sides_of,
  z.def T.d_sides_by_column,
  z.def T.d_bands,
  z.def T.d_lower_slope,
  z.def T.d_rising,
  z.def T.d_upper_slope,
  z.def T.d_leanings,
  z.def T.d_law,
  T.m_abs,
  T.m_len,
  T.m_range,
  T.m_min,
  T.m_list,
  T.m_reversed,
  T.m_int,
  T.m_zip,
  T.m_sorted,
  let ⟨c,P,e⟩:=T.t_rising;⟨c,P,z.tab e⟩⟩
theorem law_fn {P:Program} {w:World} {K:PySem.W.Frag} {mg:Str->Option Value} {base:Heap} {f:Addr} {fd:FuncData} (T:TopF K mg) (TW:vM K mg base) (Fu:Fun K "law" "law" s_law f fd):FnOk P w K mg base CX0 6 f fd ["_law_script"] (spD K (FV 63)):=by
 obtain⟨lc_rising,lt_rising,le_rising⟩:=T.t_rising
 have W_rising:=TW "rising" _ _ (by decide) le_rising
 have YU:=rM (P:=P) (w:=w) (base:=base) T.d__law_divisor T.m_abs (F:=pY) FB pR
 have YF:=uA (P:=P) (w:=w) (base:=base) T.d__law_lowest YU (F:=yY) OG rV
 have ZI:=yG (P:=P) (w:=w) (base:=base) T.d__law_area YF T.m_len T.m_range (F:=sA) GX rS
 have XZ:=rL (P:=P) (w:=w) (base:=base) T.d__law_cell_at T.m_len (F:=mS) KN pQ
 have YB:=vC (P:=P) (w:=w) (base:=base) T.d__law_mixed T.m_len T.m_min (F:=kA) GY uH
 have YV:=rN (P:=P) (w:=w) (base:=base) T.d__law_heights XZ YB T.m_range (F:=lY) AF pS
 have YX:=rP (P:=P) (w:=w) (base:=base) T.d__law_threads XZ YB T.m_range (F:=lZ) AH pT
 have ZB:=tZ (P:=P) (w:=w) (base:=base) T.d__law_curves XZ YV YX T.m_len T.m_range (F:=nU) CS rT
 have ZJ:=AR (P:=P) (w:=w) (base:=base) T.d__law_due T.m_len (F:=rY) GW uG
 have YW:=rO (P:=P) (w:=w) (base:=base) T.d__law_numbers YF T.m_len T.m_range (F:=iT) vA nO
 have YG:=yH (P:=P) (w:=w) (base:=base) T.d__law_ring T.m_len T.m_list T.m_reversed T.m_range (F:=K23.F_ring23) K23.len_ring23 K23.pure_law_ring
 have ZH:=vD (P:=P) (w:=w) (base:=base) T.d__law_rings YB YG T.m_range T.m_int T.m_len (F:=K23.F_rings23) K23.len_rings23 K23.pure_law_rings
 have YE:=oP (P:=P) (w:=w) (base:=base) T.d_shared_divisor T.m_abs (F:=pY) FB mK
 have YN:=LG (P:=P) (w:=w) (base:=base) T.d_ratio YE (F:=aZ) GZ DJ
 have YL:=LF (P:=P) (w:=w) (base:=base) T.d_minus YN (F:=bE) tU DH
 have ZC:=uC (P:=P) (w:=w) (base:=base) T.d_left_height YL (F:=MV) SU pU
 have ZQ:=OS (P:=P) (w:=w) (base:=base) T.d_plus YN (F:=fG) tU HN
 have YZ:=rR (P:=P) (w:=w) (base:=base) T.d_right_height YL (F:=MW) SV oQ
 have ZP:=LH (P:=P) (w:=w) (base:=base) T.d_times YN (F:=fH) tU DK
 have ZR:=OR (P:=P) (w:=w) (base:=base) T.d_area ZC ZQ YZ ZP (F:=fF) KM HM
 have YO:=nM (P:=P) (w:=w) (base:=base) T.d_shared_multiple YE (F:=sR) OF lJ
 have YC:=nJ (P:=P) (w:=w) (base:=base) T.d_lowest_multiple YO (F:=K22.F_lowmU) K22.len_lowmU K22.pure_lowmU
 have YS:=AU (P:=P) (w:=w) (base:=base) T.d_width_of (F:=qA) OH vH
 have ZF:=yI (P:=P) (w:=w) (base:=base) T.d_height_at YS (F:=K23.F_hgt) K23.len_hgt K23.pure_height_at
 have YM:=nK (P:=P) (w:=w) (base:=base) T.d_ordered_heights ZF T.m_zip T.m_sorted (F:=K23.F_ordH) K23.len_ordH K23.pure_ordered_heights
 have YY:=rQ (P:=P) (w:=w) (base:=base) T.d_column_bands YC YM YN YS T.m_zip (F:=K23.F_colB) K23.len_colB K22.pure_column_bandsU
 have ZL:=AT (P:=P) (w:=w) (base:=base) T.d_sides_of T.m_zip (F:=jF) AG vG
 have YQ:=nN (P:=P) (w:=w) (base:=base) T.d_sides_by_column ZL T.m_range (F:=K23.F_byCol) K23.len_byCol K23.pure_sides_by_column
 have ZO:=LE (P:=P) (w:=w) (base:=base) T.d_bands YY YQ T.m_list T.m_sorted (F:=K23.F_bands) K23.len_bands K23.pure_bandsN
 have ZD:=uD (P:=P) (w:=w) (base:=base) T.d_lower_slope YL (F:=K22.F_lslope) K22.len_lslope K22.pure_lower_slope
 have ZM:=HG (P:=P) (w:=w) (base:=base) T.d_rising W_rising YC T.m_sorted (F:=K22.F_rising) K22.len_rising K22.pure_risingU
 have ZE:=uE (P:=P) (w:=w) (base:=base) T.d_upper_slope YL (F:=K22.F_uslope) K22.len_uslope K22.pure_upper_slope
 have ZK:=AS (P:=P) (w:=w) (base:=base) T.d_leanings ZD ZM ZE T.m_list (F:=K22.F_leanings) K22.len_leanings K22.pure_leaningsF
 exact SI ZI XZ ZB ZJ YB YW YG ZH ZR ZO ZK T.m_list T.m_reversed T.m_len (F:=FV 63) Fu OE LU
end K26
end L2.R2
namespace PySem.W.Fast
theorem tw18336726154600981521:True:=⟨⟩
theorem tw7319461044847198936:True:=⟨⟩
theorem tw5637812880060249342:True:=⟨⟩
theorem tw9985915259193040327:True:=⟨⟩
theorem tw7925907944529327897:True:=⟨⟩
theorem tw12275095826448066941:True:=⟨⟩
theorem tw16349247599544937586:True:=⟨⟩
theorem tw15933197014620815136:True:=⟨⟩
theorem tw18157384720974563108:True:=⟨⟩
theorem tw18439715417654227110:True:=⟨⟩
theorem tw7392457830415250066:True:=⟨⟩
theorem tw8947728428706179201:True:=⟨⟩
theorem tw6064151819823205761:True:=⟨⟩
theorem tw18321094665922872524:True:=⟨⟩
theorem tw11731641309291766082:True:=⟨⟩
theorem tw12578360441805027734:True:=⟨⟩
theorem tw11082910473987845763:True:=⟨⟩
theorem tw87861634733296952:True:=⟨⟩
theorem tw6313770080443250582:True:=⟨⟩
theorem tw12034746639818558248:True:=⟨⟩
theorem tw1289854097922944594:True:=⟨⟩
theorem tw1889724563998392839:True:=⟨⟩
theorem tw14795314503273043309:True:=⟨⟩
theorem tw10465789704515467196:True:=⟨⟩
theorem tw17559799434149408438:True:=⟨⟩
theorem tw13787517788492155820:True:=⟨⟩
theorem tw10261689855419304047:True:=⟨⟩
theorem tw16768183536855321035:True:=⟨⟩
theorem tw6695401327079654273:True:=⟨⟩
theorem tw4253249930616740467:True:=⟨⟩
theorem tw9089298326152775779:True:=⟨⟩
theorem tw10585722842260579092:True:=⟨⟩
theorem tw12277841019177462401:True:=⟨⟩
theorem tw7324175126088346598:True:=⟨⟩
theorem tw14491703961442340680:True:=⟨⟩
theorem tw16736119401118983117:True:=⟨⟩
theorem tw14113850055569855658:True:=⟨⟩
theorem tw15855893020008238779:True:=⟨⟩
theorem tw17789099800616731093:True:=⟨⟩
theorem tw3808338122242111835:True:=⟨⟩
theorem tw2349665369765915927:True:=⟨⟩
theorem tw9544013478221771163:True:=⟨⟩
theorem tw5280799193567855466:True:=⟨⟩
theorem tw1822356442966145225:True:=⟨⟩
theorem tw8045228689807078005:True:=⟨⟩
theorem tw8397513121985826640:True:=⟨⟩
theorem tw2195460695985478613:True:=⟨⟩
theorem tw13342021452965889350:True:=⟨⟩
theorem tw13270548010099629889:True:=⟨⟩
theorem tw14611951091790054125:True:=⟨⟩
theorem tw16188861863166778650:True:=⟨⟩
theorem tw11494310656701572311:True:=⟨⟩
theorem tw7174278547962918107:True:=⟨⟩
theorem tw540835100280031428:True:=⟨⟩
theorem tw1162180619430168778:True:=⟨⟩
theorem tw3566742366897124023:True:=⟨⟩
theorem tw12275985347831017046:True:=⟨⟩
theorem tw7353704333079333212:True:=⟨⟩
theorem tw804819727881516308:True:=⟨⟩
theorem tw2456635405398284815:True:=⟨⟩
theorem tw11424988789018752037:True:=⟨⟩
theorem tw13893499078824265085:True:=⟨⟩
theorem tw9021556401195538459:True:=⟨⟩
end PySem.W.Fast
open PySem PySem.W PyProof.Rows
set_option maxRecDepth 100000 in
set_option maxHeartbeats 0 in
theorem PySem.Challenge.cw_recut_k26_a_cloth_turned_holds : PySem.Challenge.rw_recut_k26_a_cloth_turned.Holds := by
 w_on;o_law;k_head;(case hw=>w_witness2)
 k_fill
 refine L2.R2.walk_lawT (l:=PySem.Challenge.rw_recut_k26_a_cloth_turned) (k:=6) (x:="_law_script") rfl rfl ⟨rfl,by decide,by decide⟩ (λw h Y=>PySem.W.km_in_of Y) rfl ?L ?F
 case L =>
  intro w
  refine' L2.R2.lamIs ?q1 ?q2 ?q3
  (case q1=>exact .inl ⟨_,rfl⟩)
  (case q2=>refine' .inr ?_;k_is)
  (case q3=>refine' .inr ?_;k_is)
 case F =>
  intro w mg h KX G
  have T:L2.R2.K26.TopF (L2.KOf KX) mg:=by
   dsimp only[L2.KOf]
   refine' L2.R2.K26.top_mk KX G ?a0 ?l0 ?c0 ?k0 ?a1 ?l1 ?c1 ?k1 ?a2 ?l2 ?c2 ?k2 ?a3 ?l3 ?c3 ?k3 ?a4 ?l4 ?c4 ?k4 ?a5 ?l5 ?c5 ?k5 ?a6 ?l6 ?c6 ?k6 ?a7 ?l7 ?c7 ?k7 ?a8 ?l8 ?c8 ?k8 ?a9 ?l9 ?c9 ?k9 ?a10 ?l10 ?c10 ?k10 ?a11 ?l11 ?c11 ?k11 ?a12 ?l12 ?c12 ?k12 ?a13 ?l13 ?c13 ?k13 ?a14 ?l14 ?c14 ?k14 ?a15 ?l15 ?c15 ?k15 ?a16 ?l16 ?c16 ?k16 ?a17 ?l17 ?c17 ?k17 ?a18 ?l18 ?c18 ?k18 ?a19 ?l19 ?c19 ?k19 ?a20 ?l20 ?c20 ?k20 ?a21 ?l21 ?c21 ?k21 ?a22 ?l22 ?c22 ?k22 ?a23 ?l23 ?c23 ?k23 ?a24 ?l24 ?c24 ?k24 ?a25 ?l25 ?c25 ?k25 ?a26 ?l26 ?c26 ?k26 ?a27 ?l27 ?c27 ?k27 ?a28 ?l28 ?c28 ?k28 ?a29 ?l29 ?c29 ?k29 ?a30 ?l30 ?c30 ?k30 ?a31 ?l31 ?c31 ?k31 ?a32 ?l32 ?c32 ?k32 ?a33 ?l33 ?c33 ?k33 ?z0 ?z1 ?z2 ?z3 ?z4 ?z5 ?z6 ?z7 ?z8 ?te0 ?tl0 ?tv0
   (case a0=>k_is);(case l0=>k_is);(case c0=>k_is);(case k0=>k_is)
   (case a1=>k_is);(case l1=>k_is);(case c1=>k_is);(case k1=>k_is)
   (case a2=>k_is);(case l2=>k_is);(case c2=>k_is);(case k2=>k_is)
   (case a3=>k_is);(case l3=>k_is);(case c3=>k_is);(case k3=>k_is)
   (case a4=>k_is);(case l4=>k_is);(case c4=>k_is);(case k4=>k_is)
   (case a5=>k_is);(case l5=>k_is);(case c5=>k_is);(case k5=>k_is)
   (case a6=>k_is);(case l6=>k_is);(case c6=>k_is);(case k6=>k_is)
   (case a7=>k_is);(case l7=>k_is);(case c7=>k_is);(case k7=>k_is)
   (case a8=>k_is);(case l8=>k_is);(case c8=>k_is);(case k8=>k_is)
   (case a9=>k_is);(case l9=>k_is);(case c9=>k_is);(case k9=>k_is)
   (case a10=>k_is);(case l10=>k_is);(case c10=>k_is);(case k10=>k_is)
   (case a11=>k_is);(case l11=>k_is);(case c11=>k_is);(case k11=>k_is)
   (case a12=>k_is);(case l12=>k_is);(case c12=>k_is);(case k12=>k_is)
   (case a13=>k_is);(case l13=>k_is);(case c13=>k_is);(case k13=>k_is)
   (case a14=>k_is);(case l14=>k_is);(case c14=>k_is);(case k14=>k_is)
   (case a15=>k_is);(case l15=>k_is);(case c15=>k_is);(case k15=>k_is)
   (case a16=>k_is);(case l16=>k_is);(case c16=>k_is);(case k16=>k_is)
   (case a17=>k_is);(case l17=>k_is);(case c17=>k_is);(case k17=>k_is)
   (case a18=>k_is);(case l18=>k_is);(case c18=>k_is);(case k18=>k_is)
   (case a19=>k_is);(case l19=>k_is);(case c19=>k_is);(case k19=>k_is)
   (case a20=>k_is);(case l20=>k_is);(case c20=>k_is);(case k20=>k_is)
   (case a21=>k_is);(case l21=>k_is);(case c21=>k_is);(case k21=>k_is)
   (case a22=>k_is);(case l22=>k_is);(case c22=>k_is);(case k22=>k_is)
   (case a23=>k_is);(case l23=>k_is);(case c23=>k_is);(case k23=>k_is)
   (case a24=>k_is);(case l24=>k_is);(case c24=>k_is);(case k24=>k_is)
   (case a25=>k_is);(case l25=>k_is);(case c25=>k_is);(case k25=>k_is)
   (case a26=>k_is);(case l26=>k_is);(case c26=>k_is);(case k26=>k_is)
   (case a27=>k_is);(case l27=>k_is);(case c27=>k_is);(case k27=>k_is)
   (case a28=>k_is);(case l28=>k_is);(case c28=>k_is);(case k28=>k_is)
   (case a29=>k_is);(case l29=>k_is);(case c29=>k_is);(case k29=>k_is)
   (case a30=>k_is);(case l30=>k_is);(case c30=>k_is);(case k30=>k_is)
   (case a31=>k_is);(case l31=>k_is);(case c31=>k_is);(case k31=>k_is)
   (case a32=>k_is);(case l32=>k_is);(case c32=>k_is);(case k32=>k_is)
   (case a33=>k_is);(case l33=>k_is);(case c33=>k_is);(case k33=>k_is)
   (case z0=>k_is)
   (case z1=>k_is)
   (case z2=>k_is)
   (case z3=>k_is)
   (case z4=>k_is)
   (case z5=>k_is)
   (case z6=>k_is)
   (case z7=>k_is)
   (case z8=>k_is)
   (case te0=>exact rfl);(case tl0=>k_is);(case tv0=>exact rfl)
  exact T.d_law.okLT λbase K' f fd z tw Fu=>L2.R2.K26.law_fn (T.hid z) tw Fu

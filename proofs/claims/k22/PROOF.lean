import PyProof.Rows.All
import Wide.All
import OpenK.AllK
import Wide.FinOn
import Lean
import PyProof.EqAt
import PyProof.EqKinds
import PyProof.TupleCall
import PySem.Challenge.RW_recut_k22_leanings
set_option compiler.extract_closed false
local macro_rules | `(tactic| omega)=>`(tactic| lia)
local macro_rules | `(tactic| walk_at "vis")=>`(tactic| first | exact Or.inl rfl | exact Or.inr (Or.inl rfl) | exact Or.inr (Or.inr rfl) | exact Or.inr rfl)
local macro_rules | `(tactic| walk_at "loc")=>`(tactic| first | exact .inl rfl | exact .inr rfl | assumption)
set_option Elab.async false
set_option linter.all false
set_option maxRecDepth 100000
namespace L2
open PySem PySem.Spec PyProof.Rows
noncomputable abbrev Key:=Sum Int Str
noncomputable def pU:Key->Value->Bool
 | .inl k,v=>Value.isInt k v
 | .inr x,v=>Value.isStrOf x v
noncomputable def IS (w:World):Key->Int
 | .inl k=>hashInt k
 | .inr x=>hashStr w x
theorem bQ:∀{k:Key} {v:Value},pU k v=true->(∃i t,k=Sum.inl i/\v=Value.int i t)\/(∃x t,k=Sum.inr x/\v=Value.str x t)
 | .inl i,v,h=>by
  obtain⟨t,e⟩:=Value.isInt_shape (k:=i) (v:=v) h
  exact .inl ⟨i,t,rfl,e⟩
 | .inr x,v,h=>by
  obtain⟨t,e⟩:=Value.isStrOf_shape (x:=x) (v:=v) h
  exact .inr ⟨x,t,rfl,e⟩
theorem xB (i:Int) (t:Tok):pU (.inl i) (.int i t)=true:=by simp[pU,Value.isInt]
theorem xC (x:Str) (t:Tok):pU (.inr x) (.str x t)=true:=by simp[pU,Value.isStrOf]
theorem EO (a b:Int):decide ((Sum.inl a:Key)=Sum.inl b)=(a == b):=by
 by_cases e:a=b
 ·subst e;simp
 ·have h:¬(Sum.inl a:Key)=Sum.inl b:=λq=>e (Sum.inl.inj q)
  rw[decide_eq_false h]
  exact (beq_eq_false_iff_ne.mpr e).symm
theorem ES (a b:Str):decide ((Sum.inr a:Key)=Sum.inr b)=decide (a=b):=by
 by_cases e:a=b
 ·subst e;simp
 ·have h:¬(Sum.inr a:Key)=Sum.inr b:=λq=>e (Sum.inr.inj q)
  rw[decide_eq_false h,decide_eq_false e]
theorem EQ (a:Int) (b:Str):decide ((Sum.inl a:Key)=Sum.inr b)=false:=decide_eq_false (λq=>nomatch q)
theorem ER (a:Str) (b:Int):decide ((Sum.inr a:Key)=Sum.inl b)=false:=decide_eq_false (λq=>nomatch q)
noncomputable def bL (prog:Program) (w:World):PySem.KeyKind prog w Key where
 is:=pU
 hash:=IS w
 inj:=λv a b ha hb=>by
  rcases bQ ha with ⟨i,t,rfl,rfl⟩ | ⟨x,t,rfl,rfl⟩
  ·rcases bQ hb with ⟨j,u,rfl,e⟩ | ⟨y,u,rfl,e⟩
   ·injection e with e1 _;rw[e1]
   ·exact nomatch e
  ·rcases bQ hb with ⟨j,u,rfl,e⟩ | ⟨y,u,rfl,e⟩
   ·exact nomatch e
   ·injection e with e1 _;rw[e1]
 byValue:=λk v h=>by
  rcases bQ h with ⟨i,t,rfl,rfl⟩ | ⟨x,t,rfl,rfl⟩ <;> rfl
 pyHash:=λhv h=>by
  rcases bQ hv with ⟨i,t,rfl,rfl⟩ | ⟨x,t,rfl,rfl⟩
  ·exact wpAny_pyHash_int h
  ·exact wpAny_pyHash_str h
 eqBool:=λhu hv h=>by
  rcases bQ hu with ⟨i,t,rfl,rfl⟩ | ⟨x,t,rfl,rfl⟩
  ·rcases bQ hv with ⟨j,u,rfl,rfl⟩ | ⟨y,u,rfl,rfl⟩
   ·rw[EO] at h;exact wpAny_eqBool_int h
   ·rw[EQ] at h;exact SeqAt.EqAt.int_str i t y u _ _ _ _ h
  ·rcases bQ hv with ⟨j,u,rfl,rfl⟩ | ⟨y,u,rfl,rfl⟩
   ·rw[ER] at h;exact SeqAt.EqAt.str_int x t j u _ _ _ _ h
   ·rw[ES] at h;exact wpAny_eqBool_str h
 «strs»:=λk x t v h=>by
  rcases bQ h with ⟨i,u,rfl,e⟩ | ⟨y,u,rfl,e⟩
  ·exact nomatch e
  ·injection e with e1 _
   subst e1
   cases v <;> rfl
theorem tD (prog:Program) (w:World) (i:Int) (t:Tok):(bL prog w).is (.inl i) (.int i t)=true:=xB i t
theorem tE (prog:Program) (w:World) (x:Str) (t:Tok):(bL prog w).is (.inr x) (.str x t)=true:=xC x t
end L2
namespace L2
open PySem PySem.Spec PyProof.Rows
inductive V where
 | non | bl (b:Bool) | int (i:Int) | str (x:Str) | byt (b:Array UInt8) | flt (b:UInt64) | ref (a:Addr) | ty (n:String)
 deriving DecidableEq
noncomputable def RelV:V->Value->Prop
 | .non,u=>u=Value.none
 | .bl b,u=>u=Value.bool b
 | .int i,u=>∃t,u=Value.int i t
 | .str x,u=>∃t,u=Value.str x t
 | .byt b,u=>∃t,u=Value.bytes b t
 | .flt b,u=>∃t,u=Value.float b t
 | .ref a,u=>u=Value.ref a
 | .ty n,u=>u=Value.type n
noncomputable abbrev Vals:List V->List Value->Prop:=Paired RelV
theorem Vals.length {xs:List V} {us:List Value} (r:Vals xs us):xs.length=us.length:=Paired.length r
theorem Vals.get:∀{xs:List V} {us:List Value} {i:Nat} {x:V},Vals xs us->xs[i]? = some x->∃u,us[i]? = some u/\RelV x u
 | _,_,_,_,.nil,e=>by simp at e
 | _,_,0,_,.cons r _,e=>by simp at e;subst e;exact⟨_,rfl,r⟩
 | _,_,i+1,x,.cons _ t,e=>by
  obtain⟨u,h1,h2⟩:=Vals.get (i:=i) (x:=x) t (by simpa using e)
  exact⟨u,by simpa using h1,h2⟩
theorem Vals.append:∀{xs ys:List V} {us ws:List Value},Vals xs us->Vals ys ws->Vals (xs++ys) (us++ws)
 | _,_,_,_,.nil,s=>s
 | _,_,_,_,.cons r t,s=>.cons r (Vals.append t s)
noncomputable def RelO:Option V->Option Value->Prop
 | some v,some u=>RelV v u
 | none,none=>True
 | _,_=>False
noncomputable def KV {κ:Type}:List (κ × V)->List (κ × Value)->Prop:=Paired λ(p:κ × V) (q:κ × Value)=>p.1=q.1/\RelV p.2 q.2
noncomputable def kV:Key->V
 | .inl i=>.int i
 | .inr x=>.str x
inductive HO where
  | lst (xs:List V)
  | tup (xs:List V)
  | dK (kvs:List (Key × V)) | dT (kvs:List (List Key × V))
  | set (S:Int->Bool) (n:Nat)
  | ins (C dx:Addr) (fs:List (Str × V))
  | own (x:Addr)
  | xd (fs:List (Str × V))
  | met (f x:Addr)
  | rng (lo hi:Int)
  | frz (o:Obj) (u:HO)
  | tbl (ps:Array Value)
  | ext (φ:Heap->Prop)
noncomputable abbrev Hp:=Addr->Option HO
noncomputable def upd (H:Hp) (a:Addr) (o:HO):Hp:=λb=>if b=a then some o else H b
theorem aR {H:Hp} {a:Addr} {o:HO}:upd H a o a=some o:=by unfold upd;rw[if_pos rfl]
theorem aG {H:Hp} {a b:Addr} {o:HO} (h:b≠a):upd H a o b=H b:=by unfold upd;rw[if_neg h]
theorem HC {H:Hp} {a b:Addr} {o u:HO} (h:H a=some o) (h':H b=some u) (d:o≠u):a≠b:=by
 intro e;subst e;rw[h] at h';exact d (Option.some.inj h')
theorem aL {H:Hp} {a b:Addr} {o:HO} (h:H a=some o) (h':H b=none):a≠b:=by
 intro e;subst e;rw[h] at h';cases h'
section
variable (P:Program) (w:World)
noncomputable def ObjOk (H:Hp) (h:Heap) (a:Addr):HO->Prop
 | .lst xs=>xs.length<=sizeLine/\∃(its:List Value) (n:Nat),Vals xs its/\h.get? a=some { cls:=.type "list",data:=.seq its.toArray n }
 | .tup xs=>xs.length<=sizeLine/\∃its:List Value,Vals xs its/\IsTup h a its.toArray
 | .dK kvs=>kvs.length<=sizeLine/\(a == sysModules)=false/\∃vs,KV kvs vs/\h.DictOf (bL P w) a vs
 | .dT kvs=>kvs.length<=sizeLine/\(a == sysModules)=false/\∃xs:List (List Key × Addr × Value),
   Paired (λ(p:List Key × V) (q:List Key × Addr × Value)=>p.1=q.1/\H q.2.1=some (.tup (p.1.map kV))/\RelV p.2 q.2.2) kvs xs /\
   ∃o es ep,h.get? a=some o/\o.ExactDict/\o.data = .dict es ep/\es.toList=xs.map (entryOfKey (tupleKind (bL P w)))/\(xs.map (·.1)).Nodup
 | .set S n=>h.SetOf (intKind P w) a S n
 | .ins C dx fs=>H dx=some (.own a)/\fs.length<=1000/\dx≠a/\h.get? a=some (PySem.W.instObj C dx) /\
   ∃mA,h.Ns1 dx mA/\(∀f,RelO (fs.lookup f) (mA f))/\PySem.Within mA (fs.map (·.1))
 | .own _=>∃o,h.get? a=some o
 | .xd fs=>∃mA,h.Ns1 a mA/\∀f,RelO (fs.lookup f) (mA f)
 | .rng lo hi=>∃t u v,h.get? a=some { cls:=.type "range",data:=.fields #[.int lo t,.int hi u,.int 1 v] }
 | .frz o u=>h.get? a=some o/\ObjOk H h a u
 | .tbl ps=>h.get? a=some { cls:=.none,data:=.fields ps }
 | .met f x=>h.get? a=some (PySem.W.methodObj (.ref f) (.ref x))
 | .ext φ=>φ h/\(∃o,h.get? a=some o)/\∀h1 h2:Heap,φ h1->(∀o,h1.get? a=some o->h2.get? a=some o)->φ h2
noncomputable def HOk (H:Hp) (h:Heap):Prop:=∀a o,H a=some o->ObjOk P w H h a o
end
section
variable {P:Program} {w:World} {H H':Hp} {h h':Heap} {a:Addr} {o:HO}
theorem ObjOk.lt (x:ObjOk P w H h a o):a<h.objs.size:=by
 cases o with
 | lst xs=>obtain⟨_,_,_,_,e⟩:=x;exact Heap.lt_size e
 | tup xs=>obtain⟨_,_,_,p⟩:=x;exact p.lt
 | dK kvs=>obtain⟨_,_,_,_,o,_,_,e,_⟩:=x;exact Heap.lt_size e
 | dT kvs=>obtain⟨_,_,_,_,o,_,_,e,_⟩:=x;exact Heap.lt_size e
 | set S n=>obtain⟨o,_,_,_,e,_⟩:=x;exact Heap.lt_size e
 | ins C dx fs=>obtain⟨_,_,_,e,_⟩:=x;exact Heap.lt_size e
 | own y=>obtain⟨_,e⟩:=x;exact Heap.lt_size e
 | xd fs=>obtain⟨_,⟨_,_,_,e,_⟩,_⟩:=x;exact Heap.lt_size e
 | rng lo hi=>obtain⟨_,_,_,e⟩:=x;exact Heap.lt_size e
 | frz ob u=>obtain⟨e,_⟩:=x;exact Heap.lt_size e
 | tbl ps=>exact Heap.lt_size (show h.get? a=some _ from x)
 | met f y=>exact Heap.lt_size (show h.get? a=some _ from x)
 | ext φ=>obtain⟨_,⟨_,e⟩,_⟩:=x;exact Heap.lt_size e
theorem Paired.mapP {α β:Type} {F G:α->β->Prop}:∀{l₁:List α} {l₂:List β},Paired F l₁ l₂->(∀a b,F a b->G a b)->Paired G l₁ l₂
 | _,_,.nil,_=>.nil
 | _,_,.cons r t,f=>.cons (f _ _ r) (Paired.mapP t f)
theorem ObjOk.stay (x:ObjOk P w H h a o) (k:∀b u,(b=a\/H b=some (.own a))->h.get? b=some u->h'.get? b=some u)
  (ho:∀b,H b=some (.own a)->H' b=some (.own a)) (ht:∀b xs,H b=some (.tup xs)->H' b=some (.tup xs)):ObjOk P w H' h' a o:=by
 induction o with
 | lst xs=>obtain⟨z,its,n,r,e⟩:=x;exact⟨z,its,n,r,k _ _ (.inl rfl) e⟩
 | tup xs=>obtain⟨z,its,r,ob,e,c⟩:=x;exact⟨z,its,r,ob,k _ _ (.inl rfl) e,c⟩
 | dK kvs=>obtain⟨z,y,vs,r,ob,es,ep,e,c⟩:=x;exact⟨z,y,vs,r,ob,es,ep,k _ _ (.inl rfl) e,c⟩
 | dT kvs =>
  obtain⟨z,y,xs,r,ob,es,ep,e,c⟩:=x
  exact⟨z,y,xs,Paired.mapP r λp q z=>⟨z.1,ht _ _ z.2.1,z.2.2⟩,ob,es,ep,k _ _ (.inl rfl) e,c⟩
 | set S n=>obtain⟨ob,es,ep,t,e,c⟩:=x;exact⟨ob,es,ep,t,k _ _ (.inl rfl) e,c⟩
 | ins C dx fs =>
  obtain⟨d,z,ne,e,mA,⟨od,es,ep,e2,c⟩,r⟩:=x
  exact⟨ho _ d,z,ne,k _ _ (.inl rfl) e,mA,⟨od,es,ep,k _ _ (.inr d) e2,c⟩,r⟩
 | own y=>obtain⟨ob,e⟩:=x;exact⟨ob,k _ _ (.inl rfl) e⟩
 | xd fs=>obtain⟨mA,⟨od,es,ep,e,c⟩,r⟩:=x;exact⟨mA,⟨od,es,ep,k _ _ (.inl rfl) e,c⟩,r⟩
 | rng lo hi=>obtain⟨t,u,v,e⟩:=x;exact⟨t,u,v,k _ _ (.inl rfl) e⟩
 | frz ob u ih=>obtain⟨e,q⟩:=x;exact⟨k _ _ (.inl rfl) e,ih q⟩
 | tbl ps =>
  have e:h.get? a=some { cls:=.none,data:=.fields ps }:=x
  show h'.get? a=some { cls:=.none,data:=.fields ps }
  exact k a _ (.inl rfl) e
 | met f y =>
  have e:h.get? a=some (PySem.W.methodObj (.ref f) (.ref y)):=x
  show h'.get? a=some (PySem.W.methodObj (.ref f) (.ref y))
  exact k a _ (.inl rfl) e
 | ext φ=>obtain⟨p,⟨o,e⟩,st⟩:=x;exact⟨st _ _ p λo q=>k _ _ (.inl rfl) q,⟨o,k _ _ (.inl rfl) e⟩,st⟩
theorem HOk.lt (x:HOk P w H h) (e:H a=some o):a<h.objs.size:=(x a o e).lt
theorem HOk.fresh (x:HOk P w H h) (e:h.objs.size<=a):H a=none:=by
 cases q:H a with
 | none=>rfl
 | some u=>exact absurd (Nat.lt_of_lt_of_le (x.lt q) e) (Nat.lt_irrefl _)
theorem HOk.kept (x:HOk P w H h) (k:∀b u,h.get? b=some u->h'.get? b=some u):HOk P w H h':=λa o e =>
 (x a o e).stay (λb u _ q=>k b u q) (λ_ q=>q) λ_ _ q=>q
theorem HOk.laid (x:HOk P w H h) (k:∀b u,h.get? b=some u->h'.get? b=some u) (hp:h.objs.size<=a) (new:ObjOk P w (upd H a o) h' a o):HOk P w (upd H a o) h':=λb u e=>by
 have hn:=x.fresh hp
 by_cases hb:b=a
 ·subst hb;rw[aR] at e;cases e;exact new
 ·rw[aG hb] at e
  exact (x b u e).stay (λc v _ q=>k c v q) (λc q=>by rw[aG (aL q hn)];exact q) λc xs q=>by rw[aG (aL q hn)];exact q
end
noncomputable def Rd (H:Hp) (a:Addr) (u:HO):Prop:=H a=some u\/∃o,H a=some (.frz o u)
theorem Rd.ok {P:Program} {w:World} {H:Hp} {h:Heap} {a:Addr} {u:HO} (r:Rd H a u) (x:HOk P w H h):ObjOk P w H h a u:=by
 rcases r with r | ⟨o,r⟩
 ·exact x a u r
 ·obtain⟨_,q⟩:=x a _ r
  exact q
noncomputable def Mut:Option HO->Prop
 | some (.lst _)=>True
 | some (.dK _)=>True
 | some (.dT _)=>True
 | some (.set _ _)=>True
 | some (.ins _ _ _)=>True
 | some (.ext _)=>True
 | _=>False
section
variable {P:Program} {w:World} {H:Hp} {h h':Heap} {x e:Addr} {o':HO}
theorem HOk.write (ok:HOk P w H h) (mu:Mut (H x)) (he:e=x\/H e=some (.own x)) (k:∀b u,b≠e->h.get? b=some u->h'.get? b=some u) (heo:∃u,h'.get? e=some u)
  (new:ObjOk P w (upd H x o') h' x o'):HOk P w (upd H x o') h':=λb u q=>by
 have nown:∀c y,H c=some (.own y)->c≠x:=λc y r z=>by subst z;rw[r] at mu;exact mu
 have ntup:∀c xs,H c=some (.tup xs)->c≠x:=λc xs r z=>by subst z;rw[r] at mu;exact mu
 by_cases hb:b=x
 ·subst hb;rw[aR] at q;cases q;exact new
 ·rw[aG hb] at q
  by_cases hbe:b=e
  ·have q':H b=some (.own x):=by
    rcases he with z | z
    ·exact absurd (hbe.trans z) hb
    ·rw[hbe];exact z
   rw[q] at q';cases q'
   obtain⟨v,hv⟩:=heo
   exact⟨v,by rw[hbe];exact hv⟩
  ·refine (ok b u q).stay (λc v hc r=>k c v ?_ r) (λc r=>by rw[aG (nown c b r)];exact r) λc xs r=>by rw[aG (ntup c xs r)];exact r
   rcases hc with rfl | hc
   ·exact hbe
   ·rintro rfl
    rcases he with z | z
    ·exact nown c b hc z
    ·rw[hc] at z;cases z;exact hb rfl
end
structure Un (fs ex:List Addr) (H H':Hp) (h h':Heap):Prop where
 keep:∀b o,h.get? b=some o->H b=none->b ∉ fs->b ∉ ex->h'.get? b=some o
 slot:∀b o,h.get? b=some o->H b=none->b∈fs->b ∉ ex->∃sl,h'.get? b=some { o with slots:=sl }
 free:∀b o,h.get? b=some o->H b=none->b ∉ ex->H' b=none
 there:∀b o,h.get? b=some o->b ∉ ex->∃o',h'.get? b=some o'
 tups:∀b xs,H b=some (.tup xs)->H' b=some (.tup xs)
 frzs:∀b o u,H b=some (.frz o u)->H' b=some (.frz o u)
 tbls:∀b ps,H b=some (.tbl ps)->∃more,H' b=some (.tbl (ps++more))
section
variable {fs fs' ex ex':List Addr} {H H1 H2:Hp} {h h1 h2 h':Heap} {a x e:Addr} {o:HO}
theorem Un.any (u:Un fs ex H H1 h h1) {b:Addr} {ob:Obj} (q:h.get? b=some ob) (n:H b=none) (hx:b ∉ ex):∃sl,h1.get? b=some { ob with slots:=sl }:=by
 by_cases hb:b∈fs
 ·exact u.slot b ob q n hb hx
 ·exact⟨ob.slots,u.keep b ob q n hb hx⟩
theorem Un.kept (k:∀b u,h.get? b=some u->h'.get? b=some u):Un fs ex H H h h' :=
 ⟨λb ob q _ _ _=>k b ob q,λb ob q _ _ _=>⟨ob.slots,k b ob q⟩,λ_ _ _ n _=>n,λb ob q _=>⟨ob,k b ob q⟩,λ_ _ q=>q,λ_ _ _ q=>q,λ_ ps q=>⟨#[],by rw[q];simp⟩⟩
theorem Un.refl:Un fs ex H H h h:=Un.kept λ_ _ q=>q
theorem Un.laid (k:∀b u,h.get? b=some u->h'.get? b=some u) (hp:h.objs.size<=a) (hn:H a=none):Un fs ex H (upd H a o) h h' where
 keep:=λb u q _ _ _=>k b u q
 slot:=λb u q _ _ _=>⟨u.slots,k b u q⟩
 free:=λb u q n _=>by rw[aG (Nat.ne_of_lt (Nat.lt_of_lt_of_le (Heap.lt_size q) hp))];exact n
 there:=λb u q _=>⟨u,k b u q⟩
 tups:=λb xs q=>by rw[aG (aL q hn)];exact q
 frzs:=λb u xs q=>by rw[aG (aL q hn)];exact q
 tbls:=λb ps q=>⟨#[],by rw[aG (aL q hn),q];simp⟩
theorem Un.write (mu:Mut (H x)) (he:e=x\/H e=some (.own x)) (k:∀b u,b≠e->h.get? b=some u->h'.get? b=some u) (heo:∃u,h'.get? e=some u):Un fs ex H (upd H x o) h h':=by
 have hx:∀b,H b=none->b≠x:=λb n z=>by subst z;rw[n] at mu;exact mu
 have hb:∀b,H b=none->b≠e:=λb n z=>by
  subst z
  rcases he with r | r
  ·exact hx b n r
  ·rw[n] at r;cases r
 have hm:∀b u,H b=some u->¬Mut (some u)->b≠x:=λb u q nm z=>by subst z;rw[q] at mu;exact nm mu
 refine⟨λb u q n _ _=>k b u (hb b n) q,λb u q n _ _=>⟨u.slots,k b u (hb b n) q⟩,λb u q n _=>by rw[aG (hx b n)];exact n,λb u q _=>?_,
  λb xs q=>by rw[aG (hm b _ q λz=>z)];exact q,λb u xs q=>by rw[aG (hm b _ q λz=>z)];exact q,λb ps q=>⟨#[],by rw[aG (hm b _ q λz=>z),q];simp⟩⟩
 by_cases hbe:b=e
 ·subst hbe;exact heo
 ·exact⟨u,k b u hbe q⟩
theorem Un.mono (u:Un fs ex H H1 h h1) (hs:∀b∈fs,b∈fs') (hx:∀b∈ex,b∈ex'):Un fs' ex' H H1 h h1 :=
 ⟨λb ob q n hb he=>u.keep b ob q n (λz=>hb (hs b z)) λz=>he (hx b z),λ_ _ q n _ he=>u.any q n λz=>he (hx _ z),λb ob q n he=>u.free b ob q n λz=>he (hx b z),λb ob q he=>u.there b ob q λz=>he (hx b z),u.tups,u.frzs,u.tbls⟩
end
noncomputable def trk (h:Heap) (H:Hp):List Addr:=(List.range h.objs.size).filter λa=>(H a).isSome
noncomputable def oW (h:Heap) (H:Hp):Heap:=PySem.W.hideAll h (trk h H)
theorem wW (h:Heap) (H:Hp):(oW h H).objs.size=h.objs.size:=PySem.W.hideAll_size _ _
theorem zK {h:Heap} {H:Hp} {b:Addr} {o:Obj} (e:h.get? b=some o) (n:H b=none):(oW h H).get? b=some o :=
 PySem.W.hideAll_get _ e λhm=>by
  have q:(H b).isSome=true:=(List.mem_filter.mp hm).2
  rw[n] at q;simp at q
theorem CA {h:Heap} {H:Hp} {b:Addr} {o:Obj} (e:(oW h H).get? b=some o):h.get? b=some o/\H b=none:=by
 have e':h.get? b=some o:=PySem.W.of_hideAll (trk h H) e
 refine⟨e',?_⟩
 cases q:H b with
 | none=>rfl
 | some x =>
  have hm:b∈trk h H:=List.mem_filter.mpr ⟨List.mem_range.mpr (Heap.lt_size e'),by simp[q]⟩
  have z:(oW h H).get? b=none:=PySem.W.hideAll_none (trk h H) hm
  rw[z] at e;cases e
noncomputable def jU (g h:Heap) (L:Addr):List (Addr × Obj):=(List.range h.objs.size).filterMap λa=>if a=L\/(g.get? a).isSome=true then none else (h.get? a).map λo=>(a,o)
theorem gY {g h:Heap} {L a:Addr} {o:Obj} (h1:a≠L) (h2:g.get? a=none) (h3:h.get? a=some o):(a,o)∈jU g h L :=
 List.mem_filterMap.mpr ⟨a,List.mem_range.mpr (Heap.lt_size h3),by simp[h1,h2,h3]⟩
theorem nZ {g h:Heap} {L:Addr} {p:Addr × Obj} (hp:p∈jU g h L):p.1≠L/\g.get? p.1=none/\h.get? p.1=some p.2:=by
 obtain⟨b,_,e⟩:=List.mem_filterMap.mp hp
 split at e
 ·cases e
 ·rename_i hn
  cases q:h.get? b with
  | none=>rw[q] at e;simp at e
  | some u =>
   rw[q] at e
   simp only[Option.map_some,Option.some.injEq] at e
   subst e
   refine⟨λz=>hn (.inl z),?_,q⟩
   show g.get? b=none
   cases r:g.get? b with
   | none=>rfl
   | some v=>exact (hn (.inr (by simp[r]))).elim
noncomputable def rest (g h:Heap) (L d:Addr):List (Addr × Obj):=(jU g h L).filter λp=>decide (p.1≠d)
theorem zX {g h:Heap} {L:Addr}:News g L h (jU g h L):=λp hp=>let ⟨a,b,c⟩:=nZ hp;⟨c,a,b⟩
end L2
namespace L2
open PySem PySem.Spec PyProof.Rows
structure Mod (K:PySem.W.Frag) (mg:Str->Option Value) (base:Heap):Prop where
 kin:K.In base
 glob:base.Ns mainGlobals mg
 blt:∃mb,base.Ns builtinsNs mb/\∀x:Str,x≠"__name__"->mb x=bootBuiltins x
 nolimit:base.NoLimit
structure Cx where
 prog:Program
 w:World
 K:PySem.W.Frag
 mg:Str->Option Value
 base:Heap
 A:Around
 N:List Str
 s₀:Shared
 H₀:Hp
 env:Env
 outer:List Env
 stack:List Env
 ex:List Addr
 fn:Str->Bool
 calm:Bool
 pn:List (Addr × Obj)
 xe:Value->Shared->Prop
noncomputable def frs (l:List Env):List Addr:=l.filterMap (·.frame)
noncomputable abbrev Cx.fs (X:Cx):List Addr:=frs X.outer
noncomputable def Vis (sc:Scope) (x:Str):Prop:=sc.names.lookup x=some .local\/sc.names.lookup x=some .cell\/sc.names.lookup x=some .free
noncomputable def Loc (sc:Scope) (x:Str):Prop:=sc.names.lookup x=some .local\/sc.names.lookup x=some .cell
noncomputable def IK (env:Env) (h:Heap) (m:Str->Option Value) (x:Str) (u:Value):Prop :=
 (env.kindOf x=some .local/\m x=some u)\/((env.kindOf x=some .cell\/env.kindOf x=some .free)/\∃c,env.cells.lookup x=some c/\h.IsCell c (some u))
structure Cx.Ok (X:Cx):Prop where
 mod:Mod X.K X.mg X.base
 kind:X.env.scope.kind = .function
 glob:X.env.globals=mainGlobals
 blt:X.env.builtins=builtinsNs
 above:X.s₀.heap.objs.size<=X.env.locals
 inj:∀x y c,X.env.cells.lookup x=some c->X.env.cells.lookup y=some c->x=y
 has:∀x,(X.env.kindOf x=some .cell\/X.env.kindOf x=some .free)->∃c,X.env.cells.lookup x=some c
 cab:∀x c,X.fn x=true->X.env.cells.lookup x=some c->X.s₀.heap.objs.size<=c
 hd:X.calm=true->X.A.handled=none
 frames:X.A.frames=some X.stack
 stk:X.stack=X.outer\/(X.stack=X.env::X.outer/\X.env.frame=some X.env.locals)
 exf:∀b∈X.ex,b≠X.env.locals/\∀x c,X.env.cells.lookup x=some c->c≠b
 bs:∀b o,X.base.get? b=some o->X.s₀.heap.get? b=some o/\X.H₀ b=none
 bsz:X.base.objs.size<=X.s₀.heap.objs.size
 noex:∀b o,X.base.get? b=some o->b ∉ X.ex
 exfs:∀b∈X.ex,b ∉ X.fs
 funs:X.s₀.heap.FunFrames X.base X.outer
 frf:∀b∈X.fs,X.H₀ b=none
structure Inv (X:Cx) (pins:List (Addr × Obj)) (σ:List (Option V)) (H:Hp) (s:Shared):Prop where
 ok:X.Ok
 os:s.os=X.s₀.os
 bare:AllBare s.gens
 base:Un X.fs X.ex X.H₀ H X.s₀.heap s.heap
 loc:∃m,s.heap.Ns X.env.locals m/\∀(i:Nat) (x:Str) (v:V),X.N[i]? = some x->σ[i]? = some (some v)->Vis X.env.scope x->∃u,RelV v u/\IK X.env s.heap m x u
 cell:∀x c,X.env.cells.lookup x=some c->∃v,s.heap.IsCell c v
 free:H X.env.locals=none
 freeC:∀x c,X.env.cells.lookup x=some c->H c=none
 pin:∀p∈X.pn++pins,s.heap.get? p.1=some p.2/\H p.1=none/\p.1≠X.env.locals/\p.1 ∉ X.fs/\∀v,p.2.data≠.cell v
 hok:HOk X.prog X.w H s.heap
 len:σ.length=X.N.length
section
variable {X:Cx} {pins:List (Addr × Obj)} {σ:List (Option V)} {H H':Hp} {s:Shared} {h':Heap}
theorem Cx.Ok.nofr (ok:X.Ok) {b:Addr} {o:Obj} (e:X.base.get? b=some o):b ∉ X.fs:=λhb=>by
 have:=(ok.funs.mem hb).1
 rw[e] at this;cases this
theorem Inv.bs (I:Inv X pins σ H s):∀b o,X.base.get? b=some o->s.heap.get? b=some o/\H b=none:=λb o e =>
 ⟨I.base.keep b o (I.ok.bs b o e).1 (I.ok.bs b o e).2 (I.ok.nofr e) (I.ok.noex b o e),I.base.free b o (I.ok.bs b o e).1 (I.ok.bs b o e).2 (I.ok.noex b o e)⟩
theorem Inv.bk (I:Inv X pins σ H s):∀b o,X.base.get? b=some o->s.heap.get? b=some o:=λb o e=>(I.bs b o e).1
theorem Inv.mod (I:Inv X pins σ H s):Mod X.K X.mg X.base:=I.ok.mod
theorem Inv.kIn (I:Inv X pins σ H s):X.K.In s.heap:=I.ok.mod.kin.keeps I.bk
theorem Inv.lt (I:Inv X pins σ H s):X.env.locals<s.heap.objs.size:=let ⟨_,hn,_⟩:=I.loc;hn.lt
theorem Inv.sz (I:Inv X pins σ H s):X.s₀.heap.objs.size<=s.heap.objs.size:=Nat.le_trans I.ok.above (Nat.le_of_lt I.lt)
theorem Inv.nofs (I:Inv X pins σ H s) {a:Addr} (h:s.heap.objs.size<=a):a ∉ X.fs:=λhb=>by
 obtain⟨_,o,ho,_⟩:=I.ok.funs.mem hb
 exact absurd (Nat.lt_of_lt_of_le (Heap.lt_size ho) (Nat.le_trans I.sz h)) (Nat.lt_irrefl _)
theorem Inv.cne (I:Inv X pins σ H s):∀x c,X.env.cells.lookup x=some c->c≠X.env.locals:=λx c e z=>by
 obtain⟨v,o,ho,hd⟩:=I.cell x c e
 obtain⟨m,⟨o',es,ep,ho',hd',_⟩,_⟩:=I.loc
 rw[z,ho'] at ho;cases ho;rw[hd'] at hd;cases hd
theorem Inv.funs (I:Inv X pins σ H s):s.heap.FunFrames X.base X.outer:=by
 have all:∀(l:List Env),(∀b∈frs l,b∈X.fs)->X.s₀.heap.FunFrames X.base l->s.heap.FunFrames X.base l:=by
  intro l
  induction l with
  | nil=>intro _ _;trivial
  | cons env r ih =>
   intro hs hl
   obtain⟨hk,⟨L,o,hf,hn,ho,hd⟩,hr⟩:=hl
   have hL:L∈X.fs:=hs L (by unfold frs;rw[List.filterMap_cons,hf];exact List.mem_cons_self)
   obtain⟨sl,e⟩:=I.base.slot L o ho (I.ok.frf L hL) hL λz=>I.ok.exfs L z hL
   exact⟨hk,⟨L,_,hf,hn,e,hd⟩,ih (λb hb=>hs b (by unfold frs;rw[List.filterMap_cons,hf];exact List.mem_cons_of_mem _ hb)) hr⟩
 exact all X.outer (λ_ hb=>hb) I.ok.funs
theorem Inv.stack (I:Inv X pins σ H s):s.heap.FunFrames X.base X.stack:=by
 rcases I.ok.stk with e | ⟨e,hf⟩
 ·rw[e];exact I.funs
 ·rw[e]
  obtain⟨m,hn,_⟩:=I.loc
  refine .cons (by rw[I.ok.kind];decide) hf hn ?_ I.funs
  exact Heap.get?_none_of_le (Nat.le_trans I.ok.bsz I.ok.above)
theorem Inv.stkSub (I:Inv X pins σ H s):∀b∈frs X.stack,b∈X.env.locals::X.fs:=λb hb=>by
 rcases I.ok.stk with e | ⟨e,hf⟩
 ·rw[e] at hb;exact List.mem_cons_of_mem _ hb
 ·rw[e] at hb
  unfold frs at hb
  rw[List.filterMap_cons,hf] at hb
  exact hb
theorem Inv.stkFree (I:Inv X pins σ H s):∀b∈frs X.stack,H b=none:=λb hb=>by
 rcases List.mem_cons.mp (I.stkSub b hb) with e | hb
 ·rw[e];exact I.free
 ·obtain⟨_,o,ho,_⟩:=I.ok.funs.mem hb
  exact I.base.free b o ho (I.ok.frf b hb) λz=>I.ok.exfs b z hb
theorem Inv.step {g':Array GenState} {t':Nat} {d':Drawn} {ch:List Addr} (I:Inv X pins σ H s)
  (hch:∀b∈ch,(b∈X.ex\/X.s₀.heap.objs.size<=b)/\b≠X.env.locals/\(∀x c,X.env.cells.lookup x=some c->c≠b)/\∀p∈X.pn++pins,p.1≠b)
  (keep:∀b o,b≠X.env.locals->b ∉ X.fs->b ∉ ch->s.heap.get? b=some o->H b=none->h'.get? b=some o)
  (slot:∀b o,b≠X.env.locals->b∈X.fs->b ∉ ch->s.heap.get? b=some o->H b=none->∃sl,h'.get? b=some { o with slots:=sl }) (free:∀b o,b ∉ ch->s.heap.get? b=some o->H b=none->H' b=none)
  (there:∀b o,b ∉ ch->s.heap.get? b=some o->∃o',h'.get? b=some o')
  (tups:∀b xs,H b=some (.tup xs)->H' b=some (.tup xs)) (frzs:∀b o u,H b=some (.frz o u)->H' b=some (.frz o u)) (tbls:∀b ps,H b=some (.tbl ps)->∃more,H' b=some (.tbl (ps++more)))
  (ns:∀m,s.heap.Ns X.env.locals m->h'.Ns X.env.locals m) (hok:HOk X.prog X.w H' h') (hg:AllBare g') :
  Inv X pins σ H' { s with heap:=h',gens:=g',drawn:=d',toks:=t' }:=by
 have neL:∀b o,X.s₀.heap.get? b=some o->b≠X.env.locals:=λb o e=>Nat.ne_of_lt (Nat.lt_of_lt_of_le (Heap.lt_size e) I.ok.above)
 have neC:∀b o,X.s₀.heap.get? b=some o->b ∉ X.ex->b ∉ ch:=λb o e hx hb=>by
  rcases (hch b hb).1 with z | z
  ·exact hx z
  ·exact absurd (Nat.lt_of_lt_of_le (Heap.lt_size e) z) (Nat.lt_irrefl _)
 have cellK:∀x c,X.env.cells.lookup x=some c->∀v,s.heap.IsCell c v->h'.IsCell c v:=λx c e v ⟨o,ho,hd⟩=>by
  have nch:c ∉ ch:=λz=>(hch c z).2.2.1 x c e rfl
  by_cases hc:c∈X.fs
  ·obtain⟨sl,q⟩:=slot c o (I.cne x c e) hc nch ho (I.freeC x c e)
   exact⟨_,q,hd⟩
  ·exact⟨o,keep c o (I.cne x c e) hc nch ho (I.freeC x c e),hd⟩
 refine⟨I.ok,I.os,hg,⟨λb o e n hb hx=>?_,λb o e n hb hx=>?_,λb o e n hx=>?_,λb o e hx=>?_,λb xs e=>tups b xs (I.base.tups b xs e),λb o xs e=>frzs b o xs (I.base.frzs b o xs e),λb ps e=>?_⟩,?_,λx c e=>?_,?_,λx c e=>?_,λp hp=>?_,hok,I.len⟩
 ·exact keep b o (neL b o e) hb (neC b o e hx) (I.base.keep b o e n hb hx) (I.base.free b o e n hx)
 ·obtain⟨sl,e1⟩:=I.base.slot b o e n hb hx
  obtain⟨sl',e2⟩:=slot b _ (neL b o e) hb (neC b o e hx) e1 (I.base.free b o e n hx)
  exact⟨sl',e2⟩
 ·obtain⟨o',e1⟩:=I.base.there b o e hx
  exact free b o' (neC b o e hx) e1 (I.base.free b o e n hx)
 ·obtain⟨o',e1⟩:=I.base.there b o e hx
  exact there b o' (neC b o e hx) e1
 ·obtain⟨m1,e1⟩:=I.base.tbls b ps e
  obtain⟨m2,e2⟩:=tbls b _ e1
  exact⟨m1++m2,by rw[e2,Array.append_assoc]⟩
 ·obtain⟨m,hn,hl⟩:=I.loc
  refine⟨m,ns m hn,λi x v e1 e2 e3=>?_⟩
  obtain⟨u,r,l⟩:=hl i x v e1 e2 e3
  refine⟨u,r,?_⟩
  rcases l with l | ⟨k,c,e,z⟩
  ·exact .inl l
  ·exact .inr ⟨k,c,e,cellK x c e _ z⟩
 ·obtain⟨v,z⟩:=I.cell x c e
  exact⟨v,cellK x c e v z⟩
 ·obtain⟨m,⟨o,_,_,ho,_⟩,_⟩:=I.loc
  exact free _ o (λz=>(hch _ z).2.1 rfl) ho I.free
 ·obtain⟨v,o,ho,hd⟩:=I.cell x c e
  exact free c o (λz=>(hch c z).2.2.1 x c e rfl) ho (I.freeC x c e)
 ·obtain⟨e,n,ne,nf,d⟩:=I.pin p hp
  have nch:p.1 ∉ ch:=λz=>(hch p.1 z).2.2.2 p hp rfl
  exact⟨keep p.1 p.2 ne nf nch e n,free p.1 p.2 nch e n,ne,nf,d⟩
theorem Inv.un {t':Nat} (I:Inv X pins σ H s) (u:Un X.fs [] H H' s.heap h') (hok:HOk X.prog X.w H' h'):Inv X pins σ H' { s with heap:=h',toks:=t' }:=by
 obtain⟨m,⟨o,es,ep,ho,r⟩,_⟩:=id I.loc
 obtain⟨sl,hL⟩:=u.any ho I.free (by simp)
 exact I.step (g':=s.gens) (d':=s.drawn) (ch:=[]) (λ_ z=>nomatch z) (λb o _ hb _ e n=>u.keep b o e n hb (by simp)) (λb o _ hb _ e n=>u.slot b o e n hb (by simp)) (λb o _ e n=>u.free b o e n (by simp)) (λb o _ e=>u.there b o e (by simp)) u.tups u.frzs u.tbls (λm' hm=>by
  obtain⟨o',es',ep',ho',r'⟩:=hm
  rw[ho] at ho';cases ho'
  exact⟨_,es',ep',hL,r'⟩) hok I.bare
theorem Inv.call {g':Array GenState} {t':Nat} {d':Drawn} {ch:List Addr} (I:Inv X pins σ H s) (u:Un (frs X.stack) ch H H' s.heap h') (hok:HOk X.prog X.w H' h') (hg:AllBare g')
  (hch:∀b∈ch,(b∈X.ex\/X.s₀.heap.objs.size<=b)/\b≠X.env.locals/\(∀x c,X.env.cells.lookup x=some c->c≠b)/\∀p∈X.pn++pins,p.1≠b) :
  Inv X pins σ H' { s with heap:=h',gens:=g',drawn:=d',toks:=t' }:=by
 obtain⟨m,⟨o,es,ep,ho,r⟩,_⟩:=id I.loc
 obtain⟨sl,hL⟩:=u.any ho I.free λz=>(hch _ z).2.1 rfl
 exact I.step (ch:=ch) hch (λb o hL hb hc e n=>u.keep b o e n (λz=>(List.mem_cons.mp (I.stkSub b z)).elim hL hb) hc) (λb o _ _ hc e n=>u.any e n hc) (λb o hc e n=>u.free b o e n hc) (λb o hc e=>u.there b o e hc) u.tups u.frzs u.tbls (λm' hm=>by
  obtain⟨o',es',ep',ho',r'⟩:=hm
  rw[ho] at ho';cases ho'
  exact⟨_,es',ep',hL,r'⟩) hok hg
theorem Inv.turned {t':Nat} {it:Addr} (I:Inv X pins σ H s) (k:∀b o,b≠it->s.heap.get? b=some o->h'.get? b=some o) (hn:H it=none) (hL:it≠X.env.locals)
  (h1:it∈X.ex\/X.s₀.heap.objs.size<=it) (h2:∀x c,X.env.cells.lookup x=some c->c≠it) (h3:∀p∈X.pn++pins,p.1≠it):Inv X pins σ H { s with heap:=h',toks:=t' }:=by
 have nit:∀b u,H b=some u->b≠it:=λb u e z=>by rw[z,hn] at e;cases e
 refine I.step (g':=s.gens) (d':=s.drawn) (ch:=[it]) (λb hb=>?_) (λb o _ _ hc e _=>k b o (λz=>hc (by simp[z])) e) (λb o _ _ hc e _=>⟨o.slots,k b o (λz=>hc (by simp[z])) e⟩) (λ_ _ _ _ n=>n)
  (λb o hc e=>⟨o,k b o (λz=>hc (by simp[z])) e⟩) (λ_ _ e=>e) (λ_ _ _ e=>e) (λb ps e=>⟨#[],by rw[e];simp⟩) (λm hm=>?_) (λb u e=>?_) I.bare
 ·have e:b=it:=by simpa using hb
  subst e
  exact⟨h1,hL,h2,h3⟩
 ·obtain⟨o,es,ep,ho,r⟩:=hm
  exact⟨o,es,ep,k _ o (Ne.symm hL) ho,r⟩
 ·refine (I.hok b u e).stay (λc v hc q=>k c v ?_ q) (λ_ q=>q) λ_ _ q=>q
  rcases hc with z | z
  ·rw[z];exact nit b u e
  ·exact nit c _ z
theorem Inv.tok (I:Inv X pins σ H s) (t:Nat):Inv X pins σ H { s with toks:=t }:=I.un (h':=s.heap) (t':=t) Un.refl I.hok
theorem Inv.kept {t':Nat} (I:Inv X pins σ H s) (k:∀b u,s.heap.get? b=some u->h'.get? b=some u):Inv X pins σ H { s with heap:=h',toks:=t' }:=I.un (Un.kept k) (I.hok.kept k)
theorem Inv.laid {a:Addr} {o:HO} {t':Nat} (I:Inv X pins σ H s) (k:∀b u,s.heap.get? b=some u->h'.get? b=some u) (hp:s.heap.objs.size<=a) (new:ObjOk X.prog X.w (upd H a o) h' a o) :
  Inv X pins σ (upd H a o) { s with heap:=h',toks:=t' }:=I.un (Un.laid k hp (I.hok.fresh hp)) (I.hok.laid k hp new)
theorem Inv.write {x e:Addr} {o:HO} {t':Nat} (I:Inv X pins σ H s) (mu:Mut (H x)) (he:e=x\/H e=some (.own x)) (k:∀b u,b≠e->s.heap.get? b=some u->h'.get? b=some u) (heo:∃u,h'.get? e=some u)
  (new:ObjOk X.prog X.w (upd H x o) h' x o):Inv X pins σ (upd H x o) { s with heap:=h',toks:=t' }:=I.un (Un.write mu he k heo) (I.hok.write mu he k heo new)
theorem Inv.pins_of {pins':List (Addr × Obj)} (I:Inv X pins σ H s) (h:∀p∈pins',s.heap.get? p.1=some p.2/\H p.1=none/\p.1≠X.env.locals/\p.1 ∉ X.fs/\∀v,p.2.data≠.cell v):Inv X pins' σ H s :=
 ⟨I.ok,I.os,I.bare,I.base,I.loc,I.cell,I.free,I.freeC,λp hp=>(List.mem_append.mp hp).elim (λz=>I.pin p (List.mem_append_left _ z)) (h p),I.hok,I.len⟩
theorem tG {N:List Str} (hN:N.Nodup) {i j:Nat} {x:Str} (a:N[i]? = some x) (b:N[j]? = some x):i=j:=by
 obtain⟨h1,e1⟩:=List.getElem?_eq_some_iff.mp a
 obtain⟨h2,e2⟩:=List.getElem?_eq_some_iff.mp b
 exact (List.getElem_inj hN).mp (e1.trans e2.symm)
theorem qI {M:Model} {A:Around} {E:Value->Shared->Prop} {i:Nat} {x:Str} {v:V} {u:Value} {Q:Unit->Shared->Prop} (I:Inv X pins σ H s) (hN:X.N.Nodup) (hi:X.N[i]? = some x) (hx:Loc X.env.scope x) (r:RelV v u)
  (h:∀s',Inv X pins (σ.set i (some v)) H s'->(∃a,Heap.SameBut a s.heap s'.heap/\(a=X.env.locals\/X.env.cells.lookup x=some a))->Q () s') (hf:X.fn x=true\/X.env.scope.names.lookup x=some .local:=by walk_at "loc"):wpAny M A (storeName X.env x u) Q E s:=by
 obtain⟨m,hn,hl⟩:=id I.loc
 have hcls:(X.env.scope.kind == .class || (X.env.scope.kind == .module && X.env.locals != X.env.globals))=false:=by rw[I.ok.kind];rfl
 have hiσ:i<σ.length:=by rw[I.len];exact (List.getElem?_eq_some_iff.mp hi).1
 have cne:=I.cne
 have tracked:∀{a:Addr} {h':Heap},(∃o,s.heap.get? a=some o/\H a=none)->Heap.SameBut a s.heap h'->HOk X.prog X.w H h':=λ{a h'} ha hs b ob e=>by
  obtain⟨_,_,hfree⟩:=ha
  refine (I.hok b ob e).stay (λc w' hc q=>(hs.2 c ?_).trans q) (λ_ q=>q) λ_ _ q=>q
  rintro rfl
  rcases hc with rfl | hc
  ·rw[hfree] at e;cases e
  ·rw[hfree] at hc;cases hc
 rcases hx with hk | hk
 ·refine wpAny_storeName_local hk hn (λh' hn' hs=>?_) hcls
  obtain⟨oL,_,_,hoL,_⟩:=id hn
  refine h _ ⟨I.ok,I.os,I.bare,⟨λb o e n hb hx=>?_,λb o e n hb hx=>?_,I.base.free,λb o e hx=>?_,I.base.tups,I.base.frzs,I.base.tbls⟩,⟨_,hn',λj y v' e1 e2 e3=>?_⟩,λy c e=>?_,I.free,I.freeC,λp hp=>?_,tracked ⟨oL,hoL,I.free⟩ hs,by simpa using I.len⟩ ⟨_,hs,.inl rfl⟩
  ·exact (hs.2 b (Nat.ne_of_lt (Nat.lt_of_lt_of_le (Heap.lt_size e) I.ok.above))).trans (I.base.keep b o e n hb hx)
  ·obtain⟨sl,e1⟩:=I.base.slot b o e n hb hx
   exact⟨sl,(hs.2 b (Nat.ne_of_lt (Nat.lt_of_lt_of_le (Heap.lt_size e) I.ok.above))).trans e1⟩
  ·obtain⟨o',e1⟩:=I.base.there b o e hx
   exact⟨o',(hs.2 b (Nat.ne_of_lt (Nat.lt_of_lt_of_le (Heap.lt_size e) I.ok.above))).trans e1⟩
  ·by_cases hj:j=i
   ·subst hj
    rw[hi] at e1;cases e1
    rw[List.getElem?_set_self hiσ] at e2
    cases e2
    exact⟨u,r,.inl ⟨hk,by simp⟩⟩
   ·rw[List.getElem?_set_ne (Ne.symm hj)] at e2
    obtain⟨u',r',q⟩:=hl j y v' e1 e2 e3
    refine⟨u',r',?_⟩
    rcases q with ⟨k,e⟩ | ⟨k,c,e,z⟩
    ·refine .inl ⟨k,?_⟩
     have:y≠x:=λe=>hj (tG hN e1 (e ▸ hi))
     simp[this,e]
    ·exact .inr ⟨k,c,e,z.sameBut hs (cne y c e)⟩
  ·obtain⟨w',z⟩:=I.cell y c e
   exact⟨w',z.sameBut hs (cne y c e)⟩
  ·obtain⟨e,n,ne,nf,d⟩:=I.pin p hp
   exact⟨(hs.2 p.1 ne).trans e,n,ne,nf,d⟩
 ·have hfn:X.fn x=true:=by
   rcases hf with z | z
   ·exact z
   ·rw[z] at hk;cases hk
  obtain⟨c,hc⟩:=I.ok.has x (.inl hk)
  obtain⟨w',z⟩:=I.cell x c hc
  refine wpAny_storeName_cell I.ok.kind hk hc z (λh' hc' hs=>?_)
  obtain⟨oc,hoc,hocd⟩:=id z
  refine h { s with heap:=h' } ⟨I.ok,I.os,I.bare,⟨λb o e n hb hx=>?_,λb o e n hb hx=>?_,I.base.free,λb o e hx=>?_,I.base.tups,I.base.frzs,I.base.tbls⟩,⟨m,hn.sameBut hs (Ne.symm (cne x c hc)),λj y v' e1 e2 e3=>?_⟩,λy c' e=>?_,I.free,I.freeC,λp hp=>?_,tracked ⟨oc,hoc,I.freeC x c hc⟩ hs,by simpa using I.len⟩ ⟨c,hs,.inr hc⟩
  ·exact (hs.2 b (Nat.ne_of_lt (Nat.lt_of_lt_of_le (Heap.lt_size e) (I.ok.cab x c hfn hc)))).trans (I.base.keep b o e n hb hx)
  ·obtain⟨sl,e1⟩:=I.base.slot b o e n hb hx
   exact⟨sl,(hs.2 b (Nat.ne_of_lt (Nat.lt_of_lt_of_le (Heap.lt_size e) (I.ok.cab x c hfn hc)))).trans e1⟩
  ·obtain⟨o',e1⟩:=I.base.there b o e hx
   exact⟨o',(hs.2 b (Nat.ne_of_lt (Nat.lt_of_lt_of_le (Heap.lt_size e) (I.ok.cab x c hfn hc)))).trans e1⟩
  ·by_cases hj:j=i
   ·subst hj
    rw[hi] at e1;cases e1
    rw[List.getElem?_set_self hiσ] at e2
    cases e2
    exact⟨u,r,.inr ⟨.inl hk,c,hc,hc'⟩⟩
   ·rw[List.getElem?_set_ne (Ne.symm hj)] at e2
    obtain⟨u',r',q⟩:=hl j y v' e1 e2 e3
    refine⟨u',r',?_⟩
    rcases q with q | ⟨k,c',e,z'⟩
    ·exact .inl q
    ·refine .inr ⟨k,c',e,z'.sameBut hs ?_⟩
     rintro rfl
     exact hj (tG hN e1 (I.ok.inj _ _ _ e hc ▸ hi))
  ·by_cases hcc:c'=c
   ·subst hcc;exact⟨_,hc'⟩
   ·obtain⟨w2,z2⟩:=I.cell y c' e
    exact⟨w2,z2.sameBut hs hcc⟩
  ·obtain⟨e,n,ne,nf,d⟩:=I.pin p hp
   refine⟨(hs.2 p.1 ?_).trans e,n,ne,nf,d⟩
   intro q
   rw[q,hoc] at e
   have q':oc=p.2:=Option.some.inj e
   exact d w' (by rw[<-q'];exact hocd)
theorem kS {M:Model} {A:Around} {E:Value->Shared->Prop} {i:Nat} {x:Str} {v:V} {u:Value} {Q:Unit->Shared->Prop} (I:Inv X pins σ H s) (hN:X.N.Nodup) (hi:X.N[i]? = some x) (hx:Loc X.env.scope x) (r:RelV v u)
  (h:∀s',Inv X pins (σ.set i (some v)) H s'->Q () s') (hf:X.fn x=true\/X.env.scope.names.lookup x=some .local:=by walk_at "loc"):wpAny M A (storeName X.env x u) Q E s :=
 qI I hN hi hx r (λs' I' _=>h s' I') hf
theorem Inv.call' {s':Shared} {ch:List Addr} (I:Inv X pins σ H s) (ho:s'.os=s.os) (u:Un (frs X.stack) ch H H' s.heap s'.heap) (hok:HOk X.prog X.w H' s'.heap) (hg:AllBare s'.gens)
  (hch:∀b∈ch,(b∈X.ex\/X.s₀.heap.objs.size<=b)/\b≠X.env.locals/\(∀x c,X.env.cells.lookup x=some c->c≠b)/\∀p∈X.pn++pins,p.1≠b):Inv X pins σ H' s':=by
 obtain⟨h',g',d',t',o'⟩:=s'
 have e:o'=s.os:=ho
 subst e
 exact I.call (g':=g') (t':=t') (d':=d') u hok hg hch
end
noncomputable abbrev XK:=Value->Option Addr->Hp->Prop
noncomputable abbrev St:=List (Option V)
noncomputable abbrev VK:=V->Hp->Prop
noncomputable abbrev TE:=St->Hp->VK->Prop
noncomputable abbrev TT:=St->Hp->(Bool->Hp->Prop)->Prop
noncomputable abbrev TA:=St->Hp->(List V->Hp->Prop)->Prop
structure Ends where
 nx:St->Hp->Prop
 rt:VK
 bk:St->Hp->Prop:=λ_ _=>False
 ct:St->Hp->Prop:=λ_ _=>False
noncomputable abbrev TS:=Ends->St->Hp->Prop
noncomputable def EP (X:Cx) (pins:List (Addr × Obj)) (σ:St) (Q:VK) (u:Value) (s':Shared):Prop:=∃v H',Inv X pins σ H' s'/\RelV v u/\Q v H'
noncomputable def TP (X:Cx) (pins:List (Addr × Obj)) (σ:St) (Q:Bool->Hp->Prop) (b:Bool) (s':Shared):Prop:=∃H',Inv X pins σ H' s'/\Q b H'
noncomputable def AP (X:Cx) (pins:List (Addr × Obj)) (σ:St) (Q:List V->Hp->Prop) (us:List Value) (s':Shared):Prop:=∃vs H',Inv X pins σ H' s'/\Vals vs us/\Q vs H'
noncomputable def SP (X:Cx) (pins:List (Addr × Obj)) (D:Ends) (f:Flow) (s':Shared):Prop :=
 match f with
 | .next=>∃σ' H',Inv X pins σ' H' s'/\D.nx σ' H'
 | .brk=>∃σ' H',Inv X pins σ' H' s'/\D.bk σ' H'
 | .cont=>∃σ' H',Inv X pins σ' H' s'/\D.ct σ' H'
 | .ret u=>∃v σ' H',Inv X pins σ' H' s'/\RelV v u/\D.rt v H'
noncomputable def PE (X:Cx) (e:Expr) (t:TE):Prop :=
 ∀(pins:List (Addr × Obj)) (s:Shared) (σ:St) (H:Hp) (Q:VK),Inv X pins σ H s->t σ H Q->wpAny (model X.prog X.w) X.A (eval e X.env) (EP X pins σ Q) X.xe s
noncomputable def PT (X:Cx) (e:Expr) (t:TT):Prop :=
 ∀(pins:List (Addr × Obj)) (s:Shared) (σ:St) (H:Hp) (Q:Bool->Hp->Prop),Inv X pins σ H s->t σ H Q->wpAny (model X.prog X.w) X.A (isTrue e X.env (eval e X.env)) (TP X pins σ Q) X.xe s
noncomputable def PW (X:Cx) (e:Expr) (t:TT):Prop :=
 ∀(whole:Sem Value) (pins:List (Addr × Obj)) (s:Shared) (σ:St) (H:Hp) (Q:Bool->Hp->Prop),Inv X pins σ H s->t σ H Q->wpAny (model X.prog X.w) X.A (isTrue e X.env whole) (TP X pins σ Q) X.xe s
theorem PW.pt {X:Cx} {e:Expr} {t:TT} (h:PW X e t):PT X e t:=h _
noncomputable def PA (X:Cx) (es:List Expr) (t:TA):Prop :=
 ∀(pos:Pos) (pins:List (Addr × Obj)) (s:Shared) (σ:St) (H:Hp) (Q:List V->Hp->Prop),Inv X pins σ H s->t σ H Q->wpAny (model X.prog X.w) X.A (spliced (backTo pos (starEach es X.env))) (AP X pins σ Q) X.xe s
noncomputable def PS (X:Cx) (st:Stmt) (t:TS):Prop :=
 ∀(pins:List (Addr × Obj)) (s:Shared) (σ:St) (H:Hp) (D:Ends),Inv X pins σ H s->t D σ H->wpAny (model X.prog X.w) X.A (exec st X.env) (SP X pins D) X.xe s
noncomputable def PSs (X:Cx) (st:List Stmt) (t:TS):Prop :=
 ∀(pins:List (Addr × Obj)) (s:Shared) (σ:St) (H:Hp) (D:Ends),Inv X pins σ H s->t D σ H->wpAny (model X.prog X.w) X.A (execs st X.env) (SP X pins D) X.xe s
theorem thn {α:Type} {t:Sem α} {Q Q':α->Shared->Prop} {M:Model} {A:Around} {E:Value->Shared->Prop} {s:Shared} (h:wpAny M A t Q E s) (hQ:∀a s,Q a s->Q' a s):wpAny M A t Q' E s:=wpAny_mono h hQ λ_ _ x=>x
end L2
namespace L2
open PySem PySem.Spec PyProof.Rows
section
variable {X:Cx}
noncomputable def IJ (i:Nat):TE:=λσ H Q=>∃v,σ[i]? = some (some v)/\Q v H
noncomputable def tC (v:V):TE:=λ_ H Q=>Q v H
theorem FH {i:Nat} {x:Str} {pos:Pos} (hN:X.N[i]? = some x) (hv:Vis X.env.scope x) (hd:(x == ("__debug__":Str))=false:=by decide) (hcd:(x == ("__classdict__":Str))=false:=by decide):PE X (.Name x pos) (IJ i):=by
 intro pins s σ H Q I h
 obtain⟨v,e,h⟩:=h
 obtain⟨m,hn,hl⟩:=I.loc
 obtain⟨u,r,l⟩:=hl i x v hN e hv
 have fin:EP X pins σ Q u s:=⟨v,H,I,r,h⟩
 rcases l with ⟨hk,hm⟩ | ⟨hk,c,hc,hcell⟩
 ·exact wpAny_Name (wpAny_loadName_local I.ok.kind hk hn hm fin) hd
 ·rcases hk with hk | hk
  ·exact wpAny_Name (wpAny_loadName_cell I.ok.kind hk hc hcell fin) hd
  ·exact wpAny_Name (wpAny_loadName_free I.ok.kind hk hc hcell fin hcd) hd
theorem FB {i j pos}:PE X (.Constant (.int i) j pos) (tC (.int i)):=λ_ _ _ H _ I h=>wpAny_Constant_int ⟨.int i,H,I.tok _,⟨_,rfl⟩,h⟩
theorem HJ {b j pos}:PE X (.Constant (.bool b) j pos) (tC (.bl b)):=λ_ _ _ H _ I h=>Constant_bool ⟨.bl b,H,I,rfl,h⟩
noncomputable def Gl (X:Cx) (x:Str):Prop:=X.env.kindOf x=some .globalImplicit
theorem BV {E:Value->Shared->Prop} {pins:List (Addr × Obj)} {s:Shared} {σ:St} {H:Hp} {x:Str} {u:Value} {pos:Pos} {Q:Value->Shared->Prop} (I:Inv X pins σ H s) (hg:Gl X x) (hm:X.mg x=some u) (h:Q u s)
  (hd:(x == ("__debug__":Str))=false:=by decide):wpAny (model X.prog X.w) X.A (eval (.Name x pos) X.env) Q E s :=
 Calls.Name_function_global I.ok.kind hg (Calls.loadGlobal_global (by rw[I.ok.glob];exact I.mod.glob.keeps I.bk) hm h) hd
theorem gX {E:Value->Shared->Prop} {pins:List (Addr × Obj)} {s:Shared} {σ:St} {H:Hp} {x:Str} {u:Value} {pos:Pos} {Q:Value->Shared->Prop} (I:Inv X pins σ H s) (hg:Gl X x) (hm:X.mg x=none) (hv:bootBuiltins x=some u) (h:Q u s)
  (hn:x≠"__name__":=by decide) (hd:(x == ("__debug__":Str))=false:=by decide):wpAny (model X.prog X.w) X.A (eval (.Name x pos) X.env) Q E s:=by
 obtain⟨mb,h1,h2⟩:=I.mod.blt
 exact Calls.Name_function_global I.ok.kind hg (Calls.loadGlobal_builtin (by rw[I.ok.glob];exact I.mod.glob.keeps I.bk) hm (by rw[I.ok.blt];exact h1.keeps I.bk) ((h2 x hn).trans hv) h) hd
theorem CB {x:Str} {v:V} {u:Value} {pos:Pos} (hg:Gl X x) (hm:X.mg x=none) (hv:bootBuiltins x=some u) (r:RelV v u) (hn:x≠"__name__":=by decide) (hd:(x == ("__debug__":Str))=false:=by decide):PE X (.Name x pos) (tC v) :=
 λ_ _ _ H _ I h=>gX I hg hm hv ⟨v,H,I,r,h⟩ hn hd
variable {a b:Expr} {ta tb:TE} {pos:Pos}
noncomputable def tB (t:TE):TT:=λσ H Q=>t σ H λx H1=>∃c,x = .bl c/\Q c H1
theorem FO {e:Expr} {t:TE} (h:PE X e t) (he:∀whole,isTrue e X.env whole=(do let v <-whole;standAt e.pos;holding [v] (truthy v)):=by intro _;rfl):PT X e (tB t):=by
 intro pins s σ H Q I hw
 refine isTrue_plain (thn (h pins s σ H _ I hw) λv s1 ⟨x,H1,I1,r1,q1⟩=>?_) (he _)
 obtain⟨d,rfl,q⟩:=q1
 cases r1
 exact wpAny_truthy_bool ⟨H1,I1,q⟩
variable {tA tB':TT} {rest:List Expr}
noncomputable def JC (t u:TT):TT:=λσ H Q=>t σ H λc H1=>if c=true then u σ H1 Q else Q false H1
noncomputable def tOr (t u:TT):TT:=λσ H Q=>t σ H λc H1=>if c=true then Q true H1 else u σ H1 Q
noncomputable def JH (t:TT):TT:=λσ H Q=>t σ H λc H1=>Q (!c) H1
theorem CL (ha:PT X a tA):PW X (.BoolOp .And [a] pos) tA:=by
 intro wh pins s σ H Q I h
 refine isTrue_and (thn (ha pins s σ H Q I h) λc s1 e=>?_)
 cases c with
 | true=>exact isTrue_and_nil e
 | false=>exact e
theorem FQ (ha:PT X a tA):PW X (.BoolOp .Or [a] pos) tA:=by
 intro wh pins s σ H Q I h
 refine isTrue_or (thn (ha pins s σ H Q I h) λc s1 e=>?_)
 cases c with
 | false=>exact isTrue_or_nil e
 | true=>exact e
theorem FP (ha:PT X a tA) (hb:PW X (.BoolOp .And (b::rest) pos) tB'):PW X (.BoolOp .And (a::b::rest) pos) (JC tA tB'):=by
 intro wh pins s σ H Q I h
 refine isTrue_and (thn (ha pins s σ H _ I h) λc s1 ⟨H1,I1,q1⟩=>?_)
 cases c with
 | true=>exact hb wh pins s1 σ H1 Q I1 q1
 | false=>exact⟨H1,I1,q1⟩
theorem HS (ha:PT X a tA) (hb:PW X (.BoolOp .Or (b::rest) pos) tB'):PW X (.BoolOp .Or (a::b::rest) pos) (tOr tA tB'):=by
 intro wh pins s σ H Q I h
 refine isTrue_or (thn (ha pins s σ H _ I h) λc s1 ⟨H1,I1,q1⟩=>?_)
 cases c with
 | true=>exact⟨H1,I1,q1⟩
 | false=>exact hb wh pins s1 σ H1 Q I1 q1
theorem FN (ha:PT X a tA):PT X (.UnaryOp .Not a pos) (JH tA):=by
 intro pins s σ H Q I h
 exact isTrue_not (ha pins s σ H (λc H1=>Q (!c) H1) I h)
noncomputable def IA (ta tb:TE):TE:=λσ H Q=>ta σ H λx H1=>∃c,x = .bl c/\if c=true then tb σ H1 Q else Q (.bl false) H1
noncomputable def IH (ta:TE):TE:=λσ H Q=>ta σ H λx H1=>∃c,x = .bl c/\Q (.bl (!c)) H1
theorem FF {op} {t:TE} (h:PE X a t):PE X (.BoolOp op [a] pos) t:=λpins s σ H Q I hw=>BoolOp_one (h pins s σ H Q I hw)
theorem FA (ha:PE X a ta) (hb:PE X (.BoolOp .And (b::rest) pos) tb):PE X (.BoolOp .And (a::b::rest) pos) (IA ta tb):=by
 intro pins s σ H Q I h
 refine BoolOp_and (thn (ha pins s σ H _ I h) λv s1 ⟨x,H1,I1,r1,q1⟩=>?_)
 obtain⟨c,rfl,q1⟩:=q1
 cases r1
 refine wpAny_truthy_bool ?_
 cases c with
 | true=>exact hb pins s1 σ H1 Q I1 q1
 | false=>exact⟨.bl false,H1,I1,rfl,q1⟩
theorem FE (ha:PE X a ta):PE X (.UnaryOp .Not a pos) (IH ta):=by
 intro pins s σ H Q I h
 refine UnaryOp_ (thn (ha pins s σ H _ I h) λv s1 ⟨x,H1,I1,r1,q1⟩=>?_)
 obtain⟨c,rfl,q1⟩:=q1
 cases r1
 exact not_of (wpAny_truthy_bool ⟨.bl (!c),H1,I1,rfl,q1⟩)
end
end L2
namespace L2
open PySem PySem.Spec PyProof.Rows
noncomputable def SqL (K:PySem.W.Frag) (H:Hp) (a:Addr) (xs:List V):Prop :=
 Rd H a (.lst xs) \/
  ∃(o:Obj) (its:Array Value) (n:Nat),K.lookup a=some o/\o.cls = .type "list"/\o.dict=none/\o.data = .seq its n/\its.size<=sizeLine/\Vals xs its.toList
noncomputable def SqT (K:PySem.W.Frag) (H:Hp) (a:Addr) (xs:List V):Prop :=
 Rd H a (.tup xs) \/
  ∃(o:Obj) (its:Array Value) (n:Nat),K.lookup a=some o/\o.cls = .type "tuple"/\o.data = .seq its n/\its.size<=sizeLine/\Vals xs its.toList
noncomputable def IL:Value->Option V
 | .none=>some .non
 | .bool b=>some (.bl b)
 | .int i _=>some (.int i)
 | .str x _=>some (.str x)
 | .bytes b _=>some (.byt b)
 | .float b _=>some (.flt b)
 | .ref a=>some (.ref a)
 | .type n=>some (.ty n)
 | _=>none
theorem RelV.abs {x:V} {u:Value} (r:RelV x u):IL u=some x:=by
 cases x with
 | non=>cases r;rfl
 | bl _=>cases r;rfl
 | int _=>obtain⟨t,rfl⟩:=r;rfl
 | str _=>obtain⟨t,rfl⟩:=r;rfl
 | byt _=>obtain⟨t,rfl⟩:=r;rfl
 | flt _=>obtain⟨t,rfl⟩:=r;rfl
 | ref _=>cases r;rfl
 | ty _=>cases r;rfl
theorem RelV.inj {x y:V} {u:Value} (r:RelV x u) (q:RelV y u):x=y:=Option.some.inj (r.abs.symm.trans q.abs)
theorem Vals.inj:∀{xs ys:List V} {us:List Value},Vals xs us->Vals ys us->xs=ys
 | _,_,_,.nil,.nil=>rfl
 | _,_,_,.cons r t,.cons r' t'=>by rw[r.inj r',Vals.inj t t']
section
variable {X:Cx} {pins:List (Addr × Obj)} {σ:St} {H:Hp} {s:Shared} {a:Addr} {xs ys:List V}
theorem SqL.of {K:PySem.W.Frag} (h:H a=some (.lst xs)):SqL K H a xs:=.inl (.inl h)
theorem SqT.of {K:PySem.W.Frag} (h:H a=some (.tup xs)):SqT K H a xs:=.inl (.inl h)
theorem Inv.list (I:Inv X pins σ H s) (h:SqL X.K H a xs):∃its:List Value,Vals xs its/\PlainL s.heap a its.toArray/\xs.length<=sizeLine:=by
 rcases h with h | ⟨o,its,n,hk,hc,hd,hs,hz,r⟩
 ·obtain⟨z,its,n,r,e⟩:=h.ok I.hok
  exact⟨its,r,⟨_,n,e,rfl,rfl,rfl⟩,z⟩
 ·refine⟨its.toList,r,⟨o,n,I.kIn a o hk,hc,hd,by simpa using hs⟩,?_⟩
  have e:=r.length
  simp only[Array.length_toList] at e
  omega
theorem Inv.tuple (I:Inv X pins σ H s) (h:SqT X.K H a xs):∃its:List Value,Vals xs its/\IsTup s.heap a its.toArray/\xs.length<=sizeLine:=by
 rcases h with h | ⟨o,its,n,hk,hc,hs,hz,r⟩
 ·obtain⟨z,its,r,p⟩:=h.ok I.hok
  exact⟨its,r,p,z⟩
 ·refine⟨its.toList,r,⟨o,I.kIn a o hk,hc,n,by simpa using hs⟩,?_⟩
  have e:=r.length
  simp only[Array.length_toList] at e
  omega
theorem Inv.list_inj (I:Inv X pins σ H s) (h:SqL X.K H a xs) (h':SqL X.K H a ys):xs=ys:=by
 obtain⟨its,r,⟨o,n,e,_,_,d⟩,_⟩:=I.list h
 obtain⟨its',r',⟨o',n',e',_,_,d'⟩,_⟩:=I.list h'
 rw[e] at e';cases e'
 rw[d] at d'
 injection d' with d1 _
 have:its=its':=by simpa using congrArg Array.toList d1
 subst this
 exact r.inj r'
end
noncomputable abbrev Cx.wish (X:Cx) (E:Value->Shared->Prop):Cx:={ X with xe:=E }
noncomputable abbrev Cx.nox (X:Cx):Cx:=X.wish λ_ _=>False
theorem Cx.Ok.wish {X:Cx} (ok:X.Ok) (E:Value->Shared->Prop):(X.wish E).Ok :=
 ⟨ok.mod,ok.kind,ok.glob,ok.blt,ok.above,ok.inj,ok.has,ok.cab,ok.hd,ok.frames,ok.stk,ok.exf,ok.bs,ok.bsz,ok.noex,ok.exfs,ok.funs,ok.frf⟩
theorem Cx.Ok.unwish {X:Cx} {E:Value->Shared->Prop} (ok:(X.wish E).Ok):X.Ok :=
 ⟨ok.mod,ok.kind,ok.glob,ok.blt,ok.above,ok.inj,ok.has,ok.cab,ok.hd,ok.frames,ok.stk,ok.exf,ok.bs,ok.bsz,ok.noex,ok.exfs,ok.funs,ok.frf⟩
section
variable {X:Cx} {pins:List (Addr × Obj)} {σ:St} {H:Hp} {s:Shared} {E:Value->Shared->Prop}
theorem Inv.wish (I:Inv X pins σ H s) (E:Value->Shared->Prop):Inv (X.wish E) pins σ H s:=⟨I.ok.wish E,I.os,I.bare,I.base,I.loc,I.cell,I.free,I.freeC,I.pin,I.hok,I.len⟩
theorem Inv.unwish (I:Inv (X.wish E) pins σ H s):Inv X pins σ H s:=⟨I.ok.unwish,I.os,I.bare,I.base,I.loc,I.cell,I.free,I.freeC,I.pin,I.hok,I.len⟩
theorem SP.unwish {D:Ends} {f:Flow} {s':Shared} (h:SP (X.wish E) pins D f s'):SP X pins D f s':=by
 cases f with
 | next=>obtain⟨σ',H',I,q⟩:=h;exact⟨σ',H',I.unwish,q⟩
 | brk=>obtain⟨σ',H',I,q⟩:=h;exact⟨σ',H',I.unwish,q⟩
 | cont=>obtain⟨σ',H',I,q⟩:=h;exact⟨σ',H',I.unwish,q⟩
 | ret u=>obtain⟨v,σ',H',I,r,q⟩:=h;exact⟨v,σ',H',I.unwish,r,q⟩
theorem PE.nox {e:Expr} {t:TE} (h:PE X.nox e t):PE X e t:=λpins s σ H Q I hw =>
 wpAny_mono (h pins s σ H Q (I.wish _) hw) (λ_ _ ⟨v,H',I',r,q⟩=>⟨v,H',I'.unwish,r,q⟩) λ_ _ z=>False.elim z
theorem PT.nox {e:Expr} {t:TT} (h:PT X.nox e t):PT X e t:=λpins s σ H Q I hw =>
 wpAny_mono (h pins s σ H Q (I.wish _) hw) (λ_ _ ⟨H',I',q⟩=>⟨H',I'.unwish,q⟩) λ_ _ z=>False.elim z
theorem PSs.nox {st:List Stmt} {t:TS} (h:PSs X.nox st t):PSs X st t:=λpins s σ H D I hw =>
 wpAny_mono (h pins s σ H D (I.wish _) hw) (λ_ _ q=>q.unwish) λ_ _ z=>False.elim z
end
section
variable {X:Cx} {st:Stmt} {rest:List Stmt} {t u:TS} {e:Expr} {te:TE} {pos:Pos}
noncomputable def IG:TS:=λD σ H=>D.nx σ H
noncomputable def JK (t u:TS):TS:=λD σ H=>t { D with nx:=u D } σ H
theorem CJ:PSs X [] IG:=λ_ _ σ H _ I h=>wpAny_execs_nil ⟨σ,H,I,h⟩
theorem oG (h1:PS X st t) (h2:PSs X rest u):PSs X (st::rest) (JK t u):=by
 intro pins s σ H D I h
 refine wpAny_execs_cons (thn (h1 pins s σ H { D with nx:=u D } I h) λf s1 q=>?_)
 cases f with
 | next =>
  obtain⟨σ',H',I',q⟩:=q
  exact h2 pins s1 σ' H' D I' q
 | ret v=>exact q
 | brk=>exact q
 | cont=>exact q
theorem rM (h1:PS X st t):PSs X [st] t:=by
 intro pins s σ H D I h
 refine wpAny_execs_cons (thn (h1 pins s σ H D I h) λf s1 q=>?_)
 cases f with
 | next=>exact wpAny_execs_nil q
 | ret v=>exact q
 | brk=>exact q
 | cont=>exact q
theorem Inv.quiet {pins:List (Addr × Obj)} {σ:St} {H:Hp} {s:Shared} (I:Inv X pins σ H s):interactive X.env=false:=by simp[interactive,I.ok.kind]
noncomputable def IF (te:TE):TS:=λD σ H=>te σ H λ_ H1=>D.nx σ H1
theorem vW (he:PE X e te) (hs:swapsWith e none pos.line X.env=pure false:=by rfl):PS X (.Expr e pos) (IF te):=by
 intro pins s σ H D I h
 exact wpAny_Expr_any (thn (he pins s σ H _ I h) λv s1 ⟨x,H1,I1,r1,q1⟩=>⟨σ,H1,I1,q1⟩) I.quiet hs
noncomputable def JJ (te:TE):TS:=λD σ H=>te σ H D.rt
theorem AH (he:PE X e te):PS X (.Return (some e) pos) (JJ te):=by
 intro pins s σ H D I h
 exact wpAny_Return_some (thn (he pins s σ H _ I h) λv s1 ⟨x,H1,I1,r1,q1⟩=>⟨x,σ,H1,I1,r1,q1⟩)
noncomputable def JE (c:TT) (t u:TS):TS:=λD σ H=>c σ H λb H1=>if b=true then t D σ H1 else u D σ H1
theorem HP {c:Expr} {a b:List Stmt} {tc:TT} (hc:PT X c tc) (ha:PSs X a t) (hb:PSs X b u):PS X (.If c a b pos) (JE tc t u):=by
 intro pins s σ H D I h
 refine wpAny_If (thn (hc pins s σ H _ I h) λd s1 ⟨H1,I1,q1⟩=>?_)
 cases d with
 | true=>exact ha pins s1 σ H1 D I1 q1
 | false=>exact hb pins s1 σ H1 D I1 q1
noncomputable def FZ:TS:=λ_ _ _=>False
theorem AG:PS X st FZ:=λ_ _ _ _ _ _ h=>h.elim
end
noncomputable abbrev TG:=V->St->Hp->(St->Hp->Prop)->Prop
noncomputable abbrev TGs:=List V->St->Hp->(St->Hp->Prop)->Prop
noncomputable def PG (X:Cx) (target:Expr) (t:TG):Prop :=
 ∀(pins:List (Addr × Obj)) (s:Shared) (σ:St) (H:Hp) (v:V) (u:Value) (Q:St->Hp->Prop),Inv X pins σ H s->RelV v u->t v σ H Q ->
  wpAny (model X.prog X.w) X.A (assign target X.env u) (λ_ s'=>∃σ' H',Inv X pins σ' H' s'/\Q σ' H') X.xe s
noncomputable def PGs (X:Cx) (ts:List Expr) (t:TGs):Prop :=
 ∀(pins:List (Addr × Obj)) (s:Shared) (σ:St) (H:Hp) (vs:List V) (us:List Value) (Q:St->Hp->Prop),Inv X pins σ H s->Vals vs us->t vs σ H Q ->
  wpAny (model X.prog X.w) X.A (assignInOrder ((assignEach ts X.env).map (·.2)) us) (λ_ s'=>∃σ' H',Inv X pins σ' H' s'/\Q σ' H') X.xe s
section
variable {X:Cx} {pos:Pos}
noncomputable def DC (i:Nat):TG:=λv σ H Q=>Q (σ.set i (some v)) H
theorem CD {i:Nat} {x:Str} (hN:X.N.Nodup) (hi:X.N[i]? = some x) (hx:Loc X.env.scope x) (hf:X.fn x=true\/X.env.scope.names.lookup x=some .local:=by walk_at "loc"):PG X (.Name x pos) (DC i):=by
 intro pins s σ H v u Q I r h
 exact wpAny_assign_Name (kS I hN hi hx r (λs' I'=>⟨_,H,I',h⟩) hf)
noncomputable def IQ:TGs:=λvs σ H Q=>vs=[]/\Q σ H
noncomputable def GR (t:TG) (u:TGs):TGs:=λvs σ H Q=>∃v r,vs=v::r/\t v σ H λσ' H'=>u r σ' H' Q
theorem CF:PGs X [] IQ:=by
 intro pins s σ H vs us Q I r h
 obtain⟨e,h⟩:=h
 subst e
 cases r
 exact assignInOrder_nil ⟨σ,H,I,h⟩
theorem AF {e:Expr} {es:List Expr} {t:TG} {u:TGs} (h1:PG X e t) (h2:PGs X es u)
  (hs:(assignEach (e::es) X.env).map (·.2)=assign e X.env::(assignEach es X.env).map (·.2):=by rfl):PGs X (e::es) (GR t u):=by
 intro pins s σ H vs us Q I r h
 obtain⟨v,vr,e1,h⟩:=h
 subst e1
 cases r with
 | cons r rr =>
  rw[hs]
  refine assignInOrder_cons (thn (h1 pins s σ H _ _ _ I r h) λ_ s1 ⟨σ1,H1,I1,q1⟩=>?_)
  exact h2 pins s1 σ1 H1 _ _ Q I1 rr q1
noncomputable def IR (K:PySem.W.Frag) (n:Nat) (t:TGs):TG:=λv σ H Q=>∃a xs,v = .ref a/\SqT K H a xs/\xs.length=n/\t xs σ H Q
theorem FI {es:List Expr} {k:Nat} {t:TGs} {n:Nat} (hc:X.calm=true) (h:PGs X es t)
  (hn:(assignEach es X.env).length=n:=by rfl) (hst:(assignEach es X.env).findIdx? (·.1)=none:=by rfl):PG X (.Tuple es k pos) (IR X.K n t):=by
 intro pins s σ H v u Q I r hw
 obtain⟨a,xs,e1,hq,hl,hw⟩:=hw
 subst e1
 cases r
 obtain⟨its,rv,ht,hz⟩:=I.tuple hq
 refine assign_Tuple_tuple (I.ok.hd hc) ht (by simp[hn,<-hl,rv.length]) hst λh' hx=>?_
 have I1:Inv X pins σ H { s with heap:=h' }:=I.kept (t':=s.toks) λb o e=>hx b o (Nat.ne_of_lt (Heap.lt_size e)) e
 exact h pins _ σ H xs _ Q I1 (by simpa using rv) hw
noncomputable def IB (te:TE) (g:TG):TS:=λD σ H=>te σ H λx H1=>g x σ H1 D.nx
theorem FJ {tg e:Expr} {te:TE} {g:TG} (he:PE X e te) (hg:PG X tg g) (hs:swapsWithSole [tg] e pos.line X.env=pure false:=by rfl) (hw:swappedStores [tg] e X.env=pure none:=by rfl)
  (h1:(assignEach [tg] X.env).map (·.2)=[assign tg X.env]:=by rfl):PS X (.Assign [tg] e pos) (IB te g):=by
 intro pins s σ H D I h
 refine wpAny_Assign_stores (thn (he pins s σ H _ I h) λv s1 ⟨x,H1,I1,r1,q1⟩=>?_) hs hw
 rw[h1]
 exact thn (hg pins s1 σ H1 x v _ I1 r1 q1) λ_ s2 q=>q
theorem uR {i:Nat} {x:Str} {e:Expr} {te:TE} {pos':Pos} (hN:X.N.Nodup) (hi:X.N[i]? = some x) (hx:Loc X.env.scope x) (he:PE X e te) (hs:swapsWith e (some (.Name x pos')) pos.line X.env=pure false:=by rfl) (hf:X.fn x=true\/X.env.scope.names.lookup x=some .local:=by walk_at "loc") :
  PS X (.Assign [.Name x pos'] e pos) (IB te (DC i)):=by
 intro pins s σ H D I h
 refine wpAny_Assign_Name (thn (he pins s σ H _ I h) λv s1 ⟨y,H1,I1,r1,q1⟩=>?_) hs
 exact kS I1 hN hi hx r1 (λs2 I2=>⟨_,H1,I2,q1⟩) hf
noncomputable def JI (i j:Nat) (ta:TA):TS:=λD σ H=>ta σ H λvs H1=>∃v w,vs=[v,w]/\D.nx ((σ.set i (some v)).set j (some w)) H1
theorem FL {i j:Nat} {x y:Str} {a b:Expr} {ta:TA} {px py pt:Pos} {kt k2 pt2} (hc:X.calm=true) (hN:X.N.Nodup) (hi:X.N[i]? = some x) (hj:X.N[j]? = some y) (hij:i≠j)
  (hx:X.env.scope.names.lookup x=some .local) (hy:X.env.scope.names.lookup y=some .local) (ha:PA X [a,b] ta)
  (hw:swappedStores [.Tuple [.Name x px,.Name y py] kt pt] (.Tuple [a,b] k2 pt2) X.env=pure (some [x,y]))
  (hs:swapsWithSole [.Tuple [.Name x px,.Name y py] kt pt] (.Tuple [a,b] k2 pt2) pos.line X.env=pure false:=by rfl) :
  PS X (.Assign [.Tuple [.Name x px,.Name y py] kt pt] (.Tuple [a,b] k2 pt2) pos) (JI i j ta):=by
 intro pins s σ H D I h
 rw[exec_Assign_arm]
 refine wpAny_bind (wpAny_standAt ?_)
 rw[hs]
 refine wpAny_bind (wpAny_pure ?_)
 rw[if_neg (by decide)]
 refine wpAny_bind (Tuple_ (thn (ha _ pins s σ H _ I h) λus s1 ⟨vs,H1,I1,r1,q1⟩=>?_))
 obtain⟨v,w,e1,q1⟩:=q1
 subst e1
 obtain⟨u1,u2,rfl,rv,rw'⟩:∃u1 u2,us=[u1,u2]/\RelV v u1/\RelV w u2:=by
  cases r1 with
  | cons p q =>
   cases q with
   | cons p' q' =>
    cases q'
    exact⟨_,_,rfl,p,p'⟩
 refine wpAny_newObj_type ?_ (by show 2<=sizeLine;decide)
 have I2:Inv X pins σ H1 { s1 with heap:=s1.heap.push { cls:=.type "tuple",data:=.seq [u1,u2].toArray } }:=I1.kept (t':=s1.toks) λb o e=>Heap.get?_push_of_some _ e
 rw[hw]
 refine wpAny_bind (wpAny_pure ?_)
 show wpAny (model X.prog X.w) X.A (do rule "assign.swapped-stores";let items <-unpackItems (.ref s1.heap.objs.size) 2 none;assignInOrder [λv=>bindName X.env y v,λv=>bindName X.env x v] items.reverse;pure Flow.next) _ _ _
 refine wpAny_bind (wpAny_rule (wpAny_bind (unpackItems_tuple (items:=#[u1,u2]) (I.ok.hd hc) (IsTup.new s1.heap _) λh' hx'=>?_)))
 have I3:=I2.kept (h':=h') (t':=s1.toks) λb o e=>hx' b o (Nat.ne_of_lt (Heap.lt_size e)) e
 show wpAny _ _ (assignInOrder [λv=>bindName X.env y v,λv=>bindName X.env x v] [u2,u1] >>= λ_=>pure Flow.next) _ _ _
 refine wpAny_bind (assignInOrder_cons (wpAny_bindName (kS I3 hN hj (.inl hy) rw' (λs2 I4=>?_) (.inr hy))))
 refine assignInOrder_cons (wpAny_bindName (kS I4 hN hi (.inl hx) rv (λs3 I5=>assignInOrder_nil (wpAny_pure ?_)) (.inr hx)))
 rw[List.set_comm _ _ (Ne.symm hij)] at I5
 exact⟨_,H1,I5,q1⟩
end
section
variable {X:Cx} {pos:Pos}
noncomputable def GA (c:TT) (tb:TS):TS:=λD σ H=>∃W:Nat->St->Hp->Prop,(∃m,W m σ H)/\∀m σ H,W m σ H ->
 c σ H λb H1=>if b=true then ∃N:St->Hp->Prop,(∀σ' H',N σ' H'->∃m',m'<m/\W m' σ' H')/\tb { D with nx:=N,ct:=N,bk:=D.nx } σ H1 else D.nx σ H1
theorem AI {c:Expr} {body:List Stmt} {tc:TT} {tb:TS} (hp:PassesOwn (model X.prog X.w) X.A X.env X.xe) (hc:PT X c tc) (hb:PSs X body tb):PS X (.While c body [] pos) (GA tc tb):=by
 intro pins s σ H D I h
 obtain⟨W,⟨m0,w0⟩,turn⟩:=h
 refine wpAny_While (codeAny_whileLoop (λn s'=>∃σ' H',Inv X pins σ' H' s'/\W n σ' H') ?_ m0 ⟨σ,H,I,w0⟩)
 rintro n s1 ⟨σ1,H1,I1,w1⟩
 refine wpAny_passesOwn hp (thn (hc pins s1 σ1 H1 _ I1 (turn n σ1 H1 w1)) λb s2 ⟨H2,I2,q2⟩=>?_)
 cases b with
 | true =>
  obtain⟨N,hN,q2⟩:=q2
  rw[if_pos rfl]
  refine wpAny_passesOwn hp (thn (hb pins s2 σ1 H2 _ I2 q2) λf s3 q3=>?_)
  cases f with
  | next =>
   obtain⟨σ3,H3,I3,n3⟩:=q3
   obtain⟨m',hm,w3⟩:=hN σ3 H3 n3
   exact⟨m',hm,σ3,H3,I3,w3⟩
  | cont =>
   obtain⟨σ3,H3,I3,n3⟩:=q3
   obtain⟨m',hm,w3⟩:=hN σ3 H3 n3
   exact⟨m',hm,σ3,H3,I3,w3⟩
  | brk=>exact q3
  | ret v=>exact q3
 | false =>
  rw[if_neg Bool.false_ne_true]
  exact wpAny_execs_nil ⟨σ1,H2,I2,q2⟩
end
structure It where
 go:Nat->Hp->Prop
 yld:Nat->Hp->V->Hp->Prop
 stop:Nat->Hp->Prop
noncomputable def oP (X:Cx) (pins:List (Addr × Obj)) (H:Hp) (b:Addr):Prop :=
 H b=none/\b≠X.env.locals/\b ∉ X.fs/\(b∈X.ex\/X.s₀.heap.objs.size<=b)/\(∀x c,X.env.cells.lookup x=some c->c≠b)/\∀p∈X.pn++pins,p.1≠b
theorem Inv.fpOk {X:Cx} {pins:List (Addr × Obj)} {σ:St} {H H':Hp} {s:Shared} {b:Addr} (I:Inv X pins σ H s) (hb:s.heap.objs.size<=b) (hn:H' b=none):oP X pins H' b:=by
 refine⟨hn,Nat.ne_of_gt (Nat.lt_of_lt_of_le I.lt hb),I.nofs hb,.inr (Nat.le_trans I.sz hb),λx c e z=>?_,λp hp z=>?_⟩
 ·obtain⟨v,q⟩:=I.cell x c e
  exact absurd (Nat.lt_of_lt_of_le q.lt (by rw[z];exact hb)) (Nat.lt_irrefl _)
 ·exact absurd (Nat.lt_of_lt_of_le (Heap.lt_size (I.pin p hp).1) (by rw[z];exact hb)) (Nat.lt_irrefl _)
structure Turn (P:Program) (w:World) (K:PySem.W.Frag) (tg:Expr) (J:It) (fp:List Addr) (it:Addr) (tn:Nat->Heap->Prop):Prop where
 mem:it∈fp
 obj:∀i h,tn i h->∀b∈fp,∃o,h.get? b=some o/\∀v,o.data≠.cell v
 keep:∀i h h',tn i h->(∀b∈fp,∀o,h.get? b=some o->h'.get? b=some o)->tn i h'
 item:∀(X:Cx),X.prog=P->X.w=w->X.K=K->X.calm=true->∀(i:Nat) (pins:List (Addr × Obj)) (s:Shared) (σ:St) (H:Hp) (E:Value->Shared->Prop),Inv X pins σ H s->(∀b∈fp,oP X pins H b)->tn i s.heap->J.go i H ->
  wpAny (model P w) X.A (pyNext (.ref it)) (λr s1=>∃u,r=some u /\
   wpAny (model P w) X.A (letOwnedTupleGo tg (.ref it) u) (λ_ s2=>∃x H',Inv X pins σ H' s2/\RelV x u/\J.yld i H x H'/\tn (i+1) s2.heap/\∀b∈fp,H' b=none) E s1) E s
 done:∀(X:Cx),X.prog=P->X.w=w->X.K=K->X.calm=true->∀(i:Nat) (pins:List (Addr × Obj)) (s:Shared) (σ:St) (H:Hp) (E:Value->Shared->Prop),Inv X pins σ H s->(∀b∈fp,oP X pins H b)->tn i s.heap->J.stop i H ->
  wpAny (model P w) X.A (pyNext (.ref it)) (λr s1=>r=none/\Inv X pins σ H s1) E s
 self:∀(A:Around) (i:Nat) (s:Shared) (Q:Value->Shared->Prop) (E:Value->Shared->Prop),tn i s.heap->Q (.ref it) s->wpAny (model P w) A (pyIter (.ref it)) Q E s
noncomputable abbrev TI:=St->Hp->(It->Hp->Prop)->Prop
noncomputable def PIE (X:Cx) (pins:List (Addr × Obj)) (σ:St) (tg:Expr) (R:It->Hp->Prop) (itv:Value) (s2:Shared):Prop :=
 ∃(it:Addr) (fp:List Addr) (tn:Nat->Heap->Prop) (J:It) (H':Hp),itv = .ref it/\Inv X pins σ H' s2/\Turn X.prog X.w X.K tg J fp it tn/\tn 0 s2.heap/\(∀b∈fp,oP X pins H' b)/\R J H'
noncomputable def PI (X:Cx) (tg iter:Expr) (wi:TI):Prop :=
 ∀(pins:List (Addr × Obj)) (s:Shared) (σ:St) (H:Hp) (R:It->Hp->Prop),Inv X pins σ H s->wi σ H R ->
  wpAny (model X.prog X.w) X.A (eval iter X.env) (λv s1=>wpAny (model X.prog X.w) X.A (pyIter v) (PIE X pins σ tg R) X.xe s1) X.xe s
theorem vR {M:Model} {A:Around} {E:Value->Shared->Prop} {s:Shared} {tg:Expr} {it:Addr} {u:Value} {o:Obj} {n:String} {vs:Array Value} {Q:Unit->Shared->Prop} (ho:s.heap.get? it=some o) (hc:o.cls = .type n) (hd:o.data = .fields vs)
  (hn:["enumerate","zip","dict_itemiterator","dict_reverseitemiterator","odict_iterator","itertools.zip_longest","itertools.pairwise"].contains n=false) (hQ:Q () s):wpAny M A (letOwnedTupleGo tg (.ref it) u) Q E s:=by
 unfold letOwnedTupleGo
 cases tg <;> first
  | exact wpAny_pure hQ
  | (cases u <;> first
    | exact wpAny_pure hQ
    | (refine wpAny_bind (wpAny_load ho ?_);rw[hc,hd];show wpAny M A (if (["enumerate","zip","dict_itemiterator","dict_reverseitemiterator","odict_iterator","itertools.zip_longest","itertools.pairwise"].contains n && vs[0]? == some (rawInt _))=true then _ else _) Q E s;rw[if_neg (by intro h;rw[hn,Bool.false_and] at h;cases h)];exact wpAny_pure hQ))
noncomputable def Itl (K:PySem.W.Frag) (a:Addr):It :=
 ⟨λi H=>∃xs x,SqL K H a xs/\xs[i]? = some x,λi H x H'=>H'=H/\∀xs,SqL K H a xs->xs[i]? = some x,λi H=>∃xs,SqL K H a xs/\xs.length<=i⟩
noncomputable def Itr (lo:Int) (n:Nat):It:=⟨λi _=>i<n,λi H x H'=>H'=H/\x = .int (lo+i),λi _=>n<=i⟩
theorem yI {P:Program} {w:World} {K:PySem.W.Frag} {tg:Expr} (a it:Addr):Turn P w K tg (Itl K a) [it] it (λi h=>h.IsListIter it a i) where
 mem:=by simp
 obj:=λi h st b hb=>by
  have e:b=it:=by simpa using hb
  subst e
  obtain⟨o,e,c,d⟩:=st
  exact⟨o,e,λv z=>by rw[d] at z;cases z⟩
 keep:=λi h h' st k=>st.at λo e=>k it (by simp) o e
 item:=by
  intro X hP hw hK hc i pins s σ H E I hf st hg
  subst hP hw hK
  obtain⟨xs,x,hq,hx⟩:=hg
  obtain⟨its,rv,p,hz⟩:=I.list hq
  obtain⟨u,hu,ru⟩:=rv.get hx
  obtain⟨f0,f1,f2,f3,f4,f5⟩:=hf it (by simp)
  refine wpAny_pyNext_list_item st p.isList (x:=u) (by simpa using hu) λh' st' sb=>?_
  have I1:Inv X pins σ H { s with heap:=h' }:=I.turned (t':=s.toks) (λb o hb e=>(sb.2 b hb).trans e) f0 f1 f3 f4 f5
  obtain⟨o,e,c,d⟩:=id st'
  exact⟨u,rfl,vR (s:={ s with heap:=h' }) e c d (by decide) ⟨x,H,I1,ru,⟨rfl,λys hy=>by rw[I.list_inj hy hq];exact hx⟩,st',λb hb=>(hf b hb).1⟩⟩
 done:=by
  intro X hP hw hK hc i pins s σ H E I hf st hg
  subst hP hw hK
  obtain⟨xs,hq,hx⟩:=hg
  obtain⟨its,rv,p,hz⟩:=I.list hq
  obtain⟨f0,f1,f2,f3,f4,f5⟩:=hf it (by simp)
  have hl:=rv.length
  exact wpAny_pyNext_list_end (I.ok.hd hc) st p.isList (by simp;omega) λh' eb=>⟨rfl,I.turned (t':=s.toks) (λb o hb e=>eb b o hb e) f0 f1 f3 f4 f5⟩
 self:=λ_ _ _ _ _ st h=>wpAny_pyIter_listiter st h
theorem vA {P:Program} {w:World} {K:PySem.W.Frag} {tg:Expr} (it:Addr) (lo:Int) (n:Nat):Turn P w K tg (Itr lo n) [it] it (λi h=>IsRangeIter h it (lo+(i:Nat)*1) ((n:Int)-(i:Nat)) 1) where
 mem:=by simp
 obj:=λi h st b hb=>by
  have e:b=it:=by simpa using hb
  subst e
  exact⟨_,st,λv z=>by
   have z':Data.fields _=Data.cell v:=z
   cases z'⟩
 keep:=λi h h' st k=>k it (by simp) _ st
 item:=by
  intro X hP hw hK hc i pins s σ H E I hf st hg
  subst hP hw hK
  obtain⟨f0,f1,f2,f3,f4,f5⟩:=hf it (by simp)
  have W:=Walks.range (prog:=X.prog) (w:=X.w) (I.ok.hd hc) it lo 1 n
  refine W.item i s _ _ hg st λv h' tk hv st' kk=>?_
  obtain⟨t,rfl⟩:=hv
  have I1:Inv X pins σ H { s with heap:=h',toks:=tk }:=I.turned (λb o hb e=>kk b o (by simpa using hb) e) f0 f1 f3 f4 f5
  refine⟨_,rfl,vR (s:={ s with heap:=h',toks:=tk }) (n:="range_iterator") st' rfl rfl (by decide) ⟨.int (lo+i),H,I1,⟨t,?_⟩,⟨rfl,rfl⟩,st',λb hb=>(hf b hb).1⟩⟩
  rw[Int.mul_one]
 done:=by
  intro X hP hw hK hc i pins s σ H E I hf st hg
  subst hP hw hK
  obtain⟨f0,f1,f2,f3,f4,f5⟩:=hf it (by simp)
  exact wpAny_pyNext_range_end (I.ok.hd hc) st (by have:n<=i:=hg;omega) λh' eb=>⟨rfl,I.turned (t':=s.toks) (λb o hb e=>eb b o hb e) f0 f1 f3 f4 f5⟩
 self:=λ_ _ _ _ _ st h=>wpAny_pyIter_rangeiter st h
end L2
namespace L2
open PySem PySem.Spec PyProof.Rows
section
variable {X:Cx} {tg:Expr}
noncomputable def GS (K:PySem.W.Frag) (tl:TE):TI:=λσ H R=>tl σ H λx H1=>∃a,x = .ref a/\(∃xs,SqL K H1 a xs)/\R (Itl K a) H1
theorem CG {l:Expr} {tl:TE} (hl:PE X l tl):PI X tg l (GS X.K tl):=by
 intro pins s σ H R I h
 refine thn (hl pins s σ H _ I h) λv s1 ⟨x,H1,I1,r1,q1⟩=>?_
 obtain⟨a,e,⟨xs,hq⟩,q⟩:=q1
 subst e
 cases r1
 obtain⟨its,rv,p,hz⟩:=I1.list hq
 refine wpAny_pyIter_list p.isList ?_
 refine⟨s1.heap.objs.size,[s1.heap.objs.size],_,_,H1,rfl,I1.kept (t':=s1.toks) λb o e=>Heap.get?_push_of_some _ e,yI a _,⟨_,Heap.get?_push_size _ rfl,rfl,rfl⟩,λb hb=>?_,q⟩
 have e:b=s1.heap.objs.size:=by simpa using hb
 subst e
 exact I1.fpOk (Nat.le_refl _) (I1.hok.fresh (Nat.le_refl _))
theorem tO {pins:List (Addr × Obj)} {σ:St} {H:Hp} {s:Shared} {R:It->Hp->Prop} {E:Value->Shared->Prop} {lo hi:Int} {t u v:Tok} {tk:Nat} (I:Inv X pins σ H s) (h1:-(2 ^ 62)<=lo) (h2:lo<2 ^ 62) (h3:-(2 ^ 62)<=hi) (h4:hi<2 ^ 62)
  (q:R (Itr lo (hi-lo).toNat) H):wpAny (model X.prog X.w) X.A (pyIter (.ref s.heap.objs.size)) (PIE X pins σ tg R) E { s with heap:=s.heap.push { cls:=.type "range",data:=.fields #[.int lo t,.int hi u,.int 1 v] },toks:=tk }:=by
 refine wpAny_pyIter_range (IsRange.new ..) (small_one h1 h2 h3 h4) ?_
 have I1:Inv X pins σ H { s with heap:=s.heap.push { cls:=.type "range",data:=.fields #[.int lo t,.int hi u,.int 1 v] },toks:=tk }:=I.kept λb o e=>Heap.get?_push_of_some _ e
 refine⟨(s.heap.push { cls:=.type "range",data:=.fields #[.int lo t,.int hi u,.int 1 v] }).objs.size,[(s.heap.push { cls:=.type "range",data:=.fields #[.int lo t,.int hi u,.int 1 v] }).objs.size],_,_,H,rfl,
  I1.kept (t':=tk) λb o e=>Heap.get?_push_of_some _ e,vA _ lo (hi-lo).toNat,?_,λb hb=>?_,q⟩
 ·have e1:lo+((0:Nat):Int)*1=lo:=by simp
  have e2:(((hi-lo).toNat:Nat):Int)-((0:Nat):Int)=Builtin.Range.rangeSize lo hi 1:=by rw[rangeSize_one];split <;> omega
  show IsRangeIter _ _ (lo+((0:Nat):Int)*1) ((((hi-lo).toNat:Nat):Int)-((0:Nat):Int)) 1
  rw[e1,e2]
  exact Heap.get?_push_size _ rfl
 ·have e:b=(s.heap.push { cls:=.type "range",data:=.fields #[.int lo t,.int hi u,.int 1 v] }).objs.size:=by simpa using hb
  subst e
  exact I1.fpOk (Nat.le_refl _) (I1.hok.fresh (Nat.le_refl _))
noncomputable def GT (ta:TA):TI:=λσ H R=>ta σ H λvs H1=>∃j:Int,vs=[.int j]/\-(2 ^ 62)<=j/\j<2 ^ 62/\R (Itr 0 j.toNat) H1
noncomputable def GU (ta:TA):TI:=λσ H R=>ta σ H λvs H1=>∃i j:Int,vs=[.int i,.int j]/\(-(2 ^ 62)<=i/\i<2 ^ 62/\-(2 ^ 62)<=j/\j<2 ^ 62)/\R (Itr i (j-i).toNat) H1
theorem xN {a:Expr} {ta:TA} {p pos:Pos} (hg:Gl X "range") (hm:X.mg "range" = none) (ha:PA X [a] ta) (hs:starEach [a] X.env=[(false,eval a X.env)]:=by rfl):PI X tg (.Call (.Name "range" p) [a] [] pos) (GT ta):=by
 intro pins s σ H R I h
 refine Call_ (gX I hg hm boot_range (PyProof.Rows.callWith_type1 (thn (ha pos pins s σ H _ I h) λus s1 ⟨vs,H1,I1,r1,q1⟩=>?_) hs rfl))
 obtain⟨j,e,q1,q2,q⟩:=q1
 subst e
 cases r1 with
 | cons r rr =>
  cases rr
  obtain⟨t,rfl⟩:=r
  exact call_range_1 (tO I1 (by omega) (by omega) q1 q2 (by simpa using q))
theorem xO {a b:Expr} {ta:TA} {p pos:Pos} (hg:Gl X "range") (hm:X.mg "range" = none) (ha:PA X [a,b] ta) (hs:starEach [a,b] X.env=[(false,eval a X.env),(false,eval b X.env)]:=by rfl) (hs2:starEach [b] X.env=[(false,eval b X.env)]:=by rfl) :
  PI X tg (.Call (.Name "range" p) [a,b] [] pos) (GU ta):=by
 intro pins s σ H R I h
 refine Call_ (gX I hg hm boot_range (PyProof.Rows.callWith_type1 (thn (ha pos pins s σ H _ I h) λus s1 ⟨vs,H1,I1,r1,q1⟩=>?_) (by rw[hs,hs2]) (by rw[hs2];rfl)))
 obtain⟨i,j,e,⟨q1,q2,q3,q4⟩,q⟩:=q1
 subst e
 cases r1 with
 | cons r rr =>
  cases rr with
  | cons r' rr =>
   cases rr
   obtain⟨t,rfl⟩:=r
   obtain⟨t',rfl⟩:=r'
   exact call_range_2 (tO I1 q1 q2 q3 q4 q)
noncomputable def JD (wi:TI) (g:TG) (tb:TS):TS:=λD σ H=>wi σ H λJ H1=>∃W:Nat->Nat->St->Hp->Prop,(∃m,W 0 m σ H1)/\∀i m σ H,W i m σ H ->
 (J.stop i H/\D.nx σ H)\/(J.go i H/\∃N:St->Hp->Prop,(∀σ' H',N σ' H'->∃m',m'<m/\W (i+1) m' σ' H')/\∀x H',J.yld i H x H'->g x σ H' λσ2 H2=>tb { D with nx:=N,ct:=N,bk:=D.nx } σ2 H2)
noncomputable def rL (fp:List Addr) (h:Heap):List (Addr × Obj):=fp.filterMap λb=>(h.get? b).map λo=>(b,o)
theorem dF {fp:List Addr} {h:Heap} {b:Addr} {o:Obj} (hb:b∈fp) (e:h.get? b=some o):(b,o)∈rL fp h:=List.mem_filterMap.mpr ⟨b,hb,by rw[e];rfl⟩
theorem xK {fp:List Addr} {h:Heap} {p:Addr × Obj} (hp:p∈rL fp h):p.1∈fp/\h.get? p.1=some p.2:=by
 obtain⟨b,hb,e⟩:=List.mem_filterMap.mp hp
 cases q:h.get? b with
 | none=>rw[q] at e;cases e
 | some o =>
  rw[q] at e
  have e':(b,o)=p:=Option.some.inj e
  subst e'
  exact⟨hb,q⟩
theorem Inv.pinned {pins:List (Addr × Obj)} {σ:St} {H:Hp} {s:Shared} {fp:List Addr} (I:Inv X pins σ H s) (hf:∀b∈fp,oP X pins H b) (ho:∀b∈fp,∃o,s.heap.get? b=some o/\∀v,o.data≠.cell v):Inv X (pins++rL fp s.heap) σ H s :=
 I.pins_of λp hp=>(List.mem_append.mp hp).elim (λz=>I.pin p (List.mem_append_right _ z)) λz=>by
  obtain⟨hb,e⟩:=xK z
  obtain⟨f0,f1,f2,_⟩:=hf p.1 hb
  obtain⟨o,e',d⟩:=ho p.1 hb
  rw[e] at e';cases e'
  exact⟨e,f0,f1,f2,d⟩
theorem Inv.unpinned {pins pl:List (Addr × Obj)} {σ:St} {H:Hp} {s:Shared} (I:Inv X (pins++pl) σ H s):Inv X pins σ H s:=I.pins_of λp hp=>I.pin p (List.mem_append_right _ (List.mem_append_left _ hp))
theorem FK {iter:Expr} {body:List Stmt} {wi:TI} {g:TG} {tb:TS} {pos:Pos} (hp:PassesOwn (model X.prog X.w) X.A X.env X.xe) (hc:X.calm=true) (hi:PI X tg iter wi) (hg:PG X tg g) (hb:PSs X body tb)
  (hs:∀x,foldedSetIterable iter X.env x=pure x:=by intro _;rfl):PS X (.For tg iter body [] pos) (JD wi g tb):=by
 intro pins s σ H D I h
 refine wpAny_For (thn (hi pins s σ H _ I h) λv s1 h1=>thn h1 λitv s2 h2=>?_) hs
 obtain⟨it,fp,tn,J,H2,e,I2,T,st2,f2,W,⟨m0,w0⟩,turn⟩:=h2
 subst e
 have stat:∀{H':Hp},(∀b∈fp,H' b=none)->∀b∈fp,oP X pins H' b:=λhn b hb=>⟨hn b hb,(f2 b hb).2⟩
 refine codeAny_forLoop_any (λn s'=>∃i σ' H',Inv X pins σ' H' s'/\tn i s'.heap/\(∀b∈fp,H' b=none)/\W i n σ' H') ?_ m0 ⟨0,σ,H2,I2,st2,λb hb=>(f2 b hb).1,w0⟩
 rintro n s3 ⟨i,σ3,H3,I3,st3,fr3,w3⟩
 rcases turn i n σ3 H3 w3 with ⟨stop,qn⟩ | ⟨go,N,hN,step⟩
 ·refine wpAny_passesOwn hp (thn (T.done X rfl rfl rfl hc i pins s3 σ3 H3 X.xe I3 (stat fr3) st3 stop) λr s4 ⟨hr,I4⟩=>?_)
  subst hr
  exact wpAny_execs_nil ⟨σ3,H3,I4,qn⟩
 ·refine wpAny_passesOwn hp (thn (T.item X rfl rfl rfl hc i pins s3 σ3 H3 X.xe I3 (stat fr3) st3 go) λr s4 ⟨u,hr,h4⟩=>?_)
  subst hr
  refine wpAny_passesOwn hp (thn h4 λ_ s5 ⟨x,H5,I5,r5,y5,st5,fr5⟩=>?_)
  have I5':=I5.pinned (stat fr5) (T.obj _ _ st5)
  refine wpAny_passesOwn hp (thn (hg _ s5 σ3 H5 x u _ I5' r5 (step x H5 y5)) λ_ s6 ⟨σ6,H6,I6,q6⟩=>?_)
  refine wpAny_passesOwn hp (thn (hb _ s6 σ6 H6 _ I6 q6) λf s7 q7=>?_)
  have again:∀{σ7:St} {H7:Hp},Inv X (pins++rL fp s5.heap) σ7 H7 s7->N σ7 H7->∃m,m<n/\∃i σ' H',Inv X pins σ' H' s7/\tn i s7.heap/\(∀b∈fp,H' b=none)/\W i m σ' H':=λ{σ7 H7} I7 n7=>by
   obtain⟨m',hm,w7⟩:=hN σ7 H7 n7
   refine⟨m',hm,i+1,σ7,H7,I7.unpinned,T.keep _ _ _ st5 λb hb o e=>(I7.pin (b,o) (List.mem_append_right _ (List.mem_append_right _ (dF hb e)))).1,λb hb=>?_,w7⟩
   obtain⟨o,e,d⟩:=T.obj _ _ st5 b hb
   exact (I7.pin (b,o) (List.mem_append_right _ (List.mem_append_right _ (dF hb e)))).2.1
  cases f with
  | next=>obtain⟨σ7,H7,I7,n7⟩:=q7;exact again I7 n7
  | cont=>obtain⟨σ7,H7,I7,n7⟩:=q7;exact again I7 n7
  | brk=>obtain⟨σ7,H7,I7,q7⟩:=q7;exact⟨σ7,H7,I7.unpinned,q7⟩
  | ret v=>obtain⟨x7,σ7,H7,I7,r7,q7⟩:=q7;exact⟨x7,σ7,H7,I7.unpinned,r7,q7⟩
end
theorem gU {K:PySem.W.Frag} {a:Addr} {xs:List V} {g:TG} {tb:TS} {D:Ends} {σ:St} {H:Hp} (Pv:Nat->St->Hp->Prop) (h0:Pv 0 σ H) (hl:∀i σ H,i<=xs.length->Pv i σ H->SqL K H a xs)
  (hs:∀i x σ H,xs[i]? = some x->Pv i σ H->g x σ H λσ2 H2=>tb { D with nx:=Pv (i+1),ct:=Pv (i+1),bk:=D.nx } σ2 H2) (hd:∀σ H,Pv xs.length σ H->D.nx σ H) :
  ∃W:Nat->Nat->St->Hp->Prop,(∃m,W 0 m σ H)/\∀i m σ H,W i m σ H ->
   ((Itl K a).stop i H/\D.nx σ H)\/((Itl K a).go i H/\∃N:St->Hp->Prop,(∀σ' H',N σ' H'->∃m',m'<m/\W (i+1) m' σ' H')/\∀x H',(Itl K a).yld i H x H'->g x σ H' λσ2 H2=>tb { D with nx:=N,ct:=N,bk:=D.nx } σ2 H2):=by
 refine⟨λi m σ H=>m=xs.length-i/\i<=xs.length/\Pv i σ H,⟨xs.length,by simp,Nat.zero_le _,h0⟩,?_⟩
 rintro i m σ H ⟨rfl,hi,p⟩
 have q:=hl i σ H hi p
 by_cases hlt:i<xs.length
 ·refine .inr ⟨⟨xs,xs[i],q,by simp[hlt]⟩,Pv (i+1),λσ' H' p'=>⟨xs.length-(i+1),by omega,rfl,hlt,p'⟩,λx H' y=>?_⟩
  obtain⟨e,y⟩:=y
  subst e
  exact hs i x σ _ (y xs q) p
 ·have e:i=xs.length:=by omega
  subst e
  exact .inl ⟨⟨xs,q,Nat.le_refl _⟩,hd σ H p⟩
end L2
namespace L2
open PySem PySem.Spec PyProof.Rows
noncomputable abbrev R2:=V->V->Hp->VK->Prop
noncomputable def OpR (X:Cx) (f:Value->Value->Sem Value) (r:R2):Prop :=
 ∀(pins:List (Addr × Obj)) (s:Shared) (σ:St) (H:Hp) (x y:V) (v u:Value) (Q:VK),Inv X pins σ H s->RelV x v->RelV y u->r x y H Q ->
  wpAny (model X.prog X.w) X.A (f v u) (EP X pins σ Q) X.xe s
noncomputable def UnR (X:Cx) (f:Value->Sem Value) (r:V->Hp->VK->Prop):Prop :=
 ∀(pins:List (Addr × Obj)) (s:Shared) (σ:St) (H:Hp) (x:V) (v:Value) (Q:VK),Inv X pins σ H s->RelV x v->r x H Q ->
  wpAny (model X.prog X.w) X.A (f v) (EP X pins σ Q) X.xe s
noncomputable def jM (X:Cx) (f:Value) (r:List V->Hp->VK->Prop):Prop :=
 ∀(pins:List (Addr × Obj)) (s:Shared) (σ:St) (H:Hp) (xs:List V) (us:List Value) (Q:VK),Inv X pins σ H s->Vals xs us->r xs H Q ->
  wpAny (model X.prog X.w) X.A (call f us) (EP X pins σ Q) X.xe s
noncomputable def tOp (r:R2) (ta tb:TE):TE:=λσ H Q=>ta σ H λx H1=>tb σ H1 λy H2=>r x y H2 Q
noncomputable def tUn (r:V->Hp->VK->Prop) (ta:TE):TE:=λσ H Q=>ta σ H λx H1=>r x H1 Q
noncomputable def rI (C:Int->Int->Prop) (g:Int->Int->V):R2:=λx y H Q=>∃i j,x = .int i/\y = .int j/\C i j/\Q (g i j) H
noncomputable def rI0 (g:Int->Int->V):R2:=λx y H Q=>∃i j,x = .int i/\y = .int j/\Q (g i j) H
noncomputable def rU (g:Int->V):V->Hp->VK->Prop:=λx H Q=>∃i,x = .int i/\Q (g i) H
section
variable {X:Cx} {a b c:Expr} {ta tb tc:TE} {pos:Pos}
theorem GJ (ha:PE X a ta) (hb:PE X b tb) {pins:List (Addr × Obj)} {s:Shared} {σ:St} {H:Hp} {R:V->V->Hp->Prop} (I:Inv X pins σ H s)
  (h:ta σ H λx H1=>tb σ H1 λy H2=>R x y H2) {Q:Value->Shared->Prop} {f:Value->Value->Sem Value}
  (hf:∀v u s2 x y H2,Inv X pins σ H2 s2->RelV x v->RelV y u->R x y H2->wpAny (model X.prog X.w) X.A (f v u) Q X.xe s2) :
  wpAny (model X.prog X.w) X.A (eval a X.env) (λv s₁=>wpAny (model X.prog X.w) X.A (eval b X.env) (λu s₂=>wpAny (model X.prog X.w) X.A (f v u) Q X.xe s₂) X.xe s₁) X.xe s:=by
 refine thn (ha pins s σ H _ I h) λv s1 ⟨x,H1,I1,r1,q1⟩=>?_
 refine thn (hb pins s1 σ H1 _ I1 q1) λu s2 ⟨y,H2,I2,r2,q2⟩=>?_
 exact hf v u s2 x y H2 I2 r1 r2 q2
theorem HM {op:Operator} {r:R2} (ho:OpR X (binaryOp op) r) (ha:PE X a ta) (hb:PE X b tb):PE X (.BinOp a op b pos) (tOp r ta tb):=by
 intro pins s σ H Q I h
 exact wpAny_BinOp (GJ ha hb I h λv u s2 x y H2 I2 rx ry q=>ho pins s2 σ H2 x y v u Q I2 rx ry q)
theorem HN {op:UnaryOp} {r:V->Hp->VK->Prop} (ho:UnR X (unaryOp op) r) (ha:PE X a ta):PE X (.UnaryOp op a pos) (tUn r ta):=by
 intro pins s σ H Q I h
 exact UnaryOp_ (thn (ha pins s σ H _ I h) λv s1 ⟨x,H1,I1,r1,q1⟩=>ho pins s1 σ H1 x v Q I1 r1 q1)
theorem opI {f:Value->Value->Sem Value} {C:Int->Int->Prop} {g:Int->Int->Int}
  (rule:∀(i j:Int) (t u:Tok) (s:Shared) (Q:Value->Shared->Prop) (E:Value->Shared->Prop),C i j->Q (.int (g i j) s.toks) { s with toks:=s.toks+1 }->wpAny (model X.prog X.w) X.A (f (.int i t) (.int j u)) Q E s) :
  OpR X f (rI C λi j=>.int (g i j)):=by
 intro pins s σ H x y v u Q I rx ry h
 obtain⟨i,j,rfl,rfl,hc,q⟩:=h
 obtain⟨t,rfl⟩:=rx
 obtain⟨t',rfl⟩:=ry
 exact rule i j t t' s _ _ hc ⟨.int (g i j),H,I.tok _,⟨_,rfl⟩,q⟩
theorem EY {f:Value->Value->Sem Value} {g:Int->Int->Bool}
  (rule:∀(i j:Int) (t u:Tok) (s:Shared) (Q:Value->Shared->Prop) (E:Value->Shared->Prop),Q (.bool (g i j)) s->wpAny (model X.prog X.w) X.A (f (.int i t) (.int j u)) Q E s) :
  OpR X f (rI0 λi j=>.bl (g i j)):=by
 intro pins s σ H x y v u Q I rx ry h
 obtain⟨i,j,rfl,rfl,q⟩:=h
 obtain⟨t,rfl⟩:=rx
 obtain⟨t',rfl⟩:=ry
 exact rule i j t t' s _ _ ⟨.bl (g i j),H,I,rfl,q⟩
noncomputable def CMul (i j:Int):Prop:=(-(2 ^ 64)<i/\i<2 ^ 64)\/(-(2 ^ 64)<j/\j<2 ^ 64)
theorem CMul.ok {i j:Int} (h:CMul i j):IntMulOk i j:=by
 rcases h with ⟨h1,h2⟩ | ⟨h1,h2⟩
 ·exact .of_left (intBits_le_64 h1 h2)
 ·exact .of_right (intBits_le_64 h1 h2)
theorem unI {f:Value->Sem Value} {g:Int->Int}
  (rule:∀(i:Int) (t:Tok) (s:Shared) (Q:Value->Shared->Prop) (E:Value->Shared->Prop),Q (.int (g i) s.toks) { s with toks:=s.toks+1 }->wpAny (model X.prog X.w) X.A (f (.int i t)) Q E s) :
  UnR X f (rU λi=>.int (g i)):=by
 intro pins s σ H x v Q I rx h
 obtain⟨i,rfl,q⟩:=h
 obtain⟨t,rfl⟩:=rx
 exact rule i t s _ _ ⟨.int (g i),H,I.tok _,⟨_,rfl⟩,q⟩
theorem GD:UnR X (unaryOp .USub) (rU λi=>.int (-i)):=unI λ_ _ _ _ _ q=>neg_int q
end
noncomputable def HZ:V->V->Bool
 | .non,.non=>true | .non,.int _=>true | .int _,.non=>true | .non,.bl _=>true | .bl _,.non=>true | .non,.str _=>true | .str _,.non=>true
 | .int _,.int _=>true | .bl _,.bl _=>true | .str _,.str _=>true | .byt _,.byt _=>true
 | .int _,.str _=>true | .str _,.int _=>true | .bl _,.str _=>true | .str _,.bl _=>true
 | _,_=>false
noncomputable def rEq:R2:=λx y H Q=>HZ x y=true/\Q (.bl (decide (x=y))) H
noncomputable def rNe:R2:=λx y H Q=>HZ x y=true/\Q (.bl (!decide (x=y))) H
theorem vI {i j:Int}:decide (V.int i=V.int j)=(i == j):=by
 rw[Bool.eq_iff_iff]
 simp
theorem yY {i j:Bool}:decide (V.bl i=V.bl j)=(i == j):=by
 rw[Bool.eq_iff_iff]
 simp
theorem vJ {i j:Str}:decide (V.str i=V.str j)=(i == j):=by
 rw[Bool.eq_iff_iff]
 simp
theorem vH {i j:Array UInt8}:decide (V.byt i=V.byt j)=(i.toList == j.toList):=by
 rw[Bool.eq_iff_iff]
 cases i
 cases j
 simp
section
variable {X:Cx} {a b c:Expr} {ta tb tc:TE} {pos:Pos}
theorem bC {pins:List (Addr × Obj)} {σ:St} {H:Hp} {s:Shared} {Q:VK} {k k':Bool} (I:Inv X pins σ H s) (q:Q (.bl k) H) (e:k=k'):EP X pins σ Q (.bool k') s:=by
 subst e
 exact⟨.bl k,H,I,rfl,q⟩
theorem DM:OpR X (compareOp .Eq) rEq:=by
 intro pins s σ H x y v u Q I rx ry h
 obtain⟨hs,q⟩:=h
 cases x with
 | non =>
  cases rx
  cases y with
  | non=>cases ry;exact PySem.EqNone.eq_none_none (bC I q (by simp))
  | bl j=>cases ry;exact PySem.EqNone.eq_none_bool (bC I q (by simp))
  | int j=>obtain⟨t',rfl⟩:=ry;exact PySem.EqNone.eq_none_int (bC I q (by simp))
  | str j=>obtain⟨t',rfl⟩:=ry;exact PySem.EqNone.eq_none_str (bC I q (by simp))
  | _=>exact absurd (show false=true from hs) Bool.false_ne_true
 | bl i =>
  cases rx
  cases y with
  | non=>cases ry;exact PySem.EqNone.eq_bool_none (bC I q (by simp))
  | bl j=>cases ry;exact eq_bool (bC I q yY)
  | str j=>obtain⟨t',rfl⟩:=ry;exact PySem.EqMixed.eq_bool_str (bC I q (by simp))
  | _=>exact absurd (show false=true from hs) Bool.false_ne_true
 | int i =>
  obtain⟨t,rfl⟩:=rx
  cases y with
  | non=>cases ry;exact PySem.EqNone.eq_int_none (bC I q (by simp))
  | int j=>obtain⟨t',rfl⟩:=ry;exact eq_int (bC I q vI)
  | str j=>obtain⟨t',rfl⟩:=ry;exact PySem.EqMixed.eq_int_str (bC I q (by simp))
  | _=>exact absurd (show false=true from hs) Bool.false_ne_true
 | str i =>
  obtain⟨t,rfl⟩:=rx
  cases y with
  | non=>cases ry;exact PySem.EqNone.eq_str_none (bC I q (by simp))
  | bl j=>cases ry;exact PySem.EqMixed.eq_str_bool (bC I q (by simp))
  | int j=>obtain⟨t',rfl⟩:=ry;exact PySem.EqMixed.eq_str_int (bC I q (by simp))
  | str j=>obtain⟨t',rfl⟩:=ry;exact eq_str (bC I q vJ)
  | _=>exact absurd (show false=true from hs) Bool.false_ne_true
 | byt i =>
  obtain⟨t,rfl⟩:=rx
  cases y with
  | byt j=>obtain⟨t',rfl⟩:=ry;exact PySem.W.eq_bytes (bC I q vH)
  | _=>exact absurd (show false=true from hs) Bool.false_ne_true
 | _=>cases y <;> exact absurd (show false=true from hs) Bool.false_ne_true
theorem DN:OpR X (compareOp .NotEq) rNe:=by
 intro pins s σ H x y v u Q I rx ry h
 obtain⟨hs,q⟩:=h
 cases x with
 | non =>
  cases rx
  cases y with
  | non=>cases ry;exact PySem.EqNone.ne_none_none (bC I q (by simp))
  | bl j=>cases ry;exact PySem.EqNone.ne_none_bool (bC I q (by simp))
  | int j=>obtain⟨t',rfl⟩:=ry;exact PySem.EqNone.ne_none_int (bC I q (by simp))
  | str j=>obtain⟨t',rfl⟩:=ry;exact PySem.EqNone.ne_none_str (bC I q (by simp))
  | _=>exact absurd (show false=true from hs) Bool.false_ne_true
 | bl i =>
  cases rx
  cases y with
  | non=>cases ry;exact PySem.EqNone.ne_bool_none (bC I q (by simp))
  | bl j=>cases ry;exact ne_bool (bC I q (congrArg not yY))
  | str j=>obtain⟨t',rfl⟩:=ry;exact PySem.EqMixed.ne_bool_str (bC I q (by simp))
  | _=>exact absurd (show false=true from hs) Bool.false_ne_true
 | int i =>
  obtain⟨t,rfl⟩:=rx
  cases y with
  | non=>cases ry;exact PySem.EqNone.ne_int_none (bC I q (by simp))
  | int j=>obtain⟨t',rfl⟩:=ry;exact ne_int (bC I q (congrArg not vI))
  | str j=>obtain⟨t',rfl⟩:=ry;exact PySem.EqMixed.ne_int_str (bC I q (by simp))
  | _=>exact absurd (show false=true from hs) Bool.false_ne_true
 | str i =>
  obtain⟨t,rfl⟩:=rx
  cases y with
  | non=>cases ry;exact PySem.EqNone.ne_str_none (bC I q (by simp))
  | bl j=>cases ry;exact PySem.EqMixed.ne_str_bool (bC I q (by simp))
  | int j=>obtain⟨t',rfl⟩:=ry;exact PySem.EqMixed.ne_str_int (bC I q (by simp))
  | str j=>obtain⟨t',rfl⟩:=ry;exact ne_str (bC I q (congrArg not vJ))
  | _=>exact absurd (show false=true from hs) Bool.false_ne_true
 | byt i =>
  obtain⟨t,rfl⟩:=rx
  cases y with
  | byt j=>obtain⟨t',rfl⟩:=ry;exact PySem.W.ne_bytes (bC I q (congrArg not vH))
  | _=>exact absurd (show false=true from hs) Bool.false_ne_true
 | _=>cases y <;> exact absurd (show false=true from hs) Bool.false_ne_true
theorem HI:OpR X (compareOp .Lt) (rI0 λi j=>.bl (decide (i<j))):=EY λ_ _ _ _ _ _ _ q=>lt_int q
theorem HH:OpR X (compareOp .Gt) (rI0 λi j=>.bl (decide (j<i))):=EY λ_ _ _ _ _ _ _ q=>gt_int q
theorem HG:OpR X (compareOp .GtE) (rI0 λi j=>.bl (decide (j<=i))):=EY λ_ _ _ _ _ _ _ q=>ge_int q
theorem EX (b:Expr) {op:CmpOp} (h:op≠.In:=by decide) (h2:op≠.NotIn:=by decide):behindInMarks op b=false:=by
 have e1:(op == CmpOp.In)=false:=by cases op <;> first | rfl | exact absurd rfl h
 have e2:(op == CmpOp.NotIn)=false:=by cases op <;> first | rfl | exact absurd rfl h2
 cases b <;> simp[behindInMarks,e1,e2]
noncomputable def II (t:TE):TT:=λσ H Q=>t σ H λx H'=>∃k,x = .bl k/\Q k H'
theorem CK {op:CmpOp} {r:R2} (ho:OpR X (compareOp op) r) (ha:PE X a ta) (hb:PE X b tb) (hm:behindInMarks op b=false):PT X (.Compare a [op] [b] pos) (II (tOp r ta tb)):=by
 intro pins s σ H Q I h
 refine wpAny_isTrue_Compare1 (thn (ha pins s σ H _ I h) λv s1 ⟨x,H1,I1,r1,q1⟩=>thn (hb pins s1 σ H1 _ I1 q1) λu s2 ⟨y,H2,I2,r2,q2⟩ =>
  thn (ho pins s2 σ H2 x y v u _ I2 r1 r2 q2) λc s3 ⟨z,H3,I3,r3,k,e,q3⟩=>?_) hm
 subst e
 cases r3
 exact wpAny_truthy_bool ⟨H3,I3,q3⟩
theorem rG:(sizeLine:Nat)<2 ^ 63:=by rw[sizeLine_eq];decide
theorem qJ {x:V} {us:List Value} (r:Vals [x] us):∃u,us=[u]/\RelV x u:=by
 cases r with
 | cons r1 r2=>cases r2;exact⟨_,rfl,r1⟩
theorem DU {x y:V} {us:List Value} (r:Vals [x,y] us):∃u w',us=[u,w']/\RelV x u/\RelV y w':=by
 cases r with
 | cons r1 r2 =>
  cases r2 with
  | cons r3 r4=>cases r4;exact⟨_,_,rfl,r1,r3⟩
theorem yR:jM X (.builtin "abs") (λxs H Q=>∃i,xs=[.int i]/\Q (.int (if i<0 then -i else i)) H):=by
 intro pins s σ H xs us Q I r h
 obtain⟨i,rfl,q⟩:=h
 obtain⟨u,rfl,t,rfl⟩:=qJ r
 exact call_abs_int λu tk=>⟨.int (if i<0 then -i else i),H,I.tok _,⟨_,rfl⟩,q⟩
theorem wI (hc:X.calm=true):jM X (.builtin "min") (λxs H Q=>∃i j,xs=[.int i,.int j]/\Q (.int (if j<i then j else i)) H):=by
 intro pins s σ H xs us Q I r h
 obtain⟨i,j,rfl,q⟩:=h
 obtain⟨u,w',rfl,⟨t,rfl⟩,⟨t',rfl⟩⟩:=DU r
 refine min_two_ints (I.ok.hd hc) λh' tk k=>⟨_,H,I.kept k,?_,q⟩
 by_cases hj:j<i
 ·rw[if_pos hj,if_pos hj];exact⟨_,rfl⟩
 ·rw[if_neg hj,if_neg hj];exact⟨_,rfl⟩
end
end L2
namespace L2
open PySem PySem.Spec PyProof.Rows
structure ObjM (h:Heap) (x dx C:Addr) (mA:Str->Option Value):Prop where
 obj:h.get? x=some (PySem.W.instObj C dx)
 ns:h.Ns1 dx mA
 ne:dx≠x
theorem xI {h:Heap} {dx:Addr} {mA:Str->Option Value} (n:h.Ns1 dx mA):∃od,h.get? dx=some od/\∀name,PySem.W.lookIn name od=some (mA name):=by
 obtain⟨o,es,ep,ho,hd,hk,_,hm⟩:=n
 refine⟨o,ho,λname=>?_⟩
 have e:=hm name
 unfold nsFind findBy at e
 rw[<-Array.find?_toList] at e
 unfold PySem.W.lookIn
 rw[hd]
 dsimp only
 split
 ·rename_i y q
  rw[q] at e
  exact congrArg some e
 ·rename_i q
  rw[q] at e
  have a:es.toList.any (·.refKey)=false:=by
   rw[List.any_eq_false]
   intro y hy
   obtain⟨z,t,hkey⟩:=hk y (Array.mem_toList_iff.mp hy)
   simp[DictEntry.refKey,hkey]
  have a':¬es.toList.any (·.refKey)=true:=by rw[a];exact Bool.false_ne_true
  rw[if_neg a']
  exact congrArg some e
theorem ObjM.look {h:Heap} {x dx C:Addr} {mA:Str->Option Value} (I:ObjM h x dx C mA):∃od,PySem.W.InstAt h x (PySem.W.instObj C dx) C (some od)/\∀name,PySem.W.lookIn name od=some (mA name) :=
 let ⟨od,ho,hl⟩:=xI I.ns
 ⟨od,⟨I.obj,rfl,rfl,ho⟩,hl⟩
section
variable {prog:Program} {w:World} {A:Around} {E:Value->Shared->Prop} {s:Shared} {K:PySem.W.Frag} {x dx C f:Addr} {mA:Str->Option Value} {name:Str} {v:Value}
end
theorem RelO.some_of {v:V} {o:Option Value} (r:RelO (some v) o):∃u,o=some u/\RelV v u:=by
 cases o with
 | none=>exact (show False from r).elim
 | some u=>exact⟨u,rfl,r⟩
section
variable {P:Program} {w:World} {H H':Hp} {h h':Heap} {a C dx:Addr} {fs fs':List (Str × V)}
theorem BQ (hok:HOk P w H h) (e:H a=some (.ins C dx fs)):∃mA,ObjM h a dx C mA/\(∀f,RelO (fs.lookup f) (mA f))/\PySem.Within mA (fs.map (·.1))/\fs.length<=1000/\H dx=some (.own a):=by
 obtain⟨d,z,ne,ob,mA,n,r,q⟩:=(show ObjOk P w H h a (.ins C dx fs) from hok a _ e)
 exact⟨mA,⟨ob,n,ne⟩,r,q,z,d⟩
end
structure Cls (K:PySem.W.Frag) (C:Addr):Prop where
 pg:PySem.W.plainGet K C Str.empty=true
 hd:PySem.W.hasDictIn K C=true
 po:PySem.W.plainOver K C=true
 sa:PySem.W.findIn K (.ref C) "__setattr__" = some (some (.builtin "object.__setattr__"))
theorem Cls.get {K:PySem.W.Frag} {C:Addr} (c:Cls K C) (f:Str):PySem.W.plainGet K C f=true:=c.pg
section
variable {X:Cx} {pins:List (Addr × Obj)} {σ:St} {H:Hp} {s:Shared} {a C dx:Addr} {fs:List (Str × V)} {f:Str} {v:V} {A:Around} {E:Value->Shared->Prop}
end
section
variable {X:Cx} {o e value:Expr} {f:Str} {pos pos' tpos:Pos} {ta tv:TE}
end
section
variable {X:Cx} {pins:List (Addr × Obj)} {σ:St} {H:Hp} {s:Shared} {A:Around} {E:Value->Shared->Prop} {Q:Value->Shared->Prop} {c:Value} {b:Bool}
inductive TyOf (K:PySem.W.Frag) (H:Hp):V->Value->Prop where
 | non:TyOf K H .non (.type "NoneType")
 | bl (x:Bool):TyOf K H (.bl x) (.type "bool")
 | int (i:Int):TyOf K H (.int i) (.type "int")
 | str (x:Str):TyOf K H (.str x) (.type "str")
 | flt (x:UInt64):TyOf K H (.flt x) (.type "float")
 | lst {a:Addr} {xs:List V} (e:H a=some (.lst xs)):TyOf K H (.ref a) (.type "list")
 | frz {a:Addr} {o:Obj} {xs:List V} (e:H a=some (.frz o (.lst xs))):TyOf K H (.ref a) (.type "list")
 | tup {a:Addr} {xs:List V} (e:H a=some (.tup xs)):TyOf K H (.ref a) (.type "tuple")
 | dK {a:Addr} {kvs:List (Key × V)} (e:H a=some (.dK kvs)):TyOf K H (.ref a) (.type "dict")
 | dT {a:Addr} {kvs:List (List Key × V)} (e:H a=some (.dT kvs)):TyOf K H (.ref a) (.type "dict")
 | ins {a C dx:Addr} {fs:List (Str × V)} (e:H a=some (.ins C dx fs)) (cl:Cls K C) (ha:PySem.W.findIn K (.ref C) "__class__" = some (some (.builtin "object.__class__")))
   (hn:PySem.W.specialIn K (.builtin "object.__class__") "__get__" = some (some (.builtin "getset_descriptor.__get__"))) (htk:PySem.W.takesIn K (.builtin "object.__class__")=some true)
   (hm:PySem.W.mroIn K C (.type "object")=some true):TyOf K H (.ref a) (.ref C)
theorem wZ {x:V} {u t:Value} (I:Inv X pins σ H s) (rx:RelV x u) (ty:TyOf X.K H x t) (e:PySem.W.kitOne X.K t c=some b) (h:∀tk,Q (.bool b) { s with toks:=tk }) :
  wpAny (model X.prog X.w) A (call (.builtin "isinstance") [u,c]) Q E s:=by
 cases ty with
 | non=>cases (show u=Value.none from rx);exact PySem.W.kia_one PySem.W.kitx_none I.kIn True.intro e (λz=>nomatch z) h
 | bl y=>cases (show u=Value.bool y from rx);exact PySem.W.kia_one PySem.W.kitx_bool I.kIn True.intro e (λz=>nomatch z) h
 | int i=>obtain⟨t,q⟩:=(show ∃t,u=Value.int i t from rx);cases q;exact PySem.W.kia_one PySem.W.kitx_int I.kIn True.intro e (λz=>nomatch z) h
 | str y=>obtain⟨t,q⟩:=(show ∃t,u=Value.str y t from rx);cases q;exact PySem.W.kia_one PySem.W.kitx_str I.kIn True.intro e (λz=>nomatch z) h
 | flt y=>obtain⟨t,q⟩:=(show ∃t,u=Value.float y t from rx);cases q;exact PySem.W.kia_one PySem.W.kitx_float I.kIn True.intro e (λz=>nomatch z) h
 | @lst a xs ea =>
  cases (show u=Value.ref a from rx)
  obtain⟨_,_,n,_,h1⟩:=(show ObjOk X.prog X.w H s.heap a (.lst xs) from I.hok a _ ea)
  exact PySem.W.kia_one PySem.W.kitx_list I.kIn ⟨_,h1,rfl⟩ e (λz=>nomatch z) h
 | @frz a ob xs ea =>
  cases (show u=Value.ref a from rx)
  obtain⟨_,_,_,n,_,h1⟩:=(show ObjOk X.prog X.w H s.heap a (.frz ob (.lst xs)) from I.hok a _ ea)
  exact PySem.W.kia_one PySem.W.kitx_list I.kIn ⟨_,h1,rfl⟩ e (λz=>nomatch z) h
 | @tup a xs ea =>
  cases (show u=Value.ref a from rx)
  obtain⟨_,_,_,p⟩:=(show ObjOk X.prog X.w H s.heap a (.tup xs) from I.hok a _ ea)
  obtain⟨o,h1,h2,_⟩:=p
  exact PySem.W.kia_one PySem.W.kitx_tuple I.kIn ⟨o,h1,h2⟩ e (λz=>nomatch z) h
 | @dK a kvs ea =>
  cases (show u=Value.ref a from rx)
  obtain⟨_,_,vs,_,p⟩:=(show ObjOk X.prog X.w H s.heap a (.dK kvs) from I.hok a _ ea)
  obtain⟨o,es,ep,h1,h2,_⟩:=p
  exact PySem.W.kia_one PySem.W.kitx_dict I.kIn ⟨o,h1,h2.1⟩ e (λz=>nomatch z) h
 | @dT a kvs ea =>
  cases (show u=Value.ref a from rx)
  obtain⟨_,_,xs,_,o,es,ep,h1,h2,_⟩:=(show ObjOk X.prog X.w H s.heap a (.dT kvs) from I.hok a _ ea)
  exact PySem.W.kia_one PySem.W.kitx_dict I.kIn ⟨o,h1,h2.1⟩ e (λz=>nomatch z) h
 | @ins a C dx fs ea cl ha hn htk hm =>
  cases (show u=Value.ref a from rx)
  obtain⟨mA,O,_⟩:=BQ I.hok ea
  obtain⟨od,J,_⟩:=O.look
  exact PySem.W.kia_one (PySem.W.kitx_own (cl.get _) cl.hd ha hn htk hm) I.kIn J e (λz=>nomatch z) h
end
end L2
namespace L2
open PySem PySem.Spec PyProof.Rows
structure Room (k:Nat) (A:Around):Prop where
 hd:A.handled=none
 dp:A.depth+3*k+5<recursionLimit
 un:A.units+16*k+200<cLine
theorem Room.mono {j k:Nat} {A:Around} (r:Room k A) (h:j<=k):Room j A:=⟨r.hd,by have:=r.dp;omega,by have:=r.un;omega⟩
theorem Room.deeper {k:Nat} {A:Around} (r:Room (k+1) A) (env:Env):Room k (A.deeper env) :=
 ⟨r.hd,by have:=r.dp;show A.depth+1+3*k+5<_;omega,by have:=r.un;show A.units+3+16*k+200<_;omega⟩
theorem Room.in1 {k:Nat} {A:Around} (r:Room (k+1) A):Room k A.in1 :=
 ⟨r.hd,by have:=r.dp;show A.depth+3*k+5<_;omega,by have:=r.un;show A.units+1+16*k+200<_;omega⟩
theorem Room.depth {k:Nat} {A:Around} (r:Room k A):A.depth<recursionLimit:=by have:=r.dp;omega
noncomputable def JG:TA:=λ_ H Q=>Q [] H
noncomputable def ID (ta:TE) (tr:TA):TA:=λσ H Q=>ta σ H λx H1=>tr σ H1 λxs H2=>Q (x::xs) H2
section
variable {X:Cx} {e:Expr} {es:List Expr} {te:TE} {t:TA} {pos:Pos}
theorem uQ:PA X [] JG:=λ_ _ _ _ H Q I h=>Calls.spliced_nil ⟨[],H,I,.nil,h⟩
theorem kI (ha:PE X e te) (hr:PA X es t) (hs:starEach (e::es) X.env=(false,eval e X.env)::starEach es X.env:=by rfl):PA X (e::es) (ID te t):=by
 intro pos pins s σ H Q I h
 rw[hs]
 show wpAny _ _ (spliced ((false,eval e X.env)::backTo pos (starEach es X.env))) _ _ s
 refine Calls.spliced_cons (thn (ha pins s σ H _ I h) λu s1 ⟨x,H1,I1,r1,q1⟩=>?_)
 exact thn (hr pos pins s1 σ H1 _ I1 q1) λus s2 ⟨xs,H2,I2,r2,q2⟩=>⟨x::xs,H2,I2,.cons r1 r2,q2⟩
noncomputable def JL (t:TA):TE:=λσ H Q=>t σ H λxs H1=>xs.length<=sizeLine/\∀p,H1 p=none->Q (.ref p) (upd H1 p (.tup xs))
noncomputable def JF (t:TA):TE:=λσ H Q=>t σ H λxs H1=>xs.length<=sizeLine/\∀p,H1 p=none->Q (.ref p) (upd H1 p (.lst xs))
theorem FG {x1} (h:PA X es t):PE X (.Tuple es x1 pos) (JL t):=by
 intro pins s σ H Q I hq
 refine wpAny_Tuple_spliced (thn (h pos pins s σ H _ I hq) λus s1 ⟨xs,H1,I1,r,z,q⟩=>⟨by rw[<-r.length];exact z,?_⟩)
 have hf:H1 s1.heap.objs.size=none:=I1.hok.fresh (Nat.le_refl _)
 refine⟨.ref s1.heap.objs.size,upd H1 s1.heap.objs.size (.tup xs),I1.laid (t':=s1.toks) (λb u e=>Heap.get?_push_of_some _ e) (Nat.le_refl _) ?_,rfl,q _ hf⟩
 exact⟨z,us,r,⟨_,Heap.get?_push_size _ rfl,rfl,_,rfl⟩⟩
theorem FC (h:PA X es t):PE X (.List es pos) (JF t):=by
 intro pins s σ H Q I hq
 refine wpAny_List_spliced (thn (h pos pins s σ H _ I hq) λus s1 ⟨xs,H1,I1,r,z,q⟩=>⟨by rw[<-r.length];exact z,?_⟩)
 have hf:H1 s1.heap.objs.size=none:=I1.hok.fresh (Nat.le_refl _)
 refine⟨.ref s1.heap.objs.size,upd H1 s1.heap.objs.size (.lst xs),I1.laid (t':=s1.toks) (λb u e=>Heap.get?_push_of_some _ e) (Nat.le_refl _) ?_,rfl,q _ hf⟩
 exact⟨z,us,0,r,Heap.get?_push_size _ rfl⟩
end
noncomputable abbrev Sp:=List V->Hp->VK->XK->Prop
noncomputable abbrev CXT:=List Env->Hp->Shared->XK->Value->Shared->Prop
structure Env0 (P:Program) (w:World) (K:PySem.W.Frag) (mg:Str->Option Value) (base:Heap) (A:Around) (outer:List Env) (s:Shared) (H:Hp):Prop where
 frames:A.frames=some outer
 mod:Mod K mg base
 bs:∀b o,base.get? b=some o->s.heap.get? b=some o/\H b=none
 bsz:base.objs.size<=s.heap.objs.size
 funs:s.heap.FunFrames base outer
 frf:∀b∈frs outer,H b=none
 hok:HOk P w H s.heap
 bare:AllBare s.gens
noncomputable def CE (outer:List Env) (P:Program) (w:World) (H:Hp) (s:Shared) (Q:VK) (u:Value) (s':Shared):Prop :=
 ∃v H',s'.os=s.os/\AllBare s'.gens/\Un (frs outer) [] H H' s.heap s'.heap/\HOk P w H' s'.heap/\RelV v u/\Q v H'
noncomputable def CR (CX:CXT) (outer:List Env) (P:Program) (w:World) (H:Hp) (s:Shared) (Q:VK) (E:XK) (r:Result) (s':Shared):Prop :=
 match r with
 | .ok (.ret u)=>CE outer P w H s Q u s'
 | .ok _=>False
 | .error e=>CX outer H s E e s'
structure FnOk (P:Program) (w:World) (K:PySem.W.Frag) (mg:Str->Option Value) (base:Heap) (CX:CXT) (k:Nat) (f:Addr) (fd:FuncData) (ps:List Str) (sp:Sp):Prop where
 len:∀vs H Q E,sp vs H Q E->vs.length=ps.length
 run:∀(A:Around) (outer:List Env) (s:Shared) (H:Hp) (args:Args) (us:List Value) (vs:List V) (Q:VK) (E:XK),Room k A->Env0 P w K mg base A outer s H->BindsTo s fd args (ps.zip us)->Vals vs us->sp vs H Q E ->
  codeAny (model P w) A (.call (.ref f) args) (CR CX outer P w H s Q E) s
theorem FnOk.mono {P:Program} {w:World} {K:PySem.W.Frag} {mg:Str->Option Value} {base:Heap} {CX:CXT} {j k:Nat} {f:Addr} {fd:FuncData} {ps:List Str} {sp:Sp} (F:FnOk P w K mg base CX j f fd ps sp) (h:j<=k) :
  FnOk P w K mg base CX k f fd ps sp:=⟨F.len,λA outer s H args us vs Q E hr=>F.run A outer s H args us vs Q E (hr.mono h)⟩
section
variable {X:Cx} {pins:List (Addr × Obj)} {σ:St} {H:Hp} {s s':Shared}
theorem Inv.env0 (I:Inv X pins σ H s):Env0 X.prog X.w X.K X.mg X.base X.A X.stack s H :=
 ⟨I.ok.frames,I.ok.mod,I.bs,Nat.le_trans I.ok.bsz I.sz,I.stack,I.stkFree,I.hok,I.bare⟩
theorem Inv.after {Q:VK} {u:Value} (I:Inv X pins σ H s) (h:CE X.stack X.prog X.w H s Q u s'):EP X pins σ Q u s':=by
 obtain⟨v,H',os,bare,un,hok,r,q⟩:=h
 obtain⟨hh,g,d,t,os'⟩:=s'
 obtain rfl:os'=s.os:=os
 exact⟨v,H',I.call (h':=hh) (g':=g) (d':=d) (t':=t) (ch:=[]) un hok bare (λb z=>absurd z (by simp)),r,q⟩
end
noncomputable def IC (sp:Sp) (dvs:List V) (E:XK) (t:TA):TE:=λσ H Q=>t σ H λvs H1=>sp (vs++dvs) H1 Q E
noncomputable def Binds (K:PySem.W.Frag) (fd:FuncData) (ps:List Str) (ds:List Value):Prop :=
 ∀(s:Shared) (us:List Value),K.In s.heap->(us++ds).length=ps.length->BindsTo s fd ⟨us,[]⟩ (ps.zip (us++ds))
theorem Binds.all {K:PySem.W.Frag} {fd:FuncData} {ps:List Str} (h:∀us:List Value,us.length=ps.length->bindArgs fd ⟨us,[]⟩=pure (ps.zip us)):Binds K fd ps []:=λs us _ hl=>by
 rw[List.append_nil] at hl ⊢
 exact .of_eq (h us hl)
noncomputable def tY (CX:CXT) (X:Cx) (E:XK):Prop:=∀(pins:List (Addr × Obj)) (σ:St) (H:Hp) (s:Shared) (e:Value) (s':Shared),Inv X pins σ H s->CX X.stack H s E e s'->X.xe e s'
section
variable {X:Cx} {CX:CXT} {k:Nat} {f C:Addr} {fd:FuncData} {ps:List Str} {sp:Sp} {dvs:List V} {ds:List Value} {E:XK} {x m:Str} {p pos apos:Pos} {e o:Expr} {es:List Expr} {ta:TE} {t:TA}
theorem FT {pins:List (Addr × Obj)} {σ:St} {H:Hp} {s:Shared} {Q:VK} {us:List Value} {vs:List V} (F:FnOk X.prog X.w X.K X.mg X.base CX k f fd ps sp) (hr:Room k X.A) (hb:Binds X.K fd ps ds) (hd:Vals dvs ds) (hx:tY CX X E)
  (I:Inv X pins σ H s) (r:Vals vs us) (h:sp (vs++dvs) H Q E):wpAny (model X.prog X.w) X.A (call (.ref f) us) (EP X pins σ Q) X.xe s:=by
 have r2:Vals (vs++dvs) (us++ds):=r.append hd
 have hl:(us++ds).length=ps.length:=by rw[<-r2.length];exact F.len _ _ _ _ h
 refine wpAny_call (codeAny_mono (F.run X.A X.stack s H ⟨us,[]⟩ (us++ds) (vs++dvs) Q E hr I.env0 (hb s us I.kIn hl) r2 h) λr s' hq=>?_)
 cases r with
 | error e=>exact hx pins σ H s e s' I hq
 | ok fl =>
  cases fl with
  | ret u=>exact I.after hq
  | next=>exact False.elim hq
  | brk=>exact False.elim hq
  | cont=>exact False.elim hq
theorem rK (F:FnOk X.prog X.w X.K X.mg X.base CX k f fd ps sp) (hr:Room k X.A) (hg:Gl X x) (hm:X.mg x=some (.ref f)) (hk:PySem.W.keepIn X.K (.ref f)=true) (hb:Binds X.K fd ps ds) (hd:Vals dvs ds) (hx:tY CX X E)
  (ha:PA X (e::es) t) (hdb:(x == ("__debug__":Str))=false:=by decide) (he:starEach (e::es) X.env=(false,eval e X.env)::starEach es X.env:=by rfl) (hpl:(backTo pos (starEach es X.env)).any (·.1)=false:=by rfl) :
  PE X (.Call (.Name x p) (e::es) [] pos) (IC sp dvs E t):=by
 intro pins s σ H Q I h
 refine wpAny_Call_Name_kw (BV I hg hm ?_ hdb)
 refine PySem.W.callWith_K (h₀:=X.base) I.ok.mod.kin hk (thn (ha pos pins s σ H _ I h) λus s1 ⟨vs,H1,I1,r,q⟩=>⟨I1.kIn,?_⟩) he hpl
 exact FT F hr hb hd hx I1 r q
end
section
variable {X:Cx} {CX:CXT} {k:Nat} {f C:Addr} {fd:FuncData} {ps ks:List Str} {sp:Sp} {E:XK} {x m:Str} {p pos apos kpos:Pos} {e o:Expr} {es:List Expr} {kws:List Keyword} {te ta:TE} {t tk:TA} {nm:Option Str}
variable {g:List Value->List Value->List Value} {gV:List V->List V->List V}
end
structure FnScope (N P:List Str) (sc:Scope):Prop where
 kind:sc.kind = .function
 co:sc.isCoroutine=false
 gen:sc.isGenerator=false
 nd:N.Nodup
 pre:N.take P.length=P
 par:∀x∈P,sc.names.lookup x=some .local\/sc.names.lookup x=some .cell
 nofree:∀y∈sc.names,y.2≠.free
theorem pJ {kindOf:Str->Option NameKind} {x:Str}:∀{binds:List (Str × Value)} {m:Str->Option Value},(∀v,(x,v) ∉ binds)->bindL kindOf binds m x=m x
 | [],_,_=>rfl
 | (n,v)::r,m,h=>by
  unfold bindL
  rw[pJ λw hw=>h w (List.mem_cons_of_mem _ hw)]
  split
  ·have:x≠n:=by rintro rfl;exact h v List.mem_cons_self
   simp[this]
  ·rfl
theorem pH {kindOf:Str->Option NameKind} {x:Str}:∀{binds:List (Str × Value)} {m:Str->Option Value},(∀v,(x,v) ∉ binds)->bindC kindOf binds m x=m x
 | [],_,_=>rfl
 | (n,v)::r,m,h=>by
  unfold bindC
  rw[pH λw hw=>h w (List.mem_cons_of_mem _ hw)]
  split
  ·rfl
  ·have:x≠n:=by rintro rfl;exact h v List.mem_cons_self
   simp[this]
theorem pI {kindOf:Str->Option NameKind} {x:Str} {v:Value}:∀{P:List Str} {vs:List Value} {i:Nat} {m:Str->Option Value},P.Nodup->P[i]? = some x->vs[i]? = some v->kindOf x=some .local ->
  bindL kindOf (P.zip vs) m x=some v
 | [],_,_,_,_,h,_,_=>by simp at h
 | _::_,[],_,_,_,_,h,_=>by simp at h
 | p::P,w::vs,0,m,nd,h1,h2,hk=>by
  simp at h1 h2;subst h1;subst h2
  show bindL kindOf ((p,w)::P.zip vs) m p=_
  unfold bindL
  rw[pJ λv hv=>(List.nodup_cons.mp nd).1 (List.of_mem_zip hv).1,if_pos hk]
  simp
 | p::P,w::vs,i+1,m,nd,h1,h2,hk=>by
  show bindL kindOf ((p,w)::P.zip vs) m x=_
  unfold bindL
  exact pI (i:=i) (List.nodup_cons.mp nd).2 (by simpa using h1) (by simpa using h2) hk
theorem pG {kindOf:Str->Option NameKind} {x:Str} {v:Value}:∀{P:List Str} {vs:List Value} {i:Nat} {m:Str->Option Value},P.Nodup->P[i]? = some x->vs[i]? = some v->kindOf x≠some .local ->
  bindC kindOf (P.zip vs) m x=some v
 | [],_,_,_,_,h,_,_=>by simp at h
 | _::_,[],_,_,_,_,h,_=>by simp at h
 | p::P,w::vs,0,m,nd,h1,h2,hk=>by
  simp at h1 h2;subst h1;subst h2
  show bindC kindOf ((p,w)::P.zip vs) m p=_
  unfold bindC
  rw[pH λv hv=>(List.nodup_cons.mp nd).1 (List.of_mem_zip hv).1,if_neg hk]
  simp
 | p::P,w::vs,i+1,m,nd,h1,h2,hk=>by
  show bindC kindOf ((p,w)::P.zip vs) m x=_
  unfold bindC
  exact pG (i:=i) (List.nodup_cons.mp nd).2 (by simpa using h1) (by simpa using h2) hk
noncomputable def fD (N:List Str) (vs:List V):St:=vs.map some++List.replicate (N.length-vs.length) none
noncomputable def bS (CX:CXT) (P:Program) (w:World) (K:PySem.W.Frag) (mg:Str->Option Value) (base:Heap) (N:List Str) (qual:Str) (scope:Scope) (f:Addr) (cd:Value) (A:Around) (outer:List Env) (s:Shared) (H:Hp) (E:XK):Cx where
 prog:=P
 w:=w
 K:=K
 mg:=mg
 base:=base
 A:=A.deeper (envOfC qual scope s.heap.objs.size f cd)
 N:=N
 s₀:=s
 H₀:=H
 env:=envOfC qual scope s.heap.objs.size f cd
 outer:=outer
 stack:=envOfC qual scope s.heap.objs.size f cd::outer
 ex:=[]
 calm:=true
 fn:=λ_=>true
 pn:=[]
 xe:=λe s'=>wpAny (model P w) (A.deeper (envOfC qual scope s.heap.objs.size f cd)) (leaving (envOfC qual scope s.heap.objs.size f cd) e) (λ_ s''=>CX outer H s E e s'') (λe' s''=>CX outer H s E e' s'') s'
theorem sF {sc:Scope} {n:Nat} {x:Str} (h:sc.names.lookup x=some .cell):∃c,(cellsFrom n sc.names []).lookup x=some c:=by
 have q:=PySem.W.cellsFrom_some sc.names n [] (.inl h)
 exact Option.isSome_iff_exists.mp q
theorem wX {CX:CXT} {P:Program} {w:World} {K:PySem.W.Frag} {mg:Str->Option Value} {base:Heap} {N ps:List Str} {qual:Str} {scope:Scope} {f:Addr} {cd:Value} {A:Around} {outer:List Env} {s s1:Shared} {H:Hp} {E:XK} {us:List Value} {vs:List V}
  (S:FnScope N ps scope) (hd:A.handled=none) (e0:Env0 P w K mg base A outer s H) (hl:vs.length=ps.length) (r:Vals vs us)
  (x:InCallC s s.heap.objs.size (bindL (envOfC qual scope s.heap.objs.size f cd).kindOf (ps.zip us) λ_=>none) (cellsFrom (s.heap.objs.size+1) scope.names []) (bindC (envOfC qual scope s.heap.objs.size f cd).kindOf (ps.zip us) λ_=>none) s1) :
  Inv (bS CX P w K mg base N qual scope f cd A outer s H E) [] (fD N vs) H s1:=by
 have hpl:ps.length<=N.length:=by have:=congrArg List.length S.pre;rw[List.length_take] at this;omega
 obtain⟨h1,tk,rfl,hk⟩:=x.done
 have noA:∀b:Addr,b ∉ (bS CX P w K mg base N qual scope f cd A outer s H E).ex:=λb z=>absurd (show b∈([]:List Addr) from z) (by simp)
 refine⟨⟨e0.mod,S.kind,rfl,rfl,Nat.le_refl _,λy z c h1 h2=>?_,λy hy=>?_,λy c _ h=>?_,λ_=>hd,Around.frames_deeper e0.frames,.inr ⟨rfl,rfl⟩,λb z=>absurd z (noA b),e0.bs,e0.bsz,λb _ _=>noA b,λb z=>absurd z (noA b),e0.funs,e0.frf⟩,
  rfl,e0.bare,Un.kept hk,⟨_,x.toInCall.ns,λi y v h1 h2 h3=>?_⟩,λy c h=>⟨_,x.cell y c h⟩,e0.hok.fresh (Nat.le_refl _),λy c h=>?_,λp hp=>absurd (show p∈([]:List (Addr × Obj)) from hp) (by simp),e0.hok.kept hk,?_⟩
 ·exact name_of_addr x.apart (PySem.mem_of_lookup h1) (PySem.mem_of_lookup h2)
 ·have hy:scope.names.lookup y=some .cell\/scope.names.lookup y=some .free:=hy
  rcases hy with hy | hy
  ·exact sF hy
  ·exact absurd rfl (S.nofree _ (PySem.mem_of_lookup hy))
 ·exact Nat.le_of_lt (x.above y c (PySem.mem_of_lookup h))
 ·have hi:i<vs.length:=by
   unfold fD at h2
   by_cases hi:i<vs.length
   ·exact hi
   ·rw[List.getElem?_append_right (by simpa using hi)] at h2
    rw[List.getElem?_replicate] at h2
    split at h2 <;> cases h2
  have ha:vs[i]? = some v:=by
   unfold fD at h2
   rw[List.getElem?_append_left (by simpa using hi),List.getElem?_map] at h2
   cases e:vs[i]? with
   | none=>rw[e] at h2;cases h2
   | some a=>rw[e] at h2;cases h2;rfl
  obtain⟨u,hu,rv⟩:=r.get ha
  have hp:ps[i]? = some y:=by
   rw[<-S.pre,List.getElem?_take_of_lt (by omega)];exact h1
  have ndP:ps.Nodup:=by rw[<-S.pre];exact S.nd.sublist (List.take_sublist _ _)
  refine⟨u,rv,?_⟩
  rcases S.par y (List.mem_of_getElem? hp) with k | k
  ·exact .inl ⟨k,pI ndP hp hu k⟩
  ·obtain⟨c,e⟩:=sF (n:=s.heap.objs.size+1) k
   refine .inr ⟨.inl k,c,e,?_⟩
   have q:=x.cell y c e
   rw[pG ndP hp hu (by show scope.names.lookup y≠_;rw[k];decide)] at q
   exact q
 ·exact e0.hok.fresh (Nat.le_of_lt (x.above y c (PySem.mem_of_lookup h)))
 ·unfold fD
  show _=N.length
  rw[List.length_append,List.length_map,List.length_replicate]
  omega
theorem CY {CX:CXT} {P:Program} {w:World} {K:PySem.W.Frag} {mg:Str->Option Value} {base:Heap} {k:Nat} {f:Addr} {name qual:Str} {params:Arguments} {body:List Stmt} {scope:Scope} {dV kV doc pm cdv ct oc:Value} {an od:Option Addr}
  {osl:Array (Option Value)} {N ps:List Str} {sp:Sp} (lk:K.lookup f=some ⟨oc,od,.func (PySem.W.fnOf name qual params body scope dV kV doc pm an cdv ct),osl⟩) (hcd:PySem.W.codeIn K cdv qual=true) (S:FnScope N ps scope)
  (len:∀vs H Q E,sp vs H Q E->vs.length=ps.length)
  (hbody:∀(A:Around) (outer:List Env) (s:Shared) (H:Hp) (vs:List V) (Q:VK) (E:XK),Room k (A.deeper (envOfC qual scope s.heap.objs.size f cdv))->sp vs H Q E ->
   ∃t,PSs (bS CX P w K mg base N qual scope f cdv A outer s H E) body t/\t { nx:=λ_ H'=>Q .non H',rt:=Q } (fD N vs) H) :
  FnOk P w K mg base CX (k+1) f (PySem.W.fnOf name qual params body scope dV kV doc pm an cdv ct) ps sp:=by
 refine⟨len,λA outer s H args us vs Q E hr e0 hb r hsp=>?_⟩
 have hl:=len _ _ _ _ hsp
 have KX:K.In s.heap:=e0.mod.kin.keeps λb o e=>(e0.bs b o e).1
 have lim:s.heap.NoLimit:=e0.mod.nolimit.keeps λb o e=>(e0.bs b o e).1
 have hkind:∀y∈ps.zip us,scope.names.lookup y.1=some .local\/(scope.names.lookup y.1=some .cell/\((cellsFrom (s.heap.objs.size+1) scope.names []).lookup y.1).isSome=true):=λ⟨n,v⟩ hy=>by
  rcases S.par n (List.of_mem_zip hy).1 with q | q
  ·exact .inl q
  ·exact .inr ⟨q,PySem.W.cellsFrom_some _ _ _ (.inl q)⟩
 refine codeAny_call_function hr.depth (KX _ _ lk) rfl S.co S.gen rfl (PySem.W.codeRec_of KX hcd) (hb _ _ _ _ ?_)
 refine wpAny_newFunctionEnv_cells S.kind hkind λenv he s1 x=>?_
 subst he
 refine⟨lim.keeps x.toInCall.keep,codeAny_func ?_⟩
 obtain⟨t,ht,hq⟩:=hbody A outer s H vs Q E (hr.deeper _) hsp
 have I:Inv (bS CX P w K mg base N qual scope f cdv A outer s H E) [] (fD N vs) H s1:=wX S hr.hd e0 hl r x
 refine wpAny_mono (ht [] s1 (fD N vs) H _ I hq) (λfl s' hs=>?_) λe s' hs=>hs
 have fin:∀{σ':St} {H':Hp} {v:V} {u:Value},Inv (bS CX P w K mg base N qual scope f cdv A outer s H E) [] σ' H' s'->RelV v u->Q v H'->CE outer P w H s Q u s' :=
  λ{σ' H' v u} J rv q=>⟨v,H',J.os,J.bare,J.base,J.hok,rv,q⟩
 cases fl with
 | ret u =>
  obtain⟨v,σ',H',J,rv,q⟩:=hs
  exact fin J rv q
 | next =>
  obtain⟨σ',H',J,q⟩:=hs
  exact fin (v:=V.non) (u:=Value.none) J rfl q
 | brk =>
  obtain⟨_,_,_,q⟩:=hs
  exact False.elim q
 | cont =>
  obtain⟨_,_,_,q⟩:=hs
  exact False.elim q
end L2
namespace L2
open PySem PySem.Spec PyProof.Rows
section
variable {X:Cx} {x:Str} {p pos:Pos} {e:Expr} {es:List Expr} {t:TA} {id T:String} {r:List V->Hp->VK->Prop}
noncomputable def tCB (r:List V->Hp->VK->Prop) (t:TA):TE:=λσ H Q=>t σ H λvs H1=>r vs H1 Q
theorem oE (hc:jM X (.builtin id) r) (hg:Gl X x) (hm:X.mg x=none) (hv:bootBuiltins x=some (.builtin id)) (ha:PA X (e::es) t) (hn:x≠"__name__":=by decide) (hdb:(x == ("__debug__":Str))=false:=by decide)
  (he:starEach (e::es) X.env=(false,eval e X.env)::starEach es X.env:=by rfl) (hpl:(backTo pos (starEach es X.env)).any (·.1)=false:=by rfl):PE X (.Call (.Name x p) (e::es) [] pos) (tCB r t):=by
 intro pins s σ H Q I h
 refine wpAny_Call_Name_kw (gX I hg hm hv ?_ hn hdb)
 exact PyProof.Rows.callWith_builtin1 (thn (ha pos pins s σ H _ I h) λus s1 ⟨vs,H1,I1,r1,q1⟩=>hc pins s1 σ H1 vs us Q I1 r1 q1) he hpl
theorem pV (hc:jM X (.type T) r) (hg:Gl X x) (hm:X.mg x=none) (hv:bootBuiltins x=some (.type T)) (ha:PA X (e::es) t) (hn:x≠"__name__":=by decide) (hdb:(x == ("__debug__":Str))=false:=by decide)
  (he:starEach (e::es) X.env=(false,eval e X.env)::starEach es X.env:=by rfl) (hpl:(backTo pos (starEach es X.env)).any (·.1)=false:=by rfl):PE X (.Call (.Name x p) (e::es) [] pos) (tCB r t):=by
 intro pins s σ H Q I h
 refine wpAny_Call_Name_kw (gX I hg hm hv ?_ hn hdb)
 exact PyProof.Rows.callWith_type1 (thn (ha pos pins s σ H _ I h) λus s1 ⟨vs,H1,I1,r1,q1⟩=>hc pins s1 σ H1 vs us Q I1 r1 q1) he hpl
end
end L2
namespace HT
open PySem PyProof.Rows
noncomputable def lexLt:List Int->List Int->Bool
 | [],[]=>false
 | [],_::_=>true
 | _::_,[]=>false
 | x::xs,y::ys=>if x=y then lexLt xs ys else decide (x<y)
section
open PySem.SeqAt
open PySem.AutoSeq1 (wpAny_loadPart')
open PySem.MeetsSeq PySem.MeetsSeq2 PySem.MeetsSeq3
end
section
variable {prog:Program} {w:World} {A:Around} {E:Value->Shared->Prop} {s:Shared}
noncomputable def sIx (n d:Nat):Option Int->Nat
 | none=>d
 | some v=>if v<0 then (v+(n:Int)).toNat else min v.toNat n
end
end HT
namespace L2
open PySem PySem.Spec PyProof.Rows
noncomputable abbrev TO:=St->Hp->(Option Int->Hp->Prop)->Prop
section
variable {X:Cx} {e:Expr} {te:TE} {lo hi:Option Expr} {tl th:TO} {pos p2:Pos}
end
end L2
namespace L2
open PySem PySem.Spec PyProof.Rows
noncomputable def ixN (n:Nat) (i:Int):Option Nat:=if 0<=i then (if i<n then some i.toNat else none) else if -(n:Int)<=i then some (i+n).toNat else none
noncomputable def atI {α:Type} (xs:List α) (i:Int):Option α:=(ixN xs.length i).bind λj=>xs[j]?
theorem BS {n:Nat} {i:Int} {j:Nat} (h:ixN n i=some j):seqIndex? i n=some j/\j<n/\-(n:Int)<=i/\i<n:=by
 unfold ixN at h
 by_cases h0:0<=i
 ·rw[if_pos h0] at h
  by_cases h1:i<n
  ·rw[if_pos h1] at h
   have e:i.toNat=j:=Option.some.inj h
   exact⟨by rw[seqIndex_of h0 h1,e],by omega,by omega,h1⟩
  ·rw[if_neg h1] at h;cases h
 ·rw[if_neg h0] at h
  by_cases h1:-(n:Int)<=i
  ·rw[if_pos h1] at h
   have e:(i+n).toNat=j:=Option.some.inj h
   exact⟨by rw[seqIndex_neg (by omega) h1,e],by omega,h1,by omega⟩
  ·rw[if_neg h1] at h;cases h
theorem qN {α:Type} {xs:List α} {i:Int} {v:α} (h:atI xs i=some v):∃j,seqIndex? i xs.length=some j/\xs[j]? = some v/\j<xs.length/\-(xs.length:Int)<=i/\i<xs.length:=by
 unfold atI at h
 cases e:ixN xs.length i with
 | none=>rw[e] at h;cases h
 | some j =>
  rw[e] at h
  obtain⟨h1,h2,h3,h4⟩:=BS e
  exact⟨j,h1,h,h2,h3,h4⟩
theorem cK {α:Type} {xs:List α} {j:Nat} {v:α} (h:xs[j]? = some v):atI xs (j:Int)=some v:=by
 have hj:j<xs.length:=(List.getElem?_eq_some_iff.mp h).1
 have e:ixN xs.length (j:Int)=some j:=by
  unfold ixN
  rw[if_pos (by omega),if_pos (by omega)];simp
 unfold atI;rw[e];exact h
noncomputable def qL (b:Expr):Prop:=∀o i,subscripted b false o i=operate [o,i] (getItem o i)
noncomputable def IxR (X:Cx) (r:R2):Prop :=
 ∀(value slice:Expr) (pins:List (Addr × Obj)) (s:Shared) (σ:St) (H:Hp) (x y:V) (v u:Value) (Q:VK),Inv X pins σ H s->RelV x v->RelV y u->r x y H Q ->
  subscripted slice false v u=operate [v,u] (getItem v u)->wpAny (model X.prog X.w) X.A (subscriptTail value slice v u) (EP X pins σ Q) X.xe s
noncomputable def MtR (X:Cx) (id:String) (r:V->List V->Hp->VK->Prop):Prop :=
 ∀(pins:List (Addr × Obj)) (s:Shared) (σ:St) (H:Hp) (x:V) (xs:List V) (v:Value) (us:List Value) (Q:VK),Inv X pins σ H s->RelV x v->Vals xs us->r x xs H Q ->
  wpAny (model X.prog X.w) X.A (call (.builtin id) (v::us)) (EP X pins σ Q) X.xe s
section
variable {X:Cx} {a b:Expr} {ta tb:TE} {pos:Pos}
theorem IxR.or {r r':R2} (h:IxR X r) (h':IxR X r'):IxR X (λx y H Q=>r x y H Q\/r' x y H Q):=by
 intro value slice pins s σ H x y v u Q I rx ry q hs
 rcases q with q | q
 ·exact h value slice pins s σ H x y v u Q I rx ry q hs
 ·exact h' value slice pins s σ H x y v u Q I rx ry q hs
theorem HL {r:R2} (hr:IxR X r) (ha:PE X a ta) (hb:PE X b tb) (hs:qL b):PE X (.Subscript a b pos) (tOp r ta tb):=by
 intro pins s σ H Q I h
 exact Subscript_ (GJ ha hb I h λv u s2 x y H2 I2 rx ry q=>hr a b pins s2 σ H2 x y v u Q I2 rx ry q (hs _ _))
noncomputable def IU (K:PySem.W.Frag):R2:=λx y H Q=>∃p xs i v,x = .ref p/\y = .int i/\SqL K H p xs/\atI xs i=some v/\Q v H
noncomputable def IV (K:PySem.W.Frag):R2:=λx y H Q=>∃p xs i v,x = .ref p/\y = .int i/\SqT K H p xs/\atI xs i=some v/\Q v H
theorem BT:IxR X (IU X.K):=by
 intro value slice pins s σ H x y v u Q I rx ry h hs
 obtain⟨p,xs,i,z,rfl,rfl,hq,he,q⟩:=h
 cases rx
 obtain⟨t,rfl⟩:=ry
 obtain⟨its,r,pl,hz⟩:=I.list hq
 obtain⟨j,h1,h2,h3,h4,h5⟩:=qN he
 obtain⟨w,ew,rw'⟩:=r.get h2
 have hl:=r.length
 have hn:=rG
 have fin:EP X pins σ Q w s:=⟨z,H,I,rw',q⟩
 by_cases h0:0<=i
 ·have hj:i.toNat=j:=by
   rw[seqIndex_of h0 h5] at h1
   exact Option.some.inj h1
  exact item_listR pl.isList h0 (by omega) (by rw[hj];simpa using ew) fin hs
 ·have hj:(i+(its.toArray.size:Int)).toNat=j:=by
   rw[seqIndex_neg (by omega) h4] at h1
   rw[List.size_toArray,<-hl]
   exact Option.some.inj h1
  exact subscriptTail_builtinR (x:=w) pl.isList.typeIs slot_list_getitem.lookup
   (wpAny_getItem_list_neg (Q:=λr s'=>r=w/\EP X pins σ Q r s') pl.isList (by omega) (by rw[List.size_toArray] <;> omega) (by omega) (by rw[hj];simpa using ew) ⟨rfl,fin⟩) hs
theorem EM:IxR X (IV X.K):=by
 intro value slice pins s σ H x y v u Q I rx ry h hs
 obtain⟨p,xs,i,z,rfl,rfl,hq,he,q⟩:=h
 cases rx
 obtain⟨t,rfl⟩:=ry
 obtain⟨its,r,pl,hz⟩:=I.tuple hq
 obtain⟨j,h1,h2,h3,h4,h5⟩:=qN he
 obtain⟨w,ew,rw'⟩:=r.get h2
 have hl:=r.length
 have hn:=rG
 have fin:EP X pins σ Q w s:=⟨z,H,I,rw',q⟩
 exact subscriptTail_builtinR (x:=w) pl.typeIs slot_tuple_getitem.lookup
  (getItem_tuple (j:=j) (Q:=λr s'=>r=w/\EP X pins σ Q r s') pl (by omega) (by omega) (by rw[List.size_toArray,<-hl];exact h1) (by simpa using ew) ⟨rfl,fin⟩) hs
theorem qO:jM X (.builtin "len") (λxs H Q=>∃p ys,xs=[.ref p]/\(SqL X.K H p ys\/SqT X.K H p ys)/\Q (.int ys.length) H):=by
 intro pins s σ H xs us Q I r h
 obtain⟨p,ys,rfl,hq,q⟩:=h
 obtain⟨u,rfl,rx⟩:=qJ r
 cases rx
 have hn:=rG
 rcases hq with hq | hq
 ·obtain⟨its,r',pl,hz⟩:=I.list hq
  have hlen:=r'.length
  exact Calls.call_len_list pl.isList (by simp only[List.size_toArray] <;> omega) ⟨.int ys.length,H,I.tok _,⟨s.toks+1,by rw[List.size_toArray,hlen]⟩,q⟩
 ·obtain⟨its,r',pl,hz⟩:=I.tuple hq
  have hlen:=r'.length
  exact len_tuple pl (by simp only[List.size_toArray] <;> omega) ⟨.int ys.length,H,I.tok _,⟨s.toks+1,by rw[List.size_toArray,hlen]⟩,q⟩
theorem qP:jM X (.type "list") (λxs H Q=>∃p ys,xs=[.ref p]/\(SqL X.K H p ys\/SqT X.K H p ys)/\∀l,H l=none->Q (.ref l) (upd H l (.lst ys))):=by
 intro pins s σ H xs us Q I r h
 obtain⟨p,ys,rfl,hq,q⟩:=h
 obtain⟨u,rfl,rx⟩:=qJ r
 cases rx
 have fin:∀(its:List Value),Vals ys its->ys.length<=sizeLine->∀(h':Heap) (c':Nat),(∀b o',s.heap.get? b=some o'->h'.get? b=some o') ->
   h'.get? s.heap.objs.size=some { cls:=.type "list",dict:=none,data:=.seq its.toArray c',slots:=#[] }->EP X pins σ Q (.ref s.heap.objs.size) { s with heap:=h' }:=λits r' hz h' c' kp e =>
  ⟨.ref s.heap.objs.size,_,I.laid (t':=s.toks) kp (Nat.le_refl _) (show ObjOk X.prog X.w _ h' _ (.lst ys) from ⟨hz,its,c',r',e⟩),rfl,q _ (I.hok.fresh (Nat.le_refl _))⟩
 rcases hq with hq | hq
 ·obtain⟨its,r',pl,hz⟩:=I.list hq
  have hlen:=r'.length
  obtain⟨o,ho,hc,n,hd⟩:=pl.isList
  exact call_list_seq p (.inl rfl) ho hc hd (λh' c' kp e=>fin its r' hz h' c' kp e) (by simp only[List.size_toArray] <;> omega)
 ·obtain⟨its,r',pl,hz⟩:=I.tuple hq
  have hlen:=r'.length
  obtain⟨o,ho,hc,n,hd⟩:=pl
  exact call_list_seq p (.inr rfl) ho hc hd (λh' c' kp e=>fin its r' hz h' c' kp e) (by simp only[List.size_toArray] <;> omega)
theorem oV:jM X (.type "tuple") (λxs H Q=>∃p ys,xs=[.ref p]/\((SqL X.K H p ys/\∀l,H l=none->Q (.ref l) (upd H l (.tup ys)))\/(SqT X.K H p ys/\Q (.ref p) H))):=by
 intro pins s σ H xs us Q I r h
 obtain⟨p,ys,rfl,h⟩:=h
 obtain⟨u,rfl,rx⟩:=qJ r
 cases rx
 rcases h with ⟨hq,q⟩ | ⟨hq,q⟩
 ·obtain⟨its,r',pl,hz⟩:=I.list hq
  have hlen:=r'.length
  refine call_tuple_list pl.isList (λh' kp=>?_) (by simp only[List.size_toArray] <;> omega)
  have I1:Inv X pins σ H { s with heap:=h' }:=I.kept (t':=s.toks) kp
  have I2:Inv X pins σ (upd H h'.objs.size (.tup ys)) { s with heap:=h'.push { cls:=.type "tuple",data:=.seq its.toArray } } :=
   I1.laid (t':=s.toks) (λb o e=>Heap.get?_push_of_some _ e) (Nat.le_refl _) (show ObjOk X.prog X.w _ _ _ (.tup ys) from ⟨hz,its,r',IsTup.new _ _⟩)
  exact⟨.ref h'.objs.size,_,I2,rfl,q _ (I1.hok.fresh (Nat.le_refl _))⟩
 ·obtain⟨its,r',pl,hz⟩:=I.tuple hq
  exact call_tuple_same pl ⟨.ref p,H,I,rfl,q⟩
noncomputable def tyV (K:PySem.W.Frag) (T:String) (x:V) (H:Hp):Prop:=match x with
 | .str _=>T = "str"
 | .int _=>T = "int"
 | .ref p=>(T = "list"/\∃xs,SqL K H p xs)\/(T = "tuple"/\∃o,K.lookup p=some o/\o.cls = .type "tuple"/\o.dict=none) \/
   (T = "dict"/\((∃kvs,H p=some (.dK kvs))\/∃kvs,H p=some (.dT kvs)))\/(T = "set"/\∃S n,H p=some (.set S n))
 | _=>False
theorem GC {pins:List (Addr × Obj)} {σ:St} {H:Hp} {s:Shared} {T:String} {x:V} {v:Value} (I:Inv X pins σ H s) (r:RelV x v) (ty:tyV X.K T x H) :
  s.TypeIs v T/\∀a,v = .ref a->∃ob,s.heap.get? a=some ob/\ob.dict=none:=by
 cases x with
 | str z =>
  obtain⟨t,rfl⟩:=r
  cases (show T = "str" from ty)
  exact⟨typeIs_str s z t,λ_ e=>nomatch e⟩
 | int i =>
  obtain⟨t,rfl⟩:=r
  cases (show T = "int" from ty)
  exact⟨typeIs_int s i t,λ_ e=>nomatch e⟩
 | ref p =>
  cases r
  rcases ty with ⟨rfl,xs,hq⟩ | ⟨rfl,o,hk,hc,hd⟩ | ⟨rfl,hk⟩ | ⟨rfl,S,n,hk⟩
  ·obtain⟨its,_,pl,_⟩:=I.list hq
   refine⟨pl.isList.typeIs,λa e=>?_⟩
   cases e
   obtain⟨o,n,e,c,hd,_⟩:=pl
   exact⟨o,e,hd⟩
  ·refine⟨⟨o,I.kIn p o hk,hc⟩,λa e=>?_⟩
   cases e
   exact⟨o,I.kIn _ o hk,hd⟩
  ·have z:∃o,s.heap.get? p=some o/\o.ExactDict:=by
    rcases hk with ⟨kvs,hk⟩ | ⟨kvs,hk⟩
    ·obtain⟨_,_,_,_,o,_,_,e,ex,_⟩:=I.hok p _ hk
     exact⟨o,e,ex⟩
    ·obtain⟨_,_,_,_,o,_,_,e,ex,_⟩:=I.hok p _ hk
     exact⟨o,e,ex⟩
   obtain⟨o,e,ex⟩:=z
   refine⟨⟨o,e,ex.1⟩,λa e2=>?_⟩
   cases e2
   exact⟨o,e,ex.2.1⟩
  ·obtain⟨o,_,_,_,e,ex,_⟩:=I.hok p _ hk
   refine⟨⟨o,e,ex.1⟩,λa e2=>?_⟩
   cases e2
   exact⟨o,e,ex.2.1⟩
 | _=>exact False.elim ty
noncomputable def tBM (K:PySem.W.Frag) (T:String) (r:V->List V->Hp->VK->Prop) (to:TE) (t:TA):TE:=λσ H Q=>to σ H λx H1=>tyV K T x H1/\t σ H1 λxs H2=>r x xs H2 Q
variable {o e:Expr} {es:List Expr} {to:TE} {t:TA} {name:Str} {apos cpos:Pos} {T id:String} {r:V->List V->Hp->VK->Prop}
theorem HK (pa:PlainAttrs T) (slot:Slot T name id) (hty:typeOf (.builtin id)=pure (.type "method_descriptor")) (hm:MtR X id r) (ho:PE X o to) (ha:PA X (e::es) t)
  (hbase:attributeBase o name X.env (eval o X.env)=eval o X.env:=by rfl)
  (hfew:((backTo cpos (starEach (e::es) X.env)).all (λx=>!x.1) && (backToKw cpos (keywordEach [] X.env)).all (λx=>x.1.isSome)
   && decide ((e::es).length+([]:List Keyword).length+(if ([]:List Keyword).isEmpty then 0 else 1)<30))=true:=by rfl)
  (hline:(apos.endLine == cpos.line)=true:=by rfl) (hs:starEach (e::es) X.env=(false,eval e X.env)::starEach es X.env:=by rfl) (hplain:(backTo cpos (starEach es X.env)).any (·.1)=false:=by rfl) :
  PE X (.Call (.Attribute o name apos) (e::es) [] cpos) (tBM X.K T r to t):=by
 intro pins s σ H Q I h
 refine wpAny_Call_method_late hbase hfew hline rfl (thn (ho pins s σ H _ I h) λv s1 ⟨x,H1,I1,r1,ty,q1⟩=>?_)
 obtain⟨h1,h2⟩:=GC I1 r1 ty
 refine⟨T,id,pa,slot,hty,h1,h2,?_⟩
 have hA:=ha cpos pins s1 σ H1 _ I1 q1
 rw[hs] at hA ⊢
 refine Calls.callWith_builtin (by show (false || (backTo cpos (starEach es X.env)).any (·.1))=false;rw[hplain] <;> rfl) (Calls.evalArgs_plain ?_)
 exact thn hA λus s2 ⟨vs,H2,I2,r2,q2⟩=>hm pins s2 σ H2 x vs v us Q I2 r1 r2 q2
end
end L2
namespace L2
open PySem PySem.Spec PyProof.Rows
noncomputable def MtM (X:Cx) (id:String) (r:V->List V->Hp->VK->Prop):Prop :=
 ∀(pins:List (Addr × Obj)) (s:Shared) (σ:St) (H:Hp) (x:V) (xs:List V) (v:Value) (us:List Value) (Q:VK),Inv X pins σ H s->RelV x v->Vals xs us->r x xs H Q ->
  wpAny (model X.prog X.w) X.A (call (.builtin id) (v::us)) (EP X pins σ Q) X.xe s
theorem Vals.one:∀{x:V} {us:List Value},Vals [x] us->∃u,us=[u]/\RelV x u
 | _,_,.cons r .nil=>⟨_,rfl,r⟩
section
variable {X:Cx} {pins:List (Addr × Obj)} {σ:St} {H:Hp} {s:Shared} {l b:Addr} {xs ys zs:List V}
theorem Inv.lset {its its':List Value} {n:Nat} {f:Array Value->Array Value} {t':Nat} (I:Inv X pins σ H s) (hH:H l=some (.lst xs))
  (e:s.heap.get? l=some { cls:=.type "list",data:=.seq its.toArray n }) (hf:f its.toArray=its'.toArray) (hv:Vals ys its') (hz:ys.length<=sizeLine) :
  Inv X pins σ (upd H l (.lst ys)) { s with heap:=s.heap.update l (Obj.mapSeq f),toks:=t' }:=by
 have q:=PySem.IsL.update e f
 rw[hf] at q
 refine I.write (x:=l) (e:=l) (by rw[hH];exact trivial) (.inl rfl) (λb' u hb hu=>(Heap.get?_update_other s.heap (Obj.mapSeq f) (Ne.symm hb)).trans hu) ⟨_,q⟩ ?_
 exact⟨hz,its',_,hv,q⟩
theorem Inv.lstM (I:Inv X pins σ H s) (hH:H l=some (.lst xs)):xs.length<=sizeLine/\∃(its:List Value) (n:Nat),Vals xs its/\xs.length=its.length/\s.heap.get? l=some { cls:=.type "list",data:=.seq its.toArray n }:=by
 obtain⟨z,its,n,r,e⟩:=I.hok l _ hH
 exact⟨z,its,n,r,r.length,e⟩
end
section
variable {X:Cx}
noncomputable def CM:V->List V->Hp->VK->Prop:=λx vs H Q=>∃l xs y,x = .ref l/\vs=[y]/\H l=some (.lst xs)/\xs.length<sizeLine/\Q .non (upd H l (.lst (xs++[y])))
theorem xJ:MtM X "list.append" CM:=by
 intro pins s σ H x vs v us Q I rx rv h
 obtain⟨l,xs,y,rfl,rfl,hH,hz,q⟩:=h
 cases rx
 obtain⟨u,rfl,ru⟩:=rv.one
 obtain⟨z,its,n,r,hl,e⟩:=I.lstM hH
 refine call_meets F.slot_list_append ⟨_,e,rfl⟩ F.entry_list_append (F.args_list_append_2 _ _) (PySem.list_append l its.toArray n u (by rw[List.size_toArray];omega)) ⟨e,?_⟩
 refine⟨.non,_,I.lset (its':=its++[u]) hH e (by simp) (r.append (.cons ru .nil)) ?_,rfl,q⟩
 rw[List.length_append,List.length_singleton]
 omega
end
section
variable {prog:Program} {w:World} {A:Around} {E:Value->Shared->Prop} {s:Shared}
end
section
variable {X:Cx}
end
end L2
namespace Att
open PySem PySem.W PySem.Calls PyProof.Rows
theorem mR {P:Params} {h:Heap}:∀(ns:List Int) (vs:List Value),WellAll P h vs (ns.map WData.int)->IntsAre vs ns:=by
 intro ns
 induction ns with
 | nil =>
  intro vs w
  rw[List.map_nil] at w
  cases w
  exact .nil
 | cons n ns ih =>
  intro vs w
  rw[List.map_cons] at w
  cases w with
  | cons a b =>
   cases a
   exact .cons _ _ (ih _ b)
theorem yB {l:OpenLaw} {n:Nat} (hn:l.most=some n) {P:Params} {h:Heap} {args:List WData} {vals:List Value}
  (hpre:l.row.toRowW.claim.pre args=true) (hwl:WellAll P h vals args) :
  ∃a vs ns,vals=[Value.ref a]/\args=[WData.list (ns.map WData.int)]/\h.get? a=some { cls:=.type "list",data:=.seq vs.toArray }/\IntsAre vs ns/\ns.length<=n:=by
 have hsh:WShape.hasAll [] args [.list .int]=true:=(pre_splitW hpre).1
 have hc:l.pre.holds [] { args:=args } = true:=(pre_splitW hpre).2
 obtain⟨d,r,rfl,h1,h2⟩:=hasAllW_cons hsh
 obtain rfl:=hasAllW_nil h2
 obtain⟨xs,rfl,h3⟩:=hasW_list h1
 obtain⟨ns,rfl⟩:=items_int h3
 have hlen:ns.length<=n:=by
  unfold OpenLaw.pre at hc
  have h4:(WTm.not (.lt (.lit (.int (n:Int))) (.len (.arg 0)))).holds [] { args:=[.list (ns.map .int)] } = true:=by
   have h4:=(holds_andW hc).1
   rw[hn] at h4
   exact h4
  have h5:=condW_of h4 (w_not (w_lt w_lit (w_len_list (w_arg rfl))))
  rw[List.length_map] at h5
  refine Nat.le_of_not_lt λq=>?_
  have q':(n:Int)<((ns.length:Nat):Int):=by omega
  first
   | (rw[decide_eq_true q'] at h5;exact absurd h5 (by decide))
   | (simp at h5;omega)
 cases hwl with
 | cons w1 w2 =>
  cases w2
  cases w1 with
  | list ho hall=>exact⟨_,_,ns,rfl,rfl,ho,mR ns _ hall,hlen⟩
theorem xP (l:OpenLaw) (args:List WData):l.row.toRowW.claim.post args (.bool true) args=true :=
 postW_of (r:=l.row.toRowW) (X:=(true == true))
  (show WShape.has [] (.bool true) .bool=true by first | rfl | decide | simp[WShape.has,WShape.arms,WShape.armsAll])
  (show (WTm.eq .res (.lit (.bool true))).value [] { args:=args,res:=some (.bool true),after:=args } = some (.bool (true == true)) from w_eq_bool (w_res rfl) w_lit) rfl
theorem attach_call {l:OpenLaw} {n:Nat} {q:Program} {loose:List Str} {XP:(Str->Option Value)->Heap->Prop} {YP:World->Heap->Prop} {d:DefRec}
  (hn:l.most=some n) (hdf:d.params.defaults=[])
  (call:∀(w:World) (s₀ s₁:Shared) (mg mb:Str->Option Value) (fa:Addr) (o:Obj) (pm cd doc:Value) (a:Addr) (vs:List Value) (ns:List Int),
   Ground q loose [] XP w s₀ mg mb s₁.heap->YP w s₁.heap ->
   s₁.heap.get? fa=some o->o.data = .func (docDef d.name d.params d.body d.scope pm cd doc)->s₁.heap.CodeRec cd d.name->mg d.name=some (.ref fa) ->
   s₁.heap.get? a=some { cls:=.type "list",data:=.seq vs.toArray }->IntsAre vs ns->ns.length<=n->s₁.gens = #[] ->
   codeAny (model l.prog w) callerA (.call (.ref fa) ⟨[.ref a],[]⟩) (λr s'=>r = .ok (.ret (.bool true))/\OldK s₁.heap s'.heap/\s'.os=s₁.os/\AllBare s'.gens) s₁) :
  WalkO q loose XP YP l.row.toRowW d [] (λf vs=>PySem.call f vs):=by
 intro w s₀ s₁ mg mb G Y fa o pm cd doc dV kV ho hd hcd hD hmg hg args vals as hpre hlay hrd hwl hlo
 obtain rfl:dV = .none:=Dflts.none hD hdf
 obtain rfl:kV = .none:=Dflts.noKw hD
 obtain⟨a,vs,ns,rfl,rfl,hobj,hints,hlen⟩:=yB hn hpre hwl
 refine enter_call (codeAny_mono (call w s₀ s₁ mg mb fa o pm cd doc a vs ns G Y ho (fd_plain hd) hcd hmg hobj hints hlen hg) λr s' hq=>?_)
 obtain⟨rfl,h2,h3,h4⟩:=hq
 exact⟨.inl ⟨.bool true,.bool true,[],rfl,λ_=>rfl,.bool true,xP l _,λ_=>⟨List.Pairwise.nil,λ_ hm=>(nomatch hm)⟩⟩,h2,h3,h4⟩
section
variable {prog:Program} {w:World} {A:Around} {E:Value->Shared->Prop} {s:Shared} {K:Frag}
end
end Att
namespace L2
open PySem PySem.Spec PyProof.Rows
theorem iP:∀{vs:List Value} {ns:List Int},IntsAre vs ns->Vals (ns.map V.int) vs
 | _,_,.nil=>.nil
 | _,_,.cons n t h=>.cons ⟨t,rfl⟩ (iP h)
end L2
namespace L2
open PySem PySem.Spec PyProof.Rows
noncomputable abbrev KOf {K:PySem.W.Frag} {h:Heap} (_:K.In h):PySem.W.Frag:=K
end L2
namespace L2
open PySem PySem.Spec PyProof.Rows
noncomputable def aX (s:Stmt):Arguments:=match s with
 | .FunctionDef _ a _ _ _ _ _ _ _ _=>a
 | _=>{ posonlyargs:=[],args:=[],vararg:=none,kwonlyargs:=[],kw_defaults:=[],kwarg:=none,defaults:=[] }
noncomputable def aH (s:Stmt):List Stmt:=match s with
 | .FunctionDef _ _ b _ _ _ _ _ _ _=>b
 | _=>[]
noncomputable def aA (s:Stmt):Scope:=match s with
 | .FunctionDef _ _ _ _ _ _ sc _ _ _=>sc
 | _=>{ kind:=.function,names:=[],isGenerator:=false,isCoroutine:=false }
noncomputable abbrev CX0:CXT:=λ_ _ _ _ _ _=>False
noncomputable abbrev E0:XK:=λ_ _ _=>False
theorem AD {X:Cx}:tY CX0 X E0:=λ_ _ _ _ _ _ _ h=>h.elim
structure Fun (K:PySem.W.Frag) (x qual:Str) (st:Stmt) (f:Addr) (fd:FuncData):Prop where
 ex:∃(oc:Value) (od:Option Addr) (kV doc pm:Value) (an:Option Addr) (cdv ct:Value) (osl:Array (Option Value)),
  fd=PySem.W.fnOf x qual (aX st) (aH st) (aA st) .none kV doc pm an cdv ct/\K.lookup f=some ⟨oc,od,.func fd,osl⟩/\PySem.W.codeIn K cdv qual=true
 kp:PySem.W.keepIn K (.ref f)=true
section
variable {P:Program} {w:World} {K:PySem.W.Frag} {mg:Str->Option Value} {base:Heap}
theorem Fun.ok {x qual:Str} {st:Stmt} {f:Addr} {fd:FuncData} {N ps:List Str} {k:Nat} {sp:Sp} (F:Fun K x qual st f fd) (S:FnScope N ps (aA st)) (len:∀vs H Q E,sp vs H Q E->vs.length=ps.length)
  (hbody:∀(cdv:Value) (A:Around) (outer:List Env) (s:Shared) (H:Hp) (vs:List V) (Q:VK) (E:XK),Room k (A.deeper (envOfC qual (aA st) s.heap.objs.size f cdv))->sp vs H Q E ->
   ∃t,PSs (bS CX0 P w K mg base N qual (aA st) f cdv A outer s H E).nox (aH st) t/\t { nx:=λ_ H'=>Q .non H',rt:=Q } (fD N vs) H):FnOk P w K mg base CX0 (k+1) f fd ps sp:=by
 obtain⟨oc,od,kV,doc,pm,an,cdv,ct,osl,rfl,lk,hcd⟩:=F.ex
 refine CY lk hcd S len λA outer s H vs Q E hr hsp=>?_
 obtain⟨t,h,q⟩:=hbody cdv A outer s H vs Q E hr hsp
 exact⟨t,h.nox,q⟩
theorem bJ {x qual:Str} {st:Stmt} {f:Addr} {oc:Value} {od an:Option Addr} {osl:Array (Option Value)} {kV doc pm cdv ct:Value} (l:K.lookup f=some ⟨oc,od,.func (PySem.W.fnOf x qual (aX st) (aH st) (aA st) .none kV doc pm an cdv ct),osl⟩)
  (c:PySem.W.codeIn K cdv qual=true) (k:PySem.W.keepIn K (.ref f)=true):Fun K x qual st f (PySem.W.fnOf x qual (aX st) (aH st) (aA st) .none kV doc pm an cdv ct):=⟨⟨oc,od,kV,doc,pm,an,cdv,ct,osl,rfl,l,c⟩,k⟩
end
section
variable {X:Cx}
theorem pv (i:Nat) {x:Str} {pos:Pos} (hN:X.N[i]? = some x:=by rfl) (hv:Vis X.env.scope x:=by walk_at "vis") (hd:(x == ("__debug__":Str))=false:=by decide)
  (hcd:(x == ("__classdict__":Str))=false:=by decide):PE X (.Name x pos) (IJ i):=FH hN hv hd hcd
end
noncomputable def Same (H H':Hp):Prop:=∀b o,H b=some o->H' b=some o
theorem Same.refl (H:Hp):Same H H:=λ_ _ h=>h
theorem Same.trans {H H1 H2:Hp} (a:Same H H1) (b:Same H1 H2):Same H H2:=λc o h=>b c o (a c o h)
theorem Same.free {H H':Hp} (e:Same H H') {l:Addr} (h:H' l=Option.none):H l=Option.none:=by
 cases q:H l with
 | none=>rfl
 | some o =>
  rw[e l o q] at h
  cases h
end L2
set_option linter.all false
namespace L2.R2
noncomputable abbrev Pt:=Int × Int
noncomputable def ltP (a b:Pt):Prop:=a.1<b.1\/(a.1=b.1/\a.2<b.2)
instance (a b:Pt):Decidable (ltP a b):=by unfold ltP;infer_instance
end L2.R2
set_option Elab.async false
set_option linter.all false
namespace L2.R2
noncomputable abbrev jS:=Pt × Pt
noncomputable def sd (a b:Pt):List jS:=if a.1<b.1 then [(a,b)] else if b.1<a.1 then [(b,a)] else []
noncomputable def vZ:Pt->List Pt->List jS
 | _,[]=>[]
 | a,b::r=>sd a b++vZ b r
noncomputable def AX:List Pt->List jS
 | []=>[]
 | a::r=>vZ a (r++[a])
noncomputable def cov (c:Int) (s:jS):Bool:=decide (s.1.1<=c) && decide (c<s.2.1)
end L2.R2
set_option Elab.async false
set_option linter.all false
namespace L2.R2
noncomputable def wid (s:jS):Int:=s.2.1-s.1.1
noncomputable def hB (B:Int) (s:jS) (t:Int):Int:=(s.1.2*wid s+(s.2.2-s.1.2)*(t-s.1.1))*B.fdiv (wid s)
noncomputable def slope (s:jS):Int:=(s.2.2-s.1.2)*(60:Int).fdiv (wid s)
structure SdOk (s:jS):Prop where
 pos:0<wid s
 dvd:wid s∣60
noncomputable def sA (S:List jS) (c:Int):Prop:=∀s∈S,∀s'∈S,cov c s=true->cov c s'=true->hB 60 s c<hB 60 s' c->hB 60 s (c+1)<=hB 60 s' (c+1)
theorem FU {a b:Pt} {s:jS} (h:s∈sd a b):(s=(a,b)\/s=(b,a))/\0<wid s:=by
 unfold sd at h
 split at h
 ·rw[List.mem_singleton] at h;subst h;exact⟨.inl rfl,by unfold wid;dsimp only;omega⟩
 ·split at h
  ·rw[List.mem_singleton] at h;subst h;exact⟨.inr rfl,by unfold wid;dsimp only;omega⟩
  ·cases h
theorem tX:∀{r:List Pt} {a:Pt} {s:jS},s∈vZ a r->∃p q,p∈a::r/\q∈a::r/\s∈sd p q
 | [],_,_,h=>by cases h
 | b::r,a,s,h=>by
  rw[vZ] at h
  rcases List.mem_append.mp h with h | h
  ·exact⟨a,b,.head _,.tail _ (.head _),h⟩
  ·obtain⟨p,q,h1,h2,h3⟩:=tX h
   exact⟨p,q,.tail _ h1,.tail _ h2,h3⟩
theorem yC {g:List Pt} {s:jS} (h:s∈AX g):(s.1∈g/\s.2∈g)/\0<wid s:=by
 cases g with
 | nil=>cases h
 | cons a r =>
  obtain⟨p,q,h1,h2,h3⟩:=tX h
  have m:∀x∈a::(r++[a]),x∈a::r:=λx hx=>by
   rcases List.mem_cons.mp hx with rfl | hx
   ·exact .head _
   ·rcases List.mem_append.mp hx with hx | hx
    ·exact .tail _ hx
    ·rw[List.mem_singleton.mp hx];exact .head _
  obtain⟨e,k⟩:=FU h3
  refine⟨?_,k⟩
  rcases e with rfl | rfl
  ·exact⟨m _ h1,m _ h2⟩
  ·exact⟨m _ h2,m _ h1⟩
end L2.R2
set_option Elab.async false
set_option linter.all false
namespace L2.R2
noncomputable abbrev IP:=Int × Int
end L2.R2
set_option linter.all false
namespace L2.R2
end L2.R2
set_option linter.all false
namespace L2.R2
end L2.R2
set_option linter.all false
namespace L2.R2
theorem eD {α:Type} [DecidableEq α]:∀(l m:List α),l.Nodup->(∀x∈l,x∈m)->l.length<=m.length
 | [],_,_,_=>Nat.zero_le _
 | x::l,m,hn,hs=>by
  have hx:=hs x (.head _)
  have hn':=List.nodup_cons.mp hn
  have:=eD l (m.erase x) hn'.2 λy hy=>(List.mem_erase_of_ne λ(e:y=x)=>hn'.1 (e ▸ hy)).mpr (hs y (.tail _ hy))
  rw[List.length_erase_of_mem hx] at this
  exact Nat.le_trans (Nat.succ_le_succ this) (Nat.le_of_eq (Nat.succ_pred_eq_of_pos (List.length_pos_of_mem hx)))
end L2.R2
set_option Elab.async false
set_option linter.all false
set_option maxRecDepth 100000
namespace L2.R2
open PySem PySem.Spec PyProof.Rows L2
inductive D where
 | non | bl (b:Bool) | int (i:Int) | str (x:Str) | tup (xs:List D) | lst (xs:List D) | dct (ks:List Int) (xs:List D) | dtt (ks:List (List Int)) (xs:List D)
noncomputable def FzL (K:PySem.W.Frag) (H:Hp) (a:Addr) (vs:List V):Prop :=
 (∃o,H a=some (.frz o (.lst vs))) \/
  ∃(o:Obj) (its:Array Value) (n:Nat),K.lookup a=some o/\o.cls = .type "list"/\o.dict=none/\o.data = .seq its n/\its.size<=sizeLine/\Vals vs its.toList
theorem FzL.sq {K:PySem.W.Frag} {H:Hp} {a:Addr} {vs:List V}:FzL K H a vs->SqL K H a vs
 | .inl ⟨o,h⟩=>.inl (.inr ⟨o,h⟩)
 | .inr h=>.inr h
noncomputable def eO (col:Nat):Str:=if col=28 then "rising.<locals>.<lambda>" else if col=59 then "framed_rising.<locals>.<lambda>" else "laid_triangles.<locals>.<lambda>"
noncomputable abbrev jN (c:Addr) (q:Str):HO:=.ext λh=>∃oc vs t,h.get? c=some oc/\oc.data = .fields vs/\vs[1]? = some (.str q t)
structure LamOk (H:Hp) (ps:Array Value):Prop where
 ok:TriplesOk ps.toList
 code:∀pos cv,codeAmong pos ps.toList=some cv->∃c,cv = .ref c/\H c=some (jN c (eO pos.col))
noncomputable def LamK (H H':Hp):Prop:=∀b ps,H b=some (.tbl ps)->∃more,H' b=some (.tbl (ps++more))/\(LamOk H ps->LamOk H' (ps++more))
theorem LamK.trans {H H1 H2:Hp} (a:LamK H H1) (b:LamK H1 H2):LamK H H2:=λc ps h=>by
 obtain⟨m1,e1,f1⟩:=a c ps h
 obtain⟨m2,e2,f2⟩:=b c _ e1
 exact⟨m1++m2,by rw[e2,Array.append_assoc],λx=>by rw[<-Array.append_assoc];exact f2 (f1 x)⟩
theorem LamOk.mono {H H':Hp} {ps:Array Value} (x:LamOk H ps) (k:∀b φ,H b=some (.ext φ)->H' b=some (.ext φ)):LamOk H' ps:=⟨x.ok,λpos cv e=>let ⟨c,e1,e2⟩:=x.code pos cv e;⟨c,e1,k _ _ e2⟩⟩
theorem LamK.of {H H':Hp} (k:∀b φ,H b=some (.ext φ)->H' b=some (.ext φ)) (h:∀b ps,H b=some (.tbl ps)->H' b=some (.tbl ps)):LamK H H':=λb ps e=>⟨#[],by rw[Array.append_empty];exact h b ps e,λx=>by rw[Array.append_empty];exact x.mono k⟩
noncomputable def NT:HO->Prop
 | .tbl _=>False
 | _=>True
structure Keep (H H':Hp):Prop where
 tups:∀b xs,H b=some (.tup xs)->H' b=some (.tup xs)
 frzs:∀b o u,H b=some (.frz o u)->H' b=some (.frz o u)
 exts:∀b φ,H b=some (.ext φ)->H' b=some (.ext φ)
 xds:∀b fs,H b=some (.xd fs)->H' b=some (.xd fs)
 tbls:LamK H H'
theorem Keep.refl (H:Hp):Keep H H:=⟨λ_ _ h=>h,λ_ _ _ h=>h,λ_ _ h=>h,λ_ _ h=>h,.of (λ_ _ h=>h) λ_ _ h=>h⟩
theorem Keep.trans {H H1 H2:Hp} (a:Keep H H1) (b:Keep H1 H2):Keep H H2 :=
 ⟨λc xs h=>b.tups c xs (a.tups c xs h),λc o u h=>b.frzs c o u (a.frzs c o u h),λc φ h=>b.exts c φ (a.exts c φ h),λc fs h=>b.xds c fs (a.xds c fs h),a.tbls.trans b.tbls⟩
structure Same (H H':Hp):Prop where
 get:∀b o,H b=some o->NT o->H' b=some o
 tbls:LamK H H'
theorem Same.fn {H H':Hp} (f:∀b o,H b=some o->H' b=some o):Same H H':=⟨λb o h _=>f b o h,.of (λb φ h=>f b _ h) λb ps h=>f b _ h⟩
theorem Same.refl (H:Hp):Same H H:=.fn λ_ _ h=>h
theorem Same.trans {H H1 H2:Hp} (a:Same H H1) (b:Same H1 H2):Same H H2:=⟨λc o h n=>b.get c o (a.get c o h n) n,a.tbls.trans b.tbls⟩
theorem Same.free {H H':Hp} (e:Same H H') {l:Addr} (h:H' l=Option.none):H l=Option.none:=by
 cases q:H l with
 | none=>rfl
 | some o =>
  cases o with
  | tbl ps=>obtain⟨m,e1,_⟩:=e.tbls l ps q;rw[e1] at h;cases h
  | _=>rw[e.get l _ q trivial] at h;cases h
theorem Same.tbl {H H':Hp} (s:Same H H') {b:Addr} {ps:Array Value} (h:H b=some (.tbl ps)):∃more,H' b=some (.tbl (ps++more)):=let ⟨m,e,_⟩:=s.tbls b ps h;⟨m,e⟩
theorem Keep.of {H H':Hp} (s:Same H H'):Keep H H':=⟨λb xs h=>s.get b _ h trivial,λb o u h=>s.get b _ h trivial,λb φ h=>s.get b _ h trivial,λb fs h=>s.get b _ h trivial,s.tbls⟩
theorem Keep.ofF {H H':Hp} (f:∀b o,H b=some o->H' b=some o):Keep H H':=.of (.fn f)
noncomputable def eC:List Str:=["rising","framed_rising","laid_triangles"]
noncomputable def TabsIn (K:PySem.W.Frag) (H:Hp):Prop:=∀x c P,x∈eC->PySem.W.tabIn K x=some (c,P)->∃ps,H P=some (.tbl ps)/\LamOk H ps
theorem TabsIn.tabK {K:PySem.W.Frag} {H H':Hp} (t:TabsIn K H) (k:LamK H H'):TabsIn K H':=λx c P m e=>by
 obtain⟨ps,h1,h2⟩:=t x c P m e
 obtain⟨more,h3,h4⟩:=k P ps h1
 exact⟨_,h3,h4 h2⟩
theorem Keep.chg1 {H:Hp} {p:Addr} {u u':HO} (h:H p=some u) (n:(∃xs,u = .lst xs)\/(∃kvs,u = .dK kvs)\/∃kvs,u = .dT kvs):Keep H (upd H p u'):=by
 have ne:∀b o,H b=some o->(∀xs,o≠.lst xs)->(∀kvs,o≠.dK kvs)->(∀kvs,o≠.dT kvs)->upd H p u' b=some o:=λb o q n1 n2 n3=>by
  rw[aG]
  ·exact q
  ·rintro rfl
   rw[h] at q;cases q
   rcases n with ⟨xs,rfl⟩ | ⟨kvs,rfl⟩ | ⟨kvs,rfl⟩
   ·exact n1 _ rfl
   ·exact n2 _ rfl
   ·exact n3 _ rfl
 exact⟨λb _ q=>ne b _ q (λ_ z=>by cases z) (λ_ z=>by cases z) (λ_ z=>by cases z),λb _ _ q=>ne b _ q (λ_ z=>by cases z) (λ_ z=>by cases z) (λ_ z=>by cases z),λb _ q=>ne b _ q (λ_ z=>by cases z) (λ_ z=>by cases z) (λ_ z=>by cases z),λb _ q=>ne b _ q (λ_ z=>by cases z) (λ_ z=>by cases z) (λ_ z=>by cases z),
  .of (λb _ q=>ne b _ q (λ_ z=>by cases z) (λ_ z=>by cases z) (λ_ z=>by cases z)) λb _ q=>ne b _ q (λ_ z=>by cases z) (λ_ z=>by cases z) (λ_ z=>by cases z)⟩
noncomputable def vT (ks:List Int) (vs:List V):List (Key × V):=List.zipWith (λk v=>(Sum.inl k,v)) ks vs
noncomputable def aV (ks:List (List Int)) (vs:List V):List (List Key × V):=List.zipWith (λk v=>(k.map Sum.inl,v)) ks vs
mutual
inductive Rep (K:PySem.W.Frag) (H:Hp):D->V->Prop
 | non:Rep K H .non .non
 | bl (b:Bool):Rep K H (.bl b) (.bl b)
 | int (i:Int):Rep K H (.int i) (.int i)
 | str (x:Str):Rep K H (.str x) (.str x)
 | tup {a:Addr} {vs:List V} {ds:List D} (h:H a=some (.tup vs)) (r:Reps K H ds vs):Rep K H (.tup ds) (.ref a)
 | lst {a:Addr} {vs:List V} {ds:List D} (h:FzL K H a vs) (r:Reps K H ds vs):Rep K H (.lst ds) (.ref a)
 | dct {a:Addr} {vs:List V} {ds:List D} {ks:List Int} {o:Obj} (h:H a=some (.frz o (.dK (vT ks vs)))) (hl:ks.length=vs.length) (r:Reps K H ds vs):Rep K H (.dct ks ds) (.ref a)
 | dtt {a:Addr} {vs:List V} {ds:List D} {ks:List (List Int)} {o:Obj} (h:H a=some (.frz o (.dT (aV ks vs)))) (hl:ks.length=vs.length) (r:Reps K H ds vs):Rep K H (.dtt ks ds) (.ref a)
inductive Reps (K:PySem.W.Frag) (H:Hp):List D->List V->Prop
 | nil:Reps K H [] []
 | cons {d:D} {v:V} {ds:List D} {vs:List V} (h:Rep K H d v) (t:Reps K H ds vs):Reps K H (d::ds) (v::vs)
end
section
variable {K:PySem.W.Frag} {H H':Hp}
theorem FzL.keep {a:Addr} {vs:List V} (k:Keep H H') (h:FzL K H a vs):FzL K H' a vs:=by
 rcases h with ⟨o,h⟩ | h
 ·exact .inl ⟨o,k.frzs _ _ _ h⟩
 ·exact .inr h
mutual
theorem Rep.keep (k:Keep H H'):∀{d:D} {v:V},Rep K H d v->Rep K H' d v
 | _,_,.non=>.non
 | _,_,.bl b=>.bl b
 | _,_,.int i=>.int i
 | _,_,.str x=>.str x
 | _,_,.tup h r=>.tup (k.tups _ _ h) (Reps.keep k r)
 | _,_,.lst h r=>.lst (FzL.keep k h) (Reps.keep k r)
 | _,_,.dct h hl r=>.dct (k.frzs _ _ _ h) hl (Reps.keep k r)
 | _,_,.dtt h hl r=>.dtt (k.frzs _ _ _ h) hl (Reps.keep k r)
theorem Reps.keep (k:Keep H H'):∀{ds:List D} {vs:List V},Reps K H ds vs->Reps K H' ds vs
 | _,_,.nil=>.nil
 | _,_,.cons h t=>.cons (Rep.keep k h) (Reps.keep k t)
end
theorem Reps.length:∀{ds:List D} {vs:List V},Reps K H ds vs->ds.length=vs.length
 | _,_,.nil=>rfl
 | _,_,.cons _ t=>by simp[Reps.length t]
theorem Reps.get:∀{ds:List D} {vs:List V} {i:Nat} {d:D},Reps K H ds vs->ds[i]? = some d->∃v,vs[i]? = some v/\Rep K H d v
 | _,_,_,_,.nil,e=>by simp at e
 | _,_,0,_,.cons h _,e=>by simp at e;subst e;exact⟨_,rfl,h⟩
 | _,_,i+1,d,.cons _ t,e=>by
  obtain⟨v,h1,h2⟩:=Reps.get (i:=i) (d:=d) t (by simpa using e)
  exact⟨v,by simpa using h1,h2⟩
theorem Reps.append:∀{ds es:List D} {vs us:List V},Reps K H ds vs->Reps K H es us->Reps K H (ds++es) (vs++us)
 | _,_,_,_,.nil,s=>s
 | _,_,_,_,.cons h t,s=>.cons h (Reps.append t s)
theorem Rep.int_inv {i:Int} {v:V} (h:Rep K H (.int i) v):v = .int i:=by cases h;rfl
theorem Rep.bl_inv {b:Bool} {v:V} (h:Rep K H (.bl b) v):v = .bl b:=by cases h;rfl
theorem Reps.ints:∀{ns:List Int},Reps K H (ns.map D.int) (ns.map V.int)
 | []=>.nil
 | _::_=>.cons (.int _) Reps.ints
theorem Reps.ints_inv:∀{ns:List Int} {vs:List V},Reps K H (ns.map D.int) vs->vs=ns.map V.int
 | [],_,h=>by cases h;rfl
 | n::ns,_,h=>by
  cases h with
  | cons h t=>rw[h.int_inv,Reps.ints_inv t];rfl
end
noncomputable def RepB (K:PySem.W.Frag) (H:Hp) (d:D) (v:V):Prop :=
 Rep K H d v\/∃ds a vs,d = .lst ds/\v = .ref a/\H a=some (.lst vs)/\Reps K H ds vs
theorem RepB.same {K:PySem.W.Frag} {H H':Hp} {d:D} {v:V} (s:Same H H') (h:RepB K H d v):RepB K H' d v:=by
 rcases h with h | ⟨ds,a,vs,e1,e2,e3,r⟩
 ·exact .inl (h.keep (.of s))
 ·exact .inr ⟨ds,a,vs,e1,e2,s.get _ _ e3 trivial,r.keep (.of s)⟩
theorem RepB.lst {K:PySem.W.Frag} {H:Hp} {ds:List D} {v:V} (h:RepB K H (.lst ds) v):∃a vs,v = .ref a/\SqL K H a vs/\Reps K H ds vs:=by
 rcases h with h | ⟨ds',a,vs,e1,e2,e3,r⟩
 ·cases h with
  | lst h r=>exact⟨_,_,rfl,h.sq,r⟩
 ·cases e1;exact⟨a,vs,e2,SqL.of e3,r⟩
theorem RepB.tup {K:PySem.W.Frag} {H:Hp} {ds:List D} {v:V} (h:RepB K H (.tup ds) v):∃a vs,v = .ref a/\H a=some (.tup vs)/\Reps K H ds vs:=by
 rcases h with h | ⟨ds',a,vs,e1,e2,e3,r⟩
 ·cases h with
  | tup h r=>exact⟨_,_,rfl,h,r⟩
 ·cases e1
inductive S where
 | d (x:D) | own (xs:List D) | dcl (kvs:List (Int × List D)) | box (t:Bool) (xss:List (List D)) | exc (C:Addr) (y:Str) (c:Int) | dt (ks:List (List Int)) (xs:List D) | raw (v:V)
noncomputable def S.val:S->D
 | .d x=>x
 | .own xs=>.lst xs
 | .dcl _=>.non
 | .box _ _=>.non
 | .exc _ _ _=>.non
 | .dt _ _=>.non
 | .raw _=>.non
noncomputable abbrev En:=List (Option S)
inductive Dcl (K:PySem.W.Frag) (H₀ H:Hp):List (Int × List D)->List (Key × V)->List Addr->Prop
 | nil:Dcl K H₀ H [] [] []
 | cons {k:Int} {b:Addr} {vs:List V} {ds:List D} {kvs:List (Int × List D)} {kws:List (Key × V)} {as:List Addr} (h:H b=some (.lst vs)) (h0:H₀ b=none) (r:Reps K H ds vs) (n:b ∉ as) (t:Dcl K H₀ H kvs kws as) :
   Dcl K H₀ H ((k,ds)::kvs) ((Sum.inl k,.ref b)::kws) (b::as)
noncomputable abbrev BB (C e dx:Addr):HO:=.ext λh=>∃oe vs,h.get? e=some oe/\oe.cls = .ref C/\oe.data = .fields vs/\oe.dict=some dx
noncomputable def RelS (K:PySem.W.Frag) (H₀ H:Hp):S->V->Prop
 | .exc C y c,v=>∃e dx,v = .ref e/\H e=some (BB C e dx)/\H dx=some (.xd [(y,.int c)])
 | .d x,v=>Rep K H x v
 | .raw u,v=>v=u
 | .dt ks xs,v=>∃a vs,v = .ref a/\H a=some (.dT (aV ks vs))/\H₀ a=none/\ks.length=vs.length/\Reps K H xs vs
 | .own xs,v=>∃a vs,v = .ref a/\H a=some (.lst vs)/\H₀ a=none/\Reps K H xs vs
 | .dcl kvs,v=>∃a kws as,v = .ref a/\H a=some (.dK kws)/\H₀ a=none/\Dcl K H₀ H kvs kws as
 | .box false xss,v=>∃a kws as,v = .ref a/\H a=some (.lst (as.map V.ref))/\H₀ a=none/\a ∉ as/\Dcl K H₀ H (xss.map λx=>(0,x)) kws as
 | .box true xss,v=>∃a kws as,v = .ref a/\H a=some (.tup (as.map V.ref))/\Dcl K H₀ H (xss.map λx=>(0,x)) kws as
noncomputable def Ow (H:Hp):S->V->Addr->Prop
 | .exc _ _ _,_,_=>False
 | .raw _,_,_=>False
 | .d _,_,_=>False
 | .own _,v,a=>v = .ref a
 | .dt _ _,v,a=>v = .ref a
 | .dcl _,v,a=>∃p kws,v = .ref p/\H p=some (.dK kws)/\(a=p\/∃k,(k,V.ref a)∈kws)
 | .box false _,v,a=>∃p vs,v = .ref p/\H p=some (.lst vs)/\(a=p\/V.ref a∈vs)
 | .box true _,v,a=>∃p vs,v = .ref p/\H p=some (.tup vs)/\V.ref a∈vs
structure StOk (X:Cx) (ρ:En) (σ:St) (H:Hp):Prop where
 len:ρ.length=σ.length
 same:Same X.H₀ H
 rel:∀(i:Nat) (x:S),ρ[i]? = some (some x)->∃v,σ[i]? = some (some v)/\RelS X.K X.H₀ H x v
 sep:∀(i j:Nat) (x y:S) (v u:V) (a:Addr),ρ[i]? = some (some x)->ρ[j]? = some (some y)->σ[i]? = some (some v)->σ[j]? = some (some u)->Ow H x v a->Ow H y u a->i=j
 t0:TabsIn X.K X.H₀
section
variable {K:PySem.W.Frag} {H₀ H H':Hp}
theorem Dcl.keep {kvs:List (Int × List D)} {kws:List (Key × V)} {as:List Addr} (k:Keep H H') (t:Dcl K H₀ H kvs kws as) (w:∀a∈as,∀o,H a=some o->H' a=some o):Dcl K H₀ H' kvs kws as:=by
 induction t with
 | nil=>exact .nil
 | cons h h0 r n t ih=>exact .cons (w _ (.head _) _ h) h0 (r.keep k) n (ih λa m=>w a (.tail _ m))
theorem Dcl.mem {kvs:List (Int × List D)} {kws:List (Key × V)} {as:List Addr} {a:Addr} (t:Dcl K H₀ H kvs kws as):a∈as↔∃k,(k,V.ref a)∈kws:=by
 induction t with
 | nil=>simp
 | cons h h0 r n t ih =>
  rw[List.mem_cons,ih]
  constructor
  ·rintro (rfl | ⟨k,e⟩)
   ·exact⟨_,.head _⟩
   ·exact⟨k,.tail _ e⟩
  ·rintro⟨k,e⟩
   rcases List.mem_cons.mp e with e | e
   ·cases e;exact .inl rfl
   ·exact .inr ⟨k,e⟩
theorem Dcl.at {kvs:List (Int × List D)} {kws:List (Key × V)} {as:List Addr} {a:Addr} (t:Dcl K H₀ H kvs kws as) (m:a∈as):H₀ a=none/\∃vs,H a=some (.lst vs):=by
 induction t with
 | nil=>cases m
 | cons h h0 r n t ih =>
  rcases List.mem_cons.mp m with rfl | m
  ·exact⟨h0,_,h⟩
  ·exact ih m
theorem jF:∀{ks:List Int} {vs:List V},ks.length=vs.length->(vT ks vs).map (·.2)=vs
 | [],[],_=>rfl
 | [],_::_,h=>by cases h
 | _::_,[],h=>by cases h
 | k::ks,v::vs,h=>by
  show v::(vT ks vs).map (·.2)=v::vs
  rw[jF (by simpa using h)]
theorem Dcl.refs {kvs:List (Int × List D)} {kws:List (Key × V)} {as:List Addr} (t:Dcl K H₀ H kvs kws as):kws.map (·.2)=as.map V.ref:=by
 induction t with
 | nil=>rfl
 | cons h h0 r n t ih=>rw[List.map_cons,List.map_cons,ih]
theorem Ow.at {x:S} {v:V} {a:Addr} (r:RelS K H₀ H x v) (w:Ow H x v a):H₀ a=none/\((∃vs,H a=some (.lst vs))\/(∃kws,H a=some (.dK kws))\/∃kws,H a=some (.dT kws)):=by
 cases x with
 | d x=>exact w.elim
 | exc C y c=>exact w.elim
 | raw u=>exact w.elim
 | own xs =>
  obtain⟨b,vs,rfl,h,h0,_⟩:=r
  cases w;exact⟨h0,.inl ⟨vs,h⟩⟩
 | dt ks xs =>
  obtain⟨b,vs,rfl,h,h0,_⟩:=r
  cases w;exact⟨h0,.inr (.inr ⟨_,h⟩)⟩
 | dcl kvs =>
  obtain⟨b,kws,as,rfl,h,h0,t⟩:=r
  obtain⟨p,kws',e,h',m⟩:=w
  cases e
  rw[h] at h';cases h'
  rcases m with rfl | m
  ·exact⟨h0,.inr (.inl ⟨kws,h⟩)⟩
  ·obtain⟨g0,g1⟩:=t.at (t.mem.mpr m)
   exact⟨g0,.inl g1⟩
 | box t xss =>
  cases t with
  | false =>
   obtain⟨b,kws,as,rfl,h,h0,_,t⟩:=r
   obtain⟨p,vs,e,h',m⟩:=w
   cases e
   rw[h] at h';cases h'
   rcases m with rfl | m
   ·exact⟨h0,.inl ⟨_,h⟩⟩
   ·obtain⟨c,hc,e⟩:=List.mem_map.mp m
    cases e
    obtain⟨g0,g1⟩:=t.at hc
    exact⟨g0,.inl g1⟩
  | true =>
   obtain⟨b,kws,as,rfl,h,t⟩:=r
   obtain⟨p,vs,e,h',m⟩:=w
   cases e
   rw[h] at h';cases h'
   obtain⟨c,hc,e⟩:=List.mem_map.mp m
   cases e
   obtain⟨g0,g1⟩:=t.at hc
   exact⟨g0,.inl g1⟩
theorem RelS.move {x:S} {v:V} (k:Keep H H') (r:RelS K H₀ H x v) (w:∀a,Ow H x v a->∀o,H a=some o->H' a=some o):RelS K H₀ H' x v/\∀a,Ow H' x v a->Ow H x v a:=by
 cases x with
 | d x=>exact⟨Rep.keep k r,λa e=>e⟩
 | raw u=>exact⟨r,λa e=>e⟩
 | exc C y c =>
  obtain⟨e,dx,rfl,h1,h2⟩:=r
  exact⟨⟨e,dx,rfl,k.exts _ _ h1,k.xds _ _ h2⟩,λa e=>e⟩
 | own xs =>
  obtain⟨b,vs,rfl,h,h0,rr⟩:=r
  exact⟨⟨b,vs,rfl,w b rfl _ h,h0,rr.keep k⟩,λa e=>e⟩
 | dt ks xs =>
  obtain⟨b,vs,rfl,h,h0,hl,rr⟩:=r
  exact⟨⟨b,vs,rfl,w b rfl _ h,h0,hl,rr.keep k⟩,λa e=>e⟩
 | dcl kvs =>
  obtain⟨b,kws,as,rfl,h,h0,t⟩:=r
  have hb:=w b ⟨b,kws,rfl,h,.inl rfl⟩ _ h
  refine⟨⟨b,kws,as,rfl,hb,h0,t.keep k λa m=>w a ⟨b,kws,rfl,h,.inr (t.mem.mp m)⟩⟩,λa e=>?_⟩
  obtain⟨p,kws',e,h',m⟩:=e
  cases e
  rw[hb] at h';cases h'
  exact⟨b,kws,rfl,h,m⟩
 | box t xss =>
  cases t with
  | false =>
   obtain⟨b,kws,as,rfl,h,h0,nb,t⟩:=r
   have hb:=w b ⟨b,_,rfl,h,.inl rfl⟩ _ h
   refine⟨⟨b,kws,as,rfl,hb,h0,nb,t.keep k λa m=>w a ⟨b,_,rfl,h,.inr (List.mem_map_of_mem m)⟩⟩,λa e=>?_⟩
   obtain⟨p,vs,e,h',m⟩:=e
   cases e
   rw[hb] at h';cases h'
   exact⟨b,_,rfl,h,m⟩
  | true =>
   obtain⟨b,kws,as,rfl,h,t⟩:=r
   have hb:=k.tups b _ h
   refine⟨⟨b,kws,as,rfl,hb,t.keep k λa m=>w a ⟨b,_,rfl,h,List.mem_map_of_mem m⟩⟩,λa e=>?_⟩
   obtain⟨p,vs,e,h',m⟩:=e
   cases e
   rw[hb] at h';cases h'
   exact⟨b,_,rfl,h,m⟩
theorem Same.own {x:S} {v:V} {a:Addr} {o:HO} (s:Same H H') (r:RelS K H₀ H x v) (w:Ow H x v a) (h:H a=some o):H' a=some o:=by
 obtain⟨_,⟨_,q⟩ | ⟨_,q⟩ | ⟨_,q⟩⟩:=Ow.at r w <;> rw[h] at q <;> cases q <;> exact s.get _ _ h trivial
theorem RelS.same {x:S} {v:V} (s:Same H H') (h:RelS K H₀ H x v):RelS K H₀ H' x v:=(h.move (.of s) λa w o e=>s.own h w e).1
end
section
variable {X:Cx} {ρ:En} {σ:St} {H H':Hp}
theorem StOk.tabs (st:StOk X ρ σ H):TabsIn X.K H:=st.t0.tabK st.same.tbls
theorem StOk.ext (st:StOk X ρ σ H) (s:Same H H'):StOk X ρ σ H':=by
 refine⟨st.len,st.same.trans s,λi x e=>let ⟨v,h1,h2⟩:=st.rel i x e;⟨v,h1,h2.same s⟩,λi j x y v u a e1 e2 e3 e4 o1 o2=>?_,st.t0⟩
 obtain⟨v',h1,h2⟩:=st.rel i x e1
 obtain⟨u',g1,g2⟩:=st.rel j y e2
 rw[h1] at e3;cases e3
 rw[g1] at e4;cases e4
 exact st.sep i j x y _ _ a e1 e2 h1 g1 ((h2.move (.of s) λa w o e=>s.own h2 w e).2 a o1) ((g2.move (.of s) λa w o e=>s.own g2 w e).2 a o2)
theorem nE {α:Type} {xs:List (Option α)} {i j:Nat} {x y:α} (e:(xs.set i (some x))[j]? = some (some y)):(j=i/\y=x/\i<xs.length)\/(i≠j/\xs[j]? = some (some y)):=by
 by_cases hj:i=j
 ·subst hj
  by_cases h:i<xs.length
  ·rw[List.getElem?_set_self h] at e;cases e;exact .inl ⟨rfl,rfl,h⟩
  ·rw[List.set_eq_of_length_le (by omega),List.getElem?_eq_none (by omega)] at e;cases e
 ·rw[List.getElem?_set_ne hj] at e;exact .inr ⟨hj,e⟩
theorem StOk.chg (st:StOk X ρ σ H) {i:Nat} {x':S} {v':V} {W:Addr->Prop} (kp:Keep H H') (h0:Same X.H₀ H') (h1:∀b o,H b=some o->NT o->¬W b->H' b=some o) (h2:RelS X.K X.H₀ H' x' v')
  (h3:∀a,Ow H' x' v' a->W a\/H a=none) (h4:∀(j:Nat) (y:S) (u:V) (a:Addr),j≠i->ρ[j]? = some (some y)->σ[j]? = some (some u)->Ow H y u a->¬W a):StOk X (ρ.set i (some x')) (σ.set i (some v')) H':=by
 have old:∀(j:Nat) (y:S),j≠i->ρ[j]? = some (some y)->∃u,σ[j]? = some (some u)/\RelS X.K X.H₀ H y u/\RelS X.K X.H₀ H' y u/\∀a,Ow H' y u a->Ow H y u a:=λj y hj e=>by
  obtain⟨u,g1,g2⟩:=st.rel j y e
  obtain⟨g3,g4⟩:=g2.move kp λa w o e'=>by
   have nw:=h4 j y u a hj e g1 w
   obtain⟨_,⟨_,q⟩ | ⟨_,q⟩ | ⟨_,q⟩⟩:=Ow.at g2 w <;> rw[e'] at q <;> cases q <;> exact h1 a _ e' trivial nw
  exact⟨u,g1,g2,g3,g4⟩
 refine⟨by simp[st.len],h0,λj y e=>?_,λj k y z v u a e1 e2 e3 e4 o1 o2=>?_,st.t0⟩
 ·rcases nE e with ⟨rfl,rfl,hl⟩ | ⟨hj,e⟩
  ·exact⟨v',by rw[List.getElem?_set_self (by rw[<-st.len];exact hl)],h2⟩
  ·obtain⟨u,g1,_,g3,_⟩:=old j y (Ne.symm hj) e
   exact⟨u,by rw[List.getElem?_set_ne hj];exact g1,g3⟩
 ·have cross:∀(j:Nat) (y:S) (u:V),i≠j->ρ[j]? = some (some y)->σ[j]? = some (some u)->Ow H' y u a->Ow H' x' v' a->False:=λj y u hj e es o1 o2=>by
   obtain⟨u',g1,g2,g3,g4⟩:=old j y (Ne.symm hj) e
   rw[g1] at es;cases es
   rcases h3 a o2 with w | n
   ·exact h4 j y _ a (Ne.symm hj) e g1 (g4 a o1) w
   ·obtain⟨_,⟨_,q⟩ | ⟨_,q⟩ | ⟨_,q⟩⟩:=Ow.at g2 (g4 a o1) <;> rw[n] at q <;> cases q
  rcases nE e1 with ⟨rfl,rfl,hl⟩ | ⟨hj,e1'⟩
  ·rcases nE e2 with ⟨rfl,rfl,_⟩ | ⟨hk,e2'⟩
   ·rfl
   ·rw[List.getElem?_set_self (by rw[<-st.len];exact hl)] at e3;cases e3
    rw[List.getElem?_set_ne hk] at e4
    exact (cross k z u hk e2' e4 o2 o1).elim
  ·rw[List.getElem?_set_ne hj] at e3
   rcases nE e2 with ⟨rfl,rfl,hl⟩ | ⟨hk,e2'⟩
   ·rw[List.getElem?_set_self (by rw[<-st.len];exact hl)] at e4;cases e4
    exact (cross j y v hj e1' e3 o1 o2).elim
   ·rw[List.getElem?_set_ne hk] at e4
    obtain⟨v',g1,g2,g3,g4⟩:=old j y (Ne.symm hj) e1'
    obtain⟨u',f1,f2,f3,f4⟩:=old k z (Ne.symm hk) e2'
    rw[g1] at e3;cases e3
    rw[f1] at e4;cases e4
    exact st.sep j k y z _ _ a e1' e2' g1 f1 (g4 a o1) (f4 a o2)
theorem StOk.put (st:StOk X ρ σ H) {i:Nat} {x':S} {v':V} (s:Same H H') (h2:RelS X.K X.H₀ H' x' v') (h3:∀a,Ow H' x' v' a->H a=none):StOk X (ρ.set i (some x')) (σ.set i (some v')) H' :=
 st.chg (W:=λ_=>False) (.of s) (st.same.trans s) (λb o h n _=>s.get b o h n) h2 (λa o=>.inr (h3 a o)) λ_ _ _ _ _ _ _ _ z=>z
theorem StOk.updW (st:StOk X ρ σ H) {i:Nat} {x x':S} {v v':V} (e:ρ[i]? = some (some x)) (es:σ[i]? = some (some v)) (h1:∀b o,H b=some o->¬Ow H x v b->H' b=some o) (h2:RelS X.K X.H₀ H' x' v')
  (h3:∀a,Ow H' x' v' a->Ow H x v a\/H a=none):StOk X (ρ.set i (some x')) (σ.set i (some v')) H'/\Keep H H':=by
 obtain⟨v0,g1,g2⟩:=st.rel i x e
 rw[g1] at es;cases es
 have no:∀b o,H b=some o->(∀vs,o≠.lst vs)->(∀kws,o≠.dK kws)->(∀kws,o≠.dT kws)->¬Ow H x v b:=λb o h n1 n2 n3 w=>by
  obtain⟨_,⟨_,q⟩ | ⟨_,q⟩ | ⟨_,q⟩⟩:=Ow.at g2 w <;> rw[h] at q <;> cases q
  ·exact n1 _ rfl
  ·exact n2 _ rfl
  ·exact n3 _ rfl
 have ne:∀b o,H b=some o->(∀vs,o≠.lst vs)->(∀kws,o≠.dK kws)->(∀kws,o≠.dT kws)->H' b=some o:=λb o h n1 n2 n3=>h1 b o h (no b o h n1 n2 n3)
 have kp:Keep H H':=⟨λb xs h=>ne b _ h (λ_ z=>by cases z) (λ_ z=>by cases z) (λ_ z=>by cases z),λb o u h=>ne b _ h (λ_ z=>by cases z) (λ_ z=>by cases z) (λ_ z=>by cases z),λb φ h=>ne b _ h (λ_ z=>by cases z) (λ_ z=>by cases z) (λ_ z=>by cases z),λb fs h=>ne b _ h (λ_ z=>by cases z) (λ_ z=>by cases z) (λ_ z=>by cases z),
  .of (λb φ h=>ne b _ h (λ_ z=>by cases z) (λ_ z=>by cases z) (λ_ z=>by cases z)) λb φ h=>ne b _ h (λ_ z=>by cases z) (λ_ z=>by cases z) (λ_ z=>by cases z)⟩
 refine⟨st.chg (W:=Ow H x v) kp ⟨λb o h n=>h1 b o (st.same.get b o h n) λw=>?_,st.same.tbls.trans kp.tbls⟩ (λb o h _ w=>h1 b o h w) h2 h3 λj y u a hj ej eu o1 o2=>hj (st.sep j i y x u v a ej e eu g1 o1 o2),kp⟩
 rw[(Ow.at g2 w).1] at h;cases h
theorem StOk.set_d (st:StOk X ρ σ H) {i:Nat} {d:D} {v:V} (r:Rep X.K H d v):StOk X (ρ.set i (some (.d d))) (σ.set i (some v)) H:=st.put (x':=.d d) (Same.refl H) r λ_ o=>o.elim
theorem cA {α:Type} {xs:List α} {i:Nat} {x:α} (e:xs[i]? = some x):xs.set i x=xs:=by
 apply List.ext_getElem? ;intro j
 by_cases hj:i=j
 ·subst hj;rw[List.getElem?_set_self (List.getElem?_eq_some_iff.mp e).1,e]
 ·rw[List.getElem?_set_ne hj]
theorem StOk.set_own (st:StOk X ρ σ H) {i:Nat} {ds:List D} {p:Addr} {vs:List V} (hp:H p=none) (r:Reps X.K H ds vs) :
  StOk X (ρ.set i (some (.own ds))) (σ.set i (some (.ref p))) (upd H p (.lst vs)):=by
 have sm:Same H (upd H p (.lst vs)):=.fn λb o h=>by rw[aG (aL h hp)];exact h
 exact st.put sm ⟨p,vs,rfl,aR,st.same.free hp,r.keep (.of sm)⟩ λa o=>by cases o;exact hp
theorem StOk.upd_own (st:StOk X ρ σ H) {i:Nat} {xs ds:List D} {p:Addr} {us vs:List V} (e:ρ[i]? = some (some (.own xs))) (es:σ[i]? = some (some (.ref p))) (hp:H p=some (.lst us)) (h0:X.H₀ p=none)
  (r:Reps X.K H ds vs):StOk X (ρ.set i (some (.own ds))) σ (upd H p (.lst vs))/\Keep H (upd H p (.lst vs)):=by
 have kp:Keep H (upd H p (.lst vs)):=Keep.chg1 hp (.inl ⟨_,rfl⟩)
 have:=st.updW (x':=.own ds) (v':=.ref p) e es (H':=upd H p (.lst vs)) (λb o h w=>by rw[aG (by rintro rfl;exact w rfl)];exact h) ⟨p,vs,rfl,aR,h0,r.keep kp⟩ λa o=>.inl o
 rw[cA es] at this
 exact this
end
section
variable {X:Cx} {pins:List (Addr × Obj)} {σ:St} {H:Hp} {s:Shared}
theorem Inv.freezeG {a:Addr} {x:HO} {o:Obj} (I:Inv X pins σ H s) (h:H a=some x) (ho:s.heap.get? a=some o) (n1:∀ys,HO.tup ys≠x) (n2:∀o w,HO.frz o w≠x) (n3:∀ps,HO.tbl ps≠x) (n4:∀c,HO.own c≠x):Inv X pins σ (upd H a (.frz o x)) s:=by
 have ok:=I.hok a _ h
 have ntup:∀b u,H b=some u->u≠x->b≠a:=λb u q d z=>by subst z;rw[h] at q;cases q;exact d rfl
 have st:∀{b:Addr} {u:HO},ObjOk X.prog X.w H s.heap b u->ObjOk X.prog X.w (upd H a (.frz o x)) s.heap b u:=λ{b u} q =>
  q.stay (λc v _ w=>w) (λc w=>by rw[aG (ntup c _ w (n4 _))];exact w) λc ys w=>by rw[aG (ntup c _ w (n1 _))];exact w
 refine I.un (t':=s.toks) (h':=s.heap) ⟨λb o q _ _ _=>q,λb o q _ _ _=>⟨o.slots,q⟩,λb o q n _=>?_,λb o q _=>⟨o,q⟩,λb ys q=>?_,λb o u q=>?_,λb ps q=>⟨#[],?_⟩⟩ λb u q=>?_
 ·rw[aG (λz=>by subst z;rw[h] at n;cases n)];exact n
 ·rw[aG (ntup b _ q (n1 _))];exact q
 ·rw[aG (ntup b _ q (n2 _ _))];exact q
 ·rw[aG (ntup b _ q (n3 _)),q];simp
 ·by_cases hb:b=a
  ·subst hb
   rw[aR] at q;cases q
   exact⟨ho,st ok⟩
  ·rw[aG hb] at q
   exact st (I.hok b u q)
theorem Inv.freeze {a:Addr} {xs:List V} (I:Inv X pins σ H s) (h:H a=some (.lst xs)):∃o,Inv X pins σ (upd H a (.frz o (.lst xs))) s:=by
 obtain⟨z,its,n,r,e⟩:=I.hok a _ h
 exact⟨_,Inv.freezeG I h e (λ_ z=>by cases z) (λ_ _ z=>by cases z) (λ_ z=>by cases z) (λ_ z=>by cases z)⟩
theorem Inv.freezeD {a:Addr} {kvs:List (Key × V)} (I:Inv X pins σ H s) (h:H a=some (.dK kvs)):∃o,Inv X pins σ (upd H a (.frz o (.dK kvs))) s:=by
 obtain⟨_,_,vs,r,ob,es,ep,e,_⟩:=I.hok a _ h
 exact⟨ob,Inv.freezeG I h e (λ_ z=>by cases z) (λ_ _ z=>by cases z) (λ_ z=>by cases z) (λ_ z=>by cases z)⟩
theorem Inv.freezeT {a:Addr} {kvs:List (List Key × V)} (I:Inv X pins σ H s) (h:H a=some (.dT kvs)):∃o,Inv X pins σ (upd H a (.frz o (.dT kvs))) s:=by
 obtain⟨_,_,_,_,ob,_,_,e,_⟩:=I.hok a _ h
 exact⟨ob,Inv.freezeG I h e (λ_ z=>by cases z) (λ_ _ z=>by cases z) (λ_ z=>by cases z) (λ_ z=>by cases z)⟩
theorem Same.upd_new {a:Addr} {o:HO} {H H1:Hp} (s:Same H H1) (n:H a=none) (m:∀φ,H1 a≠some (.ext φ)):Same H (upd H1 a o):=by
 refine⟨λb u h nt=>by rw[aG (aL h n)];exact s.get b u h nt,λb ps h=>?_⟩
 obtain⟨more,e1,e2⟩:=s.tbls b ps h
 refine⟨more,by rw[aG (aL h n)];exact e1,λx=>(e2 x).mono λc φ q=>?_⟩
 rw[aG (by rintro rfl;exact m _ q)];exact q
theorem eA:∀(kvs:List (Int × List D)) {kws:List (Key × V)} {as:List Addr} {H:Hp},Inv X pins σ H s->Dcl X.K X.H₀ H kvs kws as ->
  ∃H' vs,Inv X pins σ H' s/\kws=vT (kvs.map (·.1)) vs/\kvs.length=vs.length/\Reps X.K H' (kvs.map λp=>.lst p.2) vs/\Keep H H'/\∀b o,H b=some o->b ∉ as->H' b=some o
 | [],_,_,H,I,t=>by cases t;exact⟨H,[],I,rfl,rfl,.nil,Keep.refl H,λb o h _=>h⟩
 | (k,ds)::kvs,_,_,H,I,t=>by
  cases t with
  | @cons _ b vs _ _ kws as h h0 r n t =>
   obtain⟨o,I1⟩:=Inv.freeze I h
   have kp:Keep H (upd H b (.frz o (.lst vs))):=Keep.chg1 h (.inl ⟨_,rfl⟩)
   obtain⟨H',us,I2,e1,e2,e3,k2,e4⟩:=eA kvs I1 (t.keep kp λa m o e=>by rw[aG (by rintro rfl;exact n m)];exact e)
   subst e1
   refine⟨H',.ref b::us,I2,rfl,by simp[e2],.cons (.lst (.inl ⟨o,k2.frzs _ _ _ aR⟩) (r.keep (kp.trans k2))) e3,kp.trans k2,λc u q m=>?_⟩
   rw[List.mem_cons,not_or] at m
   exact e4 c u (by rw[aG m.1];exact q) m.2
noncomputable def S.fz:S->S
 | .own ds=>.d (.lst ds)
 | .dcl kvs=>.d (.dct (kvs.map (·.1)) (kvs.map λp=>.lst p.2))
 | .box false xss=>.d (.lst (xss.map .lst))
 | .box true xss=>.d (.tup (xss.map .lst))
 | .d x=>.d x
 | .exc C y c=>.exc C y c
 | .raw u=>.raw u
 | .dt ks xs=>.d (.dtt ks xs)
theorem StOk.fz {ρ:En} {i:Nat} {x:S} (so:StOk X ρ σ H) (I:Inv X pins σ H s) (e:ρ[i]? = some (some x)):∃H',Inv X pins σ H' s/\StOk X (ρ.set i (some x.fz)) σ H'/\Keep H H':=by
 obtain⟨v,h1,h2⟩:=so.rel i _ e
 cases x with
 | d x=>exact⟨H,I,by rw[show S.fz (.d x) = .d x from rfl,cA e];exact so,Keep.refl H⟩
 | exc C y c=>exact⟨H,I,by rw[show S.fz (.exc C y c) = .exc C y c from rfl,cA e];exact so,Keep.refl H⟩
 | raw u=>exact⟨H,I,by rw[show S.fz (.raw u) = .raw u from rfl,cA e];exact so,Keep.refl H⟩
 | own ds =>
  obtain⟨p,vs,ev,hp,h0,rr⟩:=id h2
  subst ev
  obtain⟨o,I2⟩:=Inv.freeze I hp
  have kp:Keep H (upd H p (.frz o (.lst vs))):=Keep.chg1 hp (.inl ⟨_,rfl⟩)
  obtain⟨so2,k2⟩:=so.updW (x':=.d (.lst ds)) (v':=.ref p) e h1 (H':=upd H p (.frz o (.lst vs))) (λb o h w=>by rw[aG (by rintro rfl;exact w rfl)];exact h) (.lst (.inl ⟨o,aR⟩) (rr.keep kp)) λa o=>o.elim
  rw[cA h1] at so2
  exact⟨_,I2,so2,k2⟩
 | dt ks xs =>
  obtain⟨p,vs,ev,hp,h0,hl,rr⟩:=id h2
  subst ev
  obtain⟨o,I2⟩:=Inv.freezeT I hp
  have kp:Keep H (upd H p (.frz o (.dT (aV ks vs)))):=Keep.chg1 hp (.inr (.inr ⟨_,rfl⟩))
  obtain⟨so2,k2⟩:=so.updW (x':=.d (.dtt ks xs)) (v':=.ref p) e h1 (H':=upd H p (.frz o (.dT (aV ks vs)))) (λb o h w=>by rw[aG (by rintro rfl;exact w rfl)];exact h) (.dtt aR hl (rr.keep kp)) λa o=>o.elim
  rw[cA h1] at so2
  exact⟨_,I2,so2,k2⟩
 | dcl kvs =>
  obtain⟨p,kws,as,ev,hp,h0,t⟩:=id h2
  subst ev
  obtain⟨H1,vs,I1,e1,e2,e3,k1,e4⟩:=eA kvs I t
  have np:p ∉ as:=λm=>by obtain⟨_,us,q⟩:=t.at m;rw[hp] at q;cases q
  have hp1:=e4 p _ hp np
  obtain⟨o,I2⟩:=Inv.freezeD I1 hp1
  have kp:Keep H1 (upd H1 p (.frz o (.dK kws))):=Keep.chg1 hp1 (.inr (.inl ⟨_,rfl⟩))
  obtain⟨so2,k2⟩:=so.updW (x':=.d (.dct (kvs.map (·.1)) (kvs.map λp=>.lst p.2))) (v':=.ref p) e h1 (H':=upd H1 p (.frz o (.dK kws)))
   (λb o h w=>by
    rw[aG (by rintro rfl;exact w ⟨_,kws,rfl,hp,.inl rfl⟩)]
    exact e4 b o h λm=>w ⟨p,kws,rfl,hp,.inr (t.mem.mp m)⟩)
   (.dct (by rw[aR,e1]) (by simp[e2]) (e3.keep kp)) λa o=>o.elim
  rw[cA h1] at so2
  exact⟨_,I2,so2,k2⟩
 | box t xss =>
  have emap:(xss.map λx=>((0:Int),x)).map (λp=>D.lst p.2)=xss.map D.lst:=by rw[List.map_map];rfl
  cases t with
  | false =>
   obtain⟨p,kws,as,ev,hp,h0,np,t⟩:=id h2
   subst ev
   obtain⟨H1,vs,I1,e1,e2,e3,k1,e4⟩:=eA _ I t
   rw[emap] at e3
   have ea:as.map V.ref=vs:=by rw[<-t.refs,e1];exact jF (by rw[List.length_map];simpa using e2)
   have hp1:=e4 p _ hp np
   obtain⟨o,I2⟩:=Inv.freeze I1 hp1
   have kp:Keep H1 (upd H1 p (.frz o (.lst (as.map V.ref)))):=Keep.chg1 hp1 (.inl ⟨_,rfl⟩)
   obtain⟨so2,k2⟩:=so.updW (x':=.d (.lst (xss.map .lst))) (v':=.ref p) e h1 (H':=upd H1 p (.frz o (.lst (as.map V.ref))))
    (λb o h w=>by
     rw[aG (by rintro rfl;exact w ⟨_,_,rfl,hp,.inl rfl⟩)]
     exact e4 b o h λm=>w ⟨p,_,rfl,hp,.inr (List.mem_map_of_mem m)⟩)
    (.lst (vs:=as.map V.ref) (.inl ⟨o,aR⟩) (by have z:=e3.keep kp;rw[<-ea] at z;exact z)) λa o=>o.elim
   rw[cA h1] at so2
   exact⟨_,I2,so2,k2⟩
  | true =>
   obtain⟨p,kws,as,ev,hp,t⟩:=id h2
   subst ev
   obtain⟨H1,vs,I1,e1,e2,e3,k1,e4⟩:=eA _ I t
   rw[emap] at e3
   have ea:as.map V.ref=vs:=by rw[<-t.refs,e1];exact jF (by rw[List.length_map];simpa using e2)
   obtain⟨so2,k2⟩:=so.updW (x':=.d (.tup (xss.map .lst))) (v':=.ref p) e h1 (H':=H1)
    (λb o h w=>e4 b o h λm=>w ⟨p,_,rfl,hp,List.mem_map_of_mem m⟩)
    (.tup (vs:=as.map V.ref) (k1.tups _ _ hp) (by have z:=e3;rw[<-ea] at z;exact z)) λa o=>o.elim
   rw[cA h1] at so2
   exact⟨_,I1,so2,k2⟩
end
structure Sz (n:Nat):Prop where
 ok:n<=sizeLine
noncomputable abbrev RE:=En->(D->Prop)->Prop
noncomputable abbrev RT:=En->(Bool->Prop)->Prop
noncomputable abbrev RA:=En->(List D->Prop)->Prop
structure DEnds where
 nx:En->Prop
 rt:D->Prop
 bk:En->Prop:=λ_=>False
 ct:En->Prop:=λ_=>False
noncomputable abbrev RS:=DEnds->En->Prop
noncomputable abbrev RG:=D->En->(En->Prop)->Prop
noncomputable def DH (X:Cx) (t:RE):TE:=λσ H Q=>∃ρ P,StOk X ρ σ H/\t ρ P/\∀d v H',P d->Same H H'->Rep X.K H' d v->Q v H'
noncomputable def zU (X:Cx) (t:RE):TE:=λσ H Q=>∃ρ P,StOk X ρ σ H/\t ρ P/\∀d v H',P d->Same H H'->RepB X.K H' d v->Q v H'
noncomputable def HA (X:Cx) (t:RA):TE:=λσ H Q=>∃ρ P,StOk X ρ σ H/\t ρ P/\∀ds p vs H1,P ds->Same H H1->H1 p=none->Reps X.K H1 ds vs->Q (.ref p) (upd H1 p (.lst vs))
noncomputable def zV (X:Cx) (t:RT):TT:=λσ H Q=>∃ρ P,StOk X ρ σ H/\t ρ P/\∀b H',P b->Same H H'->Q b H'
noncomputable def GX (X:Cx) (t:RA):TA:=λσ H Q=>∃ρ P,StOk X ρ σ H/\t ρ P/\∀ds vs H',P ds->Same H H'->Reps X.K H' ds vs->Q vs H'
noncomputable def DK (X:Cx) (t:RS):TS:=λDe σ H=>∃ρ E,StOk X ρ σ H/\t E ρ/\(∀ρ' σ' H',E.nx ρ'->Keep H H'->StOk X ρ' σ' H'->De.nx σ' H')/\(∀d v H',E.rt d->Keep H H'->Same X.H₀ H'->Rep X.K H' d v->De.rt v H') /\
 (∀ρ' σ' H',E.bk ρ'->Keep H H'->StOk X ρ' σ' H'->De.bk σ' H')/\∀ρ' σ' H',E.ct ρ'->Keep H H'->StOk X ρ' σ' H'->De.ct σ' H'
noncomputable def GY (X:Cx) (g:RG):TG:=λv σ H Q=>∃d ρ P,Rep X.K H d v/\StOk X ρ σ H/\g d ρ P/\∀ρ' σ' H',P ρ'->Keep H H'->StOk X ρ' σ' H'->Q σ' H'
theorem bR {α β:Type} {A B C:α->β->Prop} {R:Prop} (h:∃ρ P,A ρ P/\B ρ P/\C ρ P) (k:∀ρ P,A ρ P->B ρ P->C ρ P->R):R:=let ⟨ρ,P,a,b,c⟩:=h;k ρ P a b c
theorem qY {α β γ:Type} {A B C E:γ->α->β->Prop} {R:Prop} (h:∃d ρ P,A d ρ P/\B d ρ P/\C d ρ P/\E d ρ P) (k:∀d ρ P,A d ρ P->B d ρ P->C d ρ P->E d ρ P->R):R:=let ⟨d,ρ,P,a,b,c,e⟩:=h;k d ρ P a b c e
theorem cW {α β:Type} {A B C E F G:α->β->Prop} {R:Prop} (h:∃ρ P,A ρ P/\B ρ P/\C ρ P/\E ρ P/\F ρ P/\G ρ P) (k:∀ρ P,A ρ P->B ρ P->C ρ P->E ρ P->F ρ P->G ρ P->R):R:=let ⟨ρ,P,a,b,c,e,f,g⟩:=h;k ρ P a b c e f g
noncomputable def DE (X:Cx) (e:Expr) (t:RE):Prop:=PE X e (DH X t)
noncomputable def DB (X:Cx) (e:Expr) (t:RE):Prop:=PE X e (zU X t)
noncomputable def DO (X:Cx) (e:Expr) (t:RA):Prop:=PE X e (HA X t)
noncomputable def DT (X:Cx) (e:Expr) (t:RT):Prop:=PT X e (zV X t)
noncomputable def DW (X:Cx) (e:Expr) (t:RT):Prop:=PW X e (zV X t)
noncomputable def DA (X:Cx) (es:List Expr) (t:RA):Prop:=PA X es (GX X t)
noncomputable def DS (X:Cx) (st:Stmt) (t:RS):Prop:=PS X st (DK X t)
noncomputable def DSs (X:Cx) (sts:List Stmt) (t:RS):Prop:=PSs X sts (DK X t)
noncomputable def DG (X:Cx) (tg:Expr) (g:RG):Prop:=PG X tg (GY X g)
theorem PE.mono {X:Cx} {e:Expr} {t t':TE} (h:PE X e t) (m:∀σ H Q,t' σ H Q->t σ H Q):PE X e t':=λpins s σ H Q I q=>h pins s σ H Q I (m σ H Q q)
theorem PT.mono {X:Cx} {e:Expr} {t t':TT} (h:PT X e t) (m:∀σ H Q,t' σ H Q->t σ H Q):PT X e t':=λpins s σ H Q I q=>h pins s σ H Q I (m σ H Q q)
theorem PW.mono {X:Cx} {e:Expr} {t t':TT} (h:PW X e t) (m:∀σ H Q,t' σ H Q->t σ H Q):PW X e t':=λwh pins s σ H Q I q=>h wh pins s σ H Q I (m σ H Q q)
theorem PA.mono {X:Cx} {e:List Expr} {t t':TA} (h:PA X e t) (m:∀σ H Q,t' σ H Q->t σ H Q):PA X e t':=λpos pins s σ H Q I q=>h pos pins s σ H Q I (m σ H Q q)
theorem PS.mono {X:Cx} {e:Stmt} {t t':TS} (h:PS X e t) (m:∀D σ H,t' D σ H->t D σ H):PS X e t':=λpins s σ H D I q=>h pins s σ H D I (m D σ H q)
theorem PSs.mono {X:Cx} {e:List Stmt} {t t':TS} (h:PSs X e t) (m:∀D σ H,t' D σ H->t D σ H):PSs X e t':=λpins s σ H D I q=>h pins s σ H D I (m D σ H q)
theorem PG.mono {X:Cx} {e:Expr} {t t':TG} (h:PG X e t) (m:∀v σ H Q,t' v σ H Q->t v σ H Q):PG X e t':=λpins s σ H v u Q I r q=>h pins s σ H v u Q I r (m v σ H Q q)
section
variable {X:Cx} {e a b c:Expr} {pos:Pos}
theorem DE.bor {t:RE} (h:DE X e t):DB X e t:=PE.mono h λσ H Q hh=>bR hh λρ P st q k=>⟨ρ,P,st,q,λd v H' p s r=>k d v H' p s (.inl r)⟩
theorem DO.val {t:RA} (h:DO X e t):DE X e (λρ Q=>t ρ λds=>Q (.lst ds)):=by
 intro pins s σ H Q I hh_0
 obtain⟨ρ,P,st,q,k⟩:=hh_0
 refine thn (h pins s σ H (λv H'=>∃ds p vs H1,v = .ref p/\H'=upd H1 p (.lst vs)/\P (.lst ds)/\Same H H1/\H1 p=none/\Reps X.K H1 ds vs) I ⟨ρ,_,st,q,λds p vs H1 hp s1 hn r=>⟨ds,p,vs,H1,rfl,rfl,hp,s1,hn,r⟩⟩) λu s1 ⟨v,H',I',rv,ds,p,vs,H1,ev,eH,hp,sm,hn,r⟩=>?_
 subst ev eH
 obtain⟨o,I2⟩:=Inv.freeze I' (a:=p) (xs:=vs) aR
 have sm2:Same H1 (upd (upd H1 p (.lst vs)) p (.frz o (.lst vs))):=Same.fn λb u e=>by rw[aG (aL e hn),aG (aL e hn)];exact e
 exact⟨.ref p,_,I2,rv,k (.lst ds) (.ref p) _ hp (sm.trans sm2) (.lst (.inl ⟨o,aR⟩) (r.keep (.of sm2)))⟩
theorem DO.bor {t:RA} (h:DO X e t):DB X e (λρ Q=>t ρ λds=>Q (.lst ds)):=h.val.bor
noncomputable def aM (i:Nat):RE:=λρ Q=>match ρ[i]? with
 | some (some (.d d))=>Q d
 | _=>False
noncomputable def aE (i:Nat):RE:=λρ Q=>match ρ[i]? with
 | some (some (.d d))=>Q d
 | some (some (.own xs))=>Q (.lst xs)
 | _=>False
theorem dv (i:Nat) {x:Str} (hN:X.N[i]? = some x:=by rfl) (hv:Vis X.env.scope x:=by walk_at "vis") (hd:(x == ("__debug__":Str))=false:=by decide)
  (hcd:(x == ("__classdict__":Str))=false:=by decide):DE X (.Name x pos) (aM i):=by
 refine PE.mono (pv i hN hv hd hcd) λσ H Q hh=>bR hh λρ P st q k=>?_
 unfold aM at q
 split at q
 ·rename_i d e
  obtain⟨v,h1,h2⟩:=st.rel i _ e
  exact⟨v,h1,k d v H q (Same.refl H) h2⟩
 ·exact q.elim
theorem dvb (i:Nat) {x:Str} (hN:X.N[i]? = some x:=by rfl) (hv:Vis X.env.scope x:=by walk_at "vis") (hd:(x == ("__debug__":Str))=false:=by decide)
  (hcd:(x == ("__classdict__":Str))=false:=by decide):DB X (.Name x pos) (aE i):=by
 refine PE.mono (pv i hN hv hd hcd) λσ H Q hh=>bR hh λρ P st q k=>?_
 unfold aE at q
 split at q
 ·rename_i d e
  obtain⟨v,h1,h2⟩:=st.rel i _ e
  exact⟨v,h1,k _ v H q (Same.refl H) (.inl h2)⟩
 ·rename_i xs e
  obtain⟨v,h1,h2⟩:=st.rel i _ e
  obtain⟨a,vs,e1,e2,_,r⟩:=h2
  exact⟨v,h1,k _ v H q (Same.refl H) (.inr ⟨xs,a,vs,rfl,e1,e2,r⟩)⟩
 ·exact q.elim
noncomputable def rC (d:D):RE:=λ_ Q=>Q d
theorem aD {i:Int} {j:Nat}:DE X (.Constant (.int i) j pos) (rC (.int i)):=PE.mono FB λσ H Q hh=>bR hh λρ P st q k=>k _ _ H q (Same.refl H) (.int i)
theorem nQ {i:Bool} {j:Nat}:DE X (.Constant (.bool i) j pos) (rC (.bl i)):=PE.mono HJ λσ H Q hh=>bR hh λρ P st q k=>k _ _ H q (Same.refl H) (.bl i)
noncomputable abbrev R22:=D->D->(D->Prop)->Prop
noncomputable def DJ (X:Cx) (r:R22):R2:=λx y H Q=>∃d e P,RepB X.K H d x/\RepB X.K H e y/\r d e P/\∀z v H',P z->Same H H'->Rep X.K H' z v->Q v H'
noncomputable def OpD (X:Cx) (f:Value->Value->Sem Value) (r:R22):Prop:=OpR X f (DJ X r)
noncomputable def r2 (r:R22) (ta tb:RE):RE:=λρ Q=>ta ρ λx=>tb ρ λy=>r x y Q
variable {ta tb tc:RE}
theorem DF {r:R22} {σ:St} {H:Hp} {Q:VK} (h:DH X (r2 r ta tb) σ H Q):tOp (DJ X r) (zU X ta) (zU X tb) σ H Q:=by
 obtain⟨ρ,P,st,ht,hP⟩:=h
 exact⟨ρ,_,st,ht,λx v H1 h1 s1 r1=>⟨ρ,_,st.ext s1,h1,λy u H2 h2 s2 r2=>⟨x,y,P,r1.same s2,r2,h2,λz w H' hz s3 r3=>hP z w H' hz ((s1.trans s2).trans s3) r3⟩⟩⟩
theorem aK {op:Operator} {r:R22} (ho:OpD X (binaryOp op) r) (ha:DB X a ta) (hb:DB X b tb):DE X (.BinOp a op b pos) (r2 r ta tb):=PE.mono (HM ho ha hb) λσ H Q h=>DF h
noncomputable def bA (t:RE):RT:=λρ Q=>t ρ λd=>match d with
 | .bl k=>Q k
 | _=>False
theorem bO {op:CmpOp} {r:R22} (ho:OpD X (compareOp op) r) (ha:DB X a ta) (hb:DB X b tb) (hm:behindInMarks op b=false:=by exact EX _):DT X (.Compare a [op] [b] pos) (bA (r2 r ta tb)):=by
 refine PT.mono (CK ho ha hb hm) λσ H Q hh=>bR hh λρ P st q k=>?_
 refine DF (Q:=λx H'=>∃k,x = .bl k/\Q k H') ⟨ρ,_,st,q,λd v H' hd s r=>?_⟩
 cases d with
 | bl b=>exact⟨b,r.bl_inv,k b H' hd s⟩
 | _=>exact hd.elim
theorem lC (h:DE X e ta) (he:∀whole,isTrue e X.env whole=(do let v <-whole;standAt e.pos;holding [v] (truthy v)):=by intro _;rfl):DT X e (bA ta):=by
 refine PT.mono (FO h he) λσ H Q hh=>bR hh λρ P st q k=>?_
 refine⟨ρ,_,st,q,λd v H' hd s r=>?_⟩
 cases d with
 | bl b=>exact⟨b,r.bl_inv,k b H' hd s⟩
 | _=>exact hd.elim
noncomputable def rN (t u:RT):RT:=λρ Q=>t ρ λc=>if c=true then u ρ Q else Q false
noncomputable def rOr (t u:RT):RT:=λρ Q=>t ρ λc=>if c=true then Q true else u ρ Q
noncomputable def kJ (t:RT):RT:=λρ Q=>t ρ λc=>Q (!c)
variable {tA tB:RT} {rest:List Expr}
theorem vQ (ha:DT X a tA):DW X (.BoolOp .And [a] pos) tA:=CL ha
theorem lD (ha:DT X a tA):DW X (.BoolOp .Or [a] pos) tA:=FQ ha
theorem zH (ha:DT X a tA) (hb:DW X (.BoolOp .And (b::rest) pos) tB):DW X (.BoolOp .And (a::b::rest) pos) (rN tA tB) :=
 PW.mono (FP ha hb) λσ H Q hh=>bR hh λρ P st q k=>⟨ρ,_,st,q,λc H1 hc s1=>by
  cases c with
  | true=>rw[if_pos rfl] at hc ⊢;exact⟨ρ,P,st.ext s1,hc,λd H2 hd s2=>k d H2 hd (s1.trans s2)⟩
  | false=>rw[if_neg Bool.false_ne_true] at hc ⊢;exact k false H1 hc s1⟩
theorem mD (ha:DT X a tA) (hb:DW X (.BoolOp .Or (b::rest) pos) tB):DW X (.BoolOp .Or (a::b::rest) pos) (rOr tA tB) :=
 PW.mono (HS ha hb) λσ H Q hh=>bR hh λρ P st q k=>⟨ρ,_,st,q,λc H1 hc s1=>by
  cases c with
  | false=>rw[if_neg Bool.false_ne_true] at hc ⊢;exact⟨ρ,P,st.ext s1,hc,λd H2 hd s2=>k d H2 hd (s1.trans s2)⟩
  | true=>rw[if_pos rfl] at hc ⊢;exact k true H1 hc s1⟩
theorem DW.tst (h:DW X e tA):DT X e tA:=PW.pt h
theorem lB (ha:DT X a tA):DT X (.UnaryOp .Not a pos) (kJ tA):=PT.mono (FN ha) λσ H Q hh=>bR hh λρ P st q k=>⟨ρ,_,st,q,λc H1 hc s1=>k _ H1 hc s1⟩
noncomputable def mH (ta tb:RE):RE:=λρ Q=>ta ρ λd=>match d with
 | .bl k=>if k=true then tb ρ Q else Q (.bl false)
 | _=>False
noncomputable def xR (ta tb:RE):RE:=λρ Q=>ta ρ λd=>match d with
 | .bl k=>if k=true then Q (.bl true) else tb ρ Q
 | _=>False
noncomputable def mI (ta:RE):RE:=λρ Q=>ta ρ λd=>match d with
 | .bl k=>Q (.bl (!k))
 | _=>False
theorem EF {op} (h:DE X a ta):DE X (.BoolOp op [a] pos) ta:=FF h
theorem EC (ha:DE X a ta) (hb:DE X (.BoolOp .And (b::rest) pos) tb):DE X (.BoolOp .And (a::b::rest) pos) (mH ta tb) :=
 PE.mono (FA ha hb) λσ H Q hh=>bR hh λρ P st q k=>⟨ρ,_,st,q,λd v H1 hd s1 r=>by
  cases d with
  | bl c =>
   refine⟨c,r.bl_inv,?_⟩
   cases c with
   | true=>exact⟨ρ,P,st.ext s1,hd,λd v H2 hd s2=>k d v H2 hd (s1.trans s2)⟩
   | false=>exact k (.bl false) (.bl false) H1 hd s1 (.bl false)
  | _=>exact hd.elim⟩
theorem ED (ha:DE X a ta):DE X (.UnaryOp .Not a pos) (mI ta) :=
 PE.mono (FE ha) λσ H Q hh=>bR hh λρ P st q k=>⟨ρ,_,st,q,λd v H1 hd s1 r=>by
  cases d with
  | bl c=>exact⟨c,r.bl_inv,k (.bl !c) (.bl !c) H1 hd s1 (.bl _)⟩
  | _=>exact hd.elim⟩
noncomputable def rIf (t:RT) (ta tb:RE):RE:=λρ Q=>t ρ λc=>if c=true then ta ρ Q else tb ρ Q
noncomputable def HB (X:Cx) (r:D->(D->Prop)->Prop):V->Hp->VK->Prop:=λx H Q=>∃d P,RepB X.K H d x/\r d P/\∀z v H',P z->Same H H'->Rep X.K H' z v->Q v H'
noncomputable def UnD (X:Cx) (f:Value->Sem Value) (r:D->(D->Prop)->Prop):Prop:=UnR X f (HB X r)
noncomputable def r1 (r:D->(D->Prop)->Prop) (ta:RE):RE:=λρ Q=>ta ρ λx=>r x Q
theorem vG {op:UnaryOp} {r:D->(D->Prop)->Prop} (ho:UnD X (unaryOp op) r) (ha:DB X a ta):DE X (.UnaryOp op a pos) (r1 r ta) :=
 PE.mono (HN ho ha) λσ H Q hh=>bR hh λρ P st q k=>⟨ρ,_,st,q,λd v H1 hd s1 rr=>⟨d,P,rr,hd,λz v H2 hz s2 r2=>k z v H2 hz (s1.trans s2) r2⟩⟩
noncomputable def aJ:RA:=λ_ Q=>Q []
noncomputable def aC (t:RE) (u:RA):RA:=λρ Q=>t ρ λx=>u ρ λxs=>Q (x::xs)
variable {es:List Expr} {t:RA}
theorem aI:DA X [] aJ:=PA.mono uQ λσ H Q hh=>bR hh λρ P st q k=>k [] [] H q (Same.refl H) .nil
theorem aB (ha:DE X e ta) (hr:DA X es t) (hs:starEach (e::es) X.env=(false,eval e X.env)::starEach es X.env:=by rfl):DA X (e::es) (aC ta t) :=
 PA.mono (kI ha hr hs) λσ H Q hh=>bR hh λρ P st q k=>⟨ρ,_,st,q,λd v H1 hd s1 r1=>⟨ρ,_,st.ext s1,hd,λds vs H2 hds s2 r2=>k (d::ds) (v::vs) H2 hds (s1.trans s2) (.cons (r1.keep (.of s2)) r2)⟩⟩
noncomputable def kK (t:RA):RE:=λρ Q=>t ρ λds=>Sz ds.length/\Q (.tup ds)
theorem lA {x1} (h:DA X es t):DE X (.Tuple es x1 pos) (kK t) :=
 PE.mono (FG h) λσ H Q hh=>bR hh λρ P st q k=>⟨ρ,_,st,q,λds vs H1 hd s1 r=>⟨by rw[<-r.length];exact hd.1.ok,λp hp=>k (.tup ds) (.ref p) _ hd.2 (Same.upd_new s1 (s1.free hp) λ_ z=>by rw[hp] at z;cases z) (by
  have sm:Same H1 (upd H1 p (.tup vs)):=Same.fn λb u e=>by rw[aG (aL e hp)];exact e
  exact .tup aR (r.keep (.of sm)))⟩⟩
noncomputable def gQ (t:RA):RA:=λρ Q=>t ρ λds=>Sz ds.length/\Q ds
theorem fE (h:DA X es t):DO X (.List es pos) (gQ t) :=
 PE.mono (FC h) λσ H Q hh=>bR hh λρ P st q k=>⟨ρ,_,st,q,λds vs H1 hd s1 r=>⟨by rw[<-r.length];exact hd.1.ok,λp hp=>k ds p vs H1 hd.2 s1 hp r⟩⟩
end
section
variable {X:Cx} {e a b c:Expr} {pos:Pos} {st:Stmt} {rest:List Stmt} {t u:RS} {te:RE} {tA:RT}
noncomputable def aZ (t u:RS):RS:=λE ρ=>t { E with nx:=u E } ρ
noncomputable def cH:RS:=λE ρ=>E.nx ρ
theorem cC:DSs X [] cH:=PSs.mono CJ λDe σ H hh=>cW hh λρ E st q n r b c=>n ρ σ H q (Keep.refl H) st
theorem aN (h:DS X st t):DSs X [st] t:=rM h
theorem aF (h1:DS X st t) (h2:DSs X rest u):DSs X (st::rest) (aZ t u) :=
 PSs.mono (oG h1 h2) λDe σ H hh=>cW hh λρ E st q n r b c=>⟨ρ,_,st,q,λρ' σ' H' h k s=>⟨ρ',E,s,h,λρ2 σ2 H2 x k2=>n ρ2 σ2 H2 x (k.trans k2),λd v H2 x k2=>r d v H2 x (k.trans k2),λρ2 σ2 H2 x k2=>b ρ2 σ2 H2 x (k.trans k2),λρ2 σ2 H2 x k2=>c ρ2 σ2 H2 x (k.trans k2)⟩,r,b,c⟩
theorem zE:DS X st (λ_ _=>False):=PS.mono AG λDe σ H ⟨ρ,E,st,q,_⟩=>q
noncomputable def bZ (te:RE):RS:=λE ρ=>te ρ E.rt
theorem bF (h:DE X e te):DS X (.Return (some e) pos) (bZ te) :=
 PS.mono (AH h) λDe σ H hh=>cW hh λρ E st q n r b c=>⟨ρ,_,st,q,λd v H1 hd s1 rr=>r d v H1 hd (.of s1) (st.same.trans s1) rr⟩
noncomputable def pW (te:RE):RS:=λE ρ=>te ρ λ_=>E.nx ρ
noncomputable def eW (c:RT) (t u:RS):RS:=λE ρ=>c ρ λk=>if k=true then t E ρ else u E ρ
theorem eZ {sa sb:List Stmt} (hc:DT X c tA) (ha:DSs X sa t) (hb:DSs X sb u):DS X (.If c sa sb pos) (eW tA t u) :=
 PS.mono (HP hc ha hb) λDe σ H hh=>cW hh λρ E st q n r b c=>⟨ρ,_,st,q,λk H1 hk s1=>by
  cases k with
  | true=>rw[if_pos rfl] at hk ⊢;exact⟨ρ,E,st.ext s1,hk,λρ2 σ2 H2 x k2=>n ρ2 σ2 H2 x ((Keep.of s1).trans k2),λd v H2 x k2=>r d v H2 x ((Keep.of s1).trans k2),λρ2 σ2 H2 x k2=>b ρ2 σ2 H2 x ((Keep.of s1).trans k2),λρ2 σ2 H2 x k2=>c ρ2 σ2 H2 x ((Keep.of s1).trans k2)⟩
  | false=>rw[if_neg Bool.false_ne_true] at hk ⊢;exact⟨ρ,E,st.ext s1,hk,λρ2 σ2 H2 x k2=>n ρ2 σ2 H2 x ((Keep.of s1).trans k2),λd v H2 x k2=>r d v H2 x ((Keep.of s1).trans k2),λρ2 σ2 H2 x k2=>b ρ2 σ2 H2 x ((Keep.of s1).trans k2),λρ2 σ2 H2 x k2=>c ρ2 σ2 H2 x ((Keep.of s1).trans k2)⟩⟩
noncomputable def aU (i:Nat):RG:=λd ρ Q=>Q (ρ.set i (some (.d d)))
theorem bI {i:Nat} {x:Str} (hN:X.N.Nodup) (hi:X.N[i]? = some x:=by rfl) (hx:Loc X.env.scope x:=by walk_at "vis") (hf:X.fn x=true\/X.env.scope.names.lookup x=some .local:=by walk_at "loc"):DG X (.Name x pos) (aU i) :=
 PG.mono (CD hN hi hx hf) λv σ H Q hh=>qY hh λd ρ P r st q k=>k _ _ H q (Keep.refl H) (st.set_d r)
noncomputable abbrev RGs:=List D->En->(En->Prop)->Prop
noncomputable def EW (X:Cx) (g:RGs):TGs:=λvs σ H Q=>∃ds ρ P,Reps X.K H ds vs/\StOk X ρ σ H/\g ds ρ P/\∀ρ' σ' H',P ρ'->Keep H H'->StOk X ρ' σ' H'->Q σ' H'
noncomputable def DGs (X:Cx) (ts:List Expr) (g:RGs):Prop:=PGs X ts (EW X g)
theorem PGs.mono {X:Cx} {e:List Expr} {t t':TGs} (h:PGs X e t) (m:∀v σ H Q,t' v σ H Q->t v σ H Q):PGs X e t':=λpins s σ H v u Q I r q=>h pins s σ H v u Q I r (m v σ H Q q)
noncomputable def kN:RGs:=λds ρ Q=>match ds with
 | []=>Q ρ
 | _=>False
noncomputable def eR (g:RG) (u:RGs):RGs:=λds ρ Q=>match ds with
 | []=>False
 | d::r=>g d ρ λρ'=>u r ρ' Q
theorem vK:DGs X [] kN:=PGs.mono CF λvs σ H Q hh=>qY hh λds ρ P r st q k=>by
 cases r with
 | nil=>exact⟨rfl,k ρ σ H q (Keep.refl H) st⟩
 | cons _ _=>exact q.elim
theorem jY {es:List Expr} {g:RG} {u:RGs} (h1:DG X e g) (h2:DGs X es u) (hs:(assignEach (e::es) X.env).map (·.2)=assign e X.env::(assignEach es X.env).map (·.2):=by rfl):DGs X (e::es) (eR g u) :=
 PGs.mono (AF h1 h2 hs) λvs σ H Q hh=>qY hh λds ρ P r st q k=>by
  cases r with
  | nil=>exact q.elim
  | cons r rs =>
   refine⟨_,_,rfl,_,ρ,_,r,st,q,λρ' σ' H' hq k1 st1=>⟨_,ρ',P,rs.keep k1,st1,hq,λρ2 σ2 H2 p k2 s2=>k ρ2 σ2 H2 p (k1.trans k2) s2⟩⟩
noncomputable def kO (n:Nat) (g:RGs):RG:=λd ρ Q=>match d with
 | .tup ds=>ds.length=n/\g ds ρ Q
 | _=>False
theorem yZ {es:List Expr} {k:Nat} {g:RGs} {n:Nat} (hc:X.calm=true) (h:DGs X es g) (hn:(assignEach es X.env).length=n:=by rfl) (hst:(assignEach es X.env).findIdx? (·.1)=none:=by rfl):DG X (.Tuple es k pos) (kO n g) :=
 PG.mono (FI hc h hn hst) λv σ H Q hh=>qY hh λd ρ P r st q kk=>by
  cases d with
  | tup ds =>
   cases r with
   | tup h r=>exact⟨_,_,rfl,SqT.of h,by rw[<-r.length];exact q.1,ds,ρ,P,r,st,q.2,kk⟩
  | _=>exact q.elim
noncomputable def rO (te:RE) (g:RG):RS:=λE ρ=>te ρ λd=>g d ρ E.nx
theorem zD {tg:Expr} {g:RG} (he:DE X e te) (hg:DG X tg g) (hs:swapsWithSole [tg] e pos.line X.env=pure false:=by rfl) (hw:swappedStores [tg] e X.env=pure none:=by rfl)
  (h1:(assignEach [tg] X.env).map (·.2)=[assign tg X.env]:=by rfl):DS X (.Assign [tg] e pos) (rO te g) :=
 PS.mono (FJ he hg hs hw h1) λDe σ H hh=>cW hh λρ E st q n r b c=>⟨ρ,_,st,q,λd v H1 hd s1 rr=>⟨d,ρ,_,rr,st.ext s1,hd,λρ2 σ2 H2 x k2 s2=>n ρ2 σ2 H2 x ((Keep.of s1).trans k2) s2⟩⟩
noncomputable def bK (i:Nat) (te:RE):RS:=λE ρ=>te ρ λd=>E.nx (ρ.set i (some (.d d)))
theorem aY {i:Nat} {x:Str} {pos':Pos} (hN:X.N.Nodup) (he:DE X e te) (hi:X.N[i]? = some x:=by rfl) (hx:Loc X.env.scope x:=by walk_at "vis") (hs:swapsWith e (some (.Name x pos')) pos.line X.env=pure false:=by rfl)
  (hf:X.fn x=true\/X.env.scope.names.lookup x=some .local:=by walk_at "loc"):DS X (.Assign [.Name x pos'] e pos) (bK i te) :=
 PS.mono (uR hN hi hx he hs hf) λDe σ H hh=>cW hh λρ E st q n r b c=>⟨ρ,_,st,q,λd v H1 hd s1 rr=>n _ _ H1 hd (.of s1) ((st.ext s1).set_d rr)⟩
noncomputable def dQ (i:Nat) (t:RA):RS:=λE ρ=>t ρ λds=>E.nx (ρ.set i (some (.own ds)))
theorem iK {i:Nat} {x:Str} {pos':Pos} {t:RA} (hN:X.N.Nodup) (he:DO X e t) (hi:X.N[i]? = some x:=by rfl) (hx:Loc X.env.scope x:=by walk_at "vis") (hs:swapsWith e (some (.Name x pos')) pos.line X.env=pure false:=by rfl)
  (hf:X.fn x=true\/X.env.scope.names.lookup x=some .local:=by walk_at "loc"):DS X (.Assign [.Name x pos'] e pos) (dQ i t) :=
 PS.mono (uR hN hi hx he hs hf) λDe σ H hh=>cW hh λρ E st q n r b c=>⟨ρ,_,st,q,λds p vs H1 hd s1 hp rr=>n _ _ _ hd ((Keep.of s1).trans (.of (.fn λb o h=>by rw[aG (aL h hp)];exact h))) ((st.ext s1).set_own hp rr)⟩
noncomputable def tN (i j:Nat) (t:RA):RS:=λE ρ=>t ρ λds=>match ds with
 | [x,y]=>E.nx ((ρ.set i (some (.d x))).set j (some (.d y)))
 | _=>False
theorem EI {i j:Nat} {x y:Str} {t:RA} {px py pt:Pos} {kt k2 pt2} (hc:X.calm=true) (hN:X.N.Nodup) (ha:DA X [a,b] t) (hi:X.N[i]? = some x:=by rfl) (hj:X.N[j]? = some y:=by rfl) (hij:i≠j:=by decide)
  (hx:X.env.scope.names.lookup x=some .local:=by rfl) (hy:X.env.scope.names.lookup y=some .local:=by rfl)
  (hw:swappedStores [.Tuple [.Name x px,.Name y py] kt pt] (.Tuple [a,b] k2 pt2) X.env=pure (some [x,y]):=by rfl)
  (hs:swapsWithSole [.Tuple [.Name x px,.Name y py] kt pt] (.Tuple [a,b] k2 pt2) pos.line X.env=pure false:=by rfl) :
  DS X (.Assign [.Tuple [.Name x px,.Name y py] kt pt] (.Tuple [a,b] k2 pt2) pos) (tN i j t) :=
 PS.mono (FL hc hN hi hj hij hx hy ha hw hs) λDe σ H hh=>cW hh λρ E st q n r b c=>⟨ρ,_,st,q,λds vs H1 hd s1 rr=>by
  cases rr with
  | nil=>exact hd.elim
  | cons r1 t1 =>
   cases t1 with
   | nil=>exact hd.elim
   | cons r2 t2 =>
    cases t2 with
    | nil=>exact⟨_,_,rfl,n _ _ H1 hd (.of s1) (((st.ext s1).set_d r1).set_d r2)⟩
    | cons _ _=>exact hd.elim⟩
noncomputable def gB (i:Nat) (ρ:En):En:=match ρ[i]? with
 | some (some x)=>ρ.set i (some x.fz)
 | _=>ρ
theorem vM (i:Nat) (h:DS X st t):DS X st (λE ρ=>t E (gB i ρ)):=by
 intro pins s σ H De I ⟨ρ,E,so,q,n,r,b,c⟩
 have q:t E (gB i ρ):=q
 unfold gB at q
 split at q
 ·rename_i x e
  obtain⟨H2,I2,so2,kp⟩:=so.fz I e
  exact h pins s σ _ De I2 ⟨_,E,so2,q,λρ2 σ2 H2 x k2=>n ρ2 σ2 H2 x (kp.trans k2),λd v H2 x k2=>r d v H2 x (kp.trans k2),λρ2 σ2 H2 x k2=>b ρ2 σ2 H2 x (kp.trans k2),λρ2 σ2 H2 x k2=>c ρ2 σ2 H2 x (kp.trans k2)⟩
 ·exact h pins s σ H De I ⟨ρ,E,so,q,n,r,b,c⟩
noncomputable def gE (c:RT) (t:RS):Nat->RS
 | 0,_,_=>False
 | n+1,E,ρ=>c ρ λk=>if k=true then t { E with nx:=gE c t n E,ct:=gE c t n E,bk:=E.nx } ρ else E.nx ρ
noncomputable def oK (c:RT) (t:RS):RS:=λE ρ=>∃n,gE c t n E ρ
theorem sS {body:List Stmt} (hp:PassesOwn (model X.prog X.w) X.A X.env X.xe) (hc:DT X c tA) (hb:DSs X body t):DS X (.While c body [] pos) (oK tA t) :=
 PS.mono (AI hp hc hb) λDe σ H hh=>cW hh λρ E st mq n r b c=>by
  obtain⟨m,q⟩:=mq
  refine⟨λm σ' H'=>∃ρ',StOk X ρ' σ' H'/\Keep H H'/\gE tA t m E ρ',⟨m,ρ,st,Keep.refl H,q⟩,?_⟩
  rintro m σ' H' ⟨ρ',st',kp,hw⟩
  cases m with
  | zero=>exact hw.elim
  | succ m =>
   refine⟨ρ',_,st',hw,λk H1 hk s1=>?_⟩
   have kp1:=kp.trans (.of s1)
   cases k with
   | true =>
    dsimp only at hk ⊢
    rw[if_pos rfl] at hk ⊢
    refine⟨λσ2 H2=>∃ρ2,StOk X ρ2 σ2 H2/\Keep H H2/\gE tA t m E ρ2,λσ2 H2 ⟨ρ2,a1,a2,a3⟩=>⟨m,Nat.lt_succ_self m,ρ2,a1,a2,a3⟩,?_⟩
    exact⟨ρ',_,st'.ext s1,hk,λρ2 σ2 H2 x k2 s2=>⟨ρ2,s2,kp1.trans k2,x⟩,λd v H2 x k2=>r d v H2 x (kp1.trans k2),λρ2 σ2 H2 x k2=>n ρ2 σ2 H2 x (kp1.trans k2),λρ2 σ2 H2 x k2 s2=>⟨ρ2,s2,kp1.trans k2,x⟩⟩
   | false =>
    dsimp only at hk ⊢
    rw[if_neg Bool.false_ne_true] at hk ⊢
    exact n ρ' σ' H1 hk kp1 (st'.ext s1)
noncomputable def wD (X:Cx) (J:It) (xs:List D) (H0:Hp):Prop:=∀i H,Keep H0 H ->
 (∀d,xs[i]? = some d->J.go i H/\∀x H',J.yld i H x H'->Same H H'/\Rep X.K H' d x)/\(xs.length<=i->J.stop i H)
noncomputable def GZ (X:Cx) (t:RA):TI:=λσ H R=>∃ρ P,StOk X ρ σ H/\t ρ P/\∀xs J H',P xs->Same H H'->wD X J xs H'->R J H'
noncomputable def DI (X:Cx) (tg iter:Expr) (t:RA):Prop:=PI X tg iter (GZ X t)
theorem PI.mono {X:Cx} {tg e:Expr} {t t':TI} (h:PI X tg e t) (m:∀σ H Q,t' σ H Q->t σ H Q):PI X tg e t':=λpins s σ H Q I q=>h pins s σ H Q I (m σ H Q q)
noncomputable def qZ (g:RG) (t:RS):List D->RS
 | [],E,ρ=>E.nx ρ
 | x::xs,E,ρ=>g x ρ λρ1=>t { E with nx:=qZ g t xs E,ct:=qZ g t xs E,bk:=E.nx } ρ1
noncomputable def fF (ti:RA) (g:RG) (t:RS):RS:=λE ρ=>ti ρ λxs=>qZ g t xs E ρ
theorem eN {tg iter:Expr} {body:List Stmt} {ti:RA} {g:RG} (hp:PassesOwn (model X.prog X.w) X.A X.env X.xe) (hc:X.calm=true) (hi:DI X tg iter ti) (hg:DG X tg g) (hb:DSs X body t)
  (hs:∀x,foldedSetIterable iter X.env x=pure x:=by intro _;rfl):DS X (.For tg iter body [] pos) (fF ti g t) :=
 PS.mono (FK hp hc hi hg hb hs) λDe σ H hh=>cW hh λρ E st q n r b c=>by
  refine⟨ρ,_,st,q,λxs J H1 hx s1 ok=>?_⟩
  refine⟨λi m σ' H'=>m=xs.length-i/\i<=xs.length/\∃ρ',StOk X ρ' σ' H'/\Keep H1 H'/\qZ g t (xs.drop i) E ρ',⟨xs.length,by simp,Nat.zero_le _,ρ,st.ext s1,Keep.refl H1,by simpa using hx⟩,?_⟩
  rintro i m σ' H' ⟨rfl,hi,ρ',st',kp,hf⟩
  obtain⟨o1,o2⟩:=ok i H' kp
  have kp1:Keep H H':=(Keep.of s1).trans kp
  by_cases hlt:i<xs.length
  ·have e:xs.drop i=xs[i]::xs.drop (i+1):=List.drop_eq_getElem_cons hlt
   rw[e] at hf
   obtain⟨go,yl⟩:=o1 xs[i] (List.getElem?_eq_getElem hlt)
   refine .inr ⟨go,λσ2 H2=>∃ρ2,StOk X ρ2 σ2 H2/\Keep H1 H2/\qZ g t (xs.drop (i+1)) E ρ2,λσ2 H2 hh=>⟨xs.length-(i+1),by omega,rfl,hlt,hh⟩,λx H2 y=>?_⟩
   obtain⟨s2,rx⟩:=yl x H2 y
   refine⟨xs[i],ρ',_,rx,st'.ext s2,hf,λρ3 σ3 H3 h3 k3 s3=>?_⟩
   have k13:Keep H1 H3:=(kp.trans (.of s2)).trans k3
   have k03:Keep H H3:=(kp1.trans (.of s2)).trans k3
   exact⟨ρ3,_,s3,h3,λρ4 σ4 H4 x4 k4 s4=>⟨ρ4,s4,k13.trans k4,x4⟩,λd v H4 x4 k4=>r d v H4 x4 (k03.trans k4),λρ4 σ4 H4 x4 k4=>n ρ4 σ4 H4 x4 (k03.trans k4),λρ4 σ4 H4 x4 k4 s4=>⟨ρ4,s4,k13.trans k4,x4⟩⟩
  ·have e:i=xs.length:=by omega
   subst e
   rw[List.drop_length] at hf
   exact .inl ⟨o2 (Nat.le_refl _),n ρ' σ' H' hf kp1 st'⟩
end
section
variable {X:Cx} {tg e:Expr} {te:RE} {pos p:Pos}
noncomputable def riL (te:RE):RA:=λρ Q=>te ρ λd=>match d with
 | .lst ds=>Q ds
 | _=>False
theorem jZ (h:DE X e te):DI X tg e (riL te):=by
 refine PI.mono (CG h) λσ H R hh=>bR hh λρ P st q k=>⟨ρ,_,st,q,λd v H1 hd s1 r=>?_⟩
 cases d with
 | lst ds =>
  cases r with
  | @lst a vs _ hz r =>
   refine⟨a,rfl,⟨vs,hz.sq⟩,k ds _ H1 hd s1 λi H2 kp=>⟨λd e=>?_,λhl=>⟨vs,(hz.keep kp).sq,by rw[<-r.length];exact hl⟩⟩⟩
   obtain⟨v,h1,h2⟩:=(r.keep kp).get e
   refine⟨⟨vs,v,(hz.keep kp).sq,h1⟩,λx H' y=>?_⟩
   obtain⟨e1,e2⟩:=y
   subst e1
   have e3:=e2 vs (hz.keep kp).sq
   rw[h1] at e3;cases e3
   exact⟨Same.refl _,h2⟩
 | _=>exact hd.elim
noncomputable def riT (te:RE):RA:=λρ Q=>te ρ λd=>match d with
 | .tup ds=>Q ds
 | _=>False
noncomputable def cY (lo:Int) (n:Nat):List D:=(List.range n).map λk:Nat=>D.int (lo+(k:Int))
theorem zN {H0:Hp} (lo:Int) (n:Nat):wD X (Itr lo n) (cY lo n) H0:=λi H kp=>by
 refine⟨λd e=>?_,λhl=>by show n<=i;simpa [cY] using hl⟩
 unfold cY at e
 rw[List.getElem?_map] at e
 by_cases hi:i<n
 ·rw[List.getElem?_range hi] at e
  cases e
  exact⟨hi,λx H' y=>by obtain⟨rfl,rfl⟩:=y;exact⟨Same.refl _,.int _⟩⟩
 ·rw[List.getElem?_eq_none (by simpa using hi)] at e;cases e
structure RngOk (j:Int):Prop where
 lo:-(2 ^ 62)<=j
 hi:j<2 ^ 62
noncomputable def kP (t:RA):RA:=λρ Q=>t ρ λds=>match ds with
 | [.int j]=>RngOk j/\Q (cY 0 j.toNat)
 | _=>False
noncomputable def tR (t:RA):RA:=λρ Q=>t ρ λds=>match ds with
 | [.int i,.int j]=>(RngOk i/\RngOk j)/\Q (cY i (j-i).toNat)
 | _=>False
theorem dE {a:Expr} {t:RA} (hm:X.mg "range" = none) (ha:DA X [a] t) (hg:Gl X "range":=by rfl) (hs:starEach [a] X.env=[(false,eval a X.env)]:=by rfl):DI X tg (.Call (.Name "range" p) [a] [] pos) (kP t):=by
 refine PI.mono (xN hg hm ha hs) λσ H R hh=>bR hh λρ P st q k=>⟨ρ,_,st,q,λds vs H1 hd s1 r=>?_⟩
 split at hd
 ·rename_i j
  rw[Reps.ints_inv (ns:=[j]) r]
  exact⟨j,rfl,hd.1.lo,hd.1.hi,k _ _ H1 hd.2 s1 (zN 0 _)⟩
 ·exact hd.elim
theorem wR {a b:Expr} {t:RA} (hm:X.mg "range" = none) (ha:DA X [a,b] t) (hg:Gl X "range":=by rfl) (hs:starEach [a,b] X.env=[(false,eval a X.env),(false,eval b X.env)]:=by rfl) (hs2:starEach [b] X.env=[(false,eval b X.env)]:=by rfl):DI X tg (.Call (.Name "range" p) [a,b] [] pos) (tR t):=by
 refine PI.mono (xO hg hm ha hs hs2) λσ H R hh=>bR hh λρ P st q k=>⟨ρ,_,st,q,λds vs H1 hd s1 r=>?_⟩
 split at hd
 ·rename_i i j
  rw[Reps.ints_inv (ns:=[i,j]) r]
  exact⟨i,j,rfl,⟨hd.1.1.lo,hd.1.1.hi,hd.1.2.lo,hd.1.2.hi⟩,k _ _ H1 hd.2 s1 (zN i _)⟩
 ·exact hd.elim
end
noncomputable abbrev FD:=List D->(D->Prop)->Prop
noncomputable def spD (K:PySem.W.Frag) (F:FD):Sp:=λvs H Q _=>TabsIn K H/\∃ds P,Reps K H ds vs/\F ds P/\∀d v H',P d->Same H H'->Rep K H' d v->Q v H'
noncomputable def aW (F:FD) (t:RA):RE:=λρ Q=>t ρ λds=>F ds Q
section
variable {X:Cx} {k:Nat} {f:Addr} {fd:FuncData} {ps:List Str} {F:FD} {x:Str} {p pos:Pos} {e:Expr} {es:List Expr} {t:RA}
theorem BH (G:FnOk X.prog X.w X.K X.mg X.base CX0 k f fd ps (spD X.K F)) (hr:Room k X.A) (hm:X.mg x=some (.ref f)) (hk:PySem.W.keepIn X.K (.ref f)=true) (hb:Binds X.K fd ps []) (ha:DA X (e::es) t) (hg:Gl X x:=by rfl)
  (hdb:(x == ("__debug__":Str))=false:=by decide) (he:starEach (e::es) X.env=(false,eval e X.env)::starEach es X.env:=by rfl) (hpl:(backTo pos (starEach es X.env)).any (·.1)=false:=by rfl) :
  DE X (.Call (.Name x p) (e::es) [] pos) (aW F t) :=
 PE.mono (rK (E:=E0) G hr hg hm hk hb .nil AD ha hdb he hpl) λσ H Q hh=>bR hh λρ P st q kk=>⟨ρ,_,st,q,λds vs H1 hd s1 r=>by
  show spD X.K F (vs++[]) H1 Q E0
  rw[List.append_nil]
  exact⟨(st.ext s1).tabs,ds,P,r,hd,λd v H2 hp s2 r2=>kk d v H2 hp (s1.trans s2) r2⟩⟩
end
noncomputable def aO (N:List Str) (ds:List D):En:=ds.map (λd=>some (.d d))++List.replicate (N.length-ds.length) none
section
variable {P:Program} {w:World} {K:PySem.W.Frag} {mg:Str->Option Value} {base:Heap}
theorem kQ {X:Cx} {N:List Str} {ds:List D} {vs:List V} (tb:TabsIn X.K X.H₀) (r:Reps X.K X.H₀ ds vs):StOk X (aO N ds) (fD N vs) X.H₀:=by
 have hl:=r.length
 have own:∀(i:Nat) (x:S),(aO N ds)[i]? = some (some x)->∃d,x = .d d:=λi x e=>by
  unfold aO at e
  by_cases hi:i<ds.length
  ·rw[List.getElem?_append_left (by simpa using hi),List.getElem?_map,List.getElem?_eq_getElem hi] at e
   cases e;exact⟨_,rfl⟩
  ·rw[List.getElem?_append_right (by simpa using hi),List.getElem?_replicate] at e
   split at e <;> cases e
 refine⟨by simp[aO,fD,hl],Same.refl _,λi x e=>?_,λi j x y v u a e1 _ _ _ o _=>by
  obtain⟨d,rfl⟩:=own i x e1
  exact o.elim,tb⟩
 unfold aO at e
 by_cases hi:i<ds.length
 ·rw[List.getElem?_append_left (by simpa using hi),List.getElem?_map,List.getElem?_eq_getElem hi] at e
  cases e
  obtain⟨v,h1,h2⟩:=r.get (List.getElem?_eq_getElem hi)
  refine⟨v,?_,h2⟩
  unfold fD
  rw[List.getElem?_append_left (by simpa [<-hl] using hi),List.getElem?_map,h1];rfl
 ·rw[List.getElem?_append_right (by simpa using hi),List.getElem?_replicate] at e
  split at e <;> cases e
theorem CZ {x qual:Str} {st:Stmt} {f:Addr} {fd:FuncData} {N ps:List Str} {k:Nat} {F:FD} {t:RS} (Fu:Fun K x qual st f fd) (Sc:FnScope N ps (aA st))
  (hbody:∀(cdv:Value) (A:Around) (outer:List Env) (s:Shared) (H:Hp) (E:XK),Room k (A.deeper (envOfC qual (aA st) s.heap.objs.size f cdv)) ->
   DSs (bS CX0 P w K mg base N qual (aA st) f cdv A outer s H E).nox (aH st) t)
  (len:∀ds Q,F ds Q->ds.length=ps.length) (pure:∀ds Q,F ds Q->t { nx:=λ_=>Q .non,rt:=Q } (aO N ds)):FnOk P w K mg base CX0 (k+1) f fd ps (spD K F):=by
 refine Fu.ok Sc (λvs H Q E ⟨_,ds,P,r,h,_⟩=>by rw[<-r.length];exact len ds P h) λcdv A outer s H vs Q E hr ⟨tb,ds,P',r,h,kk⟩=>⟨_,hbody cdv A outer s H E hr,?_⟩
 exact⟨aO N ds,_,kQ (X:=(bS CX0 P w K mg base N qual (aA st) f cdv A outer s H E).nox) tb r,pure ds P' h,λρ' σ' H' hq k s'=>kk .non .non H' hq s'.same .non,λd v H' hq k sm rv=>kk d v H' hq sm rv,λ_ _ _ z=>z.elim,λ_ _ _ z=>z.elim⟩
end
noncomputable def BL (n:Nat) (i:Int):Prop:=i.natAbs<2 ^ n
theorem BL.bits {n:Nat} {i:Int} (h:BL n i):Builtin.Int.intBits i<=n:=intBits_le_iff.mpr h
theorem BL.of {n:Nat} {i:Int} (h:Builtin.Int.intBits i<=n):BL n i:=intBits_le_iff.mp h
theorem BL.mono {m n:Nat} {i:Int} (h:BL m i) (l:m<=n):BL n i:=BL.of (Nat.le_trans h.bits l)
theorem BL.add {m n:Nat} {i j:Int} (a:BL m i) (b:BL n j):BL (max m n+1) (i+j):=BL.of (intBits_add_le a.bits b.bits)
theorem BL.sub {m n:Nat} {i j:Int} (a:BL m i) (b:BL n j):BL (max m n+1) (i-j):=BL.of (intBits_sub_le a.bits b.bits)
theorem BL.mul {m n:Nat} {i j:Int} (a:BL m i) (b:BL n j):BL (m+n) (i*j):=BL.of (intBits_mul_le a.bits b.bits)
theorem BL.neg {m:Nat} {i:Int} (a:BL m i):BL m (-i):=BL.of (intBits_neg_le a.bits)
theorem BL.fdiv {m:Nat} {i j:Int} (a:BL m i):BL m (i.fdiv j):=BL.of (intBits_fdiv_le a.bits)
theorem BL.le {m:Nat} {i j:Int} (a:BL m j) (h:i.natAbs<=j.natAbs):BL m i:=Nat.lt_of_le_of_lt h a
theorem BL.of_lt {m:Nat} {i:Int} (h1:-(2 ^ m:Nat)<i) (h2:i<(2 ^ m:Nat)):BL m i:=by unfold BL;omega
theorem BL.intMulOk {m n:Nat} {i j:Int} (a:BL m i) (b:BL n j) (h:m+n<=134217728):IntMulOk i j:=IntMulOk.of_le a.bits b.bits h
theorem BL.noPy {i j:Int} (h:BL 9000 j):Builtin.divisionGoesByPylong i j=false:=by
 refine PyProof.noPylong_of_log2 ?_
 by_cases h0:j.natAbs=0
 ·rw[h0];decide +kernel
 ·exact (Nat.log2_lt h0).mpr h
section
variable {X:Cx} {e a b c:Expr} {pos:Pos}
theorem RepB.int_inv {K:PySem.W.Frag} {H:Hp} {i:Int} {v:V} (h:RepB K H (.int i) v):v = .int i:=by
 rcases h with h | ⟨ds,a,vs,e1,_⟩
 ·exact h.int_inv
 ·cases e1
theorem RepB.bl_inv {K:PySem.W.Frag} {H:Hp} {i:Bool} {v:V} (h:RepB K H (.bl i) v):v = .bl i:=by
 rcases h with h | ⟨ds,a,vs,e1,_⟩
 ·exact h.bl_inv
 ·cases e1
structure MulOk (i j:Int):Prop where
 ok:IntMulOk i j
structure DivOk (i j:Int):Prop where
 nz:j≠0
 np:Builtin.divisionGoesByPylong i j=false
structure ModOk (j:Int):Prop where
 nz:j≠0
structure PowOk (i j:Int):Prop where
 ok:0<=j/\j<=1000000/\i.natAbs<2 ^ 64
theorem BL.mulOk {m n:Nat} {i j:Int} (a:BL m i) (b:BL n j) (h:m+n<=134217728:=by decide):MulOk i j:=⟨a.intMulOk b h⟩
theorem BL.divOk {i j:Int} (h:BL 9000 j) (nz:j≠0):DivOk i j:=⟨nz,h.noPy⟩
noncomputable def cV:R22:=λx y Q=>match x,y with
 | .int i,.int j=>Q (.int (i+j))
 | _,_=>False
noncomputable def eM:R22:=λx y Q=>match x,y with
 | .int i,.int j=>Q (.int (i-j))
 | _,_=>False
noncomputable def eK:R22:=λx y Q=>match x,y with
 | .int i,.int j=>MulOk i j/\Q (.int (i*j))
 | _,_=>False
noncomputable def dO:R22:=λx y Q=>match x,y with
 | .int i,.int j=>DivOk i j/\Q (.int (i.fdiv j))
 | _,_=>False
noncomputable def dD:R22:=λx y Q=>match x,y with
 | .int i,.int j=>ModOk j/\Q (.int (i.fmod j))
 | _,_=>False
noncomputable def jX:R22:=λx y Q=>match x,y with
 | .int i,.int j=>PowOk i j/\Q (.int (i ^ j.toNat))
 | _,_=>False
theorem xM {f:Value->Value->Sem Value} {C:Int->Int->Prop} {g:Int->Int->Int} {r:R22} (h:OpR X f (rI C λi j=>.int (g i j)))
  (hr:∀x y Q,r x y Q->∃i j,x = .int i/\y = .int j/\C i j/\Q (.int (g i j))):OpD X f r:=by
 intro pins s σ H x y v u Q I rx ry hh_0
 obtain⟨d,e,P,r1,r2,q,k⟩:=hh_0
 obtain⟨i,j,rfl,rfl,hc,q⟩:=hr _ _ _ q
 exact h pins s σ H x y v u Q I rx ry ⟨i,j,r1.int_inv,r2.int_inv,hc,k _ _ H q (Same.refl H) (.int _)⟩
theorem bP:OpD X (binaryOp .Add) cV:=xM (C:=λ_ _=>True) (g:=λi j=>i+j) (opI λ_ _ _ _ _ _ _ _ q=>add_int q) λx y Q q=>by
 unfold cV at q;split at q
 ·exact⟨_,_,rfl,rfl,trivial,q⟩
 ·exact q.elim
theorem cR:OpD X (binaryOp .Sub) eM:=xM (C:=λ_ _=>True) (g:=λi j=>i-j) (opI λ_ _ _ _ _ _ _ _ q=>sub_int q) λx y Q q=>by
 unfold eM at q;split at q
 ·exact⟨_,_,rfl,rfl,trivial,q⟩
 ·exact q.elim
theorem cQ:OpD X (binaryOp .Mult) eK:=xM (C:=λi j=>IntMulOk i j) (g:=λi j=>i*j) (opI λ_ _ _ _ _ _ _ hc q=>mul_int q hc) λx y Q q=>by
 unfold eK at q;split at q
 ·exact⟨_,_,rfl,rfl,q.1.ok,q.2⟩
 ·exact q.elim
theorem eE:OpD X (binaryOp .FloorDiv) dO:=xM (C:=λi j=>j≠0/\Builtin.divisionGoesByPylong i j=false) (g:=λi j=>i.fdiv j) (opI λ_ _ _ _ _ _ _ hc q=>floordiv_int hc.1 q (.inl hc.2)) λx y Q q=>by
 unfold dO at q;split at q
 ·exact⟨_,_,rfl,rfl,⟨q.1.nz,q.1.np⟩,q.2⟩
 ·exact q.elim
theorem bV:OpD X (binaryOp .Mod) dD:=xM (C:=λ_ j=>j≠0) (g:=λi j=>i.fmod j) (opI λ_ _ _ _ _ _ _ hc q=>mod_int' hc q) λx y Q q=>by
 unfold dD at q;split at q
 ·exact⟨_,_,rfl,rfl,q.1.nz,q.2⟩
 ·exact q.elim
theorem lM:OpD X (binaryOp .Pow) jX:=xM (C:=λi j=>0<=j/\j<=1000000/\i.natAbs<2 ^ 64) (g:=λi j=>i ^ j.toNat) (opI λ_ _ _ _ _ _ _ hc q=>pow_int_small hc.1 hc.2.1 hc.2.2 q) λx y Q q=>by
 unfold jX at q;split at q
 ·exact⟨_,_,rfl,rfl,q.1.ok,q.2⟩
 ·exact q.elim
noncomputable def mQ:D->(D->Prop)->Prop:=λx Q=>match x with
 | .int i=>Q (.int (-i))
 | _=>False
theorem rW:UnD X (unaryOp .USub) mQ:=by
 intro pins s σ H x v Q I rx hh_0
 obtain⟨d,P,r,q,k⟩:=hh_0
 unfold mQ at q;split at q
 ·rename_i i
  exact GD pins s σ H x v Q I rx ⟨i,r.int_inv,k _ _ H q (Same.refl H) (.int _)⟩
 ·exact q.elim
noncomputable def gP (p:Int->Int->Bool):R22:=λx y Q=>match x,y with
 | .int i,.int j=>Q (.bl (p i j))
 | _,_=>False
theorem EZ {f:Value->Value->Sem Value} {p:Int->Int->Bool} (h:OpR X f (rI0 λi j=>.bl (p i j))):OpD X f (gP p):=by
 intro pins s σ H x y v u Q I rx ry hh_0
 obtain⟨d,e,P,r1,r2,q,k⟩:=hh_0
 unfold gP at q;split at q
 ·rename_i i j
  exact h pins s σ H x y v u Q I rx ry ⟨i,j,r1.int_inv,r2.int_inv,k _ _ H q (Same.refl H) (.bl _)⟩
 ·exact q.elim
theorem DL:OpD X (compareOp .Lt) (gP λi j=>decide (i<j)):=EZ HI
theorem zY:OpD X (compareOp .Gt) (gP λi j=>decide (j<i)):=EZ HH
theorem HF:OpD X (compareOp .GtE) (gP λi j=>decide (j<=i)):=EZ HG
noncomputable def eV (neg:Bool):R22:=λx y Q=>match x,y with
 | .int i,.int j=>Q (.bl (if neg then !decide (i=j) else decide (i=j)))
 | .bl i,.bl j=>Q (.bl (if neg then !decide (i=j) else decide (i=j)))
 | _,_=>False
theorem lL:OpD X (compareOp .Eq) (eV false):=by
 intro pins s σ H x y v u Q I rx ry hh_0
 obtain⟨d,e,P,r1,r2,q,k⟩:=hh_0
 unfold eV at q;split at q
 ·rename_i i j
  rw[r1.int_inv] at rx;rw[r2.int_inv] at ry
  exact DM pins s σ H _ _ v u Q I rx ry ⟨rfl,by
   have e:decide (V.int i=V.int j)=decide (i=j):=by simp
   rw[e];exact k _ _ H q (Same.refl H) (.bl _)⟩
 ·rename_i i j
  rw[r1.bl_inv] at rx;rw[r2.bl_inv] at ry
  exact DM pins s σ H _ _ v u Q I rx ry ⟨rfl,by
   have e:decide (V.bl i=V.bl j)=decide (i=j):=by simp
   rw[e];exact k _ _ H q (Same.refl H) (.bl _)⟩
 ·exact q.elim
theorem nY:OpD X (compareOp .NotEq) (eV true):=by
 intro pins s σ H x y v u Q I rx ry hh_0
 obtain⟨d,e,P,r1,r2,q,k⟩:=hh_0
 unfold eV at q;split at q
 ·rename_i i j
  rw[r1.int_inv] at rx;rw[r2.int_inv] at ry
  exact DN pins s σ H _ _ v u Q I rx ry ⟨rfl,by
   have e:decide (V.int i=V.int j)=decide (i=j):=by simp
   rw[e];exact k _ _ H q (Same.refl H) (.bl _)⟩
 ·rename_i i j
  rw[r1.bl_inv] at rx;rw[r2.bl_inv] at ry
  exact DN pins s σ H _ _ v u Q I rx ry ⟨rfl,by
   have e:decide (V.bl i=V.bl j)=decide (i=j):=by simp
   rw[e];exact k _ _ H q (Same.refl H) (.bl _)⟩
 ·exact q.elim
noncomputable def mF:D->Bool
 | .non=>true
 | _=>false
noncomputable def wL (neg:Bool):R22:=λx y Q=>match y with
 | .non=>Q (.bl (if neg then !mF x else mF x))
 | _=>False
noncomputable def dIx:R22:=λx y Q=>match x,y with
 | .lst ds,.int i=>match atI ds i with
  | some d=>Q d
  | none=>False
 | .tup ds,.int i=>match atI ds i with
  | some d=>Q d
  | none=>False
 | _,_=>False
theorem sB {K:PySem.W.Frag} {H:Hp} {ds:List D} {vs:List V} {i:Int} {d:D} (r:Reps K H ds vs) (h:atI ds i=some d):∃v,atI vs i=some v/\Rep K H d v:=by
 unfold atI at h ⊢
 rw[<-r.length]
 cases e:ixN ds.length i with
 | none=>rw[e] at h;cases h
 | some j =>
  rw[e] at h
  exact r.get h
theorem aT {ta tb:RE} (ha:DB X a ta) (hb:DB X b tb) (hs:qL b:=by intro _ _;rfl):DE X (.Subscript a b pos) (r2 dIx ta tb):=by
 refine PE.mono (HL (BT.or EM) ha hb hs) λσ H Q h=>?_
 obtain⟨ρ,P,st,ht,hP⟩:=h
 refine⟨ρ,_,st,ht,λx v H1 h1 s1 r1=>⟨ρ,_,st.ext s1,h1,λy u H2 h2 s2 r2=>?_⟩⟩
 have r1':=r1.same s2
 unfold dIx at h2;split at h2
 ·rename_i ds i
  split at h2
  ·rename_i d e
   obtain⟨p,vs,rfl,hq,rr⟩:=r1'.lst
   obtain⟨w',e',rw'⟩:=sB rr e
   exact .inl ⟨p,vs,i,w',rfl,r2.int_inv,hq,e',hP d w' H2 h2 (s1.trans s2) rw'⟩
  ·exact h2.elim
 ·rename_i ds i
  split at h2
  ·rename_i d e
   obtain⟨p,vs,rfl,hq,rr⟩:=r1'.tup
   obtain⟨w',e',rw'⟩:=sB rr e
   exact .inr ⟨p,vs,i,w',rfl,r2.int_inv,SqT.of hq,e',hP d w' H2 h2 (s1.trans s2) rw'⟩
  ·exact h2.elim
 ·exact h2.elim
noncomputable abbrev RO:=En->(Option Int->Prop)->Prop
noncomputable def iN:RO:=λ_ Q=>Q none
noncomputable def pX (t:RE):RO:=λρ Q=>t ρ λd=>match d with
 | .int i=>Q (some i)
 | _=>False
noncomputable def DZ (xs:List D) (lo hi:Option Int):List D:=(xs.drop (HT.sIx xs.length 0 lo)).take (HT.sIx xs.length xs.length hi-HT.sIx xs.length 0 lo)
noncomputable def pZ (te:RE) (tl th:RO):RA:=λρ Q=>te ρ λx=>tl ρ λl=>th ρ λu=>match x with
 | .lst ds=>Q (DZ ds l u)
 | _=>False
noncomputable def EV (X:Cx) (r:List D->(D->Prop)->Prop):List V->Hp->VK->Prop:=λxs H Q=>∃ds P,Reps X.K H ds xs/\r ds P/\∀z v H',P z->Same H H'->Rep X.K H' z v->Q v H'
noncomputable def yJ (X:Cx) (f:Value) (r:List D->(D->Prop)->Prop):Prop:=jM X f (EV X r)
noncomputable def rCB (r:List D->(D->Prop)->Prop) (t:RA):RE:=λρ Q=>t ρ λds=>r ds Q
variable {x:Str} {p:Pos} {es:List Expr} {t:RA} {id T:String} {r:List D->(D->Prop)->Prop}
theorem gT (hc:yJ X (.builtin id) r) (hm:X.mg x=none) (hv:bootBuiltins x=some (.builtin id)) (ha:DA X (e::es) t) (hg:Gl X x:=by rfl) (hn:x≠"__name__":=by decide) (hdb:(x == ("__debug__":Str))=false:=by decide)
  (he:starEach (e::es) X.env=(false,eval e X.env)::starEach es X.env:=by rfl) (hpl:(backTo pos (starEach es X.env)).any (·.1)=false:=by rfl):DE X (.Call (.Name x p) (e::es) [] pos) (rCB r t) :=
 PE.mono (oE hc hg hm hv ha hn hdb he hpl) λσ H Q hh=>bR hh λρ P st q k=>⟨ρ,_,st,q,λds vs H1 hd s1 rr=>⟨ds,P,rr,hd,λz v H2 hz s2 r2=>k z v H2 hz (s1.trans s2) r2⟩⟩
noncomputable def mP:List D->(D->Prop)->Prop:=λds Q=>match ds with
 | [.int i]=>Q (.int (if i<0 then -i else i))
 | _=>False
theorem qR:yJ X (.builtin "abs") mP:=by
 intro pins s σ H xs us Q I rv hh_0
 obtain⟨ds,P,r,q,k⟩:=hh_0
 unfold mP at q;split at q
 ·rename_i i
  cases r with
  | cons r1 r2 =>
   cases r2
   rw[r1.int_inv] at rv
   exact yR pins s σ H _ us Q I rv ⟨i,rfl,k _ _ H q (Same.refl H) (.int _)⟩
 ·exact q.elim
noncomputable def wK:List D->(D->Prop)->Prop:=λds Q=>match ds with
 | [.bl b]=>Q (.int (if b then 1 else 0))
 | [.int i]=>Q (.int i)
 | _=>False
noncomputable def pO:List D->(D->Prop)->Prop:=λds Q=>match ds with
 | [.int i,.int j]=>Q (.int (if j > i then j else i))
 | _=>False
noncomputable def jW:List D->(D->Prop)->Prop:=λds Q=>match ds with
 | [.int i,.int j]=>Q (.int (if j<i then j else i))
 | _=>False
theorem BF (hc:X.calm=true:=by rfl):yJ X (.builtin "min") jW:=by
 intro pins s σ H xs us Q I rv hh_0
 obtain⟨ds,P,r,q,k⟩:=hh_0
 unfold jW at q;split at q
 ·rename_i i j
  ·rw[Reps.ints_inv (ns:=[i,j]) r] at rv
   exact wI hc pins s σ H _ us Q I rv ⟨i,j,rfl,k _ _ H q (Same.refl H) (.int _)⟩
 ·exact q.elim
noncomputable def fU:D->(D->Prop)->Prop:=λd Q=>match d with
 | .lst ds=>Q (.int ds.length)
 | .tup ds=>Q (.int ds.length)
 | _=>False
theorem lN {t:TE} (h:PE X e t) (hs:starEach [e] X.env=[(false,eval e X.env)]:=by rfl) (hn:starEach [] X.env=[]:=by rfl):PA X [e] (λσ H Q=>t σ H λv H'=>Q [v] H') :=
 PA.mono (kI h uQ (by rw[hs,hn])) λσ H Q q=>q
theorem dW {te:RE} (hm:X.mg "len" = none) (h:DB X e te) (hg:Gl X "len":=by rfl) (hs:starEach [e] X.env=[(false,eval e X.env)]:=by rfl) (hn:starEach [] X.env=[]:=by rfl):DE X (.Call (.Name "len" p) [e] [] pos) (r1 fU te):=by
 refine PE.mono (oE qO hg hm PySem.boot_len (lN h hs hn) (by decide) (by decide) (by rw[hs,hn]) (by rw[hn];rfl)) λσ H Q hh=>bR hh λρ P st q k=>⟨ρ,_,st,q,λd v H1 hd s1 r=>?_⟩
 unfold fU at hd;split at hd
 ·obtain⟨p,vs,rfl,hq,rr⟩:=r.lst
  exact⟨p,vs,rfl,.inl hq,by rw[<-rr.length];exact k _ _ H1 hd s1 (.int _)⟩
 ·obtain⟨p,vs,rfl,hq,rr⟩:=r.tup
  exact⟨p,vs,rfl,.inr (SqT.of hq),by rw[<-rr.length];exact k _ _ H1 hd s1 (.int _)⟩
 ·exact hd.elim
end
section
variable {X:Cx} {pins:List (Addr × Obj)} {σ:St} {H:Hp} {s:Shared} {h':Heap}
end
noncomputable def GP (ds:List D):List D:=ds.zipIdx.map λp=>D.tup [.int (p.2:Int),p.1]
section
variable {X:Cx} {e:Expr} {te:RE} {pos p:Pos} {elts:List Expr} {k:Nat} {tp:Pos}
noncomputable def xZ (te:RE):RA:=λρ Q=>te ρ λd=>match d with
 | .lst ds=>Q (GP ds)
 | _=>False
end
noncomputable def wY (T:String):D->Option Bool
 | .non=>some (T == "NoneType")
 | .bl _=>some (T == "bool" || T == "int")
 | .int _=>some (T == "int")
 | .str _=>some (T == "str")
 | .tup _=>some (T == "tuple")
 | .lst _=>some (T == "list")
 | .dct _ _=>none
 | .dtt _ _=>none
noncomputable def kZ (T:String):D->(D->Prop)->Prop:=λd Q=>match wY T d with
 | some b=>Q (.bl b)
 | none=>False
structure TyTab (K:PySem.W.Frag) (T:String):Prop where
 non:PySem.W.kitOne K (.type "NoneType") (.type T)=some (T == "NoneType")
 bl:PySem.W.kitOne K (.type "bool") (.type T)=some (T == "bool" || T == "int")
 int:PySem.W.kitOne K (.type "int") (.type T)=some (T == "int")
 str:PySem.W.kitOne K (.type "str") (.type T)=some (T == "str")
 tup:PySem.W.kitOne K (.type "tuple") (.type T)=some (T == "tuple")
 lst:PySem.W.kitOne K (.type "list") (.type T)=some (T == "list")
section
variable {X:Cx} {e:Expr} {te:RE} {pos p p2:Pos} {T:String} {x:Str}
theorem qU (tab:TyTab X.K T) (hm:X.mg "isinstance" = none) (hT:X.mg x=none) (hb:bootBuiltins x=some (.type T)) (h:DE X e te) (hg:Gl X "isinstance":=by rfl) (hgT:Gl X x:=by rfl) (hn:x≠"__name__":=by decide) (hd:(x == ("__debug__":Str))=false:=by decide)
  (hs:starEach [e,.Name x p2] X.env=(false,eval e X.env)::starEach [.Name x p2] X.env:=by rfl) (hs2:starEach [.Name x p2] X.env=(false,eval (.Name x p2) X.env)::starEach [] X.env:=by rfl) (hpl:(backTo pos (starEach [.Name x p2] X.env)).any (·.1)=false:=by rfl) :
  DE X (.Call (.Name "isinstance" p) [e,.Name x p2] [] pos) (r1 (kZ T) te):=by
 have hc:jM X (.builtin "isinstance") (λxs H Q=>∃d v P,xs=[v,.ty T]/\Rep X.K H d v/\kZ T d P/\∀b,P (.bl b)->Q (.bl b) H):=by
  intro pins s σ H xs us Q I r hh_0
  obtain⟨d,v,P,ex,rd,q,k⟩:=hh_0
  subst ex
  obtain⟨u,w',rfl,r1,r2⟩:=DU r
  cases r2
  unfold kZ at q
  split at q
  ·rename_i b eb
   have fin:∀{t:Value},TyOf X.K H v t->PySem.W.kitOne X.K t (.type T)=some b->wpAny (model X.prog X.w) X.A (call (.builtin "isinstance") [u,.type T]) (EP X pins σ Q) X.xe s:=λty e=>wZ I r1 ty e λtk=>⟨.bl b,H,I.tok tk,rfl,k b q⟩
   cases rd with
   | non=>cases eb;exact fin .non tab.non
   | bl _=>cases eb;exact fin (.bl _) tab.bl
   | int _=>cases eb;exact fin (.int _) tab.int
   | str _=>cases eb;exact fin (.str _) tab.str
   | tup h _=>cases eb;exact fin (.tup h) tab.tup
   | @lst a vs _ h _ =>
    cases eb
    rcases h with ⟨o,h⟩ | ⟨o,its,n,hk,hc,_⟩
    ·exact fin (.frz h) tab.lst
    ·cases (show u=Value.ref a from r1)
     exact PySem.W.kia_one PySem.W.kitx_list I.kIn ⟨o,I.kIn a o hk,hc⟩ tab.lst (λz=>nomatch z) λtk=>⟨.bl _,H,I.tok tk,rfl,k _ q⟩
   | dct _ _ _=>cases eb
   | dtt _ _ _=>cases eb
  ·exact q.elim
 refine PE.mono (oE hc hg hm PyProof.Rows.boot_isinstance (kI h (kI (CB (v:=.ty T) hgT hT hb rfl hn hd) uQ hs2) hs) (by decide) (by decide) hs hpl) λσ H Q hh=>bR hh λρ P st q k=>?_
 refine⟨ρ,_,st,q,λd v H1 hd s1 r=>⟨d,v,P,rfl,r,hd,λb hb=>k _ _ H1 hb s1 (.bl b)⟩⟩
end
theorem iJ:bootBuiltins "abs" = some (.builtin "abs"):=by decide +kernel
theorem wH:bootBuiltins "min" = some (.builtin "min"):=by decide +kernel
theorem wG:bootBuiltins "int" = some (.type "int"):=by decide +kernel
theorem uC:bootBuiltins "bool" = some (.type "bool"):=by decide +kernel
theorem sE:bootBuiltins "tuple" = some (.type "tuple"):=by decide +kernel
theorem uD:bootBuiltins "list" = some (.type "list"):=by decide +kernel
theorem CQ (K:PySem.W.Frag):TyTab K "int":=⟨by rfl,by rfl,by rfl,by rfl,by rfl,by rfl⟩
theorem AZ (K:PySem.W.Frag):TyTab K "bool":=⟨by rfl,by rfl,by rfl,by rfl,by rfl,by rfl⟩
theorem BA (K:PySem.W.Frag):TyTab K "list":=⟨by rfl,by rfl,by rfl,by rfl,by rfl,by rfl⟩
theorem yG (K:PySem.W.Frag):TyTab K "tuple":=⟨by rfl,by rfl,by rfl,by rfl,by rfl,by rfl⟩
theorem iS {P:List Value->Prop} (h:∀a,P [a]):∀us:List Value,us.length=1->P us
 | [a],_=>h a
theorem gF {P:List Value->Prop} (h:∀a b,P [a,b]) (us:List Value) (hl:us.length=2):P us:=by
 cases us with
 | nil=>cases hl
 | cons a us=>exact iS (P:=λus=>P (a::us)) (h a) us (Nat.succ.inj hl)
theorem CU {P:List Value->Prop} (h:∀a b c,P [a,b,c]) (us:List Value) (hl:us.length=3):P us:=by
 cases us with
 | nil=>cases hl
 | cons a us=>exact gF (P:=λus=>P (a::us)) (h a) us (Nat.succ.inj hl)
theorem GK {P:List Value->Prop} (h:∀a b c d,P [a,b,c,d]) (us:List Value) (hl:us.length=4):P us:=by
 cases us with
 | nil=>cases hl
 | cons a us=>exact CU (P:=λus=>P (a::us)) (h a) us (Nat.succ.inj hl)
theorem CV {P:List Value->Prop} (h:∀a b c d e,P [a,b,c,d,e]) (us:List Value) (hl:us.length=5):P us:=by
 cases us with
 | nil=>cases hl
 | cons a us=>exact GK (P:=λus=>P (a::us)) (h a) us (Nat.succ.inj hl)
theorem GL {P:List Value->Prop} (h:∀a b c d e f,P [a,b,c,d,e,f]) (us:List Value) (hl:us.length=6):P us:=by
 cases us with
 | nil=>cases hl
 | cons a us=>exact CV (P:=λus=>P (a::us)) (h a) us (Nat.succ.inj hl)
structure FnAt (P:Program) (w:World) (K:PySem.W.Frag) (mg:Str->Option Value) (base:Heap) (x:Str) (ps:List Str) (k:Nat) (F:FD):Prop where
 ex:∃f fd,FnOk P w K mg base CX0 k f fd ps (spD K F)/\Binds K fd ps []/\PySem.W.keepIn K (.ref f)=true/\mg x=some (.ref f)
structure DefAt (K:PySem.W.Frag) (mg:Str->Option Value) (x:Str) (st:Stmt) (ps:List Str):Prop where
 ex:∃f fd,Fun K x x st f fd/\mg x=some (.ref f)/\∀us:List Value,us.length=ps.length->bindArgs fd ⟨us,[]⟩=pure (ps.zip us)
section
variable {P:Program} {w:World} {K:PySem.W.Frag} {mg:Str->Option Value} {base:Heap}
theorem DefAt.ok {x:Str} {st:Stmt} {N ps:List Str} {k:Nat} {F:FD} {t:RS} (Z:DefAt K mg x st ps) (Sc:FnScope N ps (aA st))
  (hbody:∀{f:Addr} (cdv:Value) (A:Around) (outer:List Env) (s:Shared) (H:Hp) (E:XK),Room k (A.deeper (envOfC x (aA st) s.heap.objs.size f cdv)) ->
   DSs (bS CX0 P w K mg base N x (aA st) f cdv A outer s H E).nox (aH st) t)
  (len:∀ds Q,F ds Q->ds.length=ps.length) (pure:∀ds Q,F ds Q->t { nx:=λ_=>Q .non,rt:=Q } (aO N ds)):FnAt P w K mg base x ps (k+1) F:=by
 obtain⟨f,fd,a,b,c⟩:=Z.ex
 exact⟨f,fd,CZ a Sc (λcdv A outer s H E hr=>hbody cdv A outer s H E hr) len pure,.all c,a.kp,b⟩
end
section
variable {X:Cx} {k:Nat} {ps:List Str} {F:FD} {x:Str} {p pos:Pos} {e:Expr} {es:List Expr} {t:RA}
theorem aP (C:FnAt X.prog X.w X.K X.mg X.base x ps k F) (hr:Room k X.A) (ha:DA X (e::es) t) (hg:Gl X x:=by rfl)
  (hdb:(x == ("__debug__":Str))=false:=by decide) (he:starEach (e::es) X.env=(false,eval e X.env)::starEach es X.env:=by rfl) (hpl:(backTo pos (starEach es X.env)).any (·.1)=false:=by rfl) :
  DE X (.Call (.Name x p) (e::es) [] pos) (aW F t):=by
 obtain⟨f,fd,G,hb,hk,hm⟩:=C.ex
 exact BH G hr hm hk hb ha hg hdb he hpl
end
noncomputable def wB (n:Nat):FD:=λds Q=>∃ns:List Int,ds=[.lst (ns.map .int)]/\ns.length<=n/\Q (.bl true)
noncomputable def eqL (f:D->D->Option Bool):List D->List D->Option Bool
 | [],[]=>some true
 | [],_::_=>some false
 | _::_,[]=>some false
 | x::xs,y::ys=>match f x y,eqL f xs ys with
  | some a,some b=>some (a && b)
  | _,_=>none
noncomputable def eqF:Nat->D->D->Option Bool
 | 0,_,_=>none
 | n+1,d,e=>match d,e with
  | .int a,.int b=>some (decide (a=b))
  | .bl a,.bl b=>some (decide (a=b))
  | .non,.non=>some true
  | .non,.tup _=>some false
  | .tup _,.non=>some false
  | .tup xs,.tup ys=>eqL (eqF n) xs ys
  | .lst xs,.lst ys=>eqL (eqF n) xs ys
  | _,_=>none
theorem kD {f:D->D->Option Bool}:∀{xs ys:List D} {b:Bool},eqL f xs ys=some b->∀(j:Nat) (x y:D),xs[j]? = some x->ys[j]? = some y->∃c,f x y=some c
 | [],_,_,_,j,x,y,e,_=>by simp at e
 | _::_,[],_,_,j,x,y,_,e=>by simp at e
 | a::xs,c::ys,b,h,j,x,y,e1,e2=>by
  unfold eqL at h
  split at h
  ·rename_i p q hp hq
   cases j with
   | zero=>simp at e1 e2;subst e1 e2;exact⟨p,hp⟩
   | succ j=>exact kD hq j x y (by simpa using e1) (by simpa using e2)
  ·cases h
theorem iL {f:D->D->Option Bool}:∀{xs ys:List D} {b:Bool},eqL f xs ys=some b ->
  ((List.range (min xs.length ys.length)).all (λj=>match xs[j]?,ys[j]? with | some x,some y=>(f x y).getD false | _,_=>false) && xs.length == ys.length)=b
 | [],[],b,h=>by cases h;rfl
 | [],_::_,b,h=>by cases h;rfl
 | _::_,[],b,h=>by cases h;rfl
 | x::xs,y::ys,b,h=>by
  unfold eqL at h
  split at h
  ·rename_i p q hp hq
   cases h
   have ih:=iL hq
   rw[<-ih]
   simp only[List.length_cons,Nat.succ_min_succ,List.range_succ_eq_map,List.all_cons,List.getElem?_cons_zero,hp,Option.getD_some,List.all_map]
   rw[Bool.and_assoc]
   congr 1
   congr 1
   rw[Bool.eq_iff_iff];simp
  ·cases h
section
variable {X:Cx} {pins:List (Addr × Obj)} {σ:St} {H:Hp} {s:Shared}
theorem nS {f:D->D->Option Bool} (hf:∀{d e:D} {v:V} {b:Bool},f d e=some b->Rep X.K H d v->Rep X.K H e v->b=true):∀{xs ys:List D} {vs:List V} {b:Bool},eqL f xs ys=some b->Reps X.K H xs vs->Reps X.K H ys vs->b=true:=by
 intro xs
 induction xs with
 | nil=>intro ys vs b h q1 q2;cases q1;cases q2;cases h;rfl
 | cons x xs ih =>
  intro ys vs b h q1 q2
  cases q1 with
  | cons r t =>
   cases q2 with
   | cons r' t' =>
    unfold eqL at h
    split at h
    ·rename_i p q hp hq
     cases h
     rw[hf hp r r',ih hq t t'];rfl
    ·cases h
theorem kC (I:Inv X pins σ H s):∀(n:Nat) {d e:D} {v:V} {b:Bool},eqF n d e=some b->Rep X.K H d v->Rep X.K H e v->b=true
 | 0,_,_,_,_,h,_,_=>by cases h
 | n+1,d,e,v,b,h,r1,r2=>by
  unfold eqF at h
  split at h
  ·rw[r1.int_inv] at r2;cases r2;cases h;simp
  ·rw[r1.bl_inv] at r2;cases r2;cases h;simp
  ·cases h;rfl
  ·cases r1;cases r2
  ·cases r2;cases r1
  ·rename_i xs ys
   cases r1 with
   | @tup a vs _ h1 q1 =>
    cases r2 with
    | @tup _ ws _ h2 q2 =>
     rw[h1] at h2;cases h2
     exact nS (λ{d e v b}=>kC I n) h q1 q2
  ·rename_i xs ys
   cases r1 with
   | @lst a vs _ h1 q1 =>
    cases r2 with
    | @lst _ ws _ h2 q2 =>
     rw[I.list_inj h2.sq h1.sq] at q2
     exact nS (λ{d e v b}=>kC I n) h q1 q2
  ·cases h
theorem zI (I:Inv X pins σ H s) {n:Nat} {xs ys:List D} {a c:Addr} {vs ws:List V} {b:Bool} {A:Around} (h:eqL (eqF n) xs ys=some b) (h1:SqL X.K H a vs) (q1:Reps X.K H xs vs) (h2:SqL X.K H c ws) (q2:Reps X.K H ys ws) (hu:A.units<cLine)
  (at':∀{d e:D} {v u:V} {x y:Value} {b:Bool},eqF n d e=some b->Rep X.K H d v->Rep X.K H e u->RelV v x->RelV u y->SeqAt.EqAt A.in1 s x y b):SeqAt.RcAt A s (.ref a) (.ref c) b/\SeqAt.EqAt A s (.ref a) (.ref c) b:=by
 obtain⟨its,rv,ht,_⟩:=I.list h1
 obtain⟨its2,rv2,ht2,_⟩:=I.list h2
 have l1:xs.length=its.length:=q1.length.trans rv.length
 have l2:ys.length=its2.length:=q2.length.trans rv2.length
 have rc:SeqAt.RcAt A s (.ref a) (.ref c) b:=by
  by_cases hl:xs.length=ys.length
  ·have:=SeqAt.RcAt.lists (A:=A) (s:=s) (e:=λj=>match xs[j]?,ys[j]? with | some x,some y=>(eqF n x y).getD false | _,_=>false) ht.isList ht2.isList (by simp;omega) hu (λj g1 g2=>?_)
   ·have al:=iL h
    simp only[List.size_toArray,<-l1] at this
    rw[<-hl,Nat.min_self,beq_self_eq_true,Bool.and_true] at al
    rw[al] at this
    exact this
   ·simp only[List.size_toArray] at g1 g2
    have e1:xs[j]? = some (xs[j]'(by omega)):=List.getElem?_eq_getElem _
    have e2:ys[j]? = some (ys[j]'(by omega)):=List.getElem?_eq_getElem _
    obtain⟨k,hk⟩:=kD h j _ _ e1 e2
    rw[e1,e2]
    simp only[hk,Option.getD_some]
    obtain⟨v1,f1,f2⟩:=q1.get e1
    obtain⟨v2,f3,f4⟩:=q2.get e2
    obtain⟨u1,g3,g4⟩:=rv.get f1
    obtain⟨u2,g5,g6⟩:=rv2.get f3
    have a1:its.toArray[j]=u1:=by
     have:=List.getElem?_eq_getElem g1
     rw[this] at g3
     simpa using Option.some.inj g3
    have a2:its2.toArray[j]=u2:=by
     have:=List.getElem?_eq_getElem g2
     rw[this] at g5
     simpa using Option.some.inj g5
    rw[a1,a2]
    exact at' hk f2 f4 g4 g6
  ·have al:=iL h
   have:(xs.length == ys.length)=false:=by simpa using hl
   rw[this,Bool.and_false] at al
   rw[<-al]
   exact SeqAt.RcAt.lists_lengths ht.isList ht2.isList (by simp;omega) hu
 refine⟨rc,?_⟩
 by_cases hac:a=c
 ·subst hac
  rw[I.list_inj h2 h1] at q2
  rw[nS (λ{d e v b}=>kC I n) h q1 q2]
  exact SeqAt.EqAt.same _
 ·exact SeqAt.EqAt.of_refs hac rc
theorem qW (I:Inv X pins σ H s):∀(n:Nat) {d e:D} {v u:V} {x y:Value} {b:Bool} {A:Around},eqF n d e=some b->Rep X.K H d v->Rep X.K H e u->RelV v x->RelV u y->A.units+n<cLine ->
  SeqAt.RcAt A s x y b/\SeqAt.EqAt A s x y b
 | 0,_,_,_,_,_,_,_,_,h,_,_,_,_,_=>by cases h
 | n+1,d,e,v,u,x,y,b,A,h,r1,r2,rx,ry,hu=>by
  have same:=λ(hvu:v=u)=>kC I (n+1) h r1 (hvu ▸ r2)
  unfold eqF at h
  split at h
  ·rename_i i j
   rw[r1.int_inv] at rx;rw[r2.int_inv] at ry
   obtain⟨t,rfl⟩:=rx
   obtain⟨t',rfl⟩:=ry
   cases h
   have e:decide (i=j)=(i == j):=by rw[Bool.beq_eq_decide_eq]
   rw[e]
   exact⟨SeqAt.RcAt.int_int _ _ _ _,SeqAt.EqAt.int_int _ _ _ _⟩
  ·rename_i i j
   rw[r1.bl_inv] at rx;rw[r2.bl_inv] at ry
   cases rx;cases ry
   cases h
   have e:decide (i=j)=(i == j):=by rw[Bool.beq_eq_decide_eq]
   rw[e]
   exact⟨SeqAt.RcAt.bool_bool _ _,SeqAt.EqAt.bool_bool _ _⟩
  ·cases r1;cases r2;cases rx;cases ry;cases h
   exact⟨SeqAt.RcAt.none_none,SeqAt.EqAt.same _⟩
  ·cases r1
   cases r2 with
   | tup h2 q2 =>
    cases rx;cases ry;cases h
    obtain⟨its,rv,ht,_⟩:=I.tuple (SqT.of h2)
    exact⟨SeqAt.RcAt.none_tuple ht (by omega),SeqAt.EqAt.none_tuple ht (by omega)⟩
  ·cases r2
   cases r1 with
   | tup h2 q2 =>
    cases rx;cases ry;cases h
    obtain⟨its,rv,ht,_⟩:=I.tuple (SqT.of h2)
    exact⟨SeqAt.RcAt.tuple_none ht (by omega),SeqAt.EqAt.tuple_none ht (by omega)⟩
  ·rename_i xs ys
   cases r1 with
   | @tup a vs _ h1 q1 =>
    cases r2 with
    | @tup c ws _ h2 q2 =>
     cases rx;cases ry
     obtain⟨its,rv,ht,_⟩:=I.tuple (SqT.of h1)
     obtain⟨its2,rv2,ht2,_⟩:=I.tuple (SqT.of h2)
     have l1:xs.length=its.length:=q1.length.trans rv.length
     have l2:ys.length=its2.length:=q2.length.trans rv2.length
     have rc:SeqAt.RcAt A s (.ref a) (.ref c) b:=by
      have:=SeqAt.RcAt.tuples (A:=A) (s:=s) (e:=λj=>match xs[j]?,ys[j]? with | some x,some y=>(eqF n x y).getD false | _,_=>false) ht ht2 (by omega) (λj g1 g2=>?_)
      ·simp only[List.size_toArray,<-l1,<-l2] at this
       rw[iL h] at this
       exact this
      ·simp only[List.size_toArray] at g1 g2
       have e1:xs[j]? = some (xs[j]'(by omega)):=List.getElem?_eq_getElem _
       have e2:ys[j]? = some (ys[j]'(by omega)):=List.getElem?_eq_getElem _
       obtain⟨k,hk⟩:=kD h j _ _ e1 e2
       rw[e1,e2]
       simp only[hk,Option.getD_some]
       obtain⟨v1,f1,f2⟩:=q1.get e1
       obtain⟨v2,f3,f4⟩:=q2.get e2
       obtain⟨u1,g3,g4⟩:=rv.get f1
       obtain⟨u2,g5,g6⟩:=rv2.get f3
       have a1:its.toArray[j]=u1:=by
        have:=List.getElem?_eq_getElem g1
        rw[this] at g3
        simpa using Option.some.inj g3
       have a2:its2.toArray[j]=u2:=by
        have:=List.getElem?_eq_getElem g2
        rw[this] at g5
        simpa using Option.some.inj g5
       rw[a1,a2]
       exact (qW I n hk f2 f4 g4 g6 (by show A.units+1+n<cLine;omega)).2
     refine⟨rc,?_⟩
     by_cases hac:a=c
     ·subst hac
      rw[same rfl]
      exact SeqAt.EqAt.same _
     ·exact SeqAt.EqAt.of_refs hac rc
  ·rename_i xs ys
   cases r1 with
   | @lst a vs _ h1 q1 =>
    cases r2 with
    | @lst c ws _ h2 q2 =>
     cases rx;cases ry
     exact zI I h h1.sq q1 h2.sq q2 (by omega) λ{d e v u x y b} hk f2 f4 g4 g6=>(qW I n hk f2 f4 g4 g6 (by show A.units+1+n<cLine;omega)).2
  ·cases h
end
noncomputable def dEq:R22:=λx y Q=>match eqF 6 x y with
 | some b=>Q (.bl b)
 | none=>False
section
variable {X:Cx}
end
theorem gS (env:Env):∀(names:List (Str × NameKind)) (acc:List (Str × Addr)),(∀y∈names,y.2 = .free->∃c,env.cells.lookup y.1=some c) ->
  ∃cl:List (Str × Addr),(do
   let mut cs:=acc
   for (name,kind) in names do
    if kind == .free then cs:=(name,<-cellOf env name)::cs
   return cs:Sem (List (Str × Addr)))=pure cl/\(∀p∈cl,p∈acc\/env.cells.lookup p.1=some p.2)/\(∀p∈acc,p∈cl)/\∀y∈names,y.2 = .free->∃c,(y.1,c)∈cl
 | [],acc,_=>⟨acc,by simp,λp h=>.inl h,λp h=>h,λy h=>by simp at h⟩
 | (n,k)::r,acc,h=>by
  by_cases hk:k = .free
  ·subst hk
   obtain⟨c,hc⟩:=h _ List.mem_cons_self rfl
   obtain⟨cl,e,h1,h2,h3⟩:=gS env r ((n,c)::acc) λy hy=>h y (List.mem_cons_of_mem _ hy)
   refine⟨cl,?_,λp hp=>?_,λp hp=>h2 p (List.mem_cons_of_mem _ hp),λy hy hf=>?_⟩
   ·rw[<-e]
    have hcell:cellOf env n=pure c:=by unfold cellOf;rw[hc]
    simp only[List.forIn_cons,hcell,beq_self_eq_true,if_true,pure_bind]
   ·rcases h1 p hp with q | q
    ·rcases List.mem_cons.mp q with rfl | q
     ·exact .inr hc
     ·exact .inl q
    ·exact .inr q
   ·rcases List.mem_cons.mp hy with rfl | hy
    ·exact⟨c,h2 _ List.mem_cons_self⟩
    ·exact h3 y hy hf
  ·obtain⟨cl,e,h1,h2,h3⟩:=gS env r acc λy hy=>h y (List.mem_cons_of_mem _ hy)
   refine⟨cl,?_,h1,h2,λy hy hf=>?_⟩
   ·rw[<-e]
    have hb:(k == NameKind.free)=false:=by simpa using hk
    simp only[List.forIn_cons,hb,Bool.false_eq_true,if_false,pure_bind]
   ·rcases List.mem_cons.mp hy with rfl | hy
    ·exact absurd hf hk
    ·exact h3 y hy hf
theorem iT {α:Type}:∀{l:List (Str × α)} {x:Str} {c:α},(x,c)∈l->∃c',l.lookup x=some c'
 | [],_,_,h=>by simp at h
 | (y,d)::r,x,c,h=>by
  rw[List.lookup_cons]
  cases e:x == y with
  | true=>exact⟨d,rfl⟩
  | false =>
   rcases List.mem_cons.mp h with q | q
   ·cases q;rw[beq_self_eq_true] at e;cases e
   ·exact iT q
theorem jC {scope:Scope} {env:Env} (h:∀y∈scope.names,y.2 = .free->∃c,env.cells.lookup y.1=some c) :
  ∃cl,closureFor scope env=pure cl/\(∀x c,cl.lookup x=some c->env.cells.lookup x=some c)/\∀y∈scope.names,y.2 = .free->∃c,cl.lookup y.1=some c:=by
 obtain⟨cl,e,h1,_,h3⟩:=gS env scope.names [] h
 refine⟨cl,e,λx c hx=>?_,λy hy hf=>?_⟩
 ·rcases h1 _ (PySem.mem_of_lookup hx) with q | q
  ·simp at q
  ·exact q
 ·obtain⟨c,hc⟩:=h3 y hy hf
  exact iT hc
noncomputable def cP (X:Cx) (scope:Scope) (N:List Str) (cl:List (Str × Addr)) (C:Addr) (s:Shared) (H:Hp) (fp:List Addr):Cx where
 prog:=X.prog
 w:=X.w
 K:=X.K
 mg:=X.mg
 base:=X.base
 A:=X.A
 N:=N
 s₀:=s
 H₀:=H
 env:=compEnvC scope cl C X.env
 outer:=X.stack
 stack:=X.stack
 ex:=fp
 fn:=λ_=>false
 calm:=X.calm
 pn:=[]
 xe:=λ_ _=>False
structure CScope (X:Cx) (scope:Scope):Prop where
 kind:scope.kind = .function
 nocell:∀y∈scope.names,y.2≠.cell
 locs:∀y∈scope.names,y.2 = .local->scope.names.lookup y.1=some .local
 frees:∀y∈scope.names,y.2 = .free->X.env.kindOf y.1=some .cell\/X.env.kindOf y.1=some .free
theorem cX {env:Env}:∀{names:List (Str × NameKind)} {x:Str} {k:NameKind},(names.map λ(n,k)=>if (k == NameKind.free && env.scope.kind == .function && env.kindOf n == some .cell) then (n,NameKind.cell) else (n,k)).lookup x=some k ->
  (k = .cell\/k = .free)->(∀y∈names,y.2≠.cell)->(x,.free)∈names
 | [],_,_,h,_,_=>by simp at h
 | (n,j)::r,x,k,h,hk,hn=>by
  have h:List.lookup x ((if (j == NameKind.free && env.scope.kind == .function && env.kindOf n == some .cell)=true then (n,NameKind.cell) else (n,j))::r.map λ(n,k)=>if (k == NameKind.free && env.scope.kind == .function && env.kindOf n == some .cell) then (n,NameKind.cell) else (n,k))=some k:=h
  have hn':∀y∈r,y.2≠.cell:=λy hy=>hn y (List.mem_cons_of_mem _ hy)
  cases hx:x == n with
  | true =>
   have e:x=n:=eq_of_beq hx
   subst e
   by_cases hc:(j == NameKind.free && env.scope.kind == .function && env.kindOf x == some .cell)=true
   ·have hj:j = .free:=by
     rw[Bool.and_eq_true,Bool.and_eq_true] at hc
     exact eq_of_beq hc.1.1
    subst hj
    exact List.mem_cons_self
   ·rw[if_neg hc,List.lookup_cons,beq_self_eq_true] at h
    cases h
    rcases hk with rfl | rfl
    ·exact absurd rfl (hn _ List.mem_cons_self)
    ·exact List.mem_cons_self
  | false =>
   by_cases hc:(j == NameKind.free && env.scope.kind == .function && env.kindOf n == some .cell)=true
   ·rw[if_pos hc,List.lookup_cons,hx] at h
    exact List.mem_cons_of_mem _ (cX h hk hn')
   ·rw[if_neg hc,List.lookup_cons,hx] at h
    exact List.mem_cons_of_mem _ (cX h hk hn')
section
variable {X:Cx} {pins:List (Addr × Obj)} {σ:St} {H:Hp} {s:Shared} {scope:Scope} {N:List Str} {cl:List (Str × Addr)} {C:Addr} {fp:List Addr}
theorem BG (I:Inv X pins σ H s) (Sc:CScope X scope) (hcl:∀x c,cl.lookup x=some c->X.env.cells.lookup x=some c) (hall:∀y∈scope.names,y.2 = .free->∃c,cl.lookup y.1=some c)
  (hC:s.heap.objs.size<=C) (hf:∀b∈fp,oP X pins H b) (hlt:∀b∈fp,b<s.heap.objs.size):(cP X scope N cl C s H fp).Ok:=by
 refine⟨I.ok.mod,Sc.kind,I.ok.glob,I.ok.blt,hC,λx y c h1 h2=>I.ok.inj x y c (hcl x c h1) (hcl y c h2),λx hx=>?_,λx c hx=>absurd (show false=true from hx) Bool.false_ne_true,I.ok.hd,I.ok.frames,.inl rfl,λb hb=>?_,I.bs,Nat.le_trans I.ok.bsz I.sz,λb o e hb=>?_,λb hb hfs=>?_,I.stack,I.stkFree⟩
 ·have hx:(scope.names.map λ(n,k)=>if (k == NameKind.free && X.env.scope.kind == .function && X.env.kindOf n == some .cell) then (n,NameKind.cell) else (n,k)).lookup x=some .cell\/(scope.names.map λ(n,k)=>if (k == NameKind.free && X.env.scope.kind == .function && X.env.kindOf n == some .cell) then (n,NameKind.cell) else (n,k)).lookup x=some .free:=hx
  have:(x,NameKind.free)∈scope.names:=by
   rcases hx with hx | hx
   ·exact cX hx (.inl rfl) Sc.nocell
   ·exact cX hx (.inr rfl) Sc.nocell
  exact hall _ this rfl
 ·obtain⟨f0,f1,f2,f3,f4,f5⟩:=hf b hb
  exact⟨Nat.ne_of_lt (Nat.lt_of_lt_of_le (hlt b hb) hC),λx c e=>f4 x c (hcl x c e)⟩
 ·obtain⟨f0,f1,f2,f3,f4,f5⟩:=hf b hb
  rcases f3 with z | z
  ·exact I.ok.noex b o e z
  ·have h1:=(Heap.lt_size e)
   have h2:=I.ok.bsz
   exact absurd (Nat.lt_of_lt_of_le h1 (Nat.le_trans h2 z)) (Nat.lt_irrefl _)
 ·obtain⟨f0,f1,f2,f3,f4,f5⟩:=hf b hb
  rcases List.mem_cons.mp (I.stkSub b hfs) with e | e
  ·exact f1 e
  ·exact f2 e
noncomputable def qQ (σ:St) (k:Nat) (ix:List Nat):St:=List.replicate k none++ix.map λi=>(σ[i]?).join
theorem yT (I:Inv X pins σ H s) (Sc:CScope X scope) (hcl:∀x c,cl.lookup x=some c->X.env.cells.lookup x=some c) (hall:∀y∈scope.names,y.2 = .free->∃c,cl.lookup y.1=some c)
  {s4:Shared} {m:Str->Option Value} {k:Nat} {ix:List Nat} {ys:List Str} (hC:s.heap.objs.size<=C) (hf:∀b∈fp,oP X pins H b) (hlt:∀b∈fp,b<s.heap.objs.size)
  (hk4:∀b o,s.heap.get? b=some o->s4.heap.get? b=some o) (hos:s4.os=s.os) (hb:AllBare s4.gens) (hns:s4.heap.Ns C m)
  (hN:N.length=k+ys.length) (hdrop:N.drop k=ys) (hix:ix.length=ys.length) (hiy:∀(j:Nat) (y:Str) (i:Nat),ys[j]? = some y->ix[j]? = some i->X.N[i]? = some y/\(y,NameKind.free)∈scope.names)
  (hkind:∀y∈ys,(relabel scope X.env).names.lookup y=some .cell\/(relabel scope X.env).names.lookup y=some .free) :
  Inv (cP X scope N cl C s H fp) [] (qQ σ k ix) H s4:=by
 have hfr:H C=none:=I.hok.fresh hC
 refine⟨BG I Sc hcl hall hC hf hlt,hos,hb,Un.kept hk4,⟨m,hns,λi x v e1 e2 e3=>?_⟩,λx c e=>?_,hfr,λx c e=>I.freeC x c (hcl x c e),λp hp=>absurd (show p∈([]:List (Addr × Obj)) from hp) (by simp),I.hok.kept hk4,?_⟩
 ·unfold qQ at e2
  by_cases hik:i<k
  ·rw[List.getElem?_append_left (by simpa using hik),List.getElem?_replicate,if_pos hik] at e2
   cases e2
  ·rw[List.getElem?_append_right (by simpa using hik),List.length_replicate,List.getElem?_map] at e2
   cases eo:ix[i-k]? with
   | none=>rw[eo] at e2;cases e2
   | some o =>
    rw[eo] at e2
    have e2:some ((σ[o]?).join)=some (some v):=e2
    have e2':σ[o]? = some (some v):=by
     cases q:σ[o]? with
     | none=>rw[q] at e2;cases e2
     | some z=>rw[q] at e2;cases e2;rfl
    have ey:ys[i-k]? = some x:=by
     rw[<-hdrop,List.getElem?_drop]
     rw[show k+(i-k)=i by omega]
     exact e1
    obtain⟨h1,h2⟩:=hiy _ _ _ ey eo
    have hv:Vis X.env.scope x:=by
     rcases Sc.frees _ h2 rfl with q | q
     ·exact .inr (.inl q)
     ·exact .inr (.inr q)
    obtain⟨m0,hn0,hl0⟩:=I.loc
    obtain⟨u,ru,lu⟩:=hl0 o x v h1 e2' hv
    refine⟨u,ru,.inr ⟨hkind x (List.mem_of_getElem? ey),?_⟩⟩
    obtain⟨c,hc⟩:=hall _ h2 rfl
    refine⟨c,hc,?_⟩
    rcases lu with ⟨q,_⟩ | ⟨_,c',hc',hcell⟩
    ·rcases Sc.frees _ h2 rfl with z | z
     ·rw[z] at q;cases q
     ·rw[z] at q;cases q
    ·have:=hcl x c hc
     rw[this] at hc';cases hc'
     obtain⟨oc,ho,hd⟩:=hcell
     exact⟨oc,hk4 _ _ ho,hd⟩
 ·obtain⟨v,oc,ho,hd⟩:=I.cell x c (hcl x c e)
  exact⟨v,oc,hk4 _ _ ho,hd⟩
 ·unfold qQ
  show _=N.length
  rw[List.length_append,List.length_replicate,List.length_map,hix,hN]
end
noncomputable abbrev DD (ifs:List Expr) (env:Env):Sem Bool:=forIn ifs true λc r=>if r=true then do let ok <-isTrue c env (eval c env);pure (ForInStep.yield ok) else pure (ForInStep.yield r)
theorem wJ {prog:Program} {w:World} {A:Around} {R:Result->Shared->Prop} {s:Shared} {elt target iter:Expr} {ifs:List Expr} {scope:Scope} {pos:Pos} {it acc:Value} {env:Env} (I:Nat->Shared->Prop)
  (turn:∀n s,I n s->∀E:Value->Shared->Prop,wpAny (model prog w) A (pyNext it) (λr s₁=>match r with
   | none=>R (.ok .next) s₁
   | some v=>wpAny (model prog w) A (letOwnedTupleGo target it v) (λ_ s₁=>wpAny (model prog w) A (assign target env v) (λ_ s₂=>wpAny (model prog w) A (DD ifs env) (λok s₂=>if ok=true then wpAny (model prog w) A (eval elt env) (λx s₃ =>
     wpAny (model prog w) A (call (.builtin "list.append") [acc,x]) (λ_ s₄=>∃m,m<n/\I m s₄) E s₃) E s₂ else ∃m,m<n/\I m s₂) E s₂) E s₁) E s₁) E s)
  (n:Nat) (h:I n s):codeAny (model prog w) A (.compLoop (.ListComp elt [⟨target,iter,ifs,0⟩] scope pos) 0 it acc env) R s:=by
 refine codeAny_loop rfl I (λn s hI=>?_) n h
 show wpAny _ _ ((compTurn (.ListComp elt [⟨target,iter,ifs,0⟩] scope pos) 0 it acc env).onRaise (λx=>do noteFrame x env;theTreesLotGoes x)) _ _ s
 refine wpAny_noted ?_
 rw[compTurn_list]
 refine wpAny_bind (wpAny_standAt (wpAny_bind (wpAny_mono (turn n s hI _) (λr s₁ h₁=>?_) λ_ _ h'=>h')))
 cases r with
 | none=>exact wpAny_pure h₁
 | some v =>
  refine wpAny_bind (wpAny_mono h₁ (λ_ s₁' h₁'=>wpAny_bind (wpAny_mono h₁' (λ_ s₂ h₂=>wpAny_bind (wpAny_mono h₂ (λok s₃ h₃=>?_) λ_ _ h'=>h')) λ_ _ h'=>h')) λ_ _ h'=>h')
  cases ok with
  | false=>exact wpAny_pure ⟨rfl,h₃⟩
  | true=>exact wpAny_bind (wpAny_bind (wpAny_mono h₃ (λx s₄ h₄=>wpAny_bind (wpAny_mono h₄ (λ_ s₅ h₅=>wpAny_pure (wpAny_pure ⟨rfl,h₅⟩)) λ_ _ h'=>h')) λ_ _ h'=>h'))
noncomputable def yK (X:Cx) (ifs:List Expr) (t:RT):Prop:=∀(pins:List (Addr × Obj)) (s:Shared) (σ:St) (H:Hp) (Q:Bool->Hp->Prop),Inv X pins σ H s->zV X t σ H Q->wpAny (model X.prog X.w) X.A (DD ifs X.env) (TP X pins σ Q) X.xe s
noncomputable def AT:RT:=λ_ Q=>Q true
theorem zA {X:Cx}:yK X [] AT:=λpins s σ H Q I ⟨ρ,P,st,q,k⟩=>wpAny_tests_nil ⟨H,I,k true H q (Same.refl H)⟩
theorem sN {X:Cx} {c:Expr} {t:RT} (h:DT X c t):yK X [c] t:=λpins s σ H Q I q=>wpAny_tests_one (h pins s σ H Q I q)
noncomputable def dN (g:RG) (te:RE):List D->En->List D->(List D->Prop)->Prop
 | [],_,acc,Q=>Q acc
 | x::xs,ρ,acc,Q=>g x ρ λρ'=>te ρ' λd=>dN g te xs ρ' (acc++[d]) Q
noncomputable def bN (g:RG) (tt:RT) (te:RE):List D->En->List D->(List D->Prop)->Prop
 | [],_,acc,Q=>Q acc
 | x::xs,ρ,acc,Q=>g x ρ λρ'=>tt ρ' λb=>if b=true then te ρ' λd=>bN g tt te xs ρ' (acc++[d]) Q else bN g tt te xs ρ' acc Q
theorem pL {g:RG} {te:RE}:∀{xs:List D} {ρ:En} {acc:List D} {Q:List D->Prop},bN g AT te xs ρ acc Q=dN g te xs ρ acc Q
 | [],_,_,_=>rfl
 | x::xs,ρ,acc,Q=>by
  show (g x ρ λρ'=>if true=true then te ρ' λd=>bN g AT te xs ρ' (acc++[d]) Q else bN g AT te xs ρ' acc Q)=g x ρ λρ'=>te ρ' λd=>dN g te xs ρ' (acc++[d]) Q
  congr 1
  funext ρ'
  rw[if_pos rfl]
  congr 1
  funext d
  exact pL
noncomputable def nP (ρ:En) (i:Nat):Option S:=match ρ[i]? with
 | some (some (.d d))=>some (.d d)
 | _=>none
noncomputable def gO (ρ:En) (k:Nat) (ix:List Nat):En:=List.replicate k none++ix.map (nP ρ)
theorem DY {X X':Cx} {ρ:En} {σ:St} {H:Hp} {k:Nat} {ix:List Nat} (so:StOk X ρ σ H) (hK:X'.K=X.K) (hH:X'.H₀=H):StOk X' (gO ρ k ix) (qQ σ k ix) H:=by
 have own:∀(i:Nat) (x:S),(gO ρ k ix)[i]? = some (some x)->∃d,x = .d d:=λi x e=>by
  unfold gO at e
  by_cases hik:i<k
  ·rw[List.getElem?_append_left (by simpa using hik),List.getElem?_replicate,if_pos hik] at e;cases e
  ·rw[List.getElem?_append_right (by simpa using hik),List.getElem?_map] at e
   cases eo:ix[i-(List.replicate k (none:Option S)).length]? with
   | none=>rw[eo] at e;cases e
   | some o =>
    rw[eo] at e
    have e:some (nP ρ o)=some (some x):=e
    have e:=Option.some.inj e
    unfold nP at e
    split at e <;> cases e
    exact⟨_,rfl⟩
 refine⟨by simp[gO,qQ],by rw[hH];exact Same.refl H,λi x e=>?_,λi j x y v u a e1 _ _ _ o _=>by
  obtain⟨d,rfl⟩:=own i x e1
  exact o.elim,by rw[hK,hH];exact so.tabs⟩
 unfold gO at e
 by_cases hik:i<k
 ·rw[List.getElem?_append_left (by simpa using hik),List.getElem?_replicate,if_pos hik] at e;cases e
 ·rw[List.getElem?_append_right (by simpa using hik),List.getElem?_map,List.length_replicate] at e
  cases eo:ix[i-k]? with
  | none=>rw[eo] at e;cases e
  | some o =>
   rw[eo] at e
   have e:some (nP ρ o)=some (some x):=e
   have e:=Option.some.inj e
   unfold nP at e
   split at e
   ·rename_i d ed
    cases e
    obtain⟨v,h1,h2⟩:=so.rel o _ ed
    refine⟨v,?_,by rw[hK];exact h2⟩
    unfold qQ
    rw[List.getElem?_append_right (by simpa using hik),List.getElem?_map,List.length_replicate,eo,Option.map_some,h1];rfl
   ·cases e
section
variable {X:Cx} {pins:List (Addr × Obj)} {σ:St} {H:Hp} {s2:Shared} {scope:Scope} {N:List Str} {cl:List (Str × Addr)} {fp:List Addr} {it:Addr} {tn:Nat->Heap->Prop} {J:It} {xs:List D} {ρ:En}
 {elt target iter:Expr} {ifs:List Expr} {pos:Pos} {g:RG} {tt:RT} {te:RE} {k:Nat} {ix:List Nat} {ys:List Str} {P:List D->Prop}
theorem _root_.L2.Inv.track {s s':Shared} {H H':Hp} {a:Addr} {vs:List V} {its:List Value} {n:Nat} (I:Inv X pins σ H s) (I':Inv X pins σ H' s') (ha:s.heap.objs.size<=a) (hn:H' a=none)
  (e:s'.heap.get? a=some { cls:=.type "list",data:=.seq its.toArray n }) (rv:Vals vs its) (hz:vs.length<=sizeLine):Inv X pins σ (upd H' a (.lst vs)) s':=by
 have hL:X.env.locals≠a:=Nat.ne_of_lt (Nat.lt_of_lt_of_le I.lt ha)
 have hcell:∀x c,X.env.cells.lookup x=some c->c≠a:=λx c q z=>by
  obtain⟨v,hv⟩:=I.cell x c q
  exact absurd (Nat.lt_of_lt_of_le hv.lt (by rw[z];exact ha)) (Nat.lt_irrefl _)
 have hs0:∀{b:Addr} {o:Obj},X.s₀.heap.get? b=some o->b≠a:=λ{b o} q=>Nat.ne_of_lt (Nat.lt_of_lt_of_le (Heap.lt_size q) (Nat.le_trans I.sz ha))
 refine⟨I'.ok,I'.os,I'.bare,⟨I'.base.keep,I'.base.slot,λb o q n hx=>?_,I'.base.there,λb ys q=>?_,λb o u q=>?_,λb ps q=>?_⟩,I'.loc,I'.cell,?_,λx c q=>?_,λp hp=>?_,λb u q=>?_,I'.len⟩
 ·rw[aG (hs0 q)];exact I'.base.free b o q n hx
 ·rw[aG (aL (I'.base.tups b ys q) hn)];exact I'.base.tups b ys q
 ·rw[aG (aL (I'.base.frzs b o u q) hn)];exact I'.base.frzs b o u q
 ·obtain⟨m,q2⟩:=I'.base.tbls b ps q
  exact⟨m,by rw[aG (aL q2 hn)];exact q2⟩
 ·rw[aG hL];exact I'.free
 ·rw[aG (hcell x c q)];exact I'.freeC x c q
 ·obtain⟨q1,q2,q3,q4,q5⟩:=I'.pin p hp
  have hp1:p.1≠a:=Nat.ne_of_lt (Nat.lt_of_lt_of_le (Heap.lt_size (I.pin p hp).1) ha)
  exact⟨q1,by rw[aG hp1];exact q2,q3,q4,q5⟩
 ·by_cases hb:b=a
  ·subst hb
   rw[aR] at q;cases q
   exact⟨hz,its,n,rv,e⟩
  ·rw[aG hb] at q
   exact (I'.hok b u q).stay (λc v _ w=>w) (λc w=>by rw[aG (aL w hn)];exact w) λc ys w=>by rw[aG (aL w hn)];exact w
theorem pM (hc:X.calm=true) (Sc:CScope X scope) (hcl:∀x c,cl.lookup x=some c->X.env.cells.lookup x=some c) (hall:∀y∈scope.names,y.2 = .free->∃c,cl.lookup y.1=some c)
  (hN:N.length=k+ys.length) (hdrop:N.drop k=ys) (hix:ix.length=ys.length) (hiy:∀(j:Nat) (y:Str) (i:Nat),ys[j]? = some y->ix[j]? = some i->X.N[i]? = some y/\(y,NameKind.free)∈scope.names)
  (hkind:∀y∈ys,(relabel scope X.env).names.lookup y=some .cell\/(relabel scope X.env).names.lookup y=some .free)
  (hg:∀C s H fp,DG (cP X scope N cl C s H fp) target g) (hif:∀C s H fp,yK (cP X scope N cl C s H fp) ifs tt) (he:∀C s H fp,DE (cP X scope N cl C s H fp) elt te)
  (I2:Inv X pins σ H s2) (so:StOk X ρ σ H) (T:Turn X.prog X.w X.K target J fp it tn) (st:tn 0 s2.heap) (hf:∀b∈fp,oP X pins H b) (ok:wD X J xs H) (hz:xs.length<=sizeLine)
  (hP:bN g tt te xs (gO ρ k ix) [] P) {RR:Value->Addr->Result->Shared->Prop} {E:Value->Shared->Prop}
  (post:∀(ds:List D) (vs:List V) (its:List Value) (n:Nat) (C:Addr) (s':Shared) (H':Hp),P ds->Same H H'->H' s2.heap.objs.size=none->Reps X.K H' ds vs->Vals vs its->vs.length<=sizeLine ->
   s'.heap.get? s2.heap.objs.size=some { cls:=.type "list",data:=.seq its.toArray n }->Inv X pins σ H' s'->(∃m,s'.heap.Ns C m)->s2.heap.objs.size<C->H' C=none->RR (.ref s2.heap.objs.size) C (.ok .next) s') :
  wpAny (model X.prog X.w) X.A (newList []) (λacc s₃=>wpAny (model X.prog X.w) X.A (newFunctionEnv scope X.env.globals cl [] X.env.qual none .none (some X.env)) (λcenv s₄ =>
   codeAny (model X.prog X.w) X.A (.compStart (.ListComp elt [⟨target,iter,ifs,0⟩] scope pos) 0 (.ref it) acc { cenv with scope:=relabel scope X.env }) (RR acc cenv.locals) s₄) E s₃) E s2:=by
 refine wpAny_newObj_type (wpAny_newFunctionEnv Sc.nocell (by intro y hy;simp at hy) (λh₁ hns₁ hsb₁=>?_) Sc.kind)
 dsimp only at hns₁ hsb₁ ⊢
 generalize hH2:s2.heap.push { cls:=.type "list",dict:=none,data:=.seq ([]:List Value).toArray } = HP2 at hns₁ hsb₁ ⊢
 have hCs:HP2.objs.size=s2.heap.objs.size+1:=by rw[<-hH2,Heap.size_push]
 have hltC:s2.heap.objs.size<HP2.objs.size:=by rw[hCs];exact Nat.lt_succ_self _
 have hlt:∀b∈fp,b<s2.heap.objs.size:=λb hb=>by
  obtain⟨o,ho,_⟩:=T.obj 0 _ st b hb
  exact Heap.lt_size ho
 have old:∀b o,s2.heap.get? b=some o->h₁.get? b=some o:=λb o e =>
  hsb₁.extBut b o (Nat.ne_of_lt (Nat.lt_trans (Heap.lt_size e) hltC)) (Heap.get?_push_of_some _ (hH2 ▸ Heap.get?_push_of_some _ e))
 have hacc:h₁.get? s2.heap.objs.size=some { cls:=.type "list",data:=.seq ([]:List Value).toArray 0 } :=
  hsb₁.extBut _ _ (Nat.ne_of_lt hltC) (Heap.get?_push_of_some _ (hH2 ▸ Heap.get?_push_size _ rfl))
 have hfr:H s2.heap.objs.size=none:=I2.hok.fresh (Nat.le_refl _)
 let X':=cP X scope N cl HP2.objs.size s2 H fp
 have J0:Inv X' [] (qQ σ k ix) H { s2 with heap:=h₁,toks:=s2.toks+([]:List (Str × Value)).length } :=
  yT I2 Sc hcl hall (Nat.le_of_lt hltC) hf hlt old rfl I2.bare hns₁ hN hdrop hix hiy hkind
 have S0:StOk X' (gO ρ k ix) (qQ σ k ix) H:=DY so rfl rfl
 have hD0fs:s2.heap.objs.size ∉ X'.fs:=λhb=>by
  have hb:s2.heap.objs.size∈frs X.stack:=hb
  rcases List.mem_cons.mp (I2.stkSub _ hb) with e | e
  ·exact absurd (show X.env.locals<X.env.locals from Nat.lt_of_lt_of_eq I2.lt e) (Nat.lt_irrefl _)
  ·exact I2.nofs (Nat.le_refl _) e
 have fpok:∀{H':Hp} {o:Obj},(∀b∈fp,H' b=none)->∀b∈fp,oP X' [(s2.heap.objs.size,o)] H' b:=λ{H' o} hn b hb=>by
  obtain⟨f0,f1,f2,f3,f4,f5⟩:=hf b hb
  refine⟨hn b hb,Nat.ne_of_lt (Nat.lt_trans (hlt b hb) hltC),λhfs=>?_,.inl hb,λx c e=>f4 x c (hcl x c e),λp hp=>?_⟩
  ·rcases List.mem_cons.mp (I2.stkSub b hfs) with e | e
   ·exact f1 e
   ·exact f2 e
  ·have:p=(s2.heap.objs.size,o):=by simpa [X',cP] using hp
   subst this
   exact Nat.ne_of_gt (hlt b hb)
 have pinD:∀{σ':St} {H':Hp} {s':Shared} {its:List Value} {n:Nat},Inv X' [] σ' H' s'->H' s2.heap.objs.size=none->s'.heap.get? s2.heap.objs.size=some { cls:=.type "list",data:=.seq its.toArray n }->Inv X' [(s2.heap.objs.size,{ cls:=.type "list",data:=.seq its.toArray n })] σ' H' s':=λI' hn e =>
  I'.pins_of λp hp=>by
   have:=List.mem_singleton.mp hp
   subst this
   exact⟨e,hn,Nat.ne_of_lt hltC,hD0fs,λv z=>by cases z⟩
 have loop:∀s₃:Shared,s₃ = { s2 with heap:=h₁,toks:=s2.toks+([]:List (Str × Value)).length } ->
   codeAny (model X.prog X.w) X.A (.compLoop (.ListComp elt [⟨target,iter,ifs,0⟩] scope pos) 0 (.ref it) (.ref s2.heap.objs.size) (compEnvC scope cl HP2.objs.size X.env)) (RR (.ref s2.heap.objs.size) HP2.objs.size) s₃:=by
  rintro s₃ rfl
  refine wJ (λm s'=>∃(i:Nat) (ρ':En) (σ':St) (H':Hp) (ds:List D) (vs:List V) (its:List Value) (n:Nat),m=xs.length-i/\i<=xs.length/\Inv X' [] σ' H' s'/\StOk X' ρ' σ' H'/\tn i s'.heap/\(∀b∈fp,H' b=none) /\
   H' s2.heap.objs.size=none/\s'.heap.get? s2.heap.objs.size=some { cls:=.type "list",data:=.seq its.toArray n }/\Reps X.K H' ds vs/\Vals vs its/\vs.length<=i/\bN g tt te (xs.drop i) ρ' ds P) ?_ xs.length
   ⟨0,gO ρ k ix,qQ σ k ix,H,[],[],[],0,rfl,Nat.zero_le _,J0,S0,T.keep _ _ _ st (λb hb o e=>old b o e),λb hb=>(hf b hb).1,hfr,hacc,.nil,.nil,Nat.le_refl _,by simpa using hP⟩
  rintro m s' ⟨i,ρ',σ',H',ds,vs,its,n,rfl,hi,I',S',st',fr',hn',e',rr,rv,hl,hD⟩ E'
  obtain⟨o1,o2⟩:=ok i H' (.of S'.same)
  have I1:=pinD I' hn' e'
  by_cases hlt':i<xs.length
  ·have e:xs.drop i=xs[i]::xs.drop (i+1):=List.drop_eq_getElem_cons hlt'
   rw[e] at hD
   obtain⟨go,yl⟩:=o1 xs[i] (List.getElem?_eq_getElem hlt')
   refine thn (T.item X' rfl rfl rfl hc i _ s' σ' H' E' I1 (fpok fr') st' go) λr s4 ⟨u,hr,h4⟩=>?_
   subst hr
   refine thn h4 λ_ s5 ⟨x,H5,I5,r5,y5,st5,fr5⟩=>?_
   obtain⟨s45,rx5⟩:=yl x H5 y5
   have I5':=I5.pinned (fpok fr5) (T.obj _ _ st5)
   refine wpAny_mono (hg _ _ _ _ _ s5 σ' H5 x u (λσ6 H6=>∃ρ6,tt ρ6 (λb=>if b=true then te ρ6 (λd=>bN g tt te (xs.drop (i+1)) ρ6 (ds++[d]) P) else bN g tt te (xs.drop (i+1)) ρ6 ds P)/\Keep H5 H6/\StOk X' ρ6 σ6 H6) I5' r5 ⟨xs[i],ρ',_,rx5,S'.ext s45,hD,λρ6 σ6 H6 q6 k6 s6=>⟨ρ6,q6,k6,s6⟩⟩) (λ_ s6' ⟨σ6,H6',I6',ρ6,q6',k6',S6'⟩=>?_) λ_ _ z=>z.elim
   refine wpAny_mono (hif _ _ _ _ _ s6' σ6 H6' (λb H6=>(if b=true then te ρ6 (λd=>bN g tt te (xs.drop (i+1)) ρ6 (ds++[d]) P) else bN g tt te (xs.drop (i+1)) ρ6 ds P)/\Same H6' H6) I6' ⟨ρ6,_,S6',q6',λb H6 hb s6=>⟨hb,s6⟩⟩) (λokb s6 ⟨H6,I6,q6,s66⟩=>?_) λ_ _ z=>z.elim
   have k6:Keep H5 H6:=k6'.trans (.of s66)
   have S6:StOk X' ρ6 σ6 H6:=S6'.ext s66
   cases okb with
   | false =>
    have q6:bN g tt te (xs.drop (i+1)) ρ6 ds P:=q6
    show ∃m,m<xs.length-i/\_
    obtain⟨e7,n7,_,_,_⟩:=I6.pin (s2.heap.objs.size,_) (List.mem_append_right _ (List.mem_append_left _ List.mem_cons_self))
    refine⟨xs.length-(i+1),by omega,i+1,ρ6,σ6,H6,ds,vs,its,n,rfl,hlt',I6.pins_of λp hp=>absurd hp (by simp),S6,?_,λb hb=>?_,n7,e7,rr.keep ((Keep.of s45).trans k6),rv,Nat.le_succ_of_le hl,q6⟩
    ·exact T.keep _ _ _ st5 λb hb o q=>(I6.pin (b,o) (List.mem_append_right _ (List.mem_append_right _ (dF hb q)))).1
    ·obtain⟨o,q,_⟩:=T.obj _ _ st5 b hb
     exact (I6.pin (b,o) (List.mem_append_right _ (List.mem_append_right _ (dF hb q)))).2.1
   | true =>
   have q6:te ρ6 (λd=>bN g tt te (xs.drop (i+1)) ρ6 (ds++[d]) P):=q6
   show wpAny _ _ (eval elt _) _ _ s6
   refine wpAny_mono (he _ _ _ _ _ s6 σ6 H6 (λv H7=>∃d,bN g tt te (xs.drop (i+1)) ρ6 (ds++[d]) P/\Same H6 H7/\Rep X.K H7 d v) I6 ⟨ρ6,_,S6,q6,λd v H7 q7 s7 r7=>⟨d,q7,s7,r7⟩⟩) (λu7 s7 ⟨v7,H7,I7,rv7,d,q7,s67,r7⟩=>?_) λ_ _ z=>z.elim
   obtain⟨e7,n7,_,_,_⟩:=I7.pin (s2.heap.objs.size,_) (List.mem_append_right _ (List.mem_append_left _ List.mem_cons_self))
   have hsz:its.toArray.size+1<=sizeLine:=by
    rw[List.size_toArray,<-rv.length]
    omega
   refine call_meets F.slot_list_append ⟨_,e7,rfl⟩ F.entry_list_append (F.args_list_append_2 _ _) (PySem.list_append s2.heap.objs.size its.toArray n u7 (by omega)) ⟨e7,?_⟩
   have e8:=PySem.IsL.update e7 (λa=>a.push u7)
   have I8:Inv X' [] σ6 H7 s7:=I7.pins_of λp hp=>absurd hp (by simp)
   have upd8:∀b o,b≠s2.heap.objs.size->s7.heap.get? b=some o->(s7.heap.update s2.heap.objs.size (Obj.mapSeq λa=>a.push u7)).get? b=some o:=λb o hb q=>(Heap.get?_update_other s7.heap _ (Ne.symm hb)).trans q
   have I9:Inv X' [] σ6 H7 { s7 with heap:=s7.heap.update s2.heap.objs.size (Obj.mapSeq λa=>a.push u7) } :=
    I8.turned (t':=s7.toks) upd8 n7 (Nat.ne_of_lt hltC) (.inr (Nat.le_refl _)) (λx c q z=>by
     obtain⟨v,hv⟩:=I2.cell x c (hcl x c q)
     exact absurd hv.lt (by rw[z];exact Nat.lt_irrefl _)) (λp hp=>absurd (show p∈([]:List (Addr × Obj)) from hp) (by simp))
   have k57:Keep H5 H7:=k6.trans (.of s67)
   have k':Keep H' H7:=(Keep.of s45).trans k57
   refine⟨xs.length-(i+1),by omega,i+1,ρ6,σ6,H7,ds++[d],vs++[v7],its++[u7],_,rfl,hlt',I9,S6.ext s67,?_,λb hb=>?_,n7,by simpa using e8,(rr.keep k').append (.cons r7 .nil),rv.append (.cons rv7 .nil),by rw[List.length_append];exact Nat.succ_le_succ hl,q7⟩
   ·refine T.keep _ _ _ st5 λb hb o q=>?_
    have q7':=(I7.pin (b,o) (List.mem_append_right _ (List.mem_append_right _ (dF hb q)))).1
    exact upd8 b o (Nat.ne_of_lt (hlt b hb)) q7'
   ·obtain⟨o,q,_⟩:=T.obj _ _ st5 b hb
    exact (I7.pin (b,o) (List.mem_append_right _ (List.mem_append_right _ (dF hb q)))).2.1
  ·have hie:i=xs.length:=by omega
   subst hie
   rw[List.drop_length] at hD
   refine thn (T.done X' rfl rfl rfl hc _ _ s' σ' H' E' I1 (fpok fr') st' (o2 (Nat.le_refl _))) λr s4 ⟨hr,I4⟩=>?_
   subst hr
   obtain⟨e4,n4,_,_,_⟩:=I4.pin (s2.heap.objs.size,_) (List.mem_append_right _ List.mem_cons_self)
   obtain⟨m4,hn4,_⟩:=I4.loc
   have I5:Inv X pins σ H' s4:=I2.call' (ch:=fp) I4.os I4.base I4.hok I4.bare λb hb=>by
    obtain⟨f0,f1,f2,f3,f4,f5⟩:=hf b hb
    exact⟨f3,f1,f4,f5⟩
   exact post ds vs its n HP2.objs.size s4 H' hD S'.same n4 rr rv (Nat.le_trans hl hz) e4 I5 ⟨m4,hn4⟩ hltC I4.free
 exact codeAny_compStart_list (loop _ rfl) (T.self X.A 0 _ _ _ (T.keep _ _ _ st λb hb o e=>old b o e) (loop _ rfl))
end
noncomputable def sH (X:Cx) (scope:Scope) (N:List Str) (k:Nat) (ix:List Nat):Bool :=
 scope.kind == .function && scope.names.all (λy=>y.2 != .cell) && scope.names.all (λy=>y.2 != .local || scope.names.lookup y.1 == some .local) &&
 scope.names.all (λy=>y.2 != .free || X.env.kindOf y.1 == some .cell || X.env.kindOf y.1 == some .free) &&
 N.length == k+ix.length && ((N.drop k).zip ix).all (λp=>X.N[p.2]? == some p.1 && scope.names.contains (p.1,.free)) &&
 (N.drop k).all (λy=>(relabel scope X.env).names.lookup y == some .cell || (relabel scope X.env).names.lookup y == some .free)
structure CompF (X:Cx) (scope:Scope) (N:List Str) (k:Nat) (ix:List Nat):Prop where
 sc:CScope X scope
 hN:N.length=k+(N.drop k).length
 hix:ix.length=(N.drop k).length
 hiy:∀(j:Nat) (y:Str) (i:Nat),(N.drop k)[j]? = some y->ix[j]? = some i->X.N[i]? = some y/\(y,NameKind.free)∈scope.names
 hkind:∀y∈N.drop k,(relabel scope X.env).names.lookup y=some .cell\/(relabel scope X.env).names.lookup y=some .free
theorem sI {X:Cx} {scope:Scope} {N:List Str} {k:Nat} {ix:List Nat} (h:sH X scope N k ix=true):CompF X scope N k ix:=by
 unfold sH at h
 simp only[Bool.and_eq_true,List.all_eq_true,bne_iff_ne,ne_eq,Bool.or_eq_true,beq_iff_eq] at h
 obtain⟨⟨⟨⟨⟨⟨h1,h2⟩,h3⟩,h4⟩,h5⟩,h6⟩,h7⟩:=h
 have hl:(N.drop k).length=ix.length:=by rw[List.length_drop];omega
 refine⟨⟨h1,h2,λy hy e=>?_,λy hy e=>?_⟩,by omega,hl.symm,λj y i e1 e2=>?_,h7⟩
 ·rcases h3 y hy with q | q
  ·exact absurd e q
  ·exact q
 ·rcases h4 y hy with (q | q) | q
  ·exact absurd e q
  ·exact .inl q
  ·exact .inr q
 ·have hm:(y,i)∈(N.drop k).zip ix:=by
   refine List.mem_of_getElem? (i:=j) ?_
   rw[List.getElem?_zip_eq_some]
   exact⟨e1,e2⟩
  obtain⟨q1,q2⟩:=h6 _ hm
  exact⟨q1,List.contains_iff_mem.mp q2⟩
noncomputable def hR (ti:RA) (k:Nat) (ix:List Nat) (g:RG) (te:RE):RA:=λρ Q=>ti ρ λxs=>Sz xs.length/\dN g te xs (gO ρ k ix) [] Q
noncomputable def hU (ti:RA) (k:Nat) (ix:List Nat) (g:RG) (tt:RT) (te:RE):RA:=λρ Q=>ti ρ λxs=>Sz xs.length/\bN g tt te xs (gO ρ k ix) [] Q
theorem xQ {ti:RA} {k:Nat} {ix:List Nat} {g:RG} {te:RE}:hU ti k ix g AT te=hR ti k ix g te:=by
 funext ρ Q
 unfold hU hR
 congr 1
 funext xs
 rw[pL]
section
variable {X:Cx} {scope:Scope} {elt target iter:Expr} {ifs:List Expr} {pos:Pos} {g:RG} {tt:RT} {te:RE} {ti:RA}
theorem mE {pins:List (Addr × Obj)} {σ:St} {H H':Hp} {s s':Shared} {C:Addr} {h':Heap} {t':Nat} (I2:Inv X pins σ H s) {σ':St} (I':Inv X pins σ' H' s') (hC:s.heap.objs.size<=C) (hn:H' C=none) (hs:Heap.SameBut C s'.heap h') :
  Inv X pins σ' H' { s' with heap:=h',toks:=t' } :=
 I'.turned (λb o hb e=>(hs.2 b hb).trans e) hn (Nat.ne_of_gt (Nat.lt_of_lt_of_le I2.lt hC)) (.inr (Nat.le_trans I2.sz hC)) (λx c e z=>by
  obtain⟨v,hv⟩:=I2.cell x c e
  exact absurd (Nat.lt_of_lt_of_le hv.lt (by rw[z];exact hC)) (Nat.lt_irrefl _)) λp hp z=>absurd (Nat.lt_of_lt_of_le (Heap.lt_size (I2.pin p hp).1) (by rw[z];exact hC)) (Nat.lt_irrefl _)
theorem sR (N:List Str) (k:Nat) (ix:List Nat) (hi:DI X target iter ti) (hg:∀cl C s H fp,DG (cP X scope N cl C s H fp) target g) (hif:∀cl C s H fp,yK (cP X scope N cl C s H fp) ifs tt) (he:∀cl C s H fp,DE (cP X scope N cl C s H fp) elt te)
  (hc:X.calm=true:=by rfl) (hB:sH X scope N k ix=true:=by rfl) (hs:∀x,foldedSetIterable iter X.env x=pure x:=by intro _;rfl):DO X (.ListComp elt [⟨target,iter,ifs,0⟩] scope pos) (hU ti k ix g tt te):=by
 intro pins s σ H Q I hh_0
 obtain⟨ρ,P,so,q,kk⟩:=hh_0
 have F:=sI hB
 obtain⟨cl,hclos,hcl,hall⟩:=jC (scope:=scope) (env:=X.env) λy hy hf=>I.ok.has _ (F.sc.frees y hy hf)
 rw[eval_ListComp]
 refine wpAny_comprehension_free (use:=none) rfl hs hclos F.sc.kind F.sc.locs (thn (hi pins s σ H (λJ H'=>∃xs,Same H H'/\wD X J xs H'/\xs.length<=sizeLine/\bN g tt te xs (gO ρ k ix) [] P) I ⟨ρ,_,so,q,λxs J H' hx s1 ok=>⟨xs,s1,ok,hx.1.ok,hx.2⟩⟩) λv s1 h1=>thn h1 λitv s2 h2=>?_)
 obtain⟨it,fp,tn,J,H',rfl,I2,T,st,hf,xs,s01,ok,hz,hD⟩:=h2
 refine pM (RR:=λacc C=>compPost (model X.prog X.w) X.A X.xe none (EP X pins σ Q) acc C) hc F.sc hcl hall F.hN rfl F.hix F.hiy F.hkind (hg cl) (hif cl) (he cl) I2 (so.ext s01) T st hf ok hz hD ?_
 intro ds vs its n C s' H2 hP s12 hn rr rv hl e I' ⟨m,hns⟩ hltC hnC
 refine⟨m,hns,λh' hs'=>?_⟩
 have I3:Inv X pins σ H2 { s' with heap:=h' }:=mE (t':=s'.toks) I2 I' (Nat.le_of_lt hltC) hnC hs'
 have e3:h'.get? s2.heap.objs.size=some { cls:=.type "list",data:=.seq its.toArray n }:=(hs'.2 _ (Nat.ne_of_lt hltC)).trans e
 exact⟨.ref s2.heap.objs.size,_,I2.track I3 (Nat.le_refl _) hn e3 rv hl,rfl,kk ds _ vs H2 hP (s01.trans s12) hn rr⟩
theorem zF {i:Nat} {y:Str} {pos' spos:Pos} (N:List Str) (k:Nat) (ix:List Nat) (hN:X.N.Nodup) (hi:DI X target iter ti) (hg:∀cl C s H fp,DG (cP X scope N cl C s H fp) target g) (hif:∀cl C s H fp,yK (cP X scope N cl C s H fp) ifs tt) (he:∀cl C s H fp,DE (cP X scope N cl C s H fp) elt te)
  (hy:X.N[i]? = some y:=by rfl) (hx:X.env.scope.names.lookup y=some .local:=by rfl) (hc:X.calm=true:=by rfl) (hB:sH X scope N k ix=true:=by rfl) (hs:∀x,foldedSetIterable iter X.env x=pure x:=by intro _;rfl)
  (hsw:swapsWith (.ListComp elt [⟨target,iter,ifs,0⟩] scope pos) (some (.Name y pos')) spos.line X.env=pure true:=by rfl) :
  DS X (.Assign [.Name y pos'] (.ListComp elt [⟨target,iter,ifs,0⟩] scope pos) spos) (dQ i (hU ti k ix g tt te)):=by
 intro pins s σ H De I hh_0
 obtain⟨ρ,E,so,q,nn,rt,bk,ct⟩:=hh_0
 have F:=sI hB
 obtain⟨cl,hclos,hcl,hall⟩:=jC (scope:=scope) (env:=X.env) λy hy hf=>I.ok.has _ (F.sc.frees y hy hf)
 rw[exec_Assign_Name_used _ _ _ _ hsw]
 refine wpAny_bind (wpAny_standAt (wpAny_bind ?_))
 show wpAny _ X.A (do let _ <-comprehension (.ListComp elt [⟨target,iter,ifs,0⟩] scope pos) scope X.env _ (newList []) false (eval iter X.env) (some (assign (.Name y pos') X.env))) _ _ s
 refine wpAny_bind (wpAny_mono (wpAny_comprehension_free (use:=some (assign (.Name y pos') X.env)) (Q:=λ_ s'=>SP X pins De .next s') rfl hs hclos F.sc.kind F.sc.locs
  (thn (hi pins s σ H (λJ H'=>∃xs,Same H H'/\wD X J xs H'/\xs.length<=sizeLine/\bN g tt te xs (gO ρ k ix) [] (λds=>E.nx (ρ.set i (some (.own ds))))) I ⟨ρ,_,so,q,λxs J H' hx s1 ok=>⟨xs,s1,ok,hx.1.ok,hx.2⟩⟩) λv s1 h1=>thn h1 λitv s2 h2=>?_)) (λ_ s' hq=>wpAny_pure (wpAny_pure hq)) λ_ _ e=>e)
 obtain⟨it,fp,tn,J,H',rfl,I2,T,st,hf,xs,s01,ok,hz,hD⟩:=h2
 refine pM (RR:=λacc C=>compPost (model X.prog X.w) X.A X.xe (some (assign (.Name y pos') X.env)) (λ_ s'=>SP X pins De .next s') acc C) hc F.sc hcl hall F.hN rfl F.hix F.hiy F.hkind (hg cl) (hif cl) (he cl) I2 (so.ext s01) T st hf ok hz hD ?_
 intro ds vs its n C s' H2 hP s12 hn rr rv hl e I' ⟨m,hns⟩ hltC hnC
 have I3:=I2.track I' (Nat.le_refl _) hn e rv hl
 have hneC:s2.heap.objs.size≠C:=Nat.ne_of_lt hltC
 have so3:StOk X (ρ.set i (some (.own ds))) (σ.set i (some (.ref s2.heap.objs.size))) (upd H2 s2.heap.objs.size (.lst vs)):=(so.ext (s01.trans s12)).set_own hn rr
 have k3:Keep H (upd H2 s2.heap.objs.size (.lst vs)):=(Keep.of (s01.trans s12)).trans (.ofF λb o h=>by rw[aG (aL h hn)];exact h)
 show wpAny (model X.prog X.w) X.A (assign (.Name y pos') X.env (.ref s2.heap.objs.size)) _ _ s'
 refine wpAny_assign_Name (qI I3 hN hy (.inl hx) (v:=.ref s2.heap.objs.size) rfl (λs4 I4 ⟨a,sb,ha⟩=>?_) (.inr hx))
 have hCa:C≠a:=by
  rcases ha with rfl | ha
  ·exact Nat.ne_of_gt (Nat.lt_trans I2.lt hltC)
  ·obtain⟨v,hv⟩:=I2.cell _ a ha
   exact Nat.ne_of_gt (Nat.lt_trans hv.lt hltC)
 refine⟨m,hns.sameBut sb hCa,λh' hs'=>⟨_,_,mE (t':=s4.toks) I2 I4 (Nat.le_of_lt hltC) (by rw[aG (Ne.symm hneC)];exact hnC) hs',nn _ _ _ hP k3 so3⟩⟩
theorem vL (N:List Str) (k:Nat) (ix:List Nat) (hi:DI X target iter ti) (hg:∀cl C s H fp,DG (cP X scope N cl C s H fp) target g) (he:∀cl C s H fp,DE (cP X scope N cl C s H fp) elt te)
  (hc:X.calm=true:=by rfl) (hB:sH X scope N k ix=true:=by rfl) (hs:∀x,foldedSetIterable iter X.env x=pure x:=by intro _;rfl):DO X (.ListComp elt [⟨target,iter,[],0⟩] scope pos) (hR ti k ix g te):=by
 rw[<-xQ];exact sR N k ix hi hg (λ_ _ _ _ _=>zA) he hc hB hs
end
section
variable {X:Cx} {e a b:Expr} {pos apos cpos npos:Pos} {te:RE} {x:Str}
noncomputable def fA (i:Nat) (te:RE):RS:=λE ρ=>match ρ[i]? with
 | some (some (.own xs))=>te ρ λd=>Sz (xs.length+1)/\E.nx (ρ.set i (some (.own (xs++[d]))))
 | _=>False
theorem eJ (i:Nat) (he:DE X e te) (hN:X.N[i]? = some x:=by rfl) (hv:Vis X.env.scope x:=by walk_at "vis") (hd:(x == ("__debug__":Str))=false:=by decide) (hcd:(x == ("__classdict__":Str))=false:=by decide)
  (hbase:attributeBase (.Name x npos) "append" X.env (eval (.Name x npos) X.env)=eval (.Name x npos) X.env:=by rfl)
  (hfew:((backTo cpos (starEach [e] X.env)).all (λx=>!x.1) && (backToKw cpos (keywordEach [] X.env)).all (λx=>x.1.isSome) && decide (([e]:List Expr).length+([]:List Keyword).length+(if ([]:List Keyword).isEmpty then 0 else 1)<30))=true:=by rfl)
  (hline:(apos.endLine == cpos.line)=true:=by rfl) (hs:starEach [e] X.env=[(false,eval e X.env)]:=by rfl) (hn:starEach [] X.env=[]:=by rfl) (hsw:swapsWith (.Call (.Attribute (.Name x npos) "append" apos) [e] [] cpos) none pos.line X.env=pure false:=by rfl) :
  DS X (.Expr (.Call (.Attribute (.Name x npos) "append" apos) [e] [] cpos) pos) (fA i te):=by
 refine PS.mono (vW (HK PySem.F.plainAttrs_list PySem.F.slot_list_append PySem.F.type_list_append xJ (pv i hN hv hd hcd) (lN he hs hn) hbase hfew hline (by rw[hs,hn]) (by rw[hn];rfl)) hsw) λDe σ H hh=>cW hh λρ E so q n r bk ct=>?_
 unfold fA at q
 split at q
 ·rename_i xs ex
  obtain⟨v,h1,p,vs,ev,hp,h0,rr⟩:=so.rel i _ ex
  subst ev
  refine⟨.ref p,h1,.inl ⟨rfl,vs,SqL.of hp⟩,ρ,_,so,q,λd v H1 hd s1 rd=>?_⟩
  have hp1:=s1.get _ _ hp trivial
  obtain⟨so2,k2⟩:=(so.ext s1).upd_own ex h1 hp1 h0 ((rr.keep (.of s1)).append (.cons rd .nil))
  have hsz:xs.length+1<=sizeLine:=hd.1.ok
  exact⟨p,vs,v,rfl,rfl,hp1,by rw[<-rr.length];omega,n _ _ _ hd.2 ((Keep.of s1).trans k2) so2⟩
 ·exact q.elim
noncomputable def pY (i:Nat):RS:=λE ρ=>match ρ[i]? with
 | some (some (.own xs))=>xs≠[]/\E.nx (ρ.set i (some (.own xs.dropLast)))
 | _=>False
noncomputable def lZ (i:Nat) (te tk:RE):RS:=λE ρ=>match ρ[i]? with
 | some (some (.own xs))=>te ρ λd=>tk ρ λkd=>match kd with
  | .int k=>match ixN xs.length k with
   | some j=>E.nx (ρ.set i (some (.own (xs.set j d))))
   | none=>False
  | _=>False
 | _=>False
end
section
variable {X:Cx} {e a b:Expr} {pos p:Pos}
noncomputable def FzQ (X:Cx) (Q:VK):VK:=λv H'=>Q v H'\/∃p vs H1,v = .ref p/\H'=upd H1 p (.lst vs)/\H1 p=none/\∀H2,Same H1 H2->FzL X.K H2 p vs->Q v H2
theorem GQ {pins:List (Addr × Obj)} {σ:St} {Q:VK} {u:Value} {s:Shared} (h:EP X pins σ (FzQ X Q) u s):EP X pins σ Q u s:=by
 obtain⟨v,H',I,rv,q | ⟨p,vs,H1,rfl,rfl,hn,q⟩⟩:=h
 ·exact⟨v,H',I,rv,q⟩
 ·obtain⟨o,I2⟩:=Inv.freeze I (a:=p) (xs:=vs) aR
  exact⟨.ref p,_,I2,rv,q _ (.fn λb u e=>by rw[aG (aL e hn),aG (aL e hn)];exact e) (.inl ⟨o,aR⟩)⟩
theorem PE.frz {t:TE} (h:PE X e t):PE X e (λσ H Q=>t σ H (FzQ X Q)):=λpins s σ H Q I q=>thn (h pins s σ H _ I q) λ_ _=>GQ
noncomputable def pN:R22:=λx y Q=>match x,y with
 | .int i,.int j=>Q (.int (i+j))
 | .lst xs,.lst ys=>Sz (xs.length+ys.length)/\Q (.lst (xs++ys))
 | .tup xs,.tup ys=>xs≠[]/\Sz (xs.length+ys.length)/\Q (.tup (xs++ys))
 | _,_=>False
theorem upd_new {H:Hp} {p:Addr} {o:HO} (hp:H p=none):Same H (upd H p o):=Same.fn λb u e=>by rw[aG (aL e hp)];exact e
noncomputable def xS (te:RE) (tl th:RO):RE:=λρ Q=>te ρ λx=>tl ρ λl=>th ρ λu=>match x with
 | .lst ds=>Q (.lst (DZ ds l u))
 | .tup ds=>¬(HT.sIx ds.length 0 l=0/\HT.sIx ds.length ds.length u=ds.length)/\Q (.tup (DZ ds l u))
 | _=>False
variable {te:RE}
noncomputable def dZ:D->(D->Prop)->Prop:=λd Q=>match d with
 | .lst ds=>Q (.lst ds)
 | .tup ds=>Q (.lst ds)
 | _=>False
theorem pK:bootBuiltins "list" = some (.type "list"):=by decide +kernel
theorem uE:bootBuiltins "tuple" = some (.type "tuple"):=by decide +kernel
theorem wQ (hm:X.mg "list" = none) (h:DB X e te) (hg:Gl X "list":=by rfl) (hs:starEach [e] X.env=[(false,eval e X.env)]:=by rfl) (hn:starEach [] X.env=[]:=by rfl):DE X (.Call (.Name "list" p) [e] [] pos) (r1 dZ te):=by
 refine PE.mono (PE.frz (pV qP hg hm pK (lN h hs hn) (by decide) (by decide) (by rw[hs,hn]) (by rw[hn];rfl))) λσ H Q hh=>bR hh λρ P st q k=>⟨ρ,_,st,q,λd v H1 hd s1 r=>?_⟩
 unfold dZ at hd;split at hd
 ·obtain⟨p,vs,rfl,hq,rr⟩:=r.lst
  exact⟨p,vs,rfl,.inl hq,λp' hp'=>.inr ⟨p',_,H1,rfl,rfl,hp',λH4 s4 fz=>k _ _ H4 hd (s1.trans s4) (.lst fz (rr.keep (.of s4)))⟩⟩
 ·obtain⟨p,vs,rfl,hq,rr⟩:=r.tup
  exact⟨p,vs,rfl,.inr (SqT.of hq),λp' hp'=>.inr ⟨p',_,H1,rfl,rfl,hp',λH4 s4 fz=>k _ _ H4 hd (s1.trans s4) (.lst fz (rr.keep (.of s4)))⟩⟩
 ·exact hd.elim
noncomputable def fY:D->(D->Prop)->Prop:=λd Q=>match d with
 | .lst ds=>Q (.tup ds)
 | .tup ds=>Q (.tup ds)
 | _=>False
theorem yX (hm:X.mg "tuple" = none) (h:DB X e te) (hg:Gl X "tuple":=by rfl) (hs:starEach [e] X.env=[(false,eval e X.env)]:=by rfl) (hn:starEach [] X.env=[]:=by rfl):DE X (.Call (.Name "tuple" p) [e] [] pos) (r1 fY te):=by
 refine PE.mono (pV oV hg hm uE (lN h hs hn) (by decide) (by decide) (by rw[hs,hn]) (by rw[hn];rfl)) λσ H Q hh=>bR hh λρ P st q k=>⟨ρ,_,st,q,λd v H1 hd s1 r=>?_⟩
 unfold fY at hd;split at hd
 ·obtain⟨p,vs,rfl,hq,rr⟩:=r.lst
  exact⟨p,vs,rfl,.inl ⟨hq,λp' hp'=>k _ _ _ hd (s1.trans (upd_new hp')) (.tup aR (rr.keep (.of (upd_new hp'))))⟩⟩
 ·obtain⟨p,vs,rfl,hq,rr⟩:=r.tup
  exact⟨p,vs,rfl,.inr ⟨SqT.of hq,k _ _ H1 hd s1 (.tup hq rr)⟩⟩
 ·exact hd.elim
noncomputable def wN:D->(D->Prop)->Prop:=λd Q=>match d with
 | .lst ds=>∃ns:List Int,ds=ns.map D.int/\Q (.int ns.sum)
 | _=>False
noncomputable def dMaxL:D->(D->Prop)->Prop:=λd Q=>match d with
 | .lst ds=>∃ns:List Int,ds=ns.map D.int/\ns≠[]/\∀M,M∈ns->(∀a∈ns,a<=M)->Q (.int M)
 | _=>False
noncomputable def dMinL:D->(D->Prop)->Prop:=λd Q=>match d with
 | .lst ds=>∃ns:List Int,ds=ns.map D.int/\ns≠[]/\∀M,M∈ns->(∀a∈ns,M<=a)->Q (.int M)
 | _=>False
end
section
variable {X:Cx} {tg e:Expr} {te:RE} {pos p:Pos}
noncomputable def qF (te:RE):RA:=λρ Q=>te ρ λd=>match d with
 | .lst ds=>Q ds.reverse
 | _=>False
end
section
variable {prog:Program} {w:World} {A:Around} {E:Value->Shared->Prop} {s:Shared}
end
section
variable {prog:Program} {w:World} {A:Around} {E:Value->Shared->Prop} {s:Shared} {z TI TO i1 i2 a1 a2:Addr} {vs us:List Value} {T1 T2:Nat->Heap->Prop}
end
section
variable {prog:Program} {w:World} {A:Around} {E:Value->Shared->Prop} {s:Shared}
end
section
variable {prog:Program} {w:World} {A:Around} {E:Value->Shared->Prop} {s:Shared} {z TI TO i1 i2 a1 a2:Addr} {vs us:List Value} {T1 T2:Nat->Heap->Prop}
end
section
variable {X:Cx} {pins:List (Addr × Obj)} {σ:St}
theorem _root_.L2.Inv.trackO {s s':Shared} {H H':Hp} {a:Addr} {w:HO} (I:Inv X pins σ H s) (I':Inv X pins σ H' s') (ha:s.heap.objs.size<=a) (hn:H' a=none) (new:ObjOk X.prog X.w (upd H' a w) s'.heap a w):Inv X pins σ (upd H' a w) s':=by
 have nL:X.env.locals≠a:=Nat.ne_of_lt (Nat.lt_of_lt_of_le I.lt ha)
 have nC:∀x c,X.env.cells.lookup x=some c->c≠a:=λx c q z=>by
  obtain⟨v,hv⟩:=I.cell x c q
  exact absurd (Nat.lt_of_lt_of_le hv.lt (by rw[z];exact ha)) (Nat.lt_irrefl _)
 have n0:∀{b:Addr} {o:Obj},X.s₀.heap.get? b=some o->b≠a:=λ{b o} q=>Nat.ne_of_lt (Nat.lt_of_lt_of_le (Heap.lt_size q) (Nat.le_trans I.sz ha))
 refine⟨I'.ok,I'.os,I'.bare,⟨I'.base.keep,I'.base.slot,λb o q n hx=>by rw[aG (n0 q)];exact I'.base.free b o q n hx,I'.base.there,λb ys q=>by rw[aG (aL (I'.base.tups b ys q) hn)];exact I'.base.tups b ys q,λb o u q=>by rw[aG (aL (I'.base.frzs b o u q) hn)];exact I'.base.frzs b o u q,λb ps q=>?_⟩,I'.loc,I'.cell,by rw[aG nL];exact I'.free,λx c q=>by rw[aG (nC x c q)];exact I'.freeC x c q,λp hp=>?_,λb u q=>?_,I'.len⟩
 ·obtain⟨m,q2⟩:=I'.base.tbls b ps q
  exact⟨m,by rw[aG (aL q2 hn)];exact q2⟩
 ·obtain⟨q1,q2,q3,q4,q5⟩:=I'.pin p hp
  have hp1:p.1≠a:=Nat.ne_of_lt (Nat.lt_of_lt_of_le (Heap.lt_size (I.pin p hp).1) ha)
  exact⟨q1,by rw[aG hp1];exact q2,q3,q4,q5⟩
 ·by_cases hb:b=a
  ·subst hb
   rw[aR] at q;cases q
   exact new
  ·rw[aG hb] at q
   exact (I'.hok b u q).stay (λc v _ w=>w) (λc w=>by rw[aG (aL w hn)];exact w) λc ys w=>by rw[aG (aL w hn)];exact w
end
noncomputable def tU:D->Option (List D)
 | .lst xs=>some xs
 | .tup xs=>some xs
 | _=>none
noncomputable def xT (ta tb:RE):RA:=λρ Q=>ta ρ λx=>tb ρ λy=>∃xs ys,tU x=some xs/\tU y=some ys/\xs.length=ys.length/\Q (xs.zipWith (λa b=>D.tup [a,b]) ys)
section
variable {X:Cx} {a b:Expr} {ta tb:RE} {p pz pos posz:Pos}
end
section
variable {X:Cx} {a b:Expr} {ta tb:RE} {pos p:Pos} {elts:List Expr} {k:Nat} {tp:Pos}
noncomputable def qG (ta tb:RE):RA:=λρ Q=>ta ρ λx=>tb ρ λy=>match x,y with
 | .lst xs,.lst ys=>Q (xs.zipWith (λa b=>D.tup [a,b]) ys)
 | _,_=>False
end
section
variable {prog:Program} {w:World} {A:Around} {E:Value->Shared->Prop} {s:Shared}
end
noncomputable abbrev eF (ns:List Int):D:=.tup (ns.map .int)
section
variable {X:Cx} {e a b:Expr} {te ta tb:RE} {p pos:Pos}
noncomputable def dLtT:R22:=λx y Q=>∃ns ms:List Int,x=eF ns/\y=eF ms/\Q (.bl (HT.lexLt ns ms))
noncomputable def dMinT:D->(D->Prop)->Prop:=λd Q=>match d with
 | .lst ds=>∃nss:List (List Int),ds=nss.map eF/\nss≠[]/\∀M,M∈nss->(∀x∈nss,HT.lexLt x M=false)->Q (eF M)
 | .tup ds=>∃nss:List (List Int),ds=nss.map eF/\nss≠[]/\∀M,M∈nss->(∀x∈nss,HT.lexLt x M=false)->Q (eF M)
 | _=>False
noncomputable def dNe:R22:=λx y Q=>match x,y with
 | .int i,.int j=>Q (.bl !(decide (i=j)))
 | .bl i,.bl j=>Q (.bl !(decide (i=j)))
 | .tup xs,.tup ys=>match eqL (eqF 5) xs ys with
  | some b=>Q (.bl !b)
  | none=>False
 | .non,.non=>Q (.bl false)
 | _,_=>False
theorem zZ {k:Nat} (hr:Room k X.A):OpD X (compareOp .NotEq) dNe:=by
 intro pins s σ H x y v u Q I rx ry hh_0
 obtain⟨d,e,P,r1,r2,q,kk⟩:=hh_0
 have hu:=hr.un
 unfold dNe at q
 split at q
 ·rename_i i j
  rw[r1.int_inv] at rx;rw[r2.int_inv] at ry
  obtain⟨t,rfl⟩:=rx
  obtain⟨t',rfl⟩:=ry
  have e:(!(decide (i=j))) = !(i == j):=by rw[Bool.beq_eq_decide_eq]
  rw[e] at q
  exact SeqAt.RcNeAt.int_int i t j t' _ _ _ _ ⟨.bl _,H,I,rfl,kk _ _ H q (Same.refl H) (.bl _)⟩
 ·rename_i i j
  rw[r1.bl_inv] at rx;rw[r2.bl_inv] at ry
  cases rx;cases ry
  have e:(!(decide (i=j))) = !(i == j):=by rw[Bool.beq_eq_decide_eq]
  rw[e] at q
  exact SeqAt.RcNeAt.bool_bool i j _ _ _ _ ⟨.bl _,H,I,rfl,kk _ _ H q (Same.refl H) (.bl _)⟩
 ·rename_i xs ys
  split at q
  ·rename_i b h
   obtain⟨a,vs,rfl,h1,q1⟩:=r1.tup
   obtain⟨c,ws,rfl,h2,q2⟩:=r2.tup
   cases rx;cases ry
   obtain⟨its,rv,ht,_⟩:=I.tuple (SqT.of h1)
   obtain⟨its2,rv2,ht2,_⟩:=I.tuple (SqT.of h2)
   have l1:xs.length=its.length:=q1.length.trans rv.length
   have l2:ys.length=its2.length:=q2.length.trans rv2.length
   have rc:SeqAt.RcNeAt X.A s (.ref a) (.ref c) (!b):=by
    have:=SeqAt.RcNeAt.tuples (A:=X.A) (s:=s) (e:=λj=>match xs[j]?,ys[j]? with | some x,some y=>(eqF 5 x y).getD false | _,_=>false) ht ht2 (by omega) (λj g1 g2=>?_)
    ·simp only[List.size_toArray,<-l1,<-l2] at this
     have al:=iL h
     rw[<-al]
     exact this
    ·simp only[List.size_toArray] at g1 g2
     have e1:xs[j]? = some (xs[j]'(by omega)):=List.getElem?_eq_getElem _
     have e2:ys[j]? = some (ys[j]'(by omega)):=List.getElem?_eq_getElem _
     obtain⟨k,hk⟩:=kD h j _ _ e1 e2
     rw[e1,e2]
     simp only[hk,Option.getD_some]
     obtain⟨v1,f1,f2⟩:=q1.get e1
     obtain⟨v2,f3,f4⟩:=q2.get e2
     obtain⟨u1,g3,g4⟩:=rv.get f1
     obtain⟨u2,g5,g6⟩:=rv2.get f3
     have a1:its.toArray[j]=u1:=by
      have:=List.getElem?_eq_getElem g1
      rw[this] at g3
      simpa using Option.some.inj g3
     have a2:its2.toArray[j]=u2:=by
      have:=List.getElem?_eq_getElem g2
      rw[this] at g5
      simpa using Option.some.inj g5
     rw[a1,a2]
     exact (qW I 5 hk f2 f4 g4 g6 (by show X.A.units+1+5<cLine;omega)).2
   exact rc _ _ _ _ ⟨.bl _,H,I,rfl,kk _ _ H q (Same.refl H) (.bl _)⟩
  ·exact q.elim
 ·have non:∀{v:V},RepB X.K H .non v->v = .non:=λr=>by
   rcases r with r | ⟨_,_,_,e,_⟩
   ·cases r;rfl
   ·cases e
  rw[non r1] at rx;rw[non r2] at ry
  cases rx;cases ry
  exact SeqAt.RcNeAt.none_none _ _ _ _ ⟨.bl _,H,I,rfl,kk _ _ H q (Same.refl H) (.bl _)⟩
 ·exact q.elim
noncomputable def EA:R22:=λx y Q=>match x with
 | .lst xs=>∃j:Nat,(∃d,xs[j]? = some d/\eqF 6 d y=some true)/\(∀(i:Nat) d,i<j->xs[i]? = some d->eqF 6 d y=some false)/\(∀d∈xs,∃b,eqF 6 d y=some b)/\Q (.int (j:Int))
 | _=>False
end
section
variable {X:Cx} {pins:List (Addr × Obj)} {σ:St} {H:Hp} {s:Shared}
end
section
variable {X:Cx} {e a b:Expr} {te ta tb:RE} {p pos:Pos}
noncomputable def lY (ta tb:RE):RE:=λρ Q=>ta ρ λx=>(∃xs,x = .lst xs)/\tb ρ λy=>EA x y Q
end
end L2.R2
set_option Elab.async false
set_option linter.all false
set_option maxRecDepth 100000
set_option maxHeartbeats 1000000
namespace L2.R2
open PySem PySem.SetTable
section
variable {prog:Program} {w:World} {A:Around} {E:Value->Shared->Prop} {s:Shared}
noncomputable def qK (prog:Program) (w:World) (h:Heap) (es:Array (Int × Value)):Prop:=∀e∈es.toList,∃ks b,e=(tupleKeyHash (intKind prog w) ks,.ref b)/\IsTupleKey (intKind prog w) h ks b
end
end L2.R2
set_option Elab.async false
set_option linter.all false
set_option maxRecDepth 100000
set_option maxHeartbeats 3200000
namespace L2.R2
open PySem PySem.SetTable PyProof.Rows
section
variable {prog:Program} {w:World} {A:Around} {E:Value->Shared->Prop} {s:Shared}
end
section
variable {prog:Program} {w:World} {A:Around} {E:Value->Shared->Prop} {s:Shared}
end
section
variable {prog:Program} {w:World} {A:Around} {E:Value->Shared->Prop} {s:Shared}
end
end L2.R2
set_option Elab.async false
set_option linter.all false
set_option maxRecDepth 100000
set_option maxHeartbeats 1000000
namespace L2.R2
open PySem PySem.W PyProof.Rows
section
variable {O:KeyOrd} {key:Nat->O.α} {N:Nat}
noncomputable def kk (O:KeyOrd) (key:Nat->O.α) (p:Array Nat) (i:Nat):O.α:=key (p.getD i 0)
end
end L2.R2
set_option Elab.async false
set_option linter.all false
set_option maxRecDepth 100000
set_option maxHeartbeats 3200000
namespace L2.R2
open PySem PySem.W PySem.SetTable PyProof.Rows
noncomputable def EU:List Int->List Int->Bool
 | [],[]=>false
 | [],_::_=>true
 | _::_,[]=>false
 | a::as,b::bs=>if a=b then EU as bs else decide (a<b)
section
variable {prog:Program} {w:World} {A:Around} {E:Value->Shared->Prop} {s:Shared}
end
end L2.R2
set_option Elab.async false
set_option linter.all false
set_option maxRecDepth 100000
set_option maxHeartbeats 3200000
namespace L2.R2
open PySem PySem.W PyProof.Rows
section
variable {prog:Program} {w:World} {A:Around} {E:Value->Shared->Prop} {s:Shared}
end
end L2.R2
set_option Elab.async false
set_option linter.all false
set_option maxRecDepth 100000
set_option maxHeartbeats 1000000
namespace L2.R2
open PySem PySem.Spec PyProof.Rows L2
theorem sD:bootBuiltins "sorted" = some (.builtin "sorted"):=by decide +kernel
noncomputable def HX (te:RE):RA:=λρ Q=>te ρ λx=>∃ds:List D,x = .lst ds/\Q ds.reverse
section
variable {X:Cx} {e:Expr} {te:RE} {p pz pos posz:Pos}
end
noncomputable def BE (lo:Int) (n:Nat):It:=⟨λi _=>i<n,λi H x H'=>H'=H/\x = .int (lo+i*2),λi _=>n<=i⟩
theorem tV {P:Program} {w:World} {K:PySem.W.Frag} {tg:Expr} (it:Addr) (lo:Int) (n:Nat):Turn P w K tg (BE lo n) [it] it (λi h=>IsRangeIter h it (lo+(i:Nat)*2) ((n:Int)-(i:Nat)) 2) where
 mem:=by simp
 obj:=λi h st b hb=>by
  have e:b=it:=by simpa using hb
  subst e
  exact⟨_,st,λv z=>by have z':Data.fields _=Data.cell v:=z;cases z'⟩
 keep:=λi h h' st k=>k it (by simp) _ st
 item:=by
  intro X hP hw hK hc i pins s σ H E I hf st hg
  subst hP hw hK
  obtain⟨f0,f1,f2,f3,f4,f5⟩:=hf it (by simp)
  have W:=Walks.range (prog:=X.prog) (w:=X.w) (I.ok.hd hc) it lo 2 n
  refine W.item i s _ _ hg st λv h' tk hv st' kk=>?_
  obtain⟨t,rfl⟩:=hv
  have I1:Inv X pins σ H { s with heap:=h',toks:=tk }:=I.turned (λb o hb e=>kk b o (by simpa using hb) e) f0 f1 f3 f4 f5
  exact⟨_,rfl,vR (s:={ s with heap:=h',toks:=tk }) (n:="range_iterator") st' rfl rfl (by decide) ⟨.int (lo+i*2),H,I1,⟨t,rfl⟩,⟨rfl,rfl⟩,st',λb hb=>(hf b hb).1⟩⟩
 done:=by
  intro X hP hw hK hc i pins s σ H E I hf st hg
  subst hP hw hK
  obtain⟨f0,f1,f2,f3,f4,f5⟩:=hf it (by simp)
  exact wpAny_pyNext_range_end (I.ok.hd hc) st (by have:n<=i:=hg;omega) λh' eb=>⟨rfl,I.turned (t':=s.toks) (λb o hb e=>eb b o hb e) f0 f1 f3 f4 f5⟩
 self:=λ_ _ _ _ _ st h=>wpAny_pyIter_rangeiter st h
theorem AU (a b:Int):Builtin.Range.rangeSize a b 2=if a<b then (b-a-1) / 2+1 else 0:=by
 unfold Builtin.Range.rangeSize
 simp only[show (2:Int) > 0 by decide,if_true]
theorem FV {a b:Int} (ha:-(2 ^ 60)<=a) (ha':a<2 ^ 60) (hb:-(2 ^ 60)<=b) (hb':b<2 ^ 60):Builtin.Range.small a b 2=true:=by
 unfold Builtin.Range.small
 rw[AU]
 simp only[Builtin.Range.rangeFitsLong,Bool.and_eq_true,Bool.or_eq_true,decide_eq_true_eq,beq_iff_eq,show (2:Int) > 0 by decide,if_true]
 split <;> omega
section
variable {X:Cx} {tg:Expr}
theorem xU {pins:List (Addr × Obj)} {σ:St} {H:Hp} {s:Shared} {R:It->Hp->Prop} {E:Value->Shared->Prop} {lo hi:Int} {t u v:Tok} {tk:Nat} (I:Inv X pins σ H s) (h1:-(2 ^ 60)<=lo) (h2:lo<2 ^ 60) (h3:-(2 ^ 60)<=hi) (h4:hi<2 ^ 60)
  (q:R (BE lo ((hi-lo+1) / 2).toNat) H):wpAny (model X.prog X.w) X.A (pyIter (.ref s.heap.objs.size)) (PIE X pins σ tg R) E { s with heap:=s.heap.push { cls:=.type "range",data:=.fields #[.int lo t,.int hi u,.int 2 v] },toks:=tk }:=by
 refine wpAny_pyIter_range (IsRange.new ..) (FV h1 h2 h3 h4) ?_
 have I1:Inv X pins σ H { s with heap:=s.heap.push { cls:=.type "range",data:=.fields #[.int lo t,.int hi u,.int 2 v] },toks:=tk }:=I.kept λb o e=>Heap.get?_push_of_some _ e
 have e1:lo+((0:Nat):Int)*2=lo:=by simp
 have e2:((((hi-lo+1) / 2).toNat:Nat):Int)-((0:Nat):Int)=Builtin.Range.rangeSize lo hi 2:=by rw[AU];split <;> omega
 generalize hh:s.heap.push { cls:=.type "range",data:=.fields #[.int lo t,.int hi u,.int 2 v] } = h1 at I1
 refine⟨h1.objs.size,[h1.objs.size],_,_,H,rfl,I1.kept (t':=tk) λb o e=>Heap.get?_push_of_some _ e,tV _ lo ((hi-lo+1) / 2).toNat,?_,λb hb=>?_,q⟩
 ·show IsRangeIter _ _ (lo+((0:Nat):Int)*2) (((((hi-lo+1) / 2).toNat:Nat):Int)-((0:Nat):Int)) 2
  rw[e1,e2]
  exact Heap.get?_push_size _ rfl
 ·have e:b=h1.objs.size:=by simpa using hb
  subst e
  exact I1.fpOk (Nat.le_refl _) (I1.hok.fresh (Nat.le_refl _))
noncomputable def kR (lo:Int) (n:Nat):List D:=(List.range n).map λk:Nat=>D.int (lo+(k:Int)*2)
theorem BR {H0:Hp} (lo:Int) (n:Nat):wD X (BE lo n) (kR lo n) H0:=λi H kp=>by
 refine⟨λd e=>?_,λhl=>by show n<=i;simpa [kR] using hl⟩
 unfold kR at e
 rw[List.getElem?_map] at e
 by_cases hi:i<n
 ·rw[List.getElem?_range hi] at e
  cases e
  exact⟨hi,λx H' y=>by obtain⟨rfl,rfl⟩:=y;exact⟨Same.refl _,.int _⟩⟩
 ·rw[List.getElem?_eq_none (by simpa using hi)] at e;cases e
structure StpOk (j:Int):Prop where
 lo:-(2 ^ 60)<=j
 hi:j<2 ^ 60
noncomputable def hX (t:RA):RA:=λρ Q=>t ρ λds=>match ds with
 | [.int i,.int j,.int c]=>(StpOk i/\StpOk j/\c=2)/\Q (kR i ((j-i+1) / 2).toNat)
 | _=>False
noncomputable def GV (ta:TA):TI:=λσ H R=>ta σ H λvs H1=>∃i j:Int,vs=[.int i,.int j,.int 2]/\(-(2 ^ 60)<=i/\i<2 ^ 60/\-(2 ^ 60)<=j/\j<2 ^ 60)/\R (BE i ((j-i+1) / 2).toNat) H1
theorem CH {a b c:Expr} {ta:TA} {p pos:Pos} (hg:Gl X "range") (hm:X.mg "range" = none) (ha:PA X [a,b,c] ta) (hs:starEach [a,b,c] X.env=(false,eval a X.env)::starEach [b,c] X.env) (hs2:(backTo pos (starEach [b,c] X.env)).any (·.1)=false) :
  PI X tg (.Call (.Name "range" p) [a,b,c] [] pos) (GV ta):=by
 intro pins s σ H R I h
 refine Call_ (gX I hg hm boot_range (PyProof.Rows.callWith_type1 (thn (ha pos pins s σ H _ I h) λus s1 ⟨vs,H1,I1,r1,q1⟩=>?_) hs hs2))
 obtain⟨i,j,e,⟨q1,q2,q3,q4⟩,q⟩:=q1
 subst e
 cases r1 with
 | cons r rr =>
  cases rr with
  | cons r' rr =>
   cases rr with
   | cons r'' rr =>
    cases rr
    obtain⟨t,rfl⟩:=r
    obtain⟨t',rfl⟩:=r'
    obtain⟨t'',rfl⟩:=r''
    exact call_range_3 (by decide) (xU I1 q1 q2 q3 q4 q) (Or.inl (BL.noPy (show BL 9000 2 from (by exact Nat.lt_of_lt_of_le (show 2<2 ^ 2 by decide) (Nat.pow_le_pow_right (by decide) (by decide))))))
theorem BM {a b c:Expr} {t:RA} {p pos:Pos} (hm:X.mg "range" = none) (ha:DA X [a,b,c] t) (hg:Gl X "range":=by rfl)
  (hs:starEach [a,b,c] X.env=(false,eval a X.env)::starEach [b,c] X.env:=by rfl) (hs2:(backTo pos (starEach [b,c] X.env)).any (·.1)=false:=by rfl):DI X tg (.Call (.Name "range" p) [a,b,c] [] pos) (hX t):=by
 refine PI.mono (CH hg hm ha hs hs2) λσ H R hh=>bR hh λρ P st q k=>⟨ρ,_,st,q,λds vs H1 hd s1 r=>?_⟩
 split at hd
 ·rename_i i j c
  rw[Reps.ints_inv (ns:=[i,j,c]) r,hd.1.2.2]
  exact⟨i,j,rfl,⟨hd.1.1.lo,hd.1.1.hi,hd.1.2.1.lo,hd.1.2.1.hi⟩,k _ _ H1 hd.2 s1 (BR i _)⟩
 ·exact hd.elim
end
end L2.R2
set_option Elab.async false
set_option linter.all false
set_option maxRecDepth 100000
namespace L2
open PySem PySem.Spec PyProof.Rows
section
variable {κ:Type} [DecidableEq κ]
noncomputable def iD (kvs:List (κ × V)) (k:κ):Option V:=(kvs.find? λkv=>decide (kv.1=k)).map (·.2)
noncomputable def lX (kvs:List (κ × V)) (k:κ) (v:V):List (κ × V) :=
 if (kvs.any λkv=>decide (kv.1=k))=true then kvs.map (λkv=>if kv.1=k then (kv.1,v) else kv) else kvs++[(k,v)]
theorem kW {p:κ × V} {r:List (κ × V)} {k:κ} (e:p.1=k):iD (p::r) k=some p.2:=by simp[iD,List.find?_cons,e]
theorem kU {p:κ × V} {r:List (κ × V)} {k:κ} (e:¬p.1=k):iD (p::r) k=iD r k:=by simp[iD,List.find?_cons,e]
theorem tW (k:κ):∀kvs:List (κ × V),(kvs.any λkv=>decide (kv.1=k))=(iD kvs k).isSome
 | []=>rfl
 | p::r=>by
  rw[List.any_cons]
  by_cases e:p.1=k
  ·simp only[kW e,decide_eq_true e,Bool.true_or,Option.isSome_some]
  ·rw[kU e,decide_eq_false e,Bool.false_or];exact tW k r
theorem mG (kvs:List (κ × V)) (k:κ) (v:V):(lX kvs k v).length<=kvs.length+1:=by
 unfold lX
 split
 ·rw[List.length_map];omega
 ·rw[List.length_append,List.length_cons,List.length_nil];omega
theorem RelO.isSome_eq {o:Option V} {u:Option Value} (r:RelO o u):o.isSome=u.isSome:=by
 cases o with
 | none=>cases u with
  | none=>rfl
  | some _=>exact (show False from r).elim
 | some _=>cases u with
  | none=>exact (show False from r).elim
  | some _=>rfl
theorem RelO.getD {o:Option V} {u:Option Value} {d:V} {d':Value} (r:RelO o u) (rd:RelV d d'):RelV (o.getD d) (u.getD d'):=by
 cases o with
 | none=>cases u with
  | none=>exact rd
  | some _=>exact (show False from r).elim
 | some _=>cases u with
  | none=>exact (show False from r).elim
  | some _=>exact r
theorem KV.val {kvs:List (κ × V)} {vs:List (κ × Value)} (r:KV kvs vs) (k:κ):RelO (iD kvs k) (valueAt vs k):=by
 unfold KV at r
 induction r with
 | nil=>exact True.intro
 | @cons p q ps qs h t ih =>
  obtain⟨h1,h2⟩:=h
  by_cases e:p.1=k
  ·have e':q.1=k:=h1.symm.trans e
   have b:valueAt (q::qs) k=some q.2:=by simp[valueAt,List.find?_cons,e']
   rw[kW e,b];exact h2
  ·have e':¬q.1=k:=λz=>e (h1.trans z)
   have b:valueAt (q::qs) k=valueAt qs k:=by simp[valueAt,List.find?_cons,e']
   rw[kU e,b];exact ih
theorem KV.any {kvs:List (κ × V)} {vs:List (κ × Value)} (r:KV kvs vs) (k:κ):(kvs.any λkv=>decide (kv.1=k))=vs.any λkv=>decide (kv.1=k):=by
 unfold KV at r
 induction r with
 | nil=>rfl
 | cons h t ih=>rw[List.any_cons,List.any_cons,ih,h.1]
theorem KV.repl {kvs:List (κ × V)} {vs:List (κ × Value)} (r:KV kvs vs) (k:κ) {y:V} {u:Value} (ry:RelV y u) :
  KV (kvs.map λkv=>if kv.1=k then (kv.1,y) else kv) (vs.map λkv=>if kv.1=k then (kv.1,u) else kv):=by
 unfold KV at r ⊢
 induction r with
 | nil=>exact .nil
 | @cons p q ps qs h t ih =>
  rw[List.map_cons,List.map_cons]
  refine .cons ?_ ih
  obtain⟨h1,h2⟩:=h
  by_cases e:p.1=k
  ·rw[if_pos e,if_pos (h1.symm.trans e)];exact⟨h1,ry⟩
  ·rw[if_neg e,if_neg (λz=>e (h1.trans z))];exact⟨h1,h2⟩
theorem KV.put {kvs:List (κ × V)} {vs:List (κ × Value)} (r:KV kvs vs) (k:κ) {y:V} {u:Value} (ry:RelV y u):KV (lX kvs k y) (stored vs k u):=by
 unfold lX stored
 rw[r.any k]
 by_cases e:(vs.any λkv=>decide (kv.1=k))=true
 ·rw[if_pos e,if_pos e];exact r.repl k ry
 ·rw[if_neg e,if_neg e];exact Paired.snoc r ⟨rfl,ry⟩
theorem KV.length {kvs:List (κ × V)} {vs:List (κ × Value)} (r:KV kvs vs):kvs.length=vs.length:=Paired.length r
end
theorem vS {P:Program} {w:World} {k:Key} {u:Value} (r:RelV (kV k) u):(bL P w).is k u=true:=by
 cases k with
 | inl i=>obtain⟨t,e⟩:=(show ∃t,u=Value.int i t from r);subst e;exact tD P w i t
 | inr x=>obtain⟨t,e⟩:=(show ∃t,u=Value.str x t from r);subst e;exact tE P w x t
theorem pT {P:Program} {w:World}:∀{ks:List Key} {us:List Value},Vals (ks.map kV) us->ItemsAre (bL P w) ks us
 | [],_,r=>by rw[List.map_nil] at r;cases r;exact .nil
 | k::ks,_,r=>by
  rw[List.map_cons] at r
  cases r with
  | cons h t=>exact .cons (vS h) (pT t)
noncomputable abbrev KT (H:Hp):List (List Key × V)->List (List Key × Addr × Value)->Prop:=Paired λp q=>p.1=q.1/\H q.2.1=some (.tup (p.1.map kV))/\RelV p.2 q.2.2
theorem KT.val {H:Hp} {kvs:List (List Key × V)} {xs:List (List Key × Addr × Value)} (r:KT H kvs xs) (k:List Key):RelO (iD kvs k) ((atKey xs k).map (·.2)):=by
 induction r with
 | nil=>exact True.intro
 | @cons p q ps qs h t ih =>
  obtain⟨h1,_,h2⟩:=h
  by_cases e:p.1=k
  ·have e':q.1=k:=h1.symm.trans e
   have b:atKey (q::qs) k=some q.2:=by simp[atKey,List.find?_cons,e']
   rw[kW e,b];exact h2
  ·have e':¬q.1=k:=λz=>e (h1.trans z)
   have b:atKey (q::qs) k=atKey qs k:=by simp[atKey,List.find?_cons,e']
   rw[kU e,b];exact ih
theorem KT.repl {H:Hp} {kvs:List (List Key × V)} {xs:List (List Key × Addr × Value)} (r:KT H kvs xs) (k:List Key) {y:V} {u:Value} (ry:RelV y u) :
  KT H (kvs.map λkv=>if kv.1=k then (kv.1,y) else kv) (xs.map (putAt k u)):=by
 induction r with
 | nil=>exact .nil
 | @cons p q ps qs h t ih =>
  rw[List.map_cons,List.map_cons]
  refine .cons ?_ ih
  obtain⟨h1,h2,h3⟩:=h
  unfold putAt
  by_cases e:p.1=k
  ·rw[if_pos e,if_pos (h1.symm.trans e)];exact⟨h1,h2,ry⟩
  ·rw[if_neg e,if_neg (λz=>e (h1.trans z))];exact⟨h1,h2,h3⟩
theorem KT.put {H:Hp} {kvs:List (List Key × V)} {xs:List (List Key × Addr × Value)} (r:KT H kvs xs) (k:List Key) {b:Addr} {y:V} {u:Value} (hb:H b=some (.tup (k.map kV))) (ry:RelV y u) :
  KT H (lX kvs k y) (storedH xs k b u):=by
 have e:(kvs.any λkv=>decide (kv.1=k))=(atKey xs k).isSome:=by
  rw[tW,(r.val k).isSome_eq,Option.isSome_map]
 unfold lX storedH
 rw[e]
 by_cases q:(atKey xs k).isSome=true
 ·rw[if_pos q,if_pos q];exact r.repl k ry
 ·rw[if_neg q,if_neg q];exact Paired.snoc r ⟨rfl,hb,ry⟩
theorem KT.keeps {H H':Hp} {kvs:List (List Key × V)} {xs:List (List Key × Addr × Value)} (r:KT H kvs xs) (ht:∀b ys,H b=some (.tup ys)->H' b=some (.tup ys)):KT H' kvs xs :=
 Paired.mapP r λ_ _ z=>⟨z.1,ht _ _ z.2.1,z.2.2⟩
section
variable {P:Program} {w:World} {H:Hp} {h:Heap} {a:Addr}
theorem DR {u:HO} (ok:HOk P w H h) (e:Rd H a u):ObjOk P w H h a u:=e.ok ok
theorem sO {kvs:List (Key × V)} (ok:HOk P w H h) (e:Rd H a (.dK kvs)):kvs.length<=sizeLine/\(a == sysModules)=false/\∃vs,KV kvs vs/\h.DictOf (bL P w) a vs :=
 show ObjOk P w H h a (.dK kvs) from DR ok e
theorem GM {kvs:List (Key × V)} (ok:HOk P w H h) (e:H a=some (.dK kvs)):kvs.length<=sizeLine/\(a == sysModules)=false/\∃vs,KV kvs vs/\h.DictOf (bL P w) a vs:=sO ok (.inl e)
theorem rE {ks:List Key} (ok:HOk P w H h) (e:H a=some (.tup (ks.map kV))):(tupleKind (bL P w)).is h ks a:=by
 obtain⟨_,its,r,o,h1,h2,n,h3⟩:=(show ObjOk P w H h a (.tup (ks.map kV)) from ok a _ e)
 exact⟨o,its.toArray,n,h1,h2,h3,by simpa using pT r⟩
theorem pR {kvs:List (List Key × V)} (ok:HOk P w H h) (e:Rd H a (.dT kvs)):kvs.length<=sizeLine/\(a == sysModules)=false /\
  ∃xs,KT H kvs xs/\h.DictOfH (tupleKind (bL P w)) a xs:=by
 obtain⟨z,y,xs,r,o,es,ep,h1,h2,h3,h4,h5⟩:=(show ObjOk P w H h a (.dT kvs) from DR ok e)
 refine⟨z,y,xs,r,o,es,ep,h1,h2,h3,h4,λx hx=>?_,h5⟩
 have all:∀{l:List (List Key × V)} {m:List (List Key × Addr × Value)},KT H l m->∀x∈m,(tupleKind (bL P w)).is h x.1 x.2.1:=by
  intro l m q
  induction q with
  | nil=>intro x hx;exact nomatch hx
  | @cons p q ps qs hq t ih =>
   intro x hx
   rcases List.mem_cons.mp hx with e | hx
   ·subst e
    exact rE ok (by rw[<-hq.1];exact hq.2.1)
   ·exact ih x hx
 exact all r x hx
theorem GN {kvs:List (List Key × V)} (ok:HOk P w H h) (e:H a=some (.dT kvs)):kvs.length<=sizeLine/\(a == sysModules)=false /\
  ∃xs,KT H kvs xs/\h.DictOfH (tupleKind (bL P w)) a xs:=pR ok (.inl e)
end
noncomputable def DGet (H:Hp) (a:Addr) (y:V) (r:Option V):Prop :=
 (∃kvs k,Rd H a (.dK kvs)/\y=kV k/\r=iD kvs k)\/∃kvs k b,Rd H a (.dT kvs)/\y = .ref b/\H b=some (.tup (k.map kV))/\r=iD kvs k
noncomputable def DPut (H:Hp) (a:Addr) (y v:V) (H':Hp):Prop :=
 (∃kvs k,H a=some (.dK kvs)/\y=kV k/\kvs.length<sizeLine/\H'=upd H a (.dK (lX kvs k v))) \/
 ∃kvs k b,H a=some (.dT kvs)/\y = .ref b/\H b=some (.tup (k.map kV))/\kvs.length<sizeLine/\H'=upd H a (.dT (lX kvs k v))
theorem DGet.t {H:Hp} {a b:Addr} {kvs:List (List Key × V)} {k:List Key} (e:H a=some (.dT kvs)) (eb:H b=some (.tup (k.map kV))):DGet H a (.ref b) (iD kvs k):=.inr ⟨kvs,k,b,.inl e,rfl,eb,rfl⟩
theorem DPut.t {H:Hp} {a b:Addr} {kvs:List (List Key × V)} {k:List Key} {v:V} (e:H a=some (.dT kvs)) (eb:H b=some (.tup (k.map kV))) (hl:kvs.length<sizeLine) :
  DPut H a (.ref b) v (upd H a (.dT (lX kvs k v))):=.inr ⟨kvs,k,b,e,rfl,eb,hl,rfl⟩
section
variable {X:Cx} {pins:List (Addr × Obj)} {σ:St} {H:Hp} {s:Shared} {a:Addr} {y v:V} {u r:Value} {o:Option V} {A:Around} {E:Value->Shared->Prop}
theorem Inv.big (I:Inv X pins σ H s):sysModules<s.heap.objs.size:=by
 have h:mainGlobals<s.heap.objs.size:=(I.mod.glob.keeps I.bk).lt
 exact Nat.lt_trans (by decide) h
theorem wO {Q:Value->Shared->Prop} (hu:A.units+1<cLine) (I:Inv X pins σ H s) (g:DGet H a y (some v)) (ry:RelV y u) (h:∀w' s',Inv X pins σ H s'->RelV v w'->Q w' s') :
  wpAny (model X.prog X.w) A (getItem (.ref a) u) Q E s:=by
 rcases g with ⟨kvs,k,e,ey,l⟩ | ⟨kvs,k,b,e,ey,eb,l⟩
 ·subst ey
  obtain⟨z,hd,vs,rel,dd⟩:=sO I.hok e
  obtain⟨w',hw,rw'⟩:=RelO.some_of (v:=v) (o:=valueAt vs k) (by rw[l];exact rel.val k)
  exact wpAny_getItem_of (vS ry) dd.mapOf hw (h w' _ (I.tok _) rw')
 ·subst ey
  cases (show u=Value.ref b from ry)
  obtain⟨z,hd,xs,rel,dd⟩:=pR I.hok e
  obtain⟨w',hw,rw'⟩:=RelO.some_of (v:=v) (o:=(atKey xs k).map (·.2)) (by rw[l];exact rel.val k)
  obtain⟨p,hp,hp2⟩:=Option.map_eq_some_iff.mp hw
  refine wpAny_getItem_heap (tupleKind_room_in1 hu) (rE I.hok eb) dd hp ?_
  rw[hp2]
  exact h w' _ (I.tok _) rw'
theorem vE {h':Heap} {t':Nat} {ob:HO} (I:Inv X pins σ H s) (mu:Mut (H a)) (hs:Heap.SameBut a s.heap h') (he:∃q,h'.get? a=some q) (new:ObjOk X.prog X.w (upd H a ob) h' a ob) :
  Inv X pins σ (upd H a ob) { s with heap:=h',toks:=t' } :=
 I.write (x:=a) (e:=a) mu (.inl rfl) (λb q hb z=>(hs.2 b hb).trans z) he new
theorem EG {P:Program} {w:World} {H':Hp} {h':Heap} {kvs:List (Key × V)} {vs:List (Key × Value)} (z:kvs.length<=sizeLine) (hd:(a == sysModules)=false) (rel:KV kvs vs) (dd:h'.DictOf (bL P w) a vs) :
  ObjOk P w H' h' a (.dK kvs):=⟨z,hd,vs,rel,dd⟩
theorem wP {H':Hp} {Q:Unit->Shared->Prop} (hu:A.units+1<cLine) (I:Inv X pins σ H s) (g:DPut H a y v H') (ry:RelV y u) (rv:RelV v r) (h:∀s',Inv X pins σ H' s'->Q () s') :
  wpAny (model X.prog X.w) A (setItem (.ref a) u r) Q E s:=by
 rcases g with ⟨kvs,k,e,ey,l,eH⟩ | ⟨kvs,k,b,e,ey,eb,l,eH⟩
 ·subst ey eH
  obtain⟨z,hd,vs,rel,dd⟩:=GM I.hok e
  have hz:vs.length<=sizeLine:=by rw[<-rel.length];exact z
  have hl:(lX kvs k v).length<=sizeLine:=by have:=mG kvs k v;omega
  refine wpAny_setItem_pairs (hsz:=hz) (vS ry) dd λh' dd' hs=>h _ ?_
  have he:∃q,h'.get? a=some q:=let ⟨q,_,_,hq,_⟩:=dd';⟨q,hq⟩
  exact vE I (by rw[e];exact True.intro) hs he (EG hl hd (rel.put k rv) dd')
 ·subst ey eH
  cases (show u=Value.ref b from ry)
  obtain⟨z,hd,xs,rel,dd⟩:=GN I.hok e
  have hz:xs.length<=sizeLine:=by rw[<-Paired.length rel];exact z
  have hl:(lX kvs k v).length<=sizeLine:=by have:=mG kvs k v;omega
  refine wpAny_setItem_heap (hsz:=hz) (tupleKind_room_in1 hu) (rE I.hok eb) dd λh' dd' hs=>h _ ?_
  obtain⟨q,es,ep,hq,h2,h3,h4,_,h5⟩:=dd'
  refine vE I (by rw[e];exact True.intro) hs ⟨q,hq⟩ ⟨hl,hd,_,(rel.put k eb rv).keeps λc ys ec=>?_,q,es,ep,hq,h2,h3,h4,h5⟩
  rw[aG (HC ec e (λz=>nomatch z))]
  exact ec
end
section
variable {X:Cx} {pins:List (Addr × Obj)} {σ:St} {H:Hp} {s:Shared} {a:Addr} {kvs:List (Key × V)} {k:Key} {u:Value} {A:Around} {E:Value->Shared->Prop}
end
noncomputable def DV (i:Expr):Prop:=∀ov iv,subscripted i false ov iv=operate [ov,iv] (getItem ov iv)
theorem CP {prog:Program} {w:World} {A:Around} {E:Value->Shared->Prop} {s:Shared} {env:Env} {value slice:Expr} {pos:Pos} {T id:String} {Q:Value->Shared->Prop}
  (hl:typeLookup (.type T) "__getitem__" = pure (some (.builtin id))) (hs:DV slice)
  (h:wpAny (model prog w) A (eval value env) (λo s₁=>wpAny (model prog w) A (eval slice env) (λi s₂=>s₂.TypeIs o T/\wpAny (model prog w) A (getItem o i) Q E s₂) E s₁) E s) :
  wpAny (model prog w) A (eval (.Subscript value slice pos) env) Q E s:=by
 refine Subscript_ (wpAny_mono h (λo s₁ h₁=>wpAny_mono h₁ (λi s₂ h₂=>?_) λ_ _ x=>x) λ_ _ x=>x)
 obtain⟨hT,h₂⟩:=h₂
 unfold subscriptTail
 refine wpAny_bind ?_
 rw[getitemInPython_of_ne hT.not_modules]
 refine wpAny_bind (wpAny_specialOf hT hl ?_)
 have fin:wpAny (model prog w) A (subscripted slice false o i) (λr s₃=>wpAny (model prog w) A (letTemporaryGo value o r >>= λ_=>pure r) Q E s₃) E s₂:=by
  rw[hs o i]
  exact wpAny_operating (wpAny_mono h₂ (λr s₃ h₃=>wpAny_bind (wpAny_letTemporaryGo (wpAny_pure h₃))) λ_ _ x=>x)
 first
  | exact wpAny_pure (wpAny_bind fin)
  | exact wpAny_bind (wpAny_pure (wpAny_bind fin))
  | exact wpAny_bind fin
theorem sM {X:Cx} {pins:List (Addr × Obj)} {σ:St} {H:Hp} {s:Shared} {a:Addr} {y:V} {o:Option V} (I:Inv X pins σ H s) (g:DGet H a y o):s.TypeIs (.ref a) "dict":=by
 rcases g with ⟨kvs,k,e,_,_⟩ | ⟨kvs,k,b,e,_,_,_⟩
 ·obtain⟨_,_,vs,_,dd⟩:=sO I.hok e
  exact dd.typeIs
 ·obtain⟨_,_,xs,_,dd⟩:=pR I.hok e
  exact dd.typeIs
noncomputable def IE (td ty:TE):TE:=λσ H Q=>td σ H λx H1=>ty σ H1 λy H2=>∃a v,x = .ref a/\DGet H2 a y (some v)/\Q v H2
noncomputable def HY (td ty tv:TE):TS:=λD σ H=>tv σ H λv H1=>td σ H1 λx H2=>ty σ H2 λy H3=>∃a H4,x = .ref a/\DPut H3 a y v H4/\D.nx σ H4
section
variable {X:Cx} {o i e value:Expr} {pos pos' tpos:Pos} {td ty tv:TE}
theorem CC (hu:X.A.units+1<cLine) (ho:PE X o td) (hi:PE X i ty) (hs:DV i):PE X (.Subscript o i pos) (IE td ty):=by
 intro pins s σ H Q I h
 refine CP PySem.F.slot_dict_getitem.lookup hs (thn (ho pins s σ H _ I h) λu s1 ⟨x,H1,I1,rx,q1⟩=>thn (hi pins s1 σ H1 _ I1 q1) λiv s2 ⟨y,H2,I2,ry,a,v,ex,g,q2⟩=>?_)
 subst ex
 obtain rfl:u=Value.ref a:=rx
 exact⟨sM I2 g,wO hu I2 g ry λw' s3 I3 rw'=>⟨v,H2,I3,rw',q2⟩⟩
theorem vV (hu:X.A.units+1<cLine) (ho:PE X o td) (hi:PE X i ty) (hv:PE X value tv) (hs:swapsWith value (some (.Subscript o i pos')) pos.line X.env=pure false) :
  PS X (.Assign [.Subscript o i pos'] value pos) (HY td ty tv):=by
 intro pins s σ H D I h
 refine wpAny_Assign_Subscript (thn (hv pins s σ H _ I h) λr s1 ⟨v,H1,I1,rv,q1⟩=>thn (ho pins s1 σ H1 _ I1 q1) λu s2 ⟨x,H2,I2,rx,q2⟩=>thn (hi pins s2 σ H2 _ I2 q2) λiv s3 ⟨y,H3,I3,ry,a,H4,ex,g,q3⟩=>?_) hs
 subst ex
 obtain rfl:u=Value.ref a:=rx
 exact wP hu I3 g ry rv λs4 I4=>⟨σ,H4,I4,q3⟩
end
theorem zG {P:Program} {w:World} {H:Hp} (h:Heap) (hb:sysModules<h.objs.size):ObjOk P w H (h.push { cls:=.type "dict",data:=.dict #[] }) h.objs.size (.dT []) :=
 ⟨Nat.zero_le _,beq_eq_false_iff_ne.mpr (Ne.symm (Nat.ne_of_lt hb)),[],.nil,_,#[],0,Heap.get?_push_size _ rfl,⟨rfl,rfl,rfl⟩,rfl,rfl,List.nodup_nil⟩
noncomputable def FY:TE:=λ_ H Q=>∀p,H p=none->Q (.ref p) (upd H p (.dT []))
section
variable {X:Cx} {pos:Pos}
theorem AE:PE X (.Dict [] [] pos) FY:=λpins s σ H Q I h =>
 wpAny_Dict_empty ⟨.ref s.heap.objs.size,_,I.laid (a:=s.heap.objs.size) (o:=.dT []) (t':=s.toks) (λ_ _ q=>Heap.get?_push_of_some _ q) (Nat.le_refl _) (zG s.heap I.big),rfl,h _ (I.hok.fresh (Nat.le_refl _))⟩
end
noncomputable abbrev VV:List (V × V)->List (Value × Value)->Prop:=Paired λp q=>RelV p.1 q.1/\RelV p.2 q.2
structure M2 (X:Cx) (o:Expr) (m:Str) (apos:Pos) (e f:Expr) (cpos:Pos):Prop where
 base:attributeBase o m X.env (eval o X.env)=eval o X.env
 few:((backTo cpos (starEach [e,f] X.env)).all (λx=>!x.1) && (backToKw cpos (keywordEach [] X.env)).all (λx=>x.1.isSome)
  && decide (([e,f]:List Expr).length+([]:List Keyword).length+(if ([]:List Keyword).isEmpty then 0 else 1)<30))=true
 line:(apos.endLine == cpos.line)=true
 trees:backTo cpos (starEach [e,f] X.env)=[(false,eval e X.env),(false,eval f X.env)]
noncomputable def IsD (H:Hp) (a:Addr):Prop:=(∃kvs,Rd H a (.dK kvs))\/∃kvs,Rd H a (.dT kvs)
theorem zM {X:Cx} {pins:List (Addr × Obj)} {σ:St} {H:Hp} {s:Shared} {a:Addr} (I:Inv X pins σ H s) (d:IsD H a) :
  s.TypeIs (.ref a) "dict"/\(∀b,Value.ref a = .ref b->∃ob,s.heap.get? b=some ob/\ob.dict=none)/\(a == sysModules)=false:=by
 rcases d with ⟨kvs,e⟩ | ⟨kvs,e⟩
 ·obtain⟨_,hd,vs,_,dd⟩:=sO I.hok e
  refine⟨dd.typeIs,λb q=>?_,hd⟩
  cases q
  obtain⟨ob,_,_,h1,h2,_⟩:=dd
  exact⟨ob,h1,h2.2.1⟩
 ·obtain⟨_,hd,xs,_,dd⟩:=pR I.hok e
  refine⟨dd.typeIs,λb q=>?_,hd⟩
  cases q
  obtain⟨ob,_,_,h1,h2,_⟩:=dd
  exact⟨ob,h1,h2.2.1⟩
section
variable {X:Cx} {pins:List (Addr × Obj)} {σ:St} {H:Hp} {s:Shared} {a:Addr} {y d:V} {u r:Value} {o:Option V} {A:Around} {E:Value->Shared->Prop}
theorem EB {Q:Value->Shared->Prop} (hu:A.units+1<cLine) (I:Inv X pins σ H s) (g:DGet H a y o) (ry:RelV y u) (rd:RelV d r) (h:∀w' s',Inv X pins σ H s'->RelV (o.getD d) w'->Q w' s') :
  wpAny (model X.prog X.w) A (call (.builtin "dict.get") [.ref a,u,r]) Q E s:=by
 rcases g with ⟨kvs,k,e,ey,l⟩ | ⟨kvs,k,b,e,ey,eb,l⟩
 ·subst ey
  obtain⟨z,hd,vs,rel,dd⟩:=sO I.hok e
  refine call_meetsIn PySem.F.slot_dict_get dd.typeIs PySem.F.entry_dict_get (PySem.F.args_dict_get_3 _ _ _) (meets_dict_get_default (bL X.prog X.w) a (vS ry) hd r) ⟨_,dd.mapOf,h _ _ (I.tok _) ?_⟩
  rw[l]
  exact (rel.val k).getD rd
 ·subst ey
  cases (show u=Value.ref b from ry)
  obtain⟨z,hd,xs,rel,dd⟩:=pR I.hok e
  refine call_meetsIn PySem.F.slot_dict_get dd.typeIs PySem.F.entry_dict_get (PySem.F.args_dict_get_3 _ _ _) (meetsH_dict_get_default (tupleKind (bL X.prog X.w)) a b hd r) ⟨tupleKind_room_in1 hu,k,xs,rE I.hok eb,dd,h _ _ (I.tok _) ?_⟩
  rw[l]
  exact (rel.val k).getD rd
end
noncomputable def FX (td ty tx:TE):TE:=λσ H Q=>td σ H λx H1=>∃a,x = .ref a/\IsD H1 a/\ty σ H1 λy H2=>tx σ H2 λz H3=>∃o,DGet H3 a y o/\Q (o.getD z) H3
section
variable {X:Cx} {o e f:Expr} {apos cpos:Pos} {td ty tx:TE}
theorem oF (hu:X.A.units+1<cLine) (ho:PE X o td) (he:PE X e ty) (hf:PE X f tx) (m:M2 X o "get" apos e f cpos):PE X (.Call (.Attribute o "get" apos) [e,f] [] cpos) (FX td ty tx):=by
 intro pins s σ H Q I h
 refine wpAny_Call_method m.base m.few m.line PySem.F.plainAttrs_dict PySem.F.slot_dict_get PySem.F.type_dict_get (thn (ho pins s σ H _ I h) λu s1 ⟨x,H1,I1,rx,a,ex,d,q1⟩=>?_)
 subst ex
 obtain rfl:u=Value.ref a:=rx
 obtain⟨t1,t2,_⟩:=zM I1 d
 refine⟨t1,t2,?_⟩
 rw[m.trees]
 refine Calls.callWith_builtin rfl (Calls.evalArgs_plain (Calls.spliced_cons (thn (he pins s1 σ H1 _ I1 q1) λiv s2 ⟨y,H2,I2,ry,q2⟩ =>
  Calls.spliced_cons (thn (hf pins s2 σ H2 _ I2 q2) λfv s3 ⟨z,H3,I3,rz,ov,g,q3⟩=>Calls.spliced_nil ?_))))
 exact EB hu I3 g ry rz λw' s4 I4 rw'=>⟨_,H3,I4,rw',q3⟩
end
section
variable {X:Cx} {pins:List (Addr × Obj)} {σ:St} {H:Hp} {s:Shared} {a:Addr} {kvs:List (Key × V)} {A:Around} {E:Value->Shared->Prop}
end
section
variable {X:Cx} {pins:List (Addr × Obj)} {σ:St} {H:Hp} {s:Shared} {a:Addr} {y:V} {u:Value} {A:Around} {E:Value->Shared->Prop}
end
end L2
set_option Elab.async false
set_option linter.all false
set_option maxRecDepth 100000
namespace L2.R2
open PySem PySem.Spec PyProof.Rows L2
section
variable {X:Cx}
end
noncomputable def HQ:List (Int × List D)->Int->List (Int × List D)
 | [],k=>[(k,[])]
 | (k',ds)::r,k=>if k'=k then (k',ds)::r else (k',ds)::HQ r k
noncomputable def HR:List (Int × List D)->Int->D->List (Int × List D)
 | [],k,d=>[(k,[d])]
 | (k',ds)::r,k,d=>if k'=k then (k',ds++[d])::r else (k',ds)::HR r k d
section
variable {K:PySem.W.Frag} {H₀ H H':Hp} {kvs:List (Int × List D)} {kws:List (Key × V)} {as:List Addr} {k:Int}
end
section
variable {X:Cx} {e k:Expr} {pos pos' p apos cpos npos spos dpos lpos:Pos} {te tk:RE} {x:Str}
noncomputable def AK (i:Nat):RS:=λE ρ=>E.nx (ρ.set i (some (.dcl [])))
noncomputable def rDApp (i:Nat) (tk te:RE):RS:=λE ρ=>match ρ[i]? with
 | some (some (.dcl kvs))=>tk ρ λkd=>match kd with
  | .int k=>Sz (kvs.length+1)/\te (ρ.set i (some (.dcl (HQ kvs k)))) λd=>(∀p∈kvs,Sz (p.2.length+1))/\E.nx (ρ.set i (some (.dcl (HR kvs k d))))
  | _=>False
 | _=>False
noncomputable def yW:List Int->List D->Int->Option D
 | k'::ks,d::ds,k=>if k'=k then some d else yW ks ds k
 | _,_,_=>none
noncomputable def dKey:R22:=λx y Q=>match x,y with
 | .dct ks ds,.int k=>∃d,yW ks ds k=some d/\Q d
 | _,_=>False
end
end L2.R2
set_option Elab.async false
set_option linter.all false
set_option maxRecDepth 100000
set_option maxHeartbeats 1000000
namespace L2.R2
open PySem PySem.Spec PyProof.Rows L2 PySem.W
theorem iP:∀{ns:List Int} {us:List Value},IntsAre us ns->Vals (ns.map V.int) us
 | [],[],_=>.nil
 | n::ns,u::us,h=>by
  cases h with
  | cons _ t h=>exact .cons ⟨_,rfl⟩ (iP h)
noncomputable def IY (te:RE):RA:=λρ Q=>te ρ λx=>∃ns:List Int,x = .lst (ns.map .int)/\ns.length<64/\∀ms:List Int,ms.Perm ns->ms.Pairwise (·<=·)->Q (ms.map .int)
noncomputable def IZ (te:RE):RA:=λρ Q=>te ρ λx=>∃nss:List (List Int),x = .lst (nss.map eF)/\nss.length<64/\(∀ns∈nss,ns≠[])/\∀mss:List (List Int),mss.Perm nss->mss.Pairwise (λx y=>EU y x=false)->Q (mss.map eF)
noncomputable def IW (te:RE):RA:=λρ Q=>te ρ λx=>∃(ks:List Int) (ds:List D),x = .dct ks ds/\ks.length=ds.length/\Q (ks.map .int)
section
variable {X:Cx} {e:Expr} {te:RE} {p pos:Pos}
end
end L2.R2
set_option Elab.async false
set_option linter.all false
set_option maxRecDepth 100000
set_option maxHeartbeats 1000000
namespace L2.R2
open PySem PySem.Spec PyProof.Rows L2
section
variable {X:Cx} {e:Expr} {pos apos cpos npos p2 p3 p4:Pos} {te:RE} {x:Str}
noncomputable def AL (i:Nat) (te:RE):RS:=λE ρ=>match ρ[i]? with
 | some (some (.own xs))=>te ρ λd=>match d with
  | .lst ys=>Sz (xs.length+ys.length)/\E.nx (ρ.set i (some (.own (xs++ys))))
  | _=>False
 | _=>False
noncomputable def alt {α:Type}:List α->List α
 | []=>[]
 | [x]=>[x]
 | x::_::r=>x::alt r
noncomputable def rAlt (k:Nat) (te:RE):RA:=λρ Q=>te ρ λx=>match x with
 | .lst ds=>Q (alt (ds.drop k))
 | _=>False
end
section
variable {X:Cx} {tg:Expr}
noncomputable def riFar (t:RA):RA:=λρ Q=>t ρ λds=>match ds with
 | [.int i,.int j]=>Q (cY i (j-i).toNat)
 | _=>False
noncomputable def yV:R22:=λx y Q=>match x,y with
 | .bl a,.bl b=>Q (.int ((if a then 1 else 0)-(if b then 1 else 0)))
 | _,_=>False
end
end L2.R2
set_option Elab.async false
set_option linter.all false
set_option maxRecDepth 100000
set_option maxHeartbeats 1000000
namespace HT
open PySem PyProof.Rows
section
open PySem.SeqAt
open PySem.AutoSeq1 (wpAny_loadPart')
open PySem.MeetsSeq PySem.MeetsSeq2 PySem.MeetsSeq3
end
section
variable {prog:Program} {w:World} {A:Around} {E:Value->Shared->Prop} {s:Shared}
end
end HT
namespace L2.R2
open PySem PySem.Spec PyProof.Rows L2
section
variable {prog:Program} {w:World} {A:Around} {E:Value->Shared->Prop} {s:Shared}
end
section
variable {X:Cx}
noncomputable def IN:List D->(D->Prop)->Prop:=λds Q=>∃ns ms,ds=[eF ns,eF ms]/\Q (eF (if HT.lexLt ms ns=true then ms else ns))
noncomputable def IM:List D->(D->Prop)->Prop:=λds Q=>∃ns ms,ds=[eF ns,eF ms]/\Q (eF (if HT.lexLt ns ms=true then ms else ns))
end
section
variable {X:Cx} {pins:List (Addr × Obj)} {σ:St} {H:Hp} {s:Shared}
theorem Inv.thaw {a:Addr} {xs:List V} {o:Obj} (I:Inv X pins σ H s) (h:H a=some (.frz o (.lst xs))) (h0:X.H₀ a=none):Inv X pins σ (upd H a (.lst xs)) s:=by
 have nn:∀b,H b=none->upd H a (.lst xs) b=none:=λb q=>by rw[aG (by rintro rfl;rw[h] at q;cases q)];exact q
 have ne0:∀b u,X.H₀ b=some u->b≠a:=λb u q z=>by subst z;rw[h0] at q;cases q
 refine⟨I.ok,I.os,I.bare,⟨I.base.keep,I.base.slot,λb o q n x=>nn b (I.base.free b o q n x),I.base.there,λb ys q=>?_,λb o u q=>?_,λb ps q=>?_⟩,I.loc,I.cell,nn _ I.free,λx c e=>nn _ (I.freeC x c e),λp hp=>?_,λb u q=>?_,I.len⟩
 ·rw[aG (ne0 b _ q)];exact I.base.tups b ys q
 ·rw[aG (ne0 b _ q)];exact I.base.frzs b o u q
 ·rw[aG (ne0 b _ q)];exact I.base.tbls b ps q
 ·obtain⟨p1,p2,p3⟩:=I.pin p hp
  exact⟨p1,nn _ p2,p3⟩
 ·have st:∀{b:Addr} {u:HO},ObjOk X.prog X.w H s.heap b u->ObjOk X.prog X.w (upd H a (.lst xs)) s.heap b u:=λ{b u} q =>
   q.stay (λc v _ w=>w) (λc w=>by rw[aG (by rintro rfl;rw[h] at w;cases w)];exact w) λc ys w=>by rw[aG (by rintro rfl;rw[h] at w;cases w)];exact w
  by_cases hb:b=a
  ·subst hb
   rw[aR] at q;cases q
   exact st (show ObjOk X.prog X.w H s.heap b (.frz o (.lst xs)) from I.hok b _ h).2
  ·rw[aG hb] at q
   exact st (I.hok b u q)
end
section
variable {X:Cx} {e:Expr} {t:RT}
noncomputable def zT (i:Nat) (ρ:En):En:=match ρ[i]? with
 | some (some (.own ds))=>ρ.set i (some (.d (.lst ds)))
 | _=>ρ
theorem EJ (i:Nat) (h:DT X e t):DT X e (λρ Q=>t (zT i ρ) Q):=by
 intro pins s σ H Q I ⟨ρ,P,so,q,k⟩
 have q:t (zT i ρ) P:=q
 unfold zT at q
 split at q
 ·rename_i ds ex
  obtain⟨v,h1,p,vs,rfl,hp,h0,rr⟩:=so.rel i _ ex
  obtain⟨o,I2⟩:=Inv.freeze I hp
  have kp:Keep H (upd H p (.frz o (.lst vs))):=Keep.chg1 hp (.inl ⟨_,rfl⟩)
  obtain⟨so2,k2⟩:=so.updW (x':=.d (.lst ds)) (v':=.ref p) ex h1 (H':=upd H p (.frz o (.lst vs))) (λb o h w=>by rw[aG (by rintro rfl;exact w rfl)];exact h) (.lst (.inl ⟨o,aR⟩) (rr.keep kp)) λa o=>o.elim
  rw[cA h1] at so2
  refine thn (h pins s σ _ (λb H3=>P b/\Same (upd H p (.frz o (.lst vs))) H3) I2 ⟨_,P,so2,q,λb H3 hb s3=>⟨hb,s3⟩⟩) λb s1 ⟨H3,I3,hb,s3⟩=>?_
  have h3:=s3.get _ _ (aR (H:=H) (a:=p) (o:=.frz o (.lst vs))) trivial
  refine⟨upd H3 p (.lst vs),Inv.thaw I3 h3 h0,k b _ hb ⟨λc u hc nt=>?_,(kp.tbls.trans s3.tbls).trans (.of (λc φ z=>by rw[aG (by rintro rfl;rw[h3] at z;cases z)];exact z) λc ps z=>by rw[aG (by rintro rfl;rw[h3] at z;cases z)];exact z)⟩⟩
  by_cases hcp:c=p
  ·subst hcp;rw[hp] at hc;cases hc;exact aR
  ·rw[aG hcp];exact s3.get c u (by rw[aG hcp];exact hc) nt
 ·exact h pins s σ H Q I ⟨ρ,P,so,q,k⟩
end
noncomputable def jG (X:Cx) (t:RS):TS:=λDe σ H=>∃ρ E,StOk X ρ σ H/\t E ρ/\(∀ρ,¬E.nx ρ)/\(∀xs p vs H',E.rt (.lst xs)->Keep H H'->Same X.H₀ H'->X.H₀ p=none->H' p=some (.lst vs)->Reps X.K H' xs vs->De.rt (.ref p) H')
noncomputable def vX (t u:RS):RS:=λE ρ=>t { nx:=u E,rt:=λ_=>False } ρ
noncomputable def rRetO (i:Nat):RS:=λE ρ=>match ρ[i]? with
 | some (some (.own xs))=>E.rt (.lst xs)
 | _=>False
section
variable {X:Cx} {st:Stmt} {rest:List Stmt} {t u:RS} {x:Str} {p pos:Pos}
theorem pQ (h1:DS X st t) (h2:PSs X rest (jG X u)):PSs X (st::rest) (jG X (vX t u)) :=
 PSs.mono (oG h1 h2) λDe σ H ⟨ρ,E,so,q,n,r⟩=>by
  refine⟨ρ,_,so,q,λρ' σ' H' hq k s'=>⟨ρ',E,s',hq,n,λxs p vs H2 e k2 s2=>r xs p vs H2 e (k.trans k2) s2⟩,λ_ _ _ z=>z.elim,λ_ _ _ z=>z.elim,λ_ _ _ z=>z.elim⟩
end
noncomputable def spO (K:PySem.W.Frag) (F:FD):Sp:=λvs H Q _=>TabsIn K H/\∃ds P,Reps K H ds vs/\F ds P/\∀xs p us H1,P (.lst xs)->Same H H1->H1 p=none->Reps K H1 xs us->Q (.ref p) (upd H1 p (.lst us))
structure FnAtO (P:Program) (w:World) (K:PySem.W.Frag) (mg:Str->Option Value) (base:Heap) (x:Str) (ps:List Str) (k:Nat) (F:FD):Prop where
 ex:∃f fd,FnOk P w K mg base CX0 k f fd ps (spO K F)/\Binds K fd ps []/\PySem.W.keepIn K (.ref f)=true/\mg x=some (.ref f)
section
variable {P:Program} {w:World} {K:PySem.W.Frag} {mg:Str->Option Value} {base:Heap}
theorem DefAt.okO {x:Str} {st:Stmt} {N ps:List Str} {k:Nat} {F:FD} {t:RS} (Z:DefAt K mg x st ps) (Sc:FnScope N ps (aA st))
  (hbody:∀{f:Addr} (cdv:Value) (A:Around) (outer:List Env) (s:Shared) (H:Hp) (E:XK),Room k (A.deeper (envOfC x (aA st) s.heap.objs.size f cdv)) ->
   PSs (bS CX0 P w K mg base N x (aA st) f cdv A outer s H E).nox (aH st) (jG (bS CX0 P w K mg base N x (aA st) f cdv A outer s H E).nox t))
  (len:∀ds Q,F ds Q->ds.length=ps.length) (pure:∀ds Q,F ds Q->t { nx:=λ_=>False,rt:=Q } (aO N ds)):FnAtO P w K mg base x ps (k+1) F:=by
 obtain⟨f,fd,a,b,c⟩:=Z.ex
 refine⟨f,fd,?_,.all c,a.kp,b⟩
 refine a.ok Sc (λvs H Q E ⟨_,ds,P',r,h,_⟩=>by rw[<-r.length];exact len ds P' h) λcdv A outer s H vs Q E hr ⟨tb,ds,P',r,h,kk⟩=>⟨_,hbody cdv A outer s H E hr,?_⟩
 refine⟨aO N ds,_,kQ (X:=(bS CX0 P w K mg base N x (aA st) f cdv A outer s H E).nox) tb r,pure ds P' h,λ_ z=>z,λxs p us H' hq kp sm h0 hp rr=>?_⟩
 have e:H'=upd (λa=>if a=p then none else H' a) p (.lst us):=by
  funext a
  by_cases ha:a=p
  ·subst ha;rw[aR,hp]
  ·rw[aG ha,if_neg ha]
 have kp2:Keep H' (λa=>if a=p then none else H' a):=⟨λb ys q=>by rw[if_neg (by rintro rfl;rw[hp] at q;cases q)];exact q,λb o u q=>by rw[if_neg (by rintro rfl;rw[hp] at q;cases q)];exact q,λb φ q=>by rw[if_neg (by rintro rfl;rw[hp] at q;cases q)];exact q,λb fs q=>by rw[if_neg (by rintro rfl;rw[hp] at q;cases q)];exact q,.of (λb φ q=>by rw[if_neg (by rintro rfl;rw[hp] at q;cases q)];exact q) λb ps q=>by rw[if_neg (by rintro rfl;rw[hp] at q;cases q)];exact q⟩
 have sm':Same H H':=sm
 have h0':H p=none:=h0
 have:=kk xs p us (λa=>if a=p then none else H' a) hq ⟨λb u q nt=>(if_neg (by rintro rfl;rw[h0'] at q;cases q)).trans (sm'.get b u q nt),sm'.tbls.trans kp2.tbls⟩ (if_pos rfl) (rr.keep kp2)
 rw[<-e] at this
 exact this
end
noncomputable def jK (F:FD) (t:RA):RA:=λρ Q=>t ρ λds=>F ds λd=>match d with
 | .lst xs=>Q xs
 | _=>False
section
variable {X:Cx} {k:Nat} {ps:List Str} {F:FD} {x:Str} {p pos:Pos} {e:Expr} {es:List Expr} {t:RA}
theorem nR (C:FnAtO X.prog X.w X.K X.mg X.base x ps k F) (hr:Room k X.A) (ha:DA X (e::es) t) (hg:Gl X x:=by rfl)
  (hdb:(x == ("__debug__":Str))=false:=by decide) (he:starEach (e::es) X.env=(false,eval e X.env)::starEach es X.env:=by rfl) (hpl:(backTo pos (starEach es X.env)).any (·.1)=false:=by rfl) :
  DO X (.Call (.Name x p) (e::es) [] pos) (jK F t):=by
 obtain⟨f,fd,G,hb,hk,hm⟩:=C.ex
 exact PE.mono (rK (E:=E0) G hr hg hm hk hb .nil AD ha hdb he hpl) λσ H Q hh=>bR hh λρ P st q kk=>⟨ρ,_,st,q,λds vs H1 hd s1 r=>by
  show spO X.K F (vs++[]) H1 Q E0
  rw[List.append_nil]
  exact⟨(st.ext s1).tabs,ds,_,r,hd,λxs p us H2 hp s2 hn rr=>kk xs p us H2 hp (s1.trans s2) hn rr⟩⟩
end
section
variable {prog:Program} {w:World} {A:Around} {E:Value->Shared->Prop} {s:Shared}
end
section
variable {X:Cx} {tg a:Expr} {t:RA} {pos p pos2 p2:Pos}
structure RvOk (j:Int):Prop where
 lo:0<=j
 hi:j<2 ^ 62
noncomputable def JB (t:RA):RA:=λρ Q=>t ρ λds=>match ds with
 | [.int j]=>RvOk j/\Q (cY 0 j.toNat).reverse
 | _=>False
end
noncomputable def wM:R22:=λx y Q=>match x,y with
 | .lst xs,.lst ys=>xs.length=ys.length/\match eqL (eqF 5) xs ys with
  | some b=>Q (.bl !b)
  | none=>False
 | _,_=>False
section
variable {X:Cx}
theorem AA {k:Nat} (hr:Room k X.A):OpD X (compareOp .NotEq) wM:=by
 intro pins s σ H x y v u Q I rx ry hh_0
 obtain⟨d,e,P,r1,r2,q,kk⟩:=hh_0
 have hu:=hr.un
 unfold wM at q
 split at q
 ·rename_i xs ys
  obtain⟨hl,q⟩:=q
  split at q
  ·rename_i b h
   obtain⟨a,vs,rfl,h1,q1⟩:=r1.lst
   obtain⟨c,ws,rfl,h2,q2⟩:=r2.lst
   cases rx;cases ry
   obtain⟨its,rv,ht,_⟩:=I.list h1
   obtain⟨its2,rv2,ht2,_⟩:=I.list h2
   have l1:xs.length=its.length:=q1.length.trans rv.length
   have l2:ys.length=its2.length:=q2.length.trans rv2.length
   have rc:SeqAt.RcNeAt X.A s (.ref a) (.ref c) (!b):=by
    have:=SeqAt.RcNeAt.lists (A:=X.A) (s:=s) (e:=λj=>match xs[j]?,ys[j]? with | some x,some y=>(eqF 5 x y).getD false | _,_=>false) ht.isList ht2.isList (by simp;omega) (by omega) (λj g1 g2=>?_)
    ·have al:=iL h
     simp only[List.size_toArray,<-l1] at this
     rw[<-hl,Nat.min_self,beq_self_eq_true,Bool.and_true] at al
     rw[<-al]
     exact this
    ·simp only[List.size_toArray] at g1 g2
     have e1:xs[j]? = some (xs[j]'(by omega)):=List.getElem?_eq_getElem _
     have e2:ys[j]? = some (ys[j]'(by omega)):=List.getElem?_eq_getElem _
     obtain⟨k,hk⟩:=kD h j _ _ e1 e2
     rw[e1,e2]
     simp only[hk,Option.getD_some]
     obtain⟨v1,f1,f2⟩:=q1.get e1
     obtain⟨v2,f3,f4⟩:=q2.get e2
     obtain⟨u1,g3,g4⟩:=rv.get f1
     obtain⟨u2,g5,g6⟩:=rv2.get f3
     have a1:its.toArray[j]=u1:=by
      have:=List.getElem?_eq_getElem g1
      rw[this] at g3
      simpa using Option.some.inj g3
     have a2:its2.toArray[j]=u2:=by
      have:=List.getElem?_eq_getElem g2
      rw[this] at g5
      simpa using Option.some.inj g5
     rw[a1,a2]
     exact (qW I 5 hk f2 f4 g4 g6 (by show X.A.units+1+5<cLine;omega)).2
   exact rc _ _ _ _ ⟨.bl _,H,I,rfl,kk _ _ H q (Same.refl H) (.bl _)⟩
  ·exact q.elim
 ·exact q.elim
end
section
variable {K:PySem.W.Frag} {H₀ H:Hp}
end
section
variable {X:Cx} {e k:Expr} {pos pos' p p1 p2 apos cpos npos spos:Pos} {te tk:RE} {x:Str}
noncomputable def rBNew (i:Nat):RS:=λE ρ=>E.nx (ρ.set i (some (.box false [[],[]])))
noncomputable def rBApp (i:Nat) (tk te:RE):RS:=λE ρ=>match ρ[i]? with
 | some (some (.box false xss))=>tk ρ λkd=>match kd with
  | .int k=>∃(j:Nat) (ds:List D),(k=(j:Int)/\xss[j]? = some ds/\Sz (ds.length+1))/\te ρ λd=>E.nx (ρ.set i (some (.box false (xss.set j (ds++[d])))))
  | _=>False
 | _=>False
end
noncomputable abbrev zk (xss:List (List D)):List (Int × List D):=xss.map λx=>(0,x)
noncomputable def rRetB (i:Nat) (ta tb:RA):RS:=λE ρ=>match ρ[i]? with
 | some (some (.own xs))=>ta ρ λys=>tb ρ λzs=>E.rt (.tup [.lst xs,.lst ys,.lst zs])
 | _=>False
section
variable {X:Cx} {st:Stmt} {rest:List Stmt} {t u:RS} {x:Str} {p pos tp:Pos} {j:Nat} {e1 e2:Expr} {ta tb:RA}
end
section
variable {P:Program} {w:World} {K:PySem.W.Frag} {mg:Str->Option Value} {base:Heap}
end
noncomputable def rSetB (j:Nat) (F:FD) (t:RA):RS:=λE ρ=>t ρ λds=>F ds λd=>∃xss:List (List D),d = .tup (xss.map .lst)/\E.nx (ρ.set j (some (.box true xss)))
section
variable {X:Cx} {k j:Nat} {ps:List Str} {F:FD} {x y:Str} {p pos pos' cpos:Pos} {e:Expr} {es:List Expr} {t:RA}
end
section
variable {X:Cx} {pins:List (Addr × Obj)} {σ:St} {s:Shared}
end
section
variable {K:PySem.W.Frag} {H₀ H H':Hp}
end
noncomputable def lendB (i:Nat) (ρ:En):En:=match ρ[i]? with
 | some (some (.box true xss))=>ρ.set i (some (.d (.tup (xss.map .lst))))
 | _=>ρ
section
variable {X:Cx} {e:Expr} {t:RT}
end
section
variable {X:Cx} {ρ:En} {σ:St} {H:Hp}
end
noncomputable def rBFor (i j:Nat):RS:=λE ρ=>match ρ[i]? with
 | some (some (.box true xss))=>(j<ρ.length/\∀ds∈xss,Sz (ds.length+1))/\E.nx ((ρ.set j none).set i (some (.box true (xss.map (· ++ [.non])))))
 | _=>False
section
variable {X:Cx} {x y:Str} {pos cpos apos npos pos' xpos epos:Pos} {jn:Nat}
end
noncomputable def rGet2 (ta tk tf:RE):RE:=λρ Q=>ta ρ λx=>match x with
 | .dct ks ds=>tk ρ λy=>match y with
  | .int k=>tf ρ λz=>Q ((yW ks ds k).getD z)
  | _=>False
 | _=>False
section
variable {X:Cx} {a k f:Expr} {ta tk tf:RE} {apos cpos:Pos}
end
noncomputable def dInI:R22:=λx y Q=>match x,y with
 | .int i,.lst ds=>∃ns:List Int,ds=ns.map .int/\Q (.bl (decide (i∈ns)))
 | _,_=>False
section
variable {X:Cx}
end
section
variable {prog:Program} {w:World} {A:Around} {E:Value->Shared->Prop} {s:Shared}
end
noncomputable def rgLst (n:Nat) (g:RGs):RG:=λd ρ Q=>match d with
 | .lst ds=>ds.length=n/\g ds ρ Q
 | _=>False
section
variable {X:Cx} {pos:Pos}
end
noncomputable def dEqD:R22:=λx y Q=>match eqF 9 x y with
 | some b=>Q (.bl b)
 | none=>False
section
variable {X:Cx}
end
open PySem.W in
section
variable {K:PySem.W.Frag} {prog:Program} {w:World} {A:Around} {E:Value->Shared->Prop} {s:Shared} {x C:Addr} {o:Obj}
open PySem.W Builtin Builtin.ObjectAttr Builtin.Getset_descriptor
end
section
variable {P:Program} {w:World} {H H':Hp} {h h':Heap} {a:Addr} {u:HO}
end
structure FlyAt (P:Program) (w:World) (C:Addr) (outer:List Env) (H:Hp) (s:Shared) (a:Addr) (B:Heap) (a0:Value) (H':Hp) (s':Shared):Prop where
 os:s'.os=s.os
 bare:AllBare s'.gens
 same:Same H H'
 free:∀b o,s.heap.get? b=some o->H b=none->H' b=none
 bT:∀b u,H' b=some u->∀o,s'.heap.get? b=some o->B.get? b=some o
 bU:∀b o,s.heap.get? b=some o->H b=none->b ∉ frs outer->B.get? b=some o
 thr:∀b o,s.heap.get? b=some o->∃o',s'.heap.get? b=some o'
 fr:∀b∈frs outer,∀o,s.heap.get? b=some o->∃sl,s'.heap.get? b=some { o with slots:=sl }
 frn:∀b∈frs outer,H b=none/\∀o,s.heap.get? b=some o->∀vs,o.data≠.fields vs
 hok:HOk P w H' s'.heap
 fly:Heap.FlyingW B outer a (.ref C) a0 s'.heap
section
variable {P:Program} {w:World} {C:Addr} {outer:List Env} {H H':Hp} {s s':Shared} {a:Addr} {B:Heap} {a0:Value} {h6:Heap}
end
section
variable {X:Cx} {pins:List (Addr × Obj)} {σ:St} {H H1:Hp} {s s1:Shared} {C e:Addr} {E:XK} {EE:Value->Shared->Prop}
end
open PySem.W in
section
variable {X:Cx} {C:Addr} {x:Str} {np cpos pos:Pos} {msg:Str} {j:Nat} {p:Pos}
end
section
variable {X:Cx} {C:Addr} {k:Nat} {ps:List Str} {F:List D->Prop} {x:Str} {p pos:Pos} {e:Expr} {es:List Expr} {t:RA}
end
section
variable {X:Cx} {pins:List (Addr × Obj)} {σ:St} {H:Hp} {s:Shared}
end
section
variable {K:PySem.W.Frag}
open PySem.W in
end
section
variable {X:Cx} {C e:Addr} {oe:Obj} {b:Bool}
end
section
variable {X:Cx} {C:Addr} {k:Nat} {ps:List Str} {F:List D->Prop} {g:Str} {ea:Expr} {es:List Expr} {t:RA} {q1 q2 q3 q4 q5 q6 q7 q8 q9 q10 q11 q12 q13 q14 q15 q16 q17 q18 q19 q20 q21 q22 q23 q24 q25 q26 q27 q28 q29 q30 q31:Pos} {j1 j2 j3:Nat}
end
section
variable {P:Program} {w:World} {K:PySem.W.Frag} {mg:Str->Option Value} {base:Heap}
end
section
variable {X:Cx} {C:Addr} {c:Expr} {tc:RT} {x:Str} {np cpos pos pos2 p:Pos} {msg:Str} {j:Nat} {rest:List Stmt}
end
section
variable {prog:Program} {w:World} {A:Around} {E:Value->Shared->Prop} {h:Heap} {g:Array GenState} {d:Drawn} {t:Nat} {os:OsState}
variable {nm qn:Str} {C N:Addr} {bs bm bB:List Value} {hd:Bool} {sn:List Str} {sub:List Value} {ab:Bool} {col:Option Bool} {dd:Option Addr} {k0 k1 k2 k3 k5:Option Value} {B nI iI:String}
end
section
variable {K:PySem.W.Frag} {prog:Program} {w:World} {A:Around} {E:Value->Shared->Prop} {s:Shared} {e C:Addr} {oe:Obj} {x:Str} {v:Value}
open PySem.W Builtin Builtin.ObjectAttr
end
section
variable {prog:Program} {w:World} {A:Around} {E:Value->Shared->Prop} {h:Heap} {g:Array GenState} {d:Drawn} {t:Nat} {os:OsState}
variable {nm qn:Str} {C N:Addr} {bs bm:List Value} {hd:Bool} {sn:List Str} {sub:List Value} {ab:Bool} {col:Option Bool} {dd:Option Addr} {k0 k1 k2 k3 k5:Option Value} {nI:String}
end
noncomputable def Kd (e:Addr) (d:Option Addr) (h:Heap):Prop:=e<h.objs.size/\∀o,h.get? e=some o->o.dict=d
open PySem.W in
open PySem.W in
open PySem.W in
section
variable {P:Program} {w:World} {H:Hp} {h:Heap} {C e dx:Addr}
end
section
variable {X:Cx} {C Cb f:Addr} {x y self:Str} {p p0 p1 p2 apos pos pos':Pos} {msg:Str} {j i:Nat}
end
section
variable {X:Cx} {C Cb f:Addr} {y x:Str} {k:Nat} {p pos:Pos} {a:Expr} {ta:TE}
end
noncomputable def CXD (P:Program) (w:World) (C:Addr):CXT:=λouter H s E e s'=>∃a B a0 H' dx,e = .ref a/\FlyAt P w C outer H s a B a0 H' s'/\(Kd a (some dx) s'.heap/\H dx=none)/\E (.ref C) (some dx) H'
section
variable {X:Cx} {pins:List (Addr × Obj)} {σ:St} {H H1:Hp} {s s1:Shared} {C e dx:Addr} {E:XK} {EE:Value->Shared->Prop}
end
section
variable {M:Model} {A:Around} {E:Value->Shared->Prop} {env:Env} {nm q:Str} {C N:Addr} {bs bm:List Value} {hd:Bool} {sn:List Str} {sub:List Value} {ab:Bool} {col:Option Bool} {dd:Option Addr} {k0 k1 k2 k3 k5:Option Value} {nI:String}
end
theorem CXD.mono {P:Program} {w:World} {C:Addr} {outer:List Env} {H:Hp} {s s':Shared} {E E':XK} {v:Value} (h:CXD P w C outer H s E v s') (k:∀u d H',E u d H'->E' u d H'):CXD P w C outer H s E' v s':=by
 obtain⟨a,B,a0,H',dx,e1,F,kd,hE⟩:=h
 exact⟨a,B,a0,H',dx,e1,F,kd,k _ _ _ hE⟩
noncomputable def IX (PP:Int->Prop) (te:RE):RS:=λ_ ρ=>te ρ λd=>match d with
 | .int c=>PP c
 | _=>False
section
variable {X:Cx} {C Cb f:Addr} {y x:Str} {k:Nat} {p np cpos pos:Pos} {a:Expr} {te:RE} {PP:Int->Prop}
end
noncomputable abbrev FDX:=List D->(D->Prop)->(Int->Prop)->Prop
section
variable {P:Program} {w:World} {K:PySem.W.Frag} {mg:Str->Option Value} {base:Heap} {C:Addr} {y x:Str} {ps:List Str} {k:Nat}
end
noncomputable def IT (F:FDX) (PP:Int->Prop) (t:RA):RE:=λρ Q=>t ρ λds=>F ds Q PP
section
variable {X:Cx} {C:Addr} {y x:Str} {k:Nat} {ps:List Str} {F:FDX} {PP:Int->Prop} {p pos:Pos} {e:Expr} {es:List Expr} {t:RA}
end
section
variable {X:Cx} {pins:List (Addr × Obj)} {σ:St} {H:Hp} {s:Shared} {a:Addr} {φ:Heap->Prop}
end
section
variable {X:Cx} {C:Addr} {y:Str} {k:Nat} {ps:List Str} {F:FDX} {PP:Int->Prop} {x:Str} {p pos:Pos} {e:Expr} {es:List Expr} {t:RA}
end
section
variable {X:Cx} {C:Addr} {k:Nat} {ps:List Str} {F:FDX} {g y vn:Str} {ea:Expr} {es:List Expr} {t:RA} {q1 q2 q3 q4 q5 q6 q7 q8 q9 q10 q11 q12 q13 q14:Pos} {j1:Nat}
end
noncomputable abbrev FDE:=List D->(Int->Prop)->Prop
noncomputable def rSetE (j:Nat) (F:FDE) (C:Addr) (y:Str) (t:RA):RS:=λE ρ=>t ρ λds=>∃PP,F ds PP/\∀c,PP c->E.nx (ρ.set j (some (.exc C y c)))
noncomputable def rIsiE (i:Nat) (C:Addr) (b:Bool):RE:=λρ Q=>match ρ[i]? with
 | some (some (.exc C' _ _))=>C'=C/\Q (.bl b)
 | _=>False
noncomputable def rColE (i:Nat) (C:Addr) (y:Str):RE:=λρ Q=>match ρ[i]? with
 | some (some (.exc C' y' c))=>(C'=C/\y'=y)/\Q (.int c)
 | _=>False
noncomputable def rColN (te:RE):RE:=λρ Q=>te ρ λd=>match d with
 | .int c=>Q (.int c)
 | _=>False
section
variable {X:Cx} {k j i:Nat} {ps:List Str} {F:FDE} {x y z:Str} {p p1 p2 p3 p4 pos pos' cpos:Pos} {e:Expr} {es:List Expr} {t:RA} {C:Addr} {b:Bool}
end
section
variable {X:Cx} {k i:Nat} {x y:Str} {p p1 pos cpos:Pos} {a:Expr} {te:RE} {C Cb f:Addr}
end
end L2.R2
set_option Elab.async false
set_option linter.all false
set_option maxRecDepth 100000
set_option maxHeartbeats 1000000
namespace L2.R2
open PySem PySem.W PyProof.Rows
section
variable {prog:Program} {w:World} {A:Around} {E:Value->Shared->Prop} {s:Shared} {κ:SortKind} {O:KeyOrd} {k:Keyed->O.α} {G:Keyed->Prop}
noncomputable def at' (a:Array Keyed) (i:Nat):Keyed:=a.getD i (Value.none,Value.none)
section
variable {left:Bool} {key:Keyed} {arr:Array Keyed} {base n:Nat} {bey:Nat->Bool} {Q:Option Nat->SortSt->Prop} {st:SortSt}
end
end
section
variable {α:Type} {R:α->α->Prop} {al bl out A A1 A2 B B1 B2:List α}
end
section
variable {prog:Program} {w:World} {A:Around} {E:Value->Shared->Prop} {s:Shared} {κ:SortKind} {O:KeyOrd} {k:Keyed->O.α} {G:Keyed->Prop}
section
variable {a b out:Array Keyed} {ia ib m:Nat}
end
section
variable {a b out:Array Keyed} {ia ib mg ac bc n0:Nat} {st:SortSt} {F:Option Value} {P:Array (Nat × Nat × Nat)} {X:Array Keyed}
end
end
section
variable {prog:Program} {w:World} {A:Around} {E:Value->Shared->Prop} {s:Shared} {κ:SortKind} {O:KeyOrd} {k:Keyed->O.α} {G:Keyed->Prop}
section
variable {a b out:Array Keyed} {na nb q:Nat}
end
section
variable {a b out:Array Keyed} {na nb mg ac bc n0:Nat} {st:SortSt} {F:Option Value} {P:Array (Nat × Nat × Nat)} {X:Array Keyed}
end
end
section
variable {prog:Program} {w:World} {A:Around} {E:Value->Shared->Prop} {s:Shared} {κ:SortKind} {O:KeyOrd} {k:Keyed->O.α} {G:Keyed->Prop}
end
section
variable {prog:Program} {w:World} {A:Around} {E:Value->Shared->Prop} {s:Shared} {κ:SortKind} {O:KeyOrd} {k:Keyed->O.α} {G:Keyed->Prop}
structure SB (κ:SortKind) (P:Array (Nat × Nat × Nat)) (X:Array Keyed) (st:SortSt):Prop where
 kind:PyProof.Rows.kindOf st=κ
 failed:failedOf st=none
 pend:pendingOf st=P
 perm:(arrOf st).Perm X
section
variable {X:Array Keyed} {P:Array (Nat × Nat × Nat)} {st:SortSt}
theorem SB.size (B:SB κ P X st):(arrOf st).size=X.size:=B.perm.size_eq
end
end
section
variable {prog:Program} {w:World} {A:Around} {E:Value->Shared->Prop} {s:Shared} {κ:SortKind} {O:KeyOrd} {k:Keyed->O.α} {G:Keyed->Prop} {X:Array Keyed} {st:SortSt}
end
end L2.R2
set_option Elab.async false
set_option linter.all false
set_option maxRecDepth 100000
set_option maxHeartbeats 3200000
namespace L2.R2
open PySem PySem.W PySem.SetTable PyProof.Rows
section
variable {prog:Program} {w:World} {A:Around} {E:Value->Shared->Prop} {s:Shared}
end
end L2.R2
namespace L2.R2
open PySem PySem.Spec PyProof.Rows L2
noncomputable def GE (te:RE):RA:=λρ Q=>te ρ λx=>∃nss:List (List Int),x = .lst (nss.map eF)/\nss.length<76/\(∀ns∈nss,ns≠[])/\∀mss:List (List Int),mss.Pairwise (λx y=>EU y x=false)->(∀ns,ns∈mss↔ns∈nss)->mss.length<=nss.length->Q (mss.map eF)
section
variable {X:Cx} {e:Expr} {te:RE} {p pz pos posz:Pos}
end
end L2.R2
set_option Elab.async false
set_option linter.all false
set_option maxRecDepth 100000
namespace L2.R2
open PySem PySem.Spec PyProof.Rows L2 PySem.W
structure DEnt (h:Heap) (d:Addr) (es:Array DictEntry) (ep:Nat):Prop where
 ex:∃o,h.get? d=some o/\o.ExactDict/\o.data = .dict es ep
section
variable {prog:Program} {w:World} {A:Around} {E:Value->Shared->Prop} {s:Shared} {d it:Addr} {es:Array DictEntry} {ep i:Nat}
theorem DEnt.typeIs (x:DEnt s.heap d es ep):s.TypeIs (.ref d) "dict":=let ⟨o,h1,h2,_⟩:=x.ex;⟨o,h1,h2.1⟩
theorem DEnt.at {h h':Heap} (x:DEnt h d es ep) (k:∀o,h.get? d=some o->h'.get? d=some o):DEnt h' d es ep:=let ⟨o,h1,h2⟩:=x.ex;⟨o,k o h1,h2⟩
theorem DEnt.lt {h:Heap} (x:DEnt h d es ep):d<h.objs.size:=let ⟨_,h1,_⟩:=x.ex;Heap.lt_size h1
theorem wS {Q:Value->Shared->Prop} (hd:(d == sysModules)=false) (x:DEnt s.heap d es ep)
  (hQ:Q (.ref s.heap.objs.size) { s with heap:=s.heap.push { cls:=.type "dict_keyiterator",data:=.fields #[.ref d,.int 0 0,.int es.size 0,.int ep 0] } }):wpAny (model prog w) A (pyIter (.ref d)) Q E s:=by
 obtain⟨o,ho,_,hdat⟩:=x.ex
 refine wpAny_pyIter_slot x.typeIs F.slot_dict_iter (wpAny_call_entry F.slot_dict_iter x.typeIs F.entry_dict_iter ?_ (F.args_dict_iter_1 _))
 unfold Builtin.«dict.__iter__» Builtin.Dict.dictSlotNone
 refine wpAny_bind (wpAny_bind (wpAny_notOrdered_dict x.typeIs ?_))
 show wpAny _ _ (pure (Value.ref d)) _ _ s
 refine wpAny_pure ?_
 show wpAny _ _ (Builtin.Dict.showsAll d >>= _) _ _ s
 unfold Builtin.Dict.showsAll
 rw[if_neg (by rw[hd];exact Bool.false_ne_true)]
 exact wpAny_bind (wpAny_pure (wpAny_bind (wpAny_dictEntries ho hdat (wpAny_bind (wpAny_dictEpoch ho hdat (wpAny_bind (wpAny_newObj_type (wpAny_pure ⟨_,rfl,"dict_keyiterator",_,⟨_,Heap.get?_push_size _ rfl,rfl⟩,F.slot_dict_keyiterator_next.lookup,hQ⟩))))))))
theorem pP {Q:Option Value->Shared->Prop} (hit:s.heap.IsKeyIter it d i es.size ep) (x:DEnt s.heap d es ep) (hi:i<es.size)
  (hQ:∀h',h'.IsKeyIter it d (i+1) es.size ep->Heap.SameBut it s.heap h'->Q (some es[i].key) { s with heap:=h' }):wpAny (model prog w) A (pyNext (.ref it)) Q E s:=by
 obtain⟨o,ho,hc,hd⟩:=id hit
 obtain⟨od,hod,_,hdd⟩:=x.ex
 have ty:=hit.typeIs
 refine wpAny_bind (wpAny_attempt (wpAny_callSpecial?_slot (name:=Str.ofString "__next__") ty F.slot_dict_keyiterator_next (wpAny_call_entry F.slot_dict_keyiterator_next ty F.entry_dict_keyiterator_next ?_ (F.args_dict_keyiterator_next_1 _))))
 refine wpAny_bind (wpAny_pure (wpAny_bind (wpAny_bind ?_)))
 first | refine wpAny_bind (wpAny_typeNameOfWhole_keyiter ty (wpAny_pure ?_)) | refine wpAny_bind (wpAny_typeNameOf_keyiter ty (wpAny_pure ?_))
 refine wpAny_bind (wpAny_fieldsOf ho hd ?_)
 rw[if_neg (show ¬(Builtin.Dict_items.ownsTuple "dict_keyiterator")=true by decide)]
 show wpAny _ _ (if (Value.ref d == Value.none)=true then _ else _) _ _ s
 rw[if_neg (show ¬((Value.ref d == Value.none)=true) from Bool.false_ne_true)]
 refine wpAny_bind (wpAny_pure (wpAny_bind (wpAny_dictEntries hod hdd ?_)))
 rw[if_neg (by simp)]
 refine wpAny_bind (wpAny_pure (wpAny_bind (wpAny_dictEpoch hod hdd ?_)))
 rw[if_neg (by simp)]
 refine wpAny_pure ?_
 simp only[show ¬((i:Int)<0) from by omega,if_false,Int.toNat_natCast,Array.getElem?_eq_getElem hi]
 refine wpAny_bind ?_
 first | refine wpAny_bind (wpAny_typeNameOfWhole_keyiter ty (wpAny_pure ?_)) | refine wpAny_bind (wpAny_typeNameOf_keyiter ty (wpAny_pure ?_))
 refine wpAny_bind (wpAny_isOneOf_keyiter ty ?_)
 show wpAny _ _ (setField (.ref it) 1 (rawInt ((i:Int)+1)) >>= _) _ _ s
 have it':(s.heap.update it (Obj.mapFields (·.setIfInBounds 1 (rawInt ((i:Int)+1))))).IsKeyIter it d (i+1) es.size ep :=
  ⟨_,Heap.get?_update_self _ ho (Obj.isFreed_of_fields (Obj.data_mapFields hd _)),(Obj.cls_mapFields ..).trans hc,by rw[Obj.data_mapFields hd];simp[rawInt]⟩
 refine wpAny_bind (wpAny_setField ho hd (by simp) (wpAny_bind (wpAny_holding (wpAny_bind (wpAny_isOneOf_keyiter (s:={ s with heap:=s.heap.update it (Obj.mapFields (·.setIfInBounds 1 (rawInt ((i:Int)+1)))) }) it'.typeIs ?_)))))
 show wpAny _ _ (pure es[i].key) _ _ _
 exact wpAny_pure (wpAny_pure ⟨_,rfl,wpAny_pure (hQ _ it' (Heap.SameBut.update ..))⟩)
theorem sP {Q:Option Value->Shared->Prop} (hh:A.handled=none) (hit:s.heap.IsKeyIter it d es.size es.size ep) (x:DEnt s.heap d es ep)
  (hQ:∀h',Heap.ExtBut it s.heap h'->Q none { s with heap:=h' }):wpAny (model prog w) A (pyNext (.ref it)) Q E s:=by
 obtain⟨o,ho,hc,hd⟩:=id hit
 obtain⟨od,hod,_,hdd⟩:=x.ex
 have ty:=hit.typeIs
 refine wpAny_bind (wpAny_attempt (wpAny_callSpecial?_slot (name:=Str.ofString "__next__") ty F.slot_dict_keyiterator_next (wpAny_call_entry F.slot_dict_keyiterator_next ty F.entry_dict_keyiterator_next ?_ (F.args_dict_keyiterator_next_1 _))))
 refine wpAny_bind (wpAny_pure (wpAny_bind (wpAny_bind ?_)))
 first | refine wpAny_bind (wpAny_typeNameOfWhole_keyiter ty (wpAny_pure ?_)) | refine wpAny_bind (wpAny_typeNameOf_keyiter ty (wpAny_pure ?_))
 refine wpAny_bind (wpAny_fieldsOf ho hd ?_)
 rw[if_neg (show ¬(Builtin.Dict_items.ownsTuple "dict_keyiterator")=true by decide)]
 show wpAny _ _ (if (Value.ref d == Value.none)=true then _ else _) _ _ s
 rw[if_neg (show ¬((Value.ref d == Value.none)=true) from Bool.false_ne_true)]
 refine wpAny_bind (wpAny_pure (wpAny_bind (wpAny_dictEntries hod hdd ?_)))
 rw[if_neg (by simp)]
 refine wpAny_bind (wpAny_pure (wpAny_bind (wpAny_dictEpoch hod hdd ?_)))
 rw[if_neg (by simp)]
 refine wpAny_pure ?_
 simp only[show ¬((es.size:Int)<0) from by omega,if_false,Int.toNat_natCast,Array.getElem?_eq_none (Nat.le_refl es.size)]
 refine wpAny_bind ?_
 first | refine wpAny_bind (wpAny_typeNameOfWhole_keyiter ty (wpAny_pure ?_)) | refine wpAny_bind (wpAny_typeNameOf_keyiter ty (wpAny_pure ?_))
 show wpAny _ _ (setField (.ref it) 0 .none >>= _) _ _ s
 refine wpAny_bind (wpAny_setField ho hd (by simp) ?_)
 show wpAny _ _ (newExc (.type "StopIteration") [] >>= _) _ _ _
 refine wpAny_bind ?_
 simp only[newExc,newTuple]
 refine wpAny_bind (wpAny_newObj_type ?_ (by size_fits))
 refine wpAny_bind (m:=firstArgMember _ _) (wpAny_of_eq (a:=Value.none) (by first | rfl | (simp only[firstArgMember];rfl)) (wpAny_newObj_type ?_ (by size_fits)))
 simp only[raiseNew]
 refine wpAny_bind (wpAny_handled ?_)
 rw[show A.in1.handled=none from hh]
 refine wpAny_bind (wpAny_pure (wpAny_throw ?_))
 refine wpAny_bind (wpAny_isInstance (T:="StopIteration") (b:=true) ⟨_,Heap.get?_push_size _ rfl,rfl⟩ isSubtype_stop ?_)
 exact wpAny_pure (hQ _ (((Heap.SameBut.update ..).extBut.push _).push _))
theorem uF (hh:A.handled=none) (I:Addr) (ne:d≠I):Walks prog w A I [I,d] [I] es.size (λi v=>∃e,es[i]? = some e/\v=e.key) (λi h=>h.IsKeyIter I d i es.size ep/\DEnt h d es ep) where
 sub:=λb hb=>by simp at hb;simp[hb]
 frame:=λ_ _ _ st hk=>⟨st.1.at λo e=>hk I (by simp) o e,st.2.at λo e=>hk d (by simp) o e⟩
 item:=λi s Q E hi st hQ=>pP st.1 st.2 hi λh' it' hs'=>hQ _ h' s.toks ⟨_,Array.getElem?_eq_getElem hi,rfl⟩ ⟨it',st.2.at λo e=>hs'.extBut d o ne e⟩ λb o hb e=>hs'.extBut b o (λh=>hb (by simp[h])) e
 done:=λs Q E st hQ=>sP hh st.1 st.2 λh' he'=>hQ h' s.toks λb o hb e=>he' b o (λh=>hb (by simp[h])) e
 self:=λ_ _ _ _ st hQ=>wpAny_pyIter_keyiter st.1 hQ
theorem zB (lo:(d == sysModules)=false):KdlSrc prog w "dict" d d es.size (λi v=>∃e,es[i]? = some e/\v=e.key) (λh=>DEnt h d es ep) where
 type:=λ_ x=>x.typeIs
 there:=λ_ x=>⟨x.lt,x.lt⟩
 keep:=λ_ _ x hk=>x.at λo e=>hk d (.inl rfl) o e
 notList:=by decide
 notTuple:=by decide
 hint:=λ_ _ _ _ x hq=>kdl_hint_dict x.typeIs hq
 iter:=λ_ _ hh x=>⟨_,_,(λ_ _ hq=>wS lo x hq),uF hh _ (Nat.ne_of_lt x.lt),⟨⟨_,Heap.get?_push_size _ rfl,rfl,rfl⟩,x.at λo e=>Heap.get?_push_of_some _ e⟩⟩
end
noncomputable def gR (ks:List (List Int)) (k:List Int):List (List Int):=if k∈ks then ks else ks++[k]
noncomputable def putX {α:Type} (ks:List (List Int)) (xs:List α) (k:List Int) (x:α):List α:=if k∈ks then List.zipWith (λk' y=>if k'=k then x else y) ks xs else xs++[x]
noncomputable def cT:List (List Int)->List D->List Int->Option D
 | k'::ks,d::ds,k=>if k'=k then some d else cT ks ds k
 | _,_,_=>none
theorem nU {a b:List Int} (e:a.map (Sum.inl:Int->Key)=b.map Sum.inl):a=b:=by
 have z:=congrArg (List.map λx:Key=>match x with | .inl i=>i | .inr _=>0) e
 rw[List.map_map,List.map_map] at z
 simpa [Function.comp_def] using z
theorem jD {ks:List (List Int)} {vs:List V}:(aV ks vs).length=min ks.length vs.length:=by simp[aV]
theorem jE:∀{ks:List (List Int)} {vs:List V} {k:List Int},ks.length=vs.length->((aV ks vs).any (λkv=>decide (kv.1=k.map Sum.inl))=true↔k∈ks)
 | [],[],k,_=>by simp[aV]
 | [],_::_,k,h=>by cases h
 | _::_,[],k,h=>by cases h
 | k'::ks,v::vs,k,h=>by
  show (((k'.map Sum.inl,v)::aV ks vs).any _=true↔_)
  rw[List.any_cons,Bool.or_eq_true,jE (ks:=ks) (vs:=vs) (k:=k) (by simpa using h),List.mem_cons,decide_eq_true_iff]
  exact or_congr_left ⟨λe=>(nU e).symm,λe=>by rw[e]⟩
theorem nW:∀{ks:List (List Int)} {vs:List V} {k:List Int} {v:V},(aV ks vs).map (λkv=>if kv.1=k.map Sum.inl then (kv.1,v) else kv)=aV ks (List.zipWith (λk' y=>if k'=k then v else y) ks vs)
 | [],_,k,v=>by simp[aV]
 | _::_,[],k,v=>by simp[aV]
 | k'::ks,u::vs,k,v=>by
  show (if k'.map Sum.inl=k.map Sum.inl then (k'.map Sum.inl,v) else (k'.map Sum.inl,u))::(aV ks vs).map _=(k'.map Sum.inl,if k'=k then v else u)::aV ks _
  rw[nW]
  by_cases e:k'=k
  ·rw[if_pos (by rw[e]),if_pos e]
  ·rw[if_neg (λz=>e (nU z)),if_neg e]
theorem nV {ks:List (List Int)} {vs:List V} {k:List Int} {v:V} (h:ks.length=vs.length):lX (aV ks vs) (k.map Sum.inl) v=aV (gR ks k) (putX ks vs k v):=by
 unfold lX gR putX
 by_cases m:k∈ks
 ·rw[if_pos ((jE h).mpr m),if_pos m,if_pos m,nW]
 ·rw[if_neg (λz=>m ((jE h).mp z)),if_neg m,if_neg m]
  unfold aV
  rw[List.zipWith_append (by exact h)]
  rfl
theorem tM {α:Type} {ks:List (List Int)} {xs:List α} {k:List Int} {x:α} (h:ks.length=xs.length):(gR ks k).length=(putX ks xs k x).length:=by
 unfold gR putX
 by_cases m:k∈ks
 ·rw[if_pos m,if_pos m];simp[h]
 ·rw[if_neg m,if_neg m];simp[h]
theorem Reps.putX {K:PySem.W.Frag} {H:Hp} {k:List Int} {d:D} {v:V} (rv:Rep K H d v):∀{ks:List (List Int)} {ds:List D} {vs:List V},Reps K H ds vs->Reps K H (List.zipWith (λk' y=>if k'=k then d else y) ks ds) (List.zipWith (λk' y=>if k'=k then v else y) ks vs)
 | [],_,_,_=>by simp;exact .nil
 | _::_,_,_,.nil=>by simp;exact .nil
 | k'::ks,_,_,.cons r t=>by
  rw[List.zipWith_cons_cons,List.zipWith_cons_cons]
  refine .cons ?_ (Reps.putX rv t)
  by_cases e:k'=k
  ·rw[if_pos e,if_pos e];exact rv
  ·rw[if_neg e,if_neg e];exact r
theorem kA {K:PySem.W.Frag} {H:Hp} {k:List Int}:∀{ks:List (List Int)} {ds:List D} {vs:List V},Reps K H ds vs->(∀d,cT ks ds k=some d->∃v,iD (aV ks vs) (k.map Sum.inl)=some v/\Rep K H d v)/\(cT ks ds k=none->iD (aV ks vs) (k.map Sum.inl)=none)
 | [],_,_,_=>⟨λd e=>(by simp[cT] at e),λ_=>by simp[aV,iD]⟩
 | _::_,_,_,.nil=>⟨λd e=>(by simp[cT] at e),λ_=>by simp[aV,iD]⟩
 | k'::ks,d'::ds,v'::vs,.cons r t=>by
  obtain⟨a,b⟩:=kA (k:=k) (ks:=ks) t
  show (∀d,(if k'=k then some d' else cT ks ds k)=some d->∃v,iD ((k'.map Sum.inl,v')::aV ks vs) _=_/\_)/\((if k'=k then some d' else cT ks ds k)=none->iD ((k'.map Sum.inl,v')::aV ks vs) _=_)
  by_cases e:k'=k
  ·rw[if_pos e,kW (by rw[e])]
   exact⟨λd z=>by cases z;exact⟨v',rfl,r⟩,λz=>by cases z⟩
  ·rw[if_neg e,kU (λz=>e (nU z))]
   exact⟨a,b⟩
theorem iM {K:PySem.W.Frag} {H:Hp} {kk:List Int} {v:V} (r:Rep K H (.tup (kk.map .int)) v):∃b,v = .ref b/\H b=some (.tup ((kk.map (Sum.inl:Int->Key)).map kV)):=by
 cases r with
 | @tup b vs _ h r =>
  rw[Reps.ints_inv r] at h
  exact⟨b,rfl,by rw[List.map_map];exact h⟩
section
variable {X:Cx} {e k f:Expr} {pos pos' p npos apos cpos spos:Pos} {te tk tf:RE} {x:Str}
noncomputable def AS (i:Nat):RS:=λE ρ=>E.nx (ρ.set i (some (.dt [] [])))
theorem vN {i:Nat} (hN:X.N.Nodup) (hi:X.N[i]? = some x:=by rfl) (hx:Loc X.env.scope x:=by walk_at "vis") (hs:swapsWith (.Dict [] [] p) (some (.Name x pos')) pos.line X.env=pure false:=by rfl)
  (hf:X.fn x=true\/X.env.scope.names.lookup x=some .local:=by walk_at "loc"):DS X (.Assign [.Name x pos'] (.Dict [] [] p) pos) (AS i) :=
 PS.mono (uR hN hi hx AE hs hf) λDe σ H hh=>cW hh λρ E st q n r b c=>λa ha=>by
  have sm:Same H (upd H a (.dT [])):=Same.fn λb o h=>by rw[aG (aL h ha)];exact h
  exact n _ _ _ q (.of sm) (st.put sm ⟨a,[],rfl,aR,st.same.free ha,rfl,.nil⟩ λc o=>by cases o;exact ha)
noncomputable def qB (i:Nat) (tk te:RE):RS:=λE ρ=>match ρ[i]? with
 | some (some (.dt ks xs))=>te ρ λd=>tk ρ λkd=>∃kk:List Int,kd = .tup (kk.map .int)/\Sz (ks.length+1)/\E.nx (ρ.set i (some (.dt (gR ks kk) (putX ks xs kk d))))
 | _=>False
theorem vO {n:Nat} (i:Nat) (hr:Room n X.A) (hk:DE X k tk) (he:DE X e te) (hN:X.N[i]? = some x:=by rfl) (hv:Vis X.env.scope x:=by walk_at "vis") (hd:(x == ("__debug__":Str))=false:=by decide) (hcd:(x == ("__classdict__":Str))=false:=by decide)
  (hs:swapsWith e (some (.Subscript (.Name x npos) k pos')) pos.line X.env=pure false:=by rfl):DS X (.Assign [.Subscript (.Name x npos) k pos'] e pos) (qB i tk te):=by
 refine PS.mono (vV (by have:=hr.un;omega) (pv (pos:=npos) i hN hv hd hcd) hk he hs) λDe σ H hh=>cW hh λρ E so q n r bk ct=>?_
 unfold qB at q
 split at q
 ·rename_i ks xs ex
  refine⟨ρ,_,so,q,λd v H1 hd' s1 rv=>?_⟩
  have so1:=so.ext s1
  obtain⟨va,h1,a,vs,ev,ha,h0,hl,rr⟩:=so1.rel i _ ex
  subst ev
  refine⟨.ref a,h1,ρ,_,so1,hd',λkd kv H2 hk' s2 rk=>?_⟩
  obtain⟨kk,rfl,sz,fin⟩:=hk'
  obtain⟨b,rfl,hb⟩:=iM rk
  have ha2:=s2.get _ _ ha trivial
  refine⟨a,_,rfl,DPut.t ha2 hb (by rw[jD,<-hl,Nat.min_self];exact sz.ok),?_⟩
  rw[nV hl]
  have kpU:Keep H2 (upd H2 a (.dT (aV (gR ks kk) (putX ks vs kk v)))):=Keep.chg1 ha2 (.inr (.inr ⟨_,rfl⟩))
  have rr2:Reps X.K H2 xs vs:=rr.keep (.of s2)
  have rv2:Rep X.K H2 d v:=rv.keep (.of s2)
  have rp:Reps X.K H2 (putX ks xs kk d) (putX ks vs kk v):=by
   unfold putX
   by_cases m:kk∈ks
   ·rw[if_pos m,if_pos m];exact Reps.putX rv2 rr2
   ·rw[if_neg m,if_neg m];exact rr2.append (.cons rv2 .nil)
  obtain⟨so4,k4⟩:=(so1.ext s2).updW (x':=.dt (gR ks kk) (putX ks xs kk d)) (v':=.ref a) ex h1 (H':=upd H2 a (.dT (aV (gR ks kk) (putX ks vs kk v))))
   (λc o h w'=>by rw[aG (by rintro rfl;exact w' rfl)];exact h) ⟨a,_,rfl,aR,h0,tM hl,rp.keep kpU⟩ λc o=>.inl o
  rw[cA h1] at so4
  exact n _ _ _ fin (((Keep.of s1).trans (.of s2)).trans k4) so4
 ·exact q.elim
noncomputable def qA (i:Nat) (tk tf:RE):RE:=λρ Q=>match ρ[i]? with
 | some (some (.dt ks xs))=>tk ρ λkd=>tf ρ λz=>∃kk:List Int,kd = .tup (kk.map .int)/\Q ((cT ks xs kk).getD z)
 | _=>False
theorem vF {n:Nat} (i:Nat) (hr:Room n X.A) (hk:DE X k tk) (hf:DE X f tf) (hN:X.N[i]? = some x:=by rfl) (hv:Vis X.env.scope x:=by walk_at "vis") (hd:(x == ("__debug__":Str))=false:=by decide) (hcd:(x == ("__classdict__":Str))=false:=by decide)
  (m:M2 X (.Name x npos) "get" apos k f cpos:=by exact⟨rfl,rfl,rfl,rfl⟩):DE X (.Call (.Attribute (.Name x npos) "get" apos) [k,f] [] cpos) (qA i tk tf):=by
 refine PE.mono (oF (by have:=hr.un;omega) (pv (pos:=npos) i hN hv hd hcd) hk hf m) λσ H Q h=>?_
 obtain⟨ρ,P,so,q,hP⟩:=h
 unfold qA at q
 split at q
 ·rename_i ks xs ex
  obtain⟨va,h1,a,vs,ev,ha,h0,hl,rr⟩:=so.rel i _ ex
  subst ev
  refine⟨.ref a,h1,a,rfl,.inr ⟨_,.inl ha⟩,ρ,_,so,q,λkd kv H1 hk' s1 rk=>⟨ρ,_,so.ext s1,hk',λz zv H2 hz s2 rz=>?_⟩⟩
  obtain⟨kk,rfl,fin⟩:=hz
  obtain⟨b,rfl,hb⟩:=iM (rk.keep (.of s2))
  have sm:=s1.trans s2
  refine⟨_,DGet.t (sm.get _ _ ha trivial) hb,hP _ _ H2 fin sm ?_⟩
  obtain⟨va,vb⟩:=kA (k:=kk) (ks:=ks) (rr.keep (.of sm))
  cases e:cT ks xs kk with
  | some d=>obtain⟨w,g1,g2⟩:=va d e;rw[g1];exact g2
  | none=>rw[vb e];exact rz
 ·exact q.elim
noncomputable def JA (i:Nat):RA:=λρ Q=>match ρ[i]? with
 | some (some (.dt ks xs))=>Q (ks.map eF)
 | _=>False
theorem fZ {P:Program} {w:World} {H:Hp}:∀{ks:List (List Int)} {vs:List V} {xs:List (List Key × Addr × Value)},ks.length=vs.length->KT H (aV ks vs) xs ->
  ∃bs:List Addr,xs.map (λx=>(entryOfKey (tupleKind (bL P w)) x).key)=bs.map Value.ref/\bs.length=ks.length/\∀(K:PySem.W.Frag),Reps K H (ks.map eF) (bs.map V.ref)
 | [],[],_,_,t=>by cases t;exact⟨[],rfl,rfl,λ_=>.nil⟩
 | [],_::_,_,h,_=>by cases h
 | _::_,[],_,h,_=>by cases h
 | k::ks,v::vs,_,h,t=>by
  cases t with
  | @cons _ q _ qs r t =>
   obtain⟨bs,e1,e2,e3⟩:=fZ (P:=P) (w:=w) (by simpa using h) t
   refine⟨q.2.1::bs,by rw[List.map_cons,e1];rfl,by simp[e2],λK=>.cons (.tup (vs:=k.map V.int) ?_ .ints) (e3 K)⟩
   have z:=r.2.1
   rw[show ((k.map Sum.inl,v):List Key × V).1=k.map Sum.inl from rfl,List.map_map] at z
   exact z
theorem uZ {pins:List (Addr × Obj)} {σ:St} {H:Hp} {s1:Shared} {a:Addr} {ks:List (List Int)} {vs:List V} {Q:Value->Shared->Prop} {E:Value->Shared->Prop} (hc:X.calm=true) (hl:ks.length=vs.length) (ha:Rd H a (.dT (aV ks vs))) (I1:Inv X pins σ H s1)
  (h:∀(ws:List V) (h':Heap) (tk:Nat),Inv X pins σ (upd H s1.heap.objs.size (.lst ws)) { s1 with heap:=h',toks:=tk }->H s1.heap.objs.size=none->Reps X.K H (ks.map eF) ws->Q (.ref s1.heap.objs.size) { s1 with heap:=h',toks:=tk }) :
  wpAny (model X.prog X.w) X.A (call (.type "list") [.ref a]) Q E s1:=by
 obtain⟨z,hsm,ys,kt,dd⟩:=pR I1.hok ha
 obtain⟨o,es,ep,d1,d2,d3,d4,d5,d6⟩:=dd
 obtain⟨bs,b1,b2,b3⟩:=fZ (P:=X.prog) (w:=X.w) hl kt
 have sz:es.size=ks.length:=by rw[<-Array.length_toList,d4,List.length_map,<-List.length_map (f:=λx=>(entryOfKey (tupleKind (bL X.prog X.w)) x).key),b1,List.length_map,b2]
 have zk:ks.length<=sizeLine:=by rw[jD,<-hl,Nat.min_self] at z;exact z
 refine kdl_call (zB (es:=es) (ep:=ep) hsm) (I1.ok.hd hc) ⟨o,d1,d2,d3⟩ (by rw[sz];exact zk) λh' tk acc c kp g1 it=>?_
 have eacc:acc.toList=bs.map Value.ref:=by
  rw[<-b1]
  apply List.ext_getElem?
  intro j
  cases e:acc.toList[j]? with
  | none =>
   have:acc.size<=j:=by simpa using e
   rw[it.1,<-Array.length_toList,d4,List.length_map] at this
   rw[List.getElem?_eq_none (by rw[List.length_map];exact this)]
  | some v =>
   obtain⟨en,e1,e2⟩:=it.2 j v (by simpa using e)
   rw[<-Array.getElem?_toList,d4,List.getElem?_map] at e1
   rw[List.getElem?_map]
   cases q:ys[j]? with
   | none=>rw[q] at e1;cases e1
   | some y=>rw[q] at e1;cases e1;rw[e2];rfl
 have VV:Vals (bs.map V.ref) acc.toList:=by
  rw[eacc]
  clear eacc b1 b2 b3
  induction bs with
  | nil=>exact .nil
  | cons b bs ih=>exact .cons rfl ih
 exact h (bs.map V.ref) h' tk (I1.laid (a:=s1.heap.objs.size) (o:=.lst (bs.map V.ref)) (h':=h') (t':=tk) kp (Nat.le_refl _) ⟨by rw[List.length_map,b2];exact zk,acc.toList,c,VV,by simpa using g1⟩) (I1.hok.fresh (Nat.le_refl _)) (b3 X.K)
end
section
variable {X:Cx} {e a k f:Expr} {pos p apos cpos:Pos} {te ta tk tf:RE}
noncomputable def uU (te:RE):RA:=λρ Q=>te ρ λx=>∃(ks:List (List Int)) (ds:List D),x = .dtt ks ds/\Q (ks.map eF)
theorem zC (hml:X.mg "list" = none) (hc:X.calm=true) (h:DE X e te) (hgl:Gl X "list":=by rfl) (hs:starEach [e] X.env=[(false,eval e X.env)]:=by rfl) (hn:starEach [] X.env=[]:=by rfl) :
  DO X (.Call (.Name "list" p) [e] [] pos) (uU te):=by
 intro pins s σ H Q I hh_0
 obtain⟨ρ,P,so,q,kq⟩:=hh_0
 refine wpAny_Call_Name_kw (gX I hgl hml pK ?_)
 refine PyProof.Rows.callWith_type1 (thn (lN h hs hn pos pins s σ H (λvs H1=>∃(ks:List (List Int)) (ds:List D) (v:V),vs=[v]/\Same H H1/\Rep X.K H1 (.dtt ks ds) v/\P (ks.map eF)) I
  ⟨ρ,_,so,q,λx v H1 hx s1 r1=>?_⟩) λus s1 ⟨vs,H1,I1,r1,q1⟩=>?_) (by rw[hs,hn]) (by rw[hn];rfl)
 ·obtain⟨ks,ds,rfl,a2⟩:=hx
  exact⟨ks,ds,v,rfl,s1,r1,a2⟩
 obtain⟨ks,ds,v,rfl,s01,rd,hP⟩:=q1
 obtain⟨u,rfl,rx⟩:=qJ r1
 cases rd with
 | @dtt a vs _ _ o ha hl rr =>
  cases rx
  exact uZ hc hl (.inr ⟨o,ha⟩) I1 λws h' tk I4 hn b3=>⟨.ref s1.heap.objs.size,_,I4,rfl,kq _ _ _ _ hP s01 hn b3⟩
noncomputable def mC:R22:=λx y Q=>match x with
 | .dtt ks ds=>∃(kk:List Int) (d:D),y = .tup (kk.map .int)/\cT ks ds kk=some d/\Q d
 | _=>False
theorem qV {n:Nat} (hr:Room n X.A) (ha:DE X a ta) (hk:DE X k tk) (hs:DV k:=by intro _ _;rfl):DE X (.Subscript a k pos) (r2 mC ta tk):=by
 refine PE.mono (CC (by have:=hr.un;omega) ha hk hs) λσ H Q h=>?_
 obtain⟨ρ,P,st,ht,hP⟩:=h
 refine⟨ρ,_,st,ht,λx v H1 h1 s1 r1=>⟨ρ,_,st.ext s1,h1,λy u H2 h2 s2 r2=>?_⟩⟩
 unfold mC at h2
 split at h2
 ·rename_i ks ds
  obtain⟨kk,d,rfl,e,h2⟩:=h2
  obtain⟨b,rfl,hb⟩:=iM r2
  have r1':=Rep.keep (.of s2) r1
  cases r1' with
  | @dtt a vs _ _ o hh hl rr =>
   obtain⟨w,g1,g2⟩:=(kA (k:=kk) (ks:=ks) rr).1 d e
   exact⟨a,w,rfl,.inr ⟨_,_,b,.inr ⟨o,hh⟩,rfl,hb,g1.symm⟩,hP d w H2 h2 (s1.trans s2) g2⟩
 ·exact h2.elim
noncomputable def AM (ta tk tf:RE):RE:=λρ Q=>ta ρ λx=>match x with
 | .dtt ks ds=>tk ρ λy=>tf ρ λz=>∃kk:List Int,y = .tup (kk.map .int)/\Q ((cT ks ds kk).getD z)
 | _=>False
theorem BI {n:Nat} (hr:Room n X.A) (ha:DE X a ta) (hk:DE X k tk) (hf:DE X f tf) (m:M2 X a "get" apos k f cpos:=by exact⟨rfl,rfl,rfl,rfl⟩):DE X (.Call (.Attribute a "get" apos) [k,f] [] cpos) (AM ta tk tf):=by
 refine PE.mono (oF (by have:=hr.un;omega) ha hk hf m) λσ H Q h=>?_
 obtain⟨ρ,P,st,ht,hP⟩:=h
 refine⟨ρ,_,st,ht,λx v H1 h1 s1 r1=>?_⟩
 cases x with
 | dtt ks ds =>
  cases r1 with
  | @dtt a vs _ _ o hh hl rr =>
   refine⟨a,rfl,.inr ⟨_,.inr ⟨o,hh⟩⟩,ρ,_,st.ext s1,h1,λy u H2 h2 s2 r2=>⟨ρ,_,(st.ext s1).ext s2,h2,λz w H3 h3 s3 r3=>?_⟩⟩
   obtain⟨kk,rfl,fin⟩:=h3
   obtain⟨b,rfl,hb⟩:=iM (r2.keep (.of s3))
   have sm:=s2.trans s3
   refine⟨_,.inr ⟨_,_,b,.inr ⟨o,sm.get _ _ hh trivial⟩,rfl,hb,rfl⟩,hP _ _ H3 fin (s1.trans sm) ?_⟩
   obtain⟨va,vb⟩:=kA (k:=kk) (ks:=ks) (rr.keep (.of sm))
   cases e:cT ks ds kk with
   | some d=>obtain⟨w,g1,g2⟩:=va d e;rw[g1];exact g2
   | none=>rw[vb e];exact r3
 | _=>exact h1.elim
end
section
variable {prog:Program} {w:World} {A:Around} {E:Value->Shared->Prop} {s:Shared} {d it v:Addr} {es:Array DictEntry} {ep i:Nat}
theorem sQ (hd:(d == sysModules)=false):MeetsIn prog w (Builtin.«dict.keys» ⟨[.ref d],[]⟩) (λ_ R s=>s.TypeIs (.ref d) "dict"/\R (.ok (.ret (.ref s.heap.objs.size))) { s with heap:=s.heap.push { cls:=.type "dict_keys",data:=.fields #[.ref d] } }) :=
 .of_wp λA R s ⟨ty,h⟩=>by
  refine wpAny_bind ?_
  unfold Builtin.Dict.noArgs
  refine wpAny_bind (wpAny_notOrdered_dict ty ?_)
  show wpAny _ _ (pure d) _ _ s
  refine wpAny_pure ?_
  show wpAny _ _ (Builtin.Dict.showsAll d >>= _) _ _ s
  unfold Builtin.Dict.showsAll
  rw[if_neg (by rw[hd];exact Bool.false_ne_true)]
  exact wpAny_bind (wpAny_pure (wpAny_bind (wpAny_newObj_type (wpAny_pure ⟨_,rfl,h⟩))))
theorem uG {Q:Value->Shared->Prop} (hv:KdlKeysView s.heap v d) (x:DEnt s.heap d es ep)
  (hQ:Q (.ref s.heap.objs.size) { s with heap:=s.heap.push { cls:=.type "dict_keyiterator",data:=.fields #[.ref d,.int 0 0,.int es.size 0,.int ep 0] } }):wpAny (model prog w) A (pyIter (.ref v)) Q E s:=by
 obtain⟨ov,hov,hcv,hdv⟩:=id hv
 obtain⟨o,ho,_,hdat⟩:=x.ex
 refine wpAny_pyIter_slot hv.typeIs kdl_slot_keys_iter (wpAny_call_entry kdl_slot_keys_iter hv.typeIs kdl_entry_keys_iter ?_ (kdl_args_keys_iter _))
 refine wpAny_bind (wpAny_pure (wpAny_bind (wpAny_bind (wpAny_field hov hdv (x:=.ref d) rfl (wpAny_pure (wpAny_bind ?_))))))
 refine wpAny_bind (wpAny_dictEntries ho hdat (wpAny_bind (wpAny_dictEpoch ho hdat ?_)))
 dsimp only
 rw[if_neg (show ¬(Builtin.Dict_items.ownsTuple "dict_keyiterator")=true by decide)]
 exact wpAny_newObj_type (wpAny_pure ⟨_,rfl,"dict_keyiterator",_,⟨_,Heap.get?_push_size _ rfl,rfl⟩,PySem.F.slot_dict_keyiterator_next.lookup,hQ⟩)
end
noncomputable def Itk (d:Addr) (o:Obj) (es:Array DictEntry):It where
 go:=λi H=>(∃u,H d=some (.frz o u))/\i<es.size
 yld:=λi H x H'=>H'=H/\∃e b,es[i]? = some e/\e.key = .ref b/\x = .ref b
 stop:=λi H=>(∃u,H d=some (.frz o u))/\es.size<=i
theorem yH {P:Program} {w:World} {K:PySem.W.Frag} {tg:Expr} {o:Obj} {es:Array DictEntry} {ep:Nat} (d it:Addr) (bs:List Addr) (hb:es.toList.map (·.key)=bs.map Value.ref) (hx:o.ExactDict) (hd:o.data = .dict es ep):Turn P w K tg (Itk d o es) [it] it (λi h=>h.IsKeyIter it d i es.size ep/\i<=es.size) where
 mem:=by simp
 obj:=λi h st b hb=>by
  have e:b=it:=by simpa using hb
  subst e
  obtain⟨o,e,c,d⟩:=st.1
  exact⟨o,e,λv z=>by rw[d] at z;cases z⟩
 keep:=λi h h' st k=>⟨st.1.at λo e=>k it (by simp) o e,st.2⟩
 item:=by
  intro X hP hw hK hc i pins s σ H E I hf st hg
  subst hP hw hK
  obtain⟨⟨u,hu⟩,hi⟩:=hg
  obtain⟨f0,f1,f2,f3,f4,f5⟩:=hf it (by simp)
  have ho:s.heap.get? d=some o:=(I.hok d _ hu).1
  refine pP st.1 ⟨o,ho,hx,hd⟩ hi λh' st' sb=>?_
  have I1:Inv X pins σ H { s with heap:=h' }:=I.turned (t':=s.toks) (λb o hb e=>(sb.2 b hb).trans e) f0 f1 f3 f4 f5
  obtain⟨o',e,c,dd⟩:=id st'
  obtain⟨b,eb⟩:∃b,es[i].key=Value.ref b:=by
   have h1:(es.toList.map (·.key))[i]? = some es[i].key:=by rw[List.getElem?_map,Array.getElem?_toList,Array.getElem?_eq_getElem hi];rfl
   rw[hb,List.getElem?_map] at h1
   obtain⟨b,_,e⟩:=Option.map_eq_some_iff.mp h1
   exact⟨b,e.symm⟩
  exact⟨_,rfl,vR (s:={ s with heap:=h' }) e c dd (by decide) ⟨.ref b,H,I1,eb,⟨rfl,_,b,Array.getElem?_eq_getElem hi,eb,rfl⟩,⟨st',hi⟩,λb hb=>(hf b hb).1⟩⟩
 done:=by
  intro X hP hw hK hc i pins s σ H E I hf st hg
  subst hP hw hK
  obtain⟨⟨u,hu⟩,hi⟩:=hg
  obtain⟨f0,f1,f2,f3,f4,f5⟩:=hf it (by simp)
  have e:i=es.size:=Nat.le_antisymm st.2 hi
  subst e
  exact sP (I.ok.hd hc) st.1 ⟨o,(I.hok d _ hu).1,hx,hd⟩ λh' eb=>⟨rfl,I.turned (t':=s.toks) (λb o hb e=>eb b o hb e) f0 f1 f3 f4 f5⟩
 self:=λ_ _ _ _ _ st h=>wpAny_pyIter_keyiter st.1 h
noncomputable def uY (te:RE):RA:=λρ Q=>te ρ λd=>match d with
 | .dtt ks _=>Q (ks.map eF)
 | _=>False
section
variable {X:Cx} {e tg:Expr} {te:RE} {apos cpos:Pos}
theorem BK (h:DE X e te) (hbase:attributeBase e "keys" X.env (eval e X.env)=eval e X.env:=by rfl) (hline:(apos.endLine == cpos.line)=true:=by rfl) (hc:X.calm=true:=by rfl)
  (hfew:((backTo cpos (starEach [] X.env)).all (λx=>!x.1) && (backToKw cpos (keywordEach [] X.env)).all (λx=>x.1.isSome) && decide (([]:List Expr).length+([]:List Keyword).length+(if ([]:List Keyword).isEmpty then 0 else 1)<30))=true:=by rfl):DI X tg (.Call (.Attribute e "keys" apos) [] [] cpos) (uY te):=by
 intro pins s σ H R I hh_0
 obtain⟨ρ,P,st,q,kk⟩:=hh_0
 refine wpAny_Call_method hbase hfew hline PySem.F.plainAttrs_dict PySem.F.slot_dict_keys PySem.F.type_dict_keys (thn (h pins s σ H (λv H1=>∃ks ds,Same H H1/\Rep X.K H1 (.dtt ks ds) v/\P (ks.map eF)) I ⟨ρ,_,st,q,λd v H1 hd s1 r=>?_⟩) λu s1 ⟨v,H1,I1,rv,ks,ds,s01,rd,hp⟩=>?_)
 ·cases d with
  | dtt ks ds=>exact⟨ks,ds,s1,r,hd⟩
  | _=>exact hd.elim
 cases rd with
 | @dtt a vs _ _ o ha hl rr =>
  cases rv
  obtain⟨t1,t2,t3⟩:=zM I1 (.inr ⟨_,.inr ⟨o,ha⟩⟩)
  refine⟨t1,t2,?_⟩
  obtain⟨eo,z,hsm,ys,kt,o',es,ep,d1,d2,d3,d4,d6⟩:=id (I1.hok a _ ha)
  rw[eo] at d1;cases d1
  obtain⟨bs,b1,b2,b3⟩:=fZ (P:=X.prog) (w:=X.w) hl kt
  refine callWith_method0 (env:=X.env) (call_meetsIn PySem.F.slot_dict_keys t1 PySem.F.entry_dict_keys (PySem.F.args_dict_keys_1 _) (sQ hsm) ⟨t1,?_⟩)
  have I2:Inv X pins σ H1 { s1 with heap:=s1.heap.push { cls:=.type "dict_keys",data:=.fields #[.ref a] } }:=I1.kept (t':=s1.toks) λb o e=>Heap.get?_push_of_some _ e
  have sz:es.size=ks.length:=by rw[<-Array.length_toList,d4,List.length_map,<-List.length_map (f:=λx=>(entryOfKey (tupleKind (bL X.prog X.w)) x).key),b1,List.length_map,b2]
  have keys:es.toList.map (·.key)=bs.map Value.ref:=by rw[d4,List.map_map];exact b1
  refine uG (s:={ s1 with heap:=s1.heap.push { cls:=.type "dict_keys",data:=.fields #[.ref a] } }) ⟨_,Heap.get?_push_size _ rfl,rfl,rfl⟩ ⟨o,Heap.get?_push_of_some _ eo,d2,d3⟩ ?_
  have I3:Inv X pins σ H1 { s1 with heap:=(s1.heap.push { cls:=.type "dict_keys",data:=.fields #[.ref a] }).push { cls:=.type "dict_keyiterator",data:=.fields #[.ref a,.int 0 0,.int es.size 0,.int ep 0] } }:=I2.kept (t':=s1.toks) λb o e=>Heap.get?_push_of_some _ e
  refine⟨_,[_],_,_,H1,rfl,I3,yH a _ bs keys d2 d3,⟨⟨_,Heap.get?_push_size _ rfl,rfl,rfl⟩,Nat.zero_le _⟩,λb hb=>?_,?_⟩
  ·rw[List.mem_singleton.mp hb];exact I2.fpOk (Nat.le_refl _) (I2.hok.fresh (Nat.le_refl _))
  ·refine kk _ _ H1 hp s01 λi H2 kp=>⟨λd ed=>?_,λhl'=>⟨⟨_,kp.frzs _ _ _ ha⟩,by rw[sz];simpa using hl'⟩⟩
   have hi:i<ks.length:=by have:=(List.getElem?_eq_some_iff.mp ed).1;simpa using this
   refine⟨⟨⟨_,kp.frzs _ _ _ ha⟩,by rw[sz];exact hi⟩,λx H' y=>?_⟩
   obtain⟨rfl,en,b',e1,e2,rfl⟩:=y
   obtain⟨v,f1,f2⟩:=((b3 X.K).keep kp).get ed
   rw[List.getElem?_map] at f1
   obtain⟨b,g1,g2⟩:=Option.map_eq_some_iff.mp f1
   have g3:en.key=Value.ref b:=by
    have h1:(es.toList.map (·.key))[i]? = some en.key:=by rw[List.getElem?_map,Array.getElem?_toList,e1];rfl
    rw[keys,List.getElem?_map,g1] at h1
    exact (Option.some.inj h1).symm
   rw[g3] at e2;cases e2
   subst g2
   exact⟨Same.refl _,f2⟩
end
end L2.R2
set_option Elab.async false
set_option linter.all false
set_option maxRecDepth 100000
namespace L2.R2
open PySem PySem.Spec PyProof.Rows L2
noncomputable abbrev FM:=List (List Int)->List D->List D->(List Int->D->Prop)->Prop
noncomputable def spM (K:PySem.W.Frag) (F:FM):Sp:=λvs H Q _=>TabsIn K H/\∃(a:Addr) (ks:List (List Int)) (xs:List D) (ws us:List V) (ds:List D) (P:List Int->D->Prop),vs = .ref a::us/\H a=some (.dT (aV ks ws))/\ks.length=ws.length/\ks.length<sizeLine/\Reps K H xs ws/\Reps K H ds us/\F ks xs ds P /\
 ∀kk d v H1,P kk d->Same H H1->Rep K H1 d v->Q .non (upd H1 a (.dT (aV (gR ks kk) (putX ks ws kk v))))
structure FnAtM (P:Program) (w:World) (K:PySem.W.Frag) (mg:Str->Option Value) (base:Heap) (x:Str) (ps:List Str) (k:Nat) (F:FM):Prop where
 ex:∃f fd,FnOk P w K mg base CX0 k f fd ps (spM K F)/\Binds K fd ps []/\PySem.W.keepIn K (.ref f)=true/\mg x=some (.ref f)
noncomputable def CN (i:Nat) (F:FM) (t:RA):RS:=λE ρ=>match ρ[i]? with
 | some (some (.dt ks xs))=>t ρ λds=>Sz (ks.length+1)/\F ks xs ds λkk d=>E.nx (ρ.set i (some (.dt (gR ks kk) (putX ks xs kk d))))
 | _=>False
section
variable {X:Cx} {k:Nat} {ps:List Str} {F:FM} {x y:Str} {p py pos spos:Pos} {es:List Expr} {t:RA}
theorem EH (i:Nat) (C:FnAtM X.prog X.w X.K X.mg X.base x ps k F) (hr:Room k X.A) (ha:DA X es t) (hN:X.N[i]? = some y:=by rfl) (hv:Vis X.env.scope y:=by walk_at "vis") (hd:(y == ("__debug__":Str))=false:=by decide) (hcd:(y == ("__classdict__":Str))=false:=by decide)
  (hg:Gl X x:=by rfl) (hdb:(x == ("__debug__":Str))=false:=by decide) (he:starEach (.Name y py::es) X.env=(false,eval (.Name y py) X.env)::starEach es X.env:=by rfl) (hpl:(backTo pos (starEach es X.env)).any (·.1)=false:=by rfl)
  (hsw:swapsWith (.Call (.Name x p) (.Name y py::es) [] pos) none spos.line X.env=pure false:=by rfl):DS X (.Expr (.Call (.Name x p) (.Name y py::es) [] pos) spos) (CN i F t):=by
 obtain⟨f,fd,G,hb,hk,hm⟩:=C.ex
 refine PS.mono (vW (rK (E:=E0) G hr hg hm hk hb .nil AD (kI (pv (pos:=py) i hN hv hd hcd) ha he) hdb he hpl) hsw) λDe σ H hh=>cW hh λρ E so q n r bk ct=>?_
 unfold CN at q
 split at q
 ·rename_i ks xs ex
  obtain⟨va,h1,a,ws,ev,hA,h0,hl,rr⟩:=so.rel i _ ex
  subst ev
  refine⟨.ref a,h1,ρ,_,so,q,λds us H1 hds s1 ru=>?_⟩
  obtain⟨sz,hF⟩:=hds
  show spM X.K F ((.ref a::us)++[]) H1 _ E0
  rw[List.append_nil]
  have ha1:=s1.get _ _ hA trivial
  refine⟨(so.ext s1).tabs,a,ks,xs,ws,us,ds,_,rfl,ha1,hl,sz.ok,rr.keep (.of s1),ru,hF,λkk d v H2 hp s2 rv=>?_⟩
  have ha2:=s2.get _ _ ha1 trivial
  have kpU:Keep H2 (upd H2 a (.dT (aV (gR ks kk) (putX ks ws kk v)))):=Keep.chg1 ha2 (.inr (.inr ⟨_,rfl⟩))
  have rr2:Reps X.K H2 xs ws:=rr.keep (.of (s1.trans s2))
  have rp:Reps X.K H2 (putX ks xs kk d) (putX ks ws kk v):=by
   unfold putX
   by_cases m:kk∈ks
   ·rw[if_pos m,if_pos m];exact Reps.putX rv rr2
   ·rw[if_neg m,if_neg m];exact rr2.append (.cons rv .nil)
  obtain⟨so4,k4⟩:=(so.ext (s1.trans s2)).updW (x':=.dt (gR ks kk) (putX ks xs kk d)) (v':=.ref a) ex h1 (H':=upd H2 a (.dT (aV (gR ks kk) (putX ks ws kk v))))
   (λc o h w'=>by rw[aG (by rintro rfl;exact w' rfl)];exact h) ⟨a,_,rfl,aR,h0,tM hl,rp.keep kpU⟩ λc o=>.inl o
  rw[cA h1] at so4
  exact n _ _ _ hp ((Keep.of (s1.trans s2)).trans k4) so4
 ·exact q.elim
end
section
variable {X:Cx} {e k f:Expr} {pos pos' p npos apos cpos:Pos} {te tk tf:RE} {x:Str} {a:Addr} {ks:List (List Int)} {xs:List D} {ws:List V}
noncomputable def AO (i:Nat) (a:Addr) (ks:List (List Int)) (xs:List D) (tk tf:RE):RE:=λρ Q=>ρ[i]? = some (some (.raw (.ref a)))/\tk ρ λkd=>tf ρ λz=>∃kk:List Int,kd = .tup (kk.map .int)/\Q ((cT ks xs kk).getD z)
theorem BJ {n:Nat} (i:Nat) (hr:Room n X.A) (hA:X.H₀ a=some (.dT (aV ks ws))) (rr:Reps X.K X.H₀ xs ws) (hk:DE X k tk) (hf:DE X f tf) (hN:X.N[i]? = some x:=by rfl) (hv:Vis X.env.scope x:=by walk_at "vis") (hd:(x == ("__debug__":Str))=false:=by decide) (hcd:(x == ("__classdict__":Str))=false:=by decide)
  (m:M2 X (.Name x npos) "get" apos k f cpos:=by exact⟨rfl,rfl,rfl,rfl⟩):DE X (.Call (.Attribute (.Name x npos) "get" apos) [k,f] [] cpos) (AO i a ks xs tk tf):=by
 refine PE.mono (oF (by have:=hr.un;omega) (pv (pos:=npos) i hN hv hd hcd) hk hf m) λσ H Q h=>?_
 obtain⟨ρ,P,so,⟨ex,q⟩,hP⟩:=h
 obtain⟨va,h1,ev⟩:=so.rel i _ ex
 have ev:va = .ref a:=ev
 subst ev
 have ha:=so.same.get _ _ hA trivial
 refine⟨.ref a,h1,a,rfl,.inr ⟨_,.inl ha⟩,ρ,_,so,q,λkd kv H1 hk' s1 rk=>⟨ρ,_,so.ext s1,hk',λz zv H2 hz s2 rz=>?_⟩⟩
 obtain⟨kk,rfl,fin⟩:=hz
 obtain⟨b,rfl,hb⟩:=iM (rk.keep (.of s2))
 have sm:=s1.trans s2
 refine⟨_,DGet.t (sm.get _ _ ha trivial) hb,hP _ _ H2 fin sm ?_⟩
 obtain⟨va,vb⟩:=kA (k:=kk) (ks:=ks) (rr.keep (.of (so.same.trans sm)))
 cases e:cT ks xs kk with
 | some d=>obtain⟨w,g1,g2⟩:=va d e;rw[g1];exact g2
 | none=>rw[vb e];exact rz
theorem CI {n:Nat} (i:Nat) (hr:Room n X.A) (hA:X.H₀ a=some (.dT (aV ks ws))) (hl:ks.length=ws.length) (hz:ks.length<sizeLine) (hk:DE X k tk) (he:DE X e te) (hN:X.N[i]? = some x:=by rfl) (hv:Vis X.env.scope x:=by walk_at "vis") (hd:(x == ("__debug__":Str))=false:=by decide) (hcd:(x == ("__classdict__":Str))=false:=by decide)
  (hs:swapsWith e (some (.Subscript (.Name x npos) k pos')) pos.line X.env=pure false:=by rfl) :
  PS X (.Assign [.Subscript (.Name x npos) k pos'] e pos) (λDe σ H=>∃(ρ:En) (P:List Int->D->Prop),StOk X ρ σ H/\ρ[i]? = some (some (.raw (.ref a)))/\te ρ (λd=>tk ρ λkd=>∃kk:List Int,kd = .tup (kk.map .int)/\P kk d) /\
   ∀kk d v H1,P kk d->Same X.H₀ H1->Rep X.K H1 d v->De.nx σ (upd H1 a (.dT (aV (gR ks kk) (putX ks ws kk v))))):=by
 refine PS.mono (vV (by have:=hr.un;omega) (pv (pos:=npos) i hN hv hd hcd) hk he hs) λDe σ H ⟨ρ,P,so,ex,q,n⟩=>?_
 refine⟨ρ,_,so,q,λd v H1 hd' s1 rv=>?_⟩
 obtain⟨va,h1,ev⟩:=so.rel i _ ex
 have ev:va = .ref a:=ev
 subst ev
 refine⟨.ref a,h1,ρ,_,so.ext s1,hd',λkd kv H2 hk' s2 rk=>?_⟩
 obtain⟨kk,rfl,fin⟩:=hk'
 obtain⟨b,rfl,hb⟩:=iM rk
 have sm:=so.same.trans (s1.trans s2)
 refine⟨a,_,rfl,DPut.t (sm.get _ _ hA trivial) hb (by rw[jD,<-hl,Nat.min_self];exact hz),?_⟩
 rw[nV hl]
 exact n kk d v H2 fin sm (rv.keep (.of s2))
end
noncomputable abbrev RM:=(List Int->D->Prop)->En->Prop
noncomputable def sZ (X:Cx) (a:Addr) (ks:List (List Int)) (ws:List V) (t:RM):TS:=λDe σ H=>∃(ρ:En) (P:List Int->D->Prop),StOk X ρ σ H/\t P ρ /\
 ∀kk d v σ' H1,P kk d->Same X.H₀ H1->Rep X.K H1 d v->De.nx σ' (upd H1 a (.dT (aV (gR ks kk) (putX ks ws kk v))))
noncomputable def AR (t:RS) (u:RM):RM:=λP ρ=>t { nx:=u P,rt:=λ_=>False } ρ
noncomputable def AN (i:Nat) (a:Addr) (tk te:RE):RM:=λP ρ=>ρ[i]? = some (some (.raw (.ref a)))/\te ρ λd=>tk ρ λkd=>∃kk:List Int,kd = .tup (kk.map .int)/\P kk d
noncomputable def AQ (t:RA):RS:=λE ρ=>t ρ λxs=>E.rt (.lst xs)
noncomputable def oO (N:List Str) (a:Addr) (ds:List D):En:=some (.raw (.ref a))::aO N.tail ds
section
variable {X:Cx} {st:Stmt} {rest:List Stmt} {e k:Expr} {pos pos' npos:Pos} {t:RS} {u:RM} {te tk:RE} {x:Str} {a:Addr} {ks:List (List Int)} {xs:List D} {ws:List V}
theorem wU (h1:DS X st t) (h2:PSs X rest (sZ X a ks ws u)):PSs X (st::rest) (sZ X a ks ws (AR t u)) :=
 PSs.mono (oG h1 h2) λDe σ H ⟨ρ,P,so,q,n⟩ =>
  ⟨ρ,_,so,q,λρ' σ' H' hq k s'=>⟨ρ',P,s',hq,n⟩,λ_ _ _ z=>z.elim,λ_ _ _ z=>z.elim,λ_ _ _ z=>z.elim⟩
theorem wV {n:Nat} (i:Nat) (hr:Room n X.A) (hA:X.H₀ a=some (.dT (aV ks ws))) (hl:ks.length=ws.length) (hz:ks.length<sizeLine) (hk:DE X k tk) (he:DE X e te) (hN:X.N[i]? = some x:=by rfl) (hv:Vis X.env.scope x:=by walk_at "vis") (hd:(x == ("__debug__":Str))=false:=by decide) (hcd:(x == ("__classdict__":Str))=false:=by decide)
  (hs:swapsWith e (some (.Subscript (.Name x npos) k pos')) pos.line X.env=pure false:=by rfl) :
  PSs X [.Assign [.Subscript (.Name x npos) k pos'] e pos] (sZ X a ks ws (AN i a tk te)) :=
 PSs.mono (rM (CI (pos:=pos) (npos:=npos) (pos':=pos') i hr hA hl hz hk he hN hv hd hcd hs)) λDe σ H ⟨ρ,P,so,⟨q1,q2⟩,n⟩=>⟨ρ,P,so,q1,q2,λkk d v H1 hp s rv=>n kk d v σ H1 hp s rv⟩
theorem uH {t:RA} (he:DO X e t):PSs X [.Return (some e) pos] (jG X (AQ t)) :=
 PSs.mono (rM (AH he)) λDe σ H ⟨ρ,E,so,q,n,r⟩=>⟨ρ,_,so,q,λds p vs H1 hd s1 hp rr=>by
  have sm:Same H1 (upd H1 p (.lst vs)):=.fn λb o h=>by rw[aG (aL h hp)];exact h
  exact r ds p vs _ hd (.of (s1.trans sm)) (so.same.trans (s1.trans sm)) ((so.same.trans s1).free hp) aR (rr.keep (.of sm))⟩
theorem BN {sts:List Stmt} {t:RS} (i:Nat) (h:PSs X sts (jG X t)):PSs X sts (jG X (λE ρ=>t E (gB i ρ))):=by
 intro pins s σ H De I ⟨ρ,E,so,q,n,r⟩
 have q:t E (gB i ρ):=q
 unfold gB at q
 split at q
 ·rename_i x e
  obtain⟨H2,I2,so2,kp⟩:=so.fz I e
  exact h pins s σ _ De I2 ⟨_,E,so2,q,n,λxs p vs H3 x k2=>r xs p vs H3 x (kp.trans k2)⟩
 ·exact h pins s σ H De I ⟨ρ,E,so,q,n,r⟩
theorem yD {N:List Str} {ds:List D} {us:List V} (hN:0<N.length) (tb:TabsIn X.K X.H₀) (r:Reps X.K X.H₀ ds us):StOk X (oO N a ds) (fD N (.ref a::us)) X.H₀:=by
 have so:=kQ (N:=N.tail) tb r
 have e:fD N (.ref a::us)=some (.ref a)::fD N.tail us:=by
  show some _::(us.map some++List.replicate (N.length-(us.length+1)) none)=some _::(us.map some++List.replicate (N.tail.length-us.length) none)
  rw[List.length_tail]
  congr 3;omega
 rw[e]
 refine⟨by show (_+1=_+1);rw[so.len],so.same,λi y h=>?_,λi j y z v u b h1 h2 g1 g2 o1 o2=>?_,tb⟩
 ·cases i with
  | zero=>cases (show some (some (S.raw (.ref a)))=some (some y) from h);exact⟨.ref a,rfl,rfl⟩
  | succ i=>exact so.rel i y h
 ·cases i with
  | zero=>cases (show some (some (S.raw (.ref a)))=some (some y) from h1);exact o1.elim
  | succ i =>
   cases j with
   | zero=>cases (show some (some (S.raw (.ref a)))=some (some z) from h2);exact o2.elim
   | succ j=>exact congrArg (· + 1) (so.sep i j y z v u b h1 h2 g1 g2 o1 o2)
end
section
variable {P:Program} {w:World} {K:PySem.W.Frag} {mg:Str->Option Value} {base:Heap}
theorem DefAt.okM {x:Str} {st:Stmt} {N ps:List Str} {k:Nat} {F:FM} {t:Addr->List (List Int)->List D->RM} (Z:DefAt K mg x st ps) (Sc:FnScope N ps (aA st)) (hN:0<N.length)
  (hbody:∀{f:Addr} (cdv:Value) (A:Around) (outer:List Env) (s:Shared) (H:Hp) (E:XK),Room k (A.deeper (envOfC x (aA st) s.heap.objs.size f cdv))->∀a ks xs ws,H a=some (.dT (aV ks ws))->ks.length=ws.length->ks.length<sizeLine->Reps K H xs ws ->
   PSs (bS CX0 P w K mg base N x (aA st) f cdv A outer s H E).nox (aH st) (sZ (bS CX0 P w K mg base N x (aA st) f cdv A outer s H E).nox a ks ws (t a ks xs)))
  (len:∀ks xs ds Q,F ks xs ds Q->ds.length+1=ps.length) (pure:∀a ks xs ds Q,F ks xs ds Q->t a ks xs Q (oO N a ds)):FnAtM P w K mg base x ps (k+1) F:=by
 obtain⟨f,fd,a,b,c⟩:=Z.ex
 refine⟨f,fd,?_,.all c,a.kp,b⟩
 refine a.ok Sc (λvs H Q E ⟨_,p,ks,xs,ws,us,ds,P',e,_,_,_,_,r,h,_⟩=>by rw[e,List.length_cons,<-r.length];exact len ks xs ds P' h) λcdv A outer s H vs Q E hr ⟨tb,p,ks,xs,ws,us,ds,P',e,hA,hl,hz,rr,r,h,kk⟩=>⟨_,hbody cdv A outer s H E hr p ks xs ws hA hl hz rr,?_⟩
 subst e
 exact⟨_,P',yD hN tb r,pure p ks xs ds P' h,λkk' d v σ' H1 hp s1 rv=>kk kk' d v H1 hp s1 rv⟩
end
end L2.R2
set_option Elab.async false
set_option linter.all false
set_option maxRecDepth 100000
namespace L2.R2
open PySem PySem.Spec PySem.W PyProof.Rows L2
section
variable {prog:Program} {w:World} {A:Around} {E:Value->Shared->Prop} {s:Shared} {name qual:Str} {params:Arguments} {body:Expr} {scope:Scope} {clos:List (Str × Addr)} {pm ctv v:Value} {f c':Addr} {x:Str} {Q:Value->Shared->Prop}
theorem zO (hroom:A.depth<recursionLimit) (ho:s.heap.get? f=some (kla_obj name qual params body scope clos pm c' ctv)) (hcd:s.heap.CodeRec (.ref c') qual) (hnl:s.heap.NoLimit)
  (hbind:bindArgs (kla_fn name qual params body scope clos pm (.ref c') ctv) ⟨[v],[]⟩=pure [(x,v)]) (hloc:scope.names.lookup x=some .local) (hco:scope.isCoroutine=false) (hgen:scope.isGenerator=false) (hk:scope.kind = .function) (hcell:∀y∈scope.names,y.2≠.cell)
  (h:∀h₁ tk,h₁.Ns s.heap.objs.size (λy=>[(x,v)].reverse.lookup y)->(∀b o,s.heap.get? b=some o->h₁.get? b=some o) ->
   wpAny (model prog w) (A.deeper (envX qual scope s.heap.objs.size f (.ref c') clos)) (eval body (envX qual scope s.heap.objs.size f (.ref c') clos)) Q (λ_ _=>False) { s with heap:=h₁,toks:=tk }) :
  wpAny (model prog w) A (call (.ref f) [v]) Q E s:=by
 refine wpAny_call (kla_callFunE hroom ho rfl hco hgen rfl hcd ?_)
 rw[hbind]
 refine wpAny_pure (wpAny_newFunctionEnv hcell (λy hy=>by rw[List.mem_singleton.mp hy];exact hloc) (λh₁ hns hsb=>⟨hnl.fresh _ hsb,?_⟩) hk)
 have hk₁:∀b o,s.heap.get? b=some o->h₁.get? b=some o:=λb o e=>hsb.extBut b o (Nat.ne_of_lt (Heap.lt_size e)) (Heap.get?_push_of_some _ e)
 exact kla_codeExpr (wpAny_mono (h h₁ _ hns hk₁) (λu s' hq=>hq) λ_ _ z=>z.elim)
end
noncomputable def QE (prog:Program) (w:World) (A:Around) (env:Env) (h:Heap) (e:Expr) (R:Value->Prop):Prop :=
 ∀(s:Shared) (Q:Value->Shared->Prop),s.heap=h->(∀u tk,R u->Q u { s with toks:=tk })->wpAny (model prog w) A (eval e env) Q (λ_ _=>False) s
noncomputable def IsI (i:Int) (u:Value):Prop:=∃t,u = .int i t
section
variable {prog:Program} {w:World} {A:Around} {env:Env} {h:Heap} {a b:Expr} {pos:Pos} {i j:Int} {m:Str->Option Value} {x:Str}
theorem HV {u:Value} (hk:env.scope.kind = .function) (hx:env.kindOf x=some .local) (hn:h.Ns env.locals m) (hm:m x=some u) (hd:(x == ("__debug__":Str))=false:=by decide):QE prog w A env h (.Name x pos) (· = u):=λs Q e k=>by
 subst e
 exact wpAny_Name (wpAny_loadName_local hk hx hn hm (k u s.toks rfl)) hd
theorem FS {u:Value} {c:Addr} (hk:env.scope.kind = .function) (hx:env.kindOf x=some .free) (hc:env.cells.lookup x=some c) (hi:h.IsCell c (some u)) (hd:(x == ("__debug__":Str))=false:=by decide) (hcd:(x == ("__classdict__":Str))=false:=by decide):QE prog w A env h (.Name x pos) (· = u):=λs Q e k=>by
 subst e
 exact wpAny_Name (wpAny_loadName_free hk hx hc hi (k u s.toks rfl) hcd) hd
theorem DQ {n:Nat}:QE prog w A env h (.Constant (.int i) n pos) (IsI i):=λs Q e k=>wpAny_Constant_int (k _ _ ⟨_,rfl⟩)
theorem DP {op:Operator} {r:Int} (rule:∀(t u:Tok) (s:Shared) (Q:Value->Shared->Prop) (E:Value->Shared->Prop),Q (.int r s.toks) { s with toks:=s.toks+1 }->wpAny (model prog w) A (binaryOp op (.int i t) (.int j u)) Q E s)
  (ha:QE prog w A env h a (IsI i)) (hb:QE prog w A env h b (IsI j)):QE prog w A env h (.BinOp a op b pos) (IsI r):=λs Q e k=>by
 refine wpAny_BinOp (ha s _ e λu tk hu=>hb _ _ e λv tk2 hv=>?_)
 obtain⟨t,rfl⟩:=hu
 obtain⟨t2,rfl⟩:=hv
 exact rule t t2 _ Q _ (k _ _ ⟨_,rfl⟩)
theorem HW (hc:IntMulOk i j) (ha:QE prog w A env h a (IsI i)) (hb:QE prog w A env h b (IsI j)):QE prog w A env h (.BinOp a .Mult b pos) (IsI (i*j)):=DP (λ_ _ _ _ _ q=>mul_int q hc) ha hb
theorem FR (hc:DivOk i j) (ha:QE prog w A env h a (IsI i)) (hb:QE prog w A env h b (IsI j)):QE prog w A env h (.BinOp a .FloorDiv b pos) (IsI (i.fdiv j)):=DP (λ_ _ _ _ _ q=>floordiv_int hc.nz q (.inl hc.np)) ha hb
theorem HU {p:Addr} {its:List Value} {n:Nat} {u:Value} (ha:QE prog w A env h a (· = .ref p)) (hb:QE prog w A env h b (IsI (n:Int))) (ht:IsTup h p its.toArray) (hz:its.length<=sizeLine) (hu:its[n]? = some u) (hs:qL b):QE prog w A env h (.Subscript a b pos) (· = u):=λs Q e k=>by
 subst e
 refine Subscript_ (ha s _ rfl λo tk ho=>hb _ _ rfl λv tk2 hv=>?_)
 obtain rfl:o = .ref p:=ho
 obtain⟨t,rfl⟩:=hv
 obtain⟨j,h1,h2,h3,h4,h5⟩:=qN (cK (xs:=its) hu)
 have l63:=rG
 exact subscriptTail_builtinR (x:=u) ht.typeIs slot_tuple_getitem.lookup
  (getItem_tuple (j:=j) (Q:=λr s'=>r=u/\Q r s') ht (by omega) (by omega) (by rw[List.size_toArray];exact h1) (by simpa using h2) ⟨rfl,k u _ rfl⟩) (hs _ _)
end
noncomputable def e0H:Heap:={ objs:=#[] }
section
variable {prog:Program} {w:World} {A:Around} {E:Value->Shared->Prop} {s:Shared} {L l f:Addr} {m:Str->Option Value} {vs:List Value} {kz:List Int} {Q:Value->Shared->Prop}
theorem kB (b:Addr):e0H.get? b=none:=by simp[e0H,Heap.get?]
theorem AY (hL:s.heap.Ns L m) (hl:s.heap.IsList l vs.toArray) (hlen:kz.length=vs.length) (h64:vs.length<64) (hf:s.heap.objs.size=f+1) (hfo:∃o,s.heap.get? f=some o) (hfL:f≠L)
  (turn:∀(i:Nat) (v:Value) (k:Int),vs[i]? = some v->kz[i]? = some k->∀(h:Heap) (tk:Nat),(∀b o,b≠L->s.heap.get? b=some o->h.get? b=some o)->h.Ns L m ->
   wpAny (model prog w) A.in1.in1 (call (.ref f) [v]) (λu s'=>∃h' tk' t',s' = { s with heap:=h',toks:=tk' }/\u = .int k t'/\∀b o,h.get? b=some o->h'.get? b=some o) (λ_ _=>False) { s with heap:=h,toks:=tk })
  (q:∀D h' tk out c,(∀b o,b≠L->s.heap.get? b=some o->h'.get? b=some o)->h'.Ns L m->s.heap.objs.size<=D->h'.get? D=some (seqObj "list" out c)->KskOut false kz vs out.toList->Q (.ref D) { s with heap:=h',toks:=tk }) :
  wpAny (model prog w) A (call (.builtin "sorted") [.ref l] [(Str.ofString "key",.ref f)]) Q E s:=by
 have F:Fr e0H L s.heap m:=⟨hL,λb o e=>(by rw[kB] at e;cases e),Nat.zero_le _⟩
 have old:∀{h:Heap} {own:List (Addr × Obj)},News e0H L h (jU e0H s.heap L++own)->∀b o,b≠L->s.heap.get? b=some o->h.get? b=some o:=λ{h own} N b o n e =>
  (N (b,o) (List.mem_append_left _ (gY n (kB b) e))).1
 refine ksk_sorted (kz:=kz) (f:=.ref f) (b:=false) F (zX (g:=e0H) (h:=s.heap) (L:=L)) hl hlen h64 (ksk_s1 _ _) (λx=>ksk_l1 _ _) (λx=>ksk_t1 f x) (λi v k hv hk h tk own Fh N=>?_) λD h' tk out c F' N' hlt ko=>?_
 ·refine wpAny_mono (turn i v k hv hk h tk (old N) Fh.ns) (λu s' hu=>?_) λ_ _ z=>z
  obtain⟨h',tk',t',rfl,rfl,kp⟩:=hu
  exact⟨h',tk',t',rfl,rfl,⟨Fh.ns.keeps kp,λb o e=>(by rw[kB] at e;cases e),Nat.zero_le _⟩,λp hp=>⟨kp _ _ (N p hp).1,(N p hp).2⟩⟩
 ·obtain⟨o,ho⟩:=hfo
  have h1:f<D:=hlt (f,o) (gY hfL (kB f) ho)
  refine q D h' tk out c (λb o n e=>(N' (b,o) (List.mem_cons_of_mem _ (gY n (kB b) e))).1) F'.ns (by rw[hf];exact h1) (N' _ List.mem_cons_self).1 ko
end
end L2.R2
set_option Elab.async false
set_option linter.all false
set_option maxRecDepth 100000
namespace L2.R2
open PySem PySem.Spec PyProof.Rows L2
section
variable {P:Program} {w:World} {K:PySem.W.Frag} {mg:Str->Option Value} {base:Heap}
theorem sG {x qual:Str} {st:Stmt} {f c T:Addr} {oc kV doc pm cdv ct:Value} {od an:Option Addr} {osl:Array (Option Value)} (M:Mod K mg base) (hm:mg x=some (.ref f))
  (lk:K.lookup f=some ⟨oc,od,.func (PySem.W.fnOf x qual (aX st) (aH st) (aA st) .none kV doc pm an cdv ct),osl⟩) (e:PySem.W.tabIn K x=some (c,T)):cdv = .ref c:=by
 unfold PySem.W.tabIn at e
 split at e
 ·rename_i f' hf
  have e1:=PySem.W.mg_of M.kin M.glob hf
  rw[hm] at e1;cases e1
  rw[lk] at e
  dsimp only at e
  split at e
  ·split at e
   ·split at e
    ·cases e;rfl
    ·cases e
   ·cases e
  ·cases e
 ·cases e
theorem DefAt.okC {x:Str} {st:Stmt} {N ps:List Str} {k:Nat} {F:FD} {t:RS} (Z:DefAt K mg x st ps) (Sc:FnScope N ps (aA st))
  (hbody:∀{f:Addr} (cdv:Value) (A:Around) (outer:List Env) (s:Shared) (H:Hp) (E:XK),(∀c T,PySem.W.tabIn K x=some (c,T)->cdv = .ref c)->Room k (A.deeper (envOfC x (aA st) s.heap.objs.size f cdv)) ->
   DSs (bS CX0 P w K mg base N x (aA st) f cdv A outer s H E).nox (aH st) t)
  (len:∀ds Q,F ds Q->ds.length=ps.length) (pure:∀ds Q,F ds Q->t { nx:=λ_=>Q .non,rt:=Q } (aO N ds)):FnAt P w K mg base x ps (k+1) F:=by
 obtain⟨f,fd,a,b,c⟩:=Z.ex
 obtain⟨oc,od,kV,doc,pm,an,cdv,ct,osl,rfl,lk,hcd⟩:=a.ex
 have main:Mod K mg base->FnOk P w K mg base CX0 (k+1) f (PySem.W.fnOf x x (aX st) (aH st) (aA st) .none kV doc pm an cdv ct) ps (spD K F):=λM =>
  CY lk hcd Sc (λvs H Q E ⟨_,ds,P',r,h,_⟩=>by rw[<-r.length];exact len ds P' h) λA outer s H vs Q E hr ⟨tb,ds,P',r,h,kk⟩ =>
   ⟨_,(hbody cdv A outer s H E (λc T e=>sG M b lk e) hr).nox,⟨aO N ds,_,kQ (X:=(bS CX0 P w K mg base N x (aA st) f cdv A outer s H E).nox) tb r,pure ds P' h,λρ' σ' H' hq k s'=>kk .non .non H' hq s'.same .non,λd v H' hq k sm rv=>kk d v H' hq sm rv,λ_ _ _ z=>z.elim,λ_ _ _ z=>z.elim⟩⟩
 exact⟨f,_,⟨λvs H Q E ⟨_,ds,P',r,h,_⟩=>by rw[<-r.length];exact len ds P' h,λA outer s H args us vs Q E hr e0 hb r hs=>(main e0.mod).run A outer s H args us vs Q E hr e0 hb r hs⟩,.all c,a.kp,b⟩
end
structure LamW (K:PySem.W.Frag) (mg:Str->Option Value) (base:Heap) (x:Str) (c T:Addr):Prop where
 tab:PySem.W.tabIn K x=some (c,T)
 hd:PySem.W.CodeHd base c T
 blt:base.BuiltinsAt mg T
 ne:mainGlobals≠T
section
variable {X:Cx} {pins:List (Addr × Obj)} {σ:St} {H:Hp} {s:Shared}
theorem yS {P:Program} {w:World} {h:Heap} {c:Addr} {q:Str} {oc:Obj} {vs:Array Value} {t:Tok} (e:h.get? c=some oc) (hd:oc.data = .fields vs) (hv:vs[1]? = some (.str q t)):ObjOk P w H h c (jN c q) :=
 ⟨⟨oc,vs,t,e,hd,hv⟩,⟨_,e⟩,λh1 h2 ⟨oc,vs,t,e,d,v⟩ k=>⟨oc,vs,t,k _ e,d,v⟩⟩
theorem tZ {pos pos':Pos} {c cv:Value} (l:List Value) (ht:TriplesOk l) (h:codeAmong pos' (l++[rawInt pos.line,rawInt pos.col,c])=some cv):codeAmong pos' l=some cv\/(cv=c/\pos'.col=pos.col):=by
 fun_induction TriplesOk l with
 | case1 =>
  simp only[List.nil_append,codeAmong,rawInt] at h
  split at h
  ·rename_i hh
   cases h
   refine .inr ⟨rfl,?_⟩
   simp at hh
   omega
  ·cases h
 | case2 a' t b' u x rest ih =>
  simp only[List.cons_append,codeAmong] at h ⊢
  split at h
  ·rename_i hh
   rw[if_pos hh];exact .inl h
  ·rename_i hh
   rw[if_neg hh];exact ih ht h
 | case3 l h1 h2=>exact ht.elim
theorem zQ {ρ:En} {x:Str} {c T:Addr} {params:Arguments} {body:Expr} {scope:Scope} {lpos:Pos} {clos:List (Str × Addr)} {Q:Value->Shared->Prop} {E:Value->Shared->Prop} (so:StOk X ρ σ H) (I:Inv X pins σ H s) (W:LamW X.K X.mg X.base x c T) (hx:x∈eC) (hcd:X.env.code = .ref c)
  (hdef:defaultsOf params X.env=([],[])) (hcl:closureFor scope X.env=pure clos) (hqual:X.env.qual ++ "<lambda>" = eO lpos.col)
  (h:∀H2 h' f c' ctv tk,Inv X pins σ H2 { s with heap:=h',toks:=tk }->Same H H2->h'.objs.size=f+1->H2 f=none->s.heap.objs.size<=f->h'.get? f=some (PySem.W.kla_obj "<lambda>" (eO lpos.col) params body scope clos ((X.mg "__name__").getD .none) c' ctv)->h'.CodeRec (.ref c') (eO lpos.col) ->
   Q (.ref f) { s with heap:=h',toks:=tk }):wpAny (model X.prog X.w) X.A (eval (.Lambda params body scope lpos) X.env) Q E s:=by
 obtain⟨ps,hT,ok⟩:=so.tabs x c T hx W.tab
 have hP:s.heap.get? T=some (PySem.W.tabObj ps):=I.hok T _ hT
 have hg:s.heap.Ns mainGlobals X.mg:=I.mod.glob.keeps I.bk
 refine PySem.W.kla_eval hdef ?_
 rw[hqual]
 cases hn:codeAmong lpos ps.toList with
 | none =>
  refine PySem.W.kla_makeFunction hcl I.ok.glob hg hcd (W.hd.keeps I.bk) hP ok.ok hn W.ne (W.blt.keeps I.bk) λc' ctv h' tk hx' hge hlt hrec htb=>?_
  obtain⟨c2,oc,vs,t,e2,hoc,hd,hv⟩:=id hrec
  cases e2
  have nT:∀b o,H b=some o->(∀qs,o≠.tbl qs)->b≠T:=λb o q n z=>by subst z;rw[hT] at q;cases q;exact n _ rfl
  have ncp:H c'=none:=I.hok.fresh hge
  have nTc:T≠c':=aL hT ncp
  have up:∀b o,b≠T->s.heap.get? b=some o->(h'.push (PySem.W.kla_obj "<lambda>" (eO lpos.col) params body scope clos ((X.mg "__name__").getD .none) c' ctv)).get? b=some o:=λb o n e=>Heap.get?_push_of_some _ (hx' b o n e)
  have size:s.heap.objs.size<=h'.objs.size:=Nat.le_trans hge (Nat.le_of_lt hlt)
  have at2:∀b o,H b=some o->b≠T->upd (upd H c' (jN c' (eO lpos.col))) T (.tbl (ps ++ #[rawInt lpos.line,rawInt lpos.col,.ref c'])) b=some o:=λb o q n=>by
   rw[aG n,aG (aL q ncp)];exact q
  have codeAt:upd (upd H c' (jN c' (eO lpos.col))) T (.tbl (ps ++ #[rawInt lpos.line,rawInt lpos.col,.ref c'])) c'=some (jN c' (eO lpos.col)):=by rw[aG (Ne.symm nTc),aR]
  have lamk:LamK H (upd (upd H c' (jN c' (eO lpos.col))) T (.tbl (ps ++ #[rawInt lpos.line,rawInt lpos.col,.ref c']))):=λb qs q=>by
   by_cases hb:b=T
   ·subst hb
    rw[hT] at q;cases q
    refine⟨_,aR,λ_=>⟨?_,λpos cv z=>?_⟩⟩
    ·rw[Array.toList_append];exact TriplesOk_snoc _ _ _ _ ok.ok
    ·rw[Array.toList_append] at z
     rcases tZ (pos:=lpos) (c:=.ref c') _ ok.ok z with z | ⟨rfl,zc⟩
     ·obtain⟨d,e1,e3⟩:=ok.code pos cv z
      exact⟨d,e1,at2 d _ e3 (nT d _ e3 λ_ z=>by cases z)⟩
     ·exact⟨c',rfl,by rw[zc];exact codeAt⟩
   ·refine⟨#[],by rw[Array.append_empty];exact at2 b _ q hb,λk=>by rw[Array.append_empty];exact k.mono λd φ z=>at2 d _ z (nT d _ z λ_ z=>by cases z)⟩
  have sm:Same H (upd (upd H c' (jN c' (eO lpos.col))) T (.tbl (ps ++ #[rawInt lpos.line,rawInt lpos.col,.ref c']))):=⟨λb o q nt=>at2 b o q (nT b o q λqs z=>by subst z;exact nt),lamk⟩
  have hok:HOk X.prog X.w (upd (upd H c' (jN c' (eO lpos.col))) T (.tbl (ps ++ #[rawInt lpos.line,rawInt lpos.col,.ref c']))) (h'.push (PySem.W.kla_obj "<lambda>" (eO lpos.col) params body scope clos ((X.mg "__name__").getD .none) c' ctv)):=λb u q=>by
   by_cases hb:b=T
   ·subst hb
    rw[aR] at q;cases q
    exact Heap.get?_push_of_some _ htb
   ·rw[aG hb] at q
    by_cases hc:b=c'
    ·subst hc
     rw[aR] at q;cases q
     exact yS (Heap.get?_push_of_some _ hoc) hd hv
    ·rw[aG hc] at q
     refine (I.hok b u q).stay (λd v hd' e=>up d v ?_ e) (λd e=>at2 d _ e (nT d _ e λ_ z=>by cases z)) λd xs e=>at2 d _ e (nT d _ e λ_ z=>by cases z)
     rcases hd' with rfl | z
     ·exact hb
     ·exact nT d _ z λ_ z=>by cases z
  have un:Un X.fs [] H (upd (upd H c' (jN c' (eO lpos.col))) T (.tbl (ps ++ #[rawInt lpos.line,rawInt lpos.col,.ref c']))) s.heap (h'.push (PySem.W.kla_obj "<lambda>" (eO lpos.col) params body scope clos ((X.mg "__name__").getD .none) c' ctv)):=by
   have neT:∀b,H b=none->b≠T:=λb n z=>by subst z;rw[hT] at n;cases n
   refine⟨λb o e n _ _=>up b o (neT b n) e,λb o e n _ _=>⟨o.slots,up b o (neT b n) e⟩,λb o e n _=>?_,λb o e _=>?_,λb xs q=>sm.get b _ q trivial,λb o u q=>sm.get b _ q trivial,λb qs q=>sm.tbl q⟩
   ·rw[aG (neT b n),aG (Nat.ne_of_lt (Nat.lt_of_lt_of_le (Heap.lt_size e) hge))];exact n
   ·by_cases hb:b=T
    ·subst hb;exact⟨_,Heap.get?_push_of_some _ htb⟩
    ·exact⟨o,up b o hb e⟩
  refine h _ _ h'.objs.size c' ctv tk (I.un un hok) sm (Heap.size_push ..) ?_ size (Heap.get?_push_size _ rfl) ⟨c',oc,vs,t,rfl,Heap.get?_push_of_some _ hoc,hd,hv⟩
  have fr:H h'.objs.size=none:=I.hok.fresh size
  rw[aG (Ne.symm (aL hT fr)),aG (Nat.ne_of_gt hlt)]
  exact fr
 | some cv =>
  obtain⟨c',rfl,hc'⟩:=ok.code lpos cv hn
  obtain⟨⟨oc,vs,t,hoc,hd,hv⟩,_⟩:=I.hok c' _ hc'
  refine PySem.W.kla_makeFunctionHit hcl I.ok.glob hg hcd (W.hd.keeps I.bk) hP ok.ok hn (W.blt.keeps I.bk) λctv h' tk hk hsz=>?_
  exact h H _ h'.objs.size c' ctv tk (I.kept λb o e=>Heap.get?_push_of_some _ (hk b o e)) (Same.refl H) (Heap.size_push ..) (I.hok.fresh hsz) hsz (Heap.get?_push_size _ rfl) ⟨c',oc,vs,t,rfl,Heap.get?_push_of_some _ (hk _ _ hoc),hd,hv⟩
end
theorem tJ {α β:Type} {g:α->β}:∀{l1 l0:List β},l1.Perm l0->∀l2:List α,l0=l2.map g->∃l3:List α,l3.Perm l2/\l1=l3.map g:=by
 intro l1 l0 h
 induction h with
 | nil=>intro l2 e;exact⟨[],by rw[List.map_eq_nil_iff.mp e.symm],rfl⟩
 | cons x p ih =>
  intro l2 e
  cases l2 with
  | nil=>cases e
  | cons a l2 =>
   obtain⟨e1,e2⟩:=List.cons.inj e
   obtain⟨l3,p3,e3⟩:=ih l2 e2
   exact⟨a::l3,p3.cons a,by rw[List.map_cons,e3,e1]⟩
 | swap x y l =>
  intro l2 e
  match l2,e with
  | a::b::l2,e =>
   obtain⟨e1,e2⟩:=List.cons.inj e
   obtain⟨e3,e4⟩:=List.cons.inj e2
   exact⟨b::a::l2,List.Perm.swap ..,by simp[e1,e3,e4]⟩
 | trans p1 p2 ih1 ih2 =>
  intro l2 e
  obtain⟨l3,p3,e3⟩:=ih2 l2 e
  obtain⟨l4,p4,e4⟩:=ih1 l3 e3
  exact⟨l4,p4.trans p3,e4⟩
theorem HD {h:Heap} {L:Addr} {m m':Str->Option Value} (a:h.Ns L m) (b:h.Ns L m'):m=m':=a.eq_nsMap.trans b.eq_nsMap.symm
noncomputable abbrev pr2 (p:Int × Int):D:=.tup [.int p.1,.int p.2]
noncomputable def rP (j:Nat) (te:RE):RA:=λρ Q=>te ρ λx=>∃(B:Int) (fs:List (Int × Int)),ρ[j]? = some (some (.d (.int B)))/\x = .lst (fs.map pr2)/\fs.length<64/\(∀f∈fs,DivOk B f.2/\MulOk f.1 (B.fdiv f.2)) /\
 ∀gs:List (Int × Int),gs.Perm fs->gs.Pairwise (λp q=>p.1*B.fdiv p.2<=q.1*B.fdiv q.2)->Q (gs.map pr2)
theorem _root_.L2.Inv.frame {X:Cx} {pins:List (Addr × Obj)} {σ:St} {H:Hp} {s:Shared} {h':Heap} {tk:Nat} {m:Str->Option Value} (I:Inv X pins σ H s) (hn:s.heap.Ns X.env.locals m) (hn':h'.Ns X.env.locals m) (k:∀b o,b≠X.env.locals->s.heap.get? b=some o->h'.get? b=some o):Inv X pins σ H { s with heap:=h',toks:=tk }:=by
 have nL:∀b u,H b=some u->b≠X.env.locals:=λb u e z=>by rw[z,I.free] at e;cases e
 refine I.step (g':=s.gens) (d':=s.drawn) (ch:=[]) (λ_ z=>nomatch z) (λb o n _ _ e _=>k b o n e) (λb o n _ _ e _=>⟨o.slots,k b o n e⟩) (λ_ _ _ _ n=>n) (λb o _ e=>?_) (λ_ _ e=>e) (λ_ _ _ e=>e) (λb ps e=>⟨#[],by rw[e];simp⟩) (λm' hm=>?_) (λb u e=>?_) I.bare
 ·by_cases hb:b=X.env.locals
  ·subst hb;obtain⟨o',_,_,e',_⟩:=hn';exact⟨o',e'⟩
  ·exact⟨o,k b o hb e⟩
 ·rw[HD hm hn];exact hn'
 ·refine (I.hok b u e).stay (λc v hc q=>k c v ?_ q) (λ_ q=>q) λ_ _ q=>q
  rcases hc with rfl | hc
  ·exact nL c u e
  ·exact nL c _ hc
theorem oM {K:PySem.W.Frag} {H:Hp}:∀(l:List ((Int × Int) × Value)),(∀x∈l,∃v,RelV v x.2/\Rep K H (pr2 x.1) v)->∃ws:List V,Vals ws (l.map (·.2))/\Reps K H (l.map λx=>pr2 x.1) ws
 | [],_=>⟨[],.nil,.nil⟩
 | x::l,h=>by
  obtain⟨ws,h1,h2⟩:=oM l λy hy=>h y (List.mem_cons_of_mem _ hy)
  obtain⟨v,r1,r2⟩:=h x List.mem_cons_self
  exact⟨v::ws,.cons r1 h1,.cons r2 h2⟩
theorem zP {x y:Str} {l:List (Str × Addr)} {c:Addr} (h:l.lookup y=some c):∀z∈[(x,NameKind.local),(y,NameKind.free)],z.2=NameKind.free->∃c,l.lookup z.1=some c:=λz m e=>by
 rcases List.mem_cons.mp m with rfl | m
 ·cases e
 ·cases List.mem_singleton.mp m;exact⟨c,h⟩
section
variable {X:Cx} {e:Expr} {te:RE} {p pos kp lpos:Pos} {x y dn:Str} {c T:Addr} {k j:Nat} {params:Arguments} {scope:Scope} {p1 p2 p3 p4 p5 p6 p7 p8 p9:Pos} {n1 n2:Nat}
theorem wT (hr:Room (k+3) X.A) (hms:X.mg "sorted" = none) (W:LamW X.K X.mg X.base dn c T) (hdn:dn∈eC) (hcd:X.env.code = .ref c) (h:DB X e te)
  (hqual:X.env.qual ++ "<lambda>" = eO lpos.col) (hgs:Gl X "sorted":=by rfl) (hdef:defaultsOf params X.env=([],[]):=by rfl) (hfree:∀z∈scope.names,z.2 = .free->∃c,X.env.cells.lookup z.1=some c)
  (hs:starEach [e] X.env=[(false,eval e X.env)]:=by rfl) (hn:starEach [] X.env=[]:=by rfl)
  (hbind:∀(q:Str) (body:Expr) (cl:List (Str × Addr)) (pm cd ct v:Value),bindArgs (PySem.W.kla_fn "<lambda>" q params body scope cl pm cd ct) ⟨[v],[]⟩=pure [(x,v)]:=by intro _ _ _ _ _ _ _;rfl)
  (hloc:scope.names.lookup x=some .local:=by rfl) (hco:scope.isCoroutine=false:=by rfl) (hgen:scope.isGenerator=false:=by rfl) (hk:scope.kind = .function:=by rfl) (hcell:∀z∈scope.names,z.2≠.cell:=by decide)
  (hy:scope.names.lookup y=some .free:=by rfl) (hyN:X.N[j]? = some y:=by rfl) (hyk:X.env.kindOf y=some .cell:=by rfl)
  (hdx:(x == ("__debug__":Str))=false:=by decide) (hdy:(y == ("__debug__":Str))=false:=by decide) (hdc:(y == ("__classdict__":Str))=false:=by decide) :
  DO X (.Call (.Name "sorted" p) [e] [⟨some "key",.Lambda params (.BinOp (.Subscript (.Name x p1) (.Constant (.int 0) n1 p2) p3) .Mult (.BinOp (.Name y p4) .FloorDiv (.Subscript (.Name x p5) (.Constant (.int 1) n2 p6) p7) p8) p9) scope lpos,kp⟩] pos) (rP j te):=by
 intro pins s σ H Q I hh
 obtain⟨ρ,P,so,q,kq⟩:=hh
 refine wpAny_Call_Name_kw (gX I hgs hms sD ?_)
 refine callWith_kw (thn (lN h hs hn pos pins s σ H (λvs H1=>∃(B:Int) (fs:List (Int × Int)) (v:V),vs=[v]/\Same H H1/\RepB X.K H1 (.lst (fs.map pr2)) v/\ρ[j]? = some (some (.d (.int B)))/\fs.length<64/\(∀f∈fs,DivOk B f.2/\MulOk f.1 (B.fdiv f.2)) /\
   ∀gs:List (Int × Int),gs.Perm fs->gs.Pairwise (λp q=>p.1*B.fdiv p.2<=q.1*B.fdiv q.2)->P (gs.map pr2)) I
  ⟨ρ,_,so,q,λd v H1 hx s1 r1=>?_⟩) λus s1 ⟨vs,H1,I1,r1,q1⟩=>?_) (by rw[hs,hn];rfl) (by rw[hs];rfl)
 ·obtain⟨B,fs,e1,rfl,e2,e3,e4⟩:=hx
  exact⟨B,fs,v,rfl,s1,r1,e1,e2,e3,e4⟩
 obtain⟨B,fs,v,rfl,s01,rb,hB,h64,hok,hP⟩:=q1
 obtain⟨clos,hcl,hcl1,hcl2⟩:=jC hfree
 refine kws_cons (zQ (so.ext s01) I1 W hdn hcd hdef hcl hqual λH2 h2 f c' ctv tk I2 s12 hsz hf0 hfs hfo hrec=>kws_nil ?_)
 have so2:StOk X ρ σ H2:=(so.ext s01).ext s12
 obtain⟨l,vs,rfl,hq,rr⟩:=(rb.same s12).lst
 obtain⟨u,rfl,rx⟩:=qJ r1
 cases rx
 obtain⟨its,rv,pl,hz⟩:=I2.list hq
 obtain⟨m,hm,hl⟩:=id I2.loc
 show wpAny (model X.prog X.w) X.A (call (.builtin "sorted") [.ref l] [(Str.ofString "key",.ref f)]) (EP X pins σ Q) X.xe { s1 with heap:=h2,toks:=tk }
 have lf:=rr.length
 have li:=rv.length
 rw[List.length_map] at lf
 have nL:∀b u,H2 b=some u->b≠X.env.locals:=λb u e z=>by rw[z,I2.free] at e;cases e
 have fL:f≠X.env.locals:=λz=>by
  have h1:X.env.locals<s1.heap.objs.size:=I1.lt
  rw[<-z] at h1
  exact absurd (Nat.lt_of_lt_of_le h1 hfs) (Nat.lt_irrefl _)
 have item:∀(i:Nat) (g:Int × Int) (u:Value),fs[i]? = some g->its[i]? = some u->∃a ts,u = .ref a/\H2 a=some (.tup [.int g.1,.int g.2])/\Vals [.int g.1,.int g.2] ts/\IsTup h2 a ts.toArray:=λi g u eg eu=>by
  obtain⟨v,e1,e2⟩:=rr.get (i:=i) (d:=pr2 g) (by rw[List.getElem?_map,eg];rfl)
  obtain⟨u',f1,f2⟩:=rv.get e1
  rw[eu] at f1;cases f1
  cases e2 with
  | tup ha ra =>
   cases f2
   have ev:_=[V.int g.1,V.int g.2]:=Reps.ints_inv (ns:=[g.1,g.2]) ra
   subst ev
   obtain⟨ts,g1,g2,_⟩:=I2.tuple (SqT.of (K:=X.K) ha)
   exact⟨_,ts,rfl,ha,g1,g2⟩
 obtain⟨vB,eB,rB⟩:=so2.rel j _ hB
 have eB':=Rep.int_inv rB
 subst eB'
 obtain⟨uB,rBu,look⟩:=hl j y _ hyN eB (.inr (.inl hyk))
 obtain⟨tB,rfl⟩:=rBu
 obtain⟨cy,ecy,cellY⟩:∃cy,X.env.cells.lookup y=some cy/\h2.IsCell cy (some (.int B tB)):=by
  rcases look with ⟨z,_⟩ | ⟨_,c,e1,e2⟩
  ·rw[hyk] at z;cases z
  ·exact⟨c,e1,e2⟩
 have closY:clos.lookup y=some cy:=by
  obtain⟨c3,e3⟩:=hcl2 (y,.free) (PySem.mem_of_lookup hy) rfl
  have:=hcl1 y c3 e3
  rw[ecy] at this;cases this
  exact e3
 have cyL:cy≠X.env.locals:=I2.cne y cy ecy
 refine AY (kz:=fs.map λg=>g.1*B.fdiv g.2) hm pl.isList (by rw[List.length_map];omega) (by omega) hsz ⟨_,hfo⟩ fL (λi v kk hv hkk h3 tk3 kp3 ns3=>?_) λD h4 tk4 out c4 kp4 ns4 hD hDo ko=>?_
 ·-- a key
  obtain⟨g,eg,rfl⟩:∃g,fs[i]? = some g/\kk=g.1*B.fdiv g.2:=by
   rw[List.getElem?_map] at hkk
   cases e:fs[i]? with
   | none=>rw[e] at hkk;cases hkk
   | some g=>rw[e] at hkk;cases hkk;exact⟨g,rfl,rfl⟩
  obtain⟨a,ts,rfl,ha,ht,tup⟩:=item i g v eg hv
  obtain⟨hdv,hml⟩:=hok g (List.mem_of_getElem? eg)
  cases ht with
  | cons t1 ht =>
   cases ht with
   | cons t2 ht =>
    cases ht
    obtain⟨k1,rfl⟩:=t1
    obtain⟨k2,rfl⟩:=t2
    refine zO (x:=x) (s:={ s1 with heap:=h3,toks:=tk3 }) hr.in1.in1.depth (kp3 f _ fL hfo) ?_ (I2.ok.mod.nolimit.keeps λb o e=>kp3 b o (Nat.ne_of_lt (Nat.lt_of_lt_of_le (Heap.lt_size e) (Nat.le_trans I2.ok.bsz I2.ok.above))) (I2.bk b o e)) (hbind _ _ _ _ _ _ _) hloc hco hgen hk hcell λh5 tk5 ns5 kp5=>?_
    ·obtain⟨c2,oc,vs2,t2,e2,hoc,hd2,hv2⟩:=hrec
     exact⟨c2,oc,vs2,t2,e2,kp3 c2 oc (λz=>by
      obtain⟨o',es,ep,e',d',_⟩:=hm
      rw[<-z] at e'
      rw[hoc] at e';cases e'
      rw[hd2] at d';cases d') hoc,hd2,hv2⟩
    ·have body:QE X.prog X.w (X.A.in1.in1.deeper (PySem.W.envX (eO lpos.col) scope h3.objs.size f (.ref c') clos)) (PySem.W.envX (eO lpos.col) scope h3.objs.size f (.ref c') clos) h5 (.BinOp (.Subscript (.Name x p1) (.Constant (.int 0) n1 p2) p3) .Mult (.BinOp (.Name y p4) .FloorDiv (.Subscript (.Name x p5) (.Constant (.int 1) n2 p6) p7) p8) p9) (IsI (g.1*B.fdiv g.2)):=by
      have tup5:IsTup h5 a [Value.int g.1 k1,Value.int g.2 k2].toArray:=by
       obtain⟨o,e1,e2⟩:=tup
       exact⟨o,kp5 a o (kp3 a o (nL a _ ha) e1),e2⟩
      have cell5:h5.IsCell cy (some (.int B tB)):=by
       obtain⟨o,e1,e2⟩:=cellY
       exact⟨o,kp5 cy o (kp3 cy o cyL e1),e2⟩
      have nx:∀{pz:Pos},QE X.prog X.w (X.A.in1.in1.deeper (PySem.W.envX (eO lpos.col) scope h3.objs.size f (.ref c') clos)) (PySem.W.envX (eO lpos.col) scope h3.objs.size f (.ref c') clos) h5 (.Name x pz) (· = .ref a):=HV hk hloc ns5 (by simp) hdx
      have int:∀{i:Int} {t:Tok} {e:Expr},QE X.prog X.w (X.A.in1.in1.deeper (PySem.W.envX (eO lpos.col) scope h3.objs.size f (.ref c') clos)) (PySem.W.envX (eO lpos.col) scope h3.objs.size f (.ref c') clos) h5 e (· = .int i t)->QE X.prog X.w (X.A.in1.in1.deeper (PySem.W.envX (eO lpos.col) scope h3.objs.size f (.ref c') clos)) (PySem.W.envX (eO lpos.col) scope h3.objs.size f (.ref c') clos) h5 e (IsI i):=λhq s Q e k=>hq s Q e λu tk hu=>k u tk ⟨_,hu⟩
      exact HW hml.ok (int (HU (n:=0) nx DQ tup5 (show 2<=sizeLine by decide) rfl λ_ _=>rfl)) (FR hdv (int (FS hk hy closY cell5 hdy hdc)) (int (HU (n:=1) nx DQ tup5 (show 2<=sizeLine by decide) rfl λ_ _=>rfl)))
     refine body _ _ rfl λu tk6 hu=>?_
     obtain⟨t6,rfl⟩:=hu
     exact⟨h5,tk6,t6,rfl,rfl,kp5⟩
 ·-- what is told
  obtain⟨ps,pp,eo,srt⟩:=ko
  have ez:(fs.map λg=>g.1*B.fdiv g.2).zip its=(fs.zip its).map λz=>(z.1.1*B.fdiv z.1.2,z.2):=by
   rw[List.zip_map_left];rfl
  obtain⟨l3,p3,e3⟩:=tJ pp (fs.zip its) ez
  have pf:(l3.map (·.1)).Perm fs:=by
   have:=p3.map (·.1)
   rw[List.map_fst_zip (by omega)] at this
   exact this
  have so':(l3.map (·.1)).Pairwise (λp q=>p.1*B.fdiv p.2<=q.1*B.fdiv q.2):=by
   rw[e3] at srt
   rw[List.pairwise_map] at srt ⊢
   exact srt.imp λ{a b} h=>by simpa using h
  have eout:out.toList=l3.map (·.2):=by rw[eo,e3,List.map_map];rfl
  have mem:∀z∈l3,∃v,RelV v z.2/\Rep X.K H2 (pr2 z.1) v:=λz hz=>by
   obtain⟨i,hi,ei⟩:=List.getElem_of_mem (p3.mem_iff.mp hz)
   have hi':i<fs.length/\i<its.length:=by rw[List.length_zip] at hi;omega
   rw[List.getElem_zip] at ei
   obtain⟨a,ts,e1,ha,_,_⟩:=item i fs[i] its[i] (List.getElem?_eq_getElem hi'.1) (List.getElem?_eq_getElem hi'.2)
   refine⟨.ref a,?_,?_⟩
   ·rw[<-ei];exact e1
   ·rw[<-ei];exact .tup ha (Reps.ints (ns:=[fs[i].1,fs[i].2]))
  obtain⟨ws,V1,R1⟩:=oM l3 mem
  have I4:Inv X pins σ H2 { s1 with heap:=h4,toks:=tk4 }:=I2.frame hm ns4 kp4
  have hD0:H2 D=none:=I2.hok.fresh hD
  have lw:=V1.length
  have l3l:l3.length=fs.length:=by have:=pf.length_eq;simpa using this
  have I5:=I2.trackO (a:=D) (w:=.lst ws) I4 hD hD0 ⟨by rw[sizeLine_eq];simp at lw;omega,out.toList,c4,by rw[eout];exact V1,by simpa using hDo⟩
  exact⟨.ref D,_,I5,rfl,kq _ _ _ H2 (by have:=hP _ pf so';rw[List.map_map] at this;exact this) (s01.trans s12) hD0 R1⟩
end
structure Hid (K K':PySem.W.Frag):Prop where
 get:∀b o,K.lookup b=some o->o.data≠.fields #[]->K'.lookup b=some o
 of:∀b o,K'.lookup b=some o->K.lookup b=some o
section
variable {K K':PySem.W.Frag}
theorem Hid.ns (z:Hid K K') {a:Addr} {x:Str} {r:Option Value} (e:PySem.W.nsIn K a x=some r):PySem.W.nsIn K' a x=some r:=by
 unfold PySem.W.nsIn at e ⊢
 cases q:K.lookup a with
 | none=>rw[q] at e;cases e
 | some o =>
  rw[q] at e
  obtain⟨oc,od,dt,sl⟩:=o
  cases dt with
  | dict es n=>rw[z.get a _ q λy=>by cases y];exact e
  | _=>cases e
theorem Hid.ns' (z:Hid K K') {a:Addr} {x:Str} {r:Option Value} (e:PySem.W.nsIn K' a x=some r):PySem.W.nsIn K a x=some r:=by
 unfold PySem.W.nsIn at e ⊢
 cases q:K'.lookup a with
 | none=>rw[q] at e;cases e
 | some o=>rw[q] at e;rw[z.of a _ q];exact e
theorem Hid.code (z:Hid K K') {cd:Value} {q:Str} (e:PySem.W.codeIn K cd q=true):PySem.W.codeIn K' cd q=true:=by
 unfold PySem.W.codeIn at e ⊢
 split at e
 ·rename_i c
  cases w:K.lookup c with
  | none=>rw[w] at e;cases e
  | some o =>
   rw[w] at e
   obtain⟨oc,od,dt,sl⟩:=o
   cases dt with
   | fields vs =>
    rw[z.get c _ w λy=>by cases y;cases e]
    exact e
   | _=>cases e
 ·cases e
theorem Hid.fn (z:Hid K K') {x qual:Str} {st:Stmt} {f:Addr} {fd:FuncData} (F:Fun K x qual st f fd):Fun K' x qual st f fd:=by
 obtain⟨oc,od,kV,doc,pm,an,cdv,ct,osl,rfl,lk,hcd⟩:=F.ex
 have lk':=z.get f _ lk λy=>by cases y
 refine⟨⟨oc,od,kV,doc,pm,an,cdv,ct,osl,rfl,lk',z.code hcd⟩,?_⟩
 unfold PySem.W.keepIn
 simp only[lk']
theorem Hid.def (z:Hid K K') {mg:Str->Option Value} {x:Str} {st:Stmt} {ps:List Str} (Z:DefAt K mg x st ps):DefAt K' mg x st ps:=by
 obtain⟨f,fd,a,b,c⟩:=Z.ex
 exact⟨f,fd,z.fn a,b,c⟩
theorem Hid.tab' (z:Hid K K') {x:Str} {r:Addr × Addr} (e:PySem.W.tabIn K' x=some r):PySem.W.tabIn K x=some r:=by
 unfold PySem.W.tabIn at e ⊢
 split at e
 ·rename_i f hf
  rw[z.ns' hf]
  dsimp only
  split at e
  ·rename_i fo
   rw[z.of _ _ fo]
   dsimp only
   split at e
   ·rename_i c hc
    split at e
    ·rename_i co
     rw[z.of _ _ co]
     exact e
    ·cases e
   ·cases e
  ·cases e
 ·cases e
theorem Hid.tab (z:Hid K K') {x:Str} {r:Addr × Addr} (e:PySem.W.tabIn K x=some r):PySem.W.tabIn K' x=some r:=by
 unfold PySem.W.tabIn at e ⊢
 split at e
 ·rename_i f hf
  rw[z.ns hf]
  dsimp only
  split at e
  ·rename_i fo
   rw[z.get _ _ fo λy=>by cases y]
   dsimp only
   split at e
   ·rename_i c hc
    split at e
    ·rename_i vs _ co
     rw[z.get _ _ co λy=>by cases y;cases e]
     exact e
    ·cases e
   ·cases e
  ·cases e
 ·cases e
end
theorem GB {K:PySem.W.Frag} {x:Str} {f c P:Addr} {oc coc:Value} {od cod:Option Addr} {fd:FuncData} {sl csl:Array (Option Value)} {vs:Array Value} (a:PySem.W.nsIn K mainGlobals x=some (some (.ref f))) (l:K.lookup f=some ⟨oc,od,.func fd,sl⟩) (e:fd.code = .ref c)
  (m:K.lookup c=some ⟨coc,cod,.fields vs,csl⟩) (v:vs[11]? = some (.ref P)):PySem.W.tabIn K x=some (c,P):=by
 unfold PySem.W.tabIn
 rw[a];dsimp only
 rw[l];dsimp only
 rw[e];dsimp only
 rw[m];dsimp only
 rw[v]
noncomputable def cU (K:PySem.W.Frag):List Addr:=eC.filterMap λx=>(PySem.W.tabIn K x).map (·.2)
noncomputable def kT (K:PySem.W.Frag):PySem.W.Frag:=K.filter λe=>!(cU K).contains e.1
theorem dI {p:Addr->Bool}:∀(K:PySem.W.Frag) (b:Addr),(K.filter λe=>p e.1).lookup b=if p b then K.lookup b else none
 | [],b=>by simp
 | (a,o)::K,b=>by
  have ih:=dI (p:=p) K b
  by_cases hp:p a
  ·rw[List.filter_cons_of_pos (by exact hp)]
   by_cases hb:b=a
   ·subst hb;simp[List.lookup_cons,hp]
   ·rw[List.lookup_cons,List.lookup_cons,beq_eq_false_iff_ne.mpr hb];exact ih
  ·rw[List.filter_cons_of_neg (by exact hp),ih]
   by_cases hb:b=a
   ·subst hb;simp[hp]
   ·rw[List.lookup_cons,beq_eq_false_iff_ne.mpr hb]
noncomputable def pF (K:PySem.W.Frag) (mg:Str->Option Value) (base:Heap):Prop:=∀x c T,x∈eC->PySem.W.tabIn K x=some (c,T)->LamW K mg base x c T
theorem EN {K:PySem.W.Frag} {h:Heap} (KX:K.In h) (hT:∀b∈cU K,h.get? b=some (PySem.W.tabObj #[])):Hid K (kT K):=by
 refine⟨λb o e n=>?_,λb o e=>?_⟩
 ·unfold kT
  rw[dI (p:=λb=>!(cU K).contains b)]
  have nb:b ∉ cU K:=λm=>by
   have:=hT b m
   rw[KX b o e] at this
   cases this
   exact n rfl
  simp[nb,e]
 ·unfold kT at e
  rw[dI (p:=λb=>!(cU K).contains b)] at e
  split at e
  ·exact e
  ·cases e
theorem BU {K:PySem.W.Frag} {b:Addr} (m:b∈cU K):(kT K).lookup b=none:=by
 unfold kT
 rw[dI (p:=λb=>!(cU K).contains b)]
 simp[m]
theorem rV {l:PySem.W.Frag} {b:Addr}:b∈cU l↔∃x c,x∈eC/\PySem.W.tabIn l x=some (c,b):=by
 unfold cU
 rw[List.mem_filterMap]
 constructor
 ·rintro⟨x,m,e⟩
  obtain⟨⟨c,T⟩,e1,e2⟩:=Option.map_eq_some_iff.mp e
  cases e2
  exact⟨x,c,m,e1⟩
 ·rintro⟨x,c,m,e⟩
  exact⟨x,m,by rw[e];rfl⟩
theorem xD {P:Program} {w:World} {K:PySem.W.Frag} {mg mb:Str->Option Value} {k:Nat} {fa a:Addr} {fd:FuncData} {x:Str} {s₁:Shared} {vs:List Value} {ns:List Int}
  (KX:K.In s₁.heap) (hns:s₁.heap.Ns mainGlobals mg) (hb:s₁.heap.Ns builtinsNs mb) (hbb:∀x:Str,x≠"__name__"->mb x=bootBuiltins x) (hlim:s₁.heap.NoLimit) (hg:s₁.gens = #[])
  (ha:s₁.heap.get? a=some { cls:=.type "list",data:=.seq vs.toArray }) (hi:IntsAre vs ns) (hl:ns.length<=63) (hr:Room k callerA)
  (hbm:∃bm ob,mg "__builtins__" = some (.ref bm)/\bm≠builtinsNs/\s₁.heap.get? bm=some ob/\ob.cls = .type "module"/\ob.dict=some builtinsNs/\ob.data = .plain)
  (hT:∀x c T,x∈eC->PySem.W.tabIn K x=some (c,T)->PySem.W.CodeHd s₁.heap c T/\s₁.heap.get? T=some (PySem.W.tabObj #[]))
  (F:∀(base:Heap) (K':PySem.W.Frag),Hid K K'->K'.In base->base.Ns mainGlobals mg->pF K' mg base->FnOk P w K' mg base CX0 k fa fd [x] (spD K' (wB 63))) (hbind:∀(s:Shared) (u:Value),BindsTo s fd ⟨[u],[]⟩ [(x,u)]) :
  codeAny (model P w) callerA (.call (.ref fa) ⟨[.ref a],[]⟩) (λr s'=>r = .ok (.ret (.bool true))/\OldK s₁.heap s'.heap/\s'.os=s₁.os/\AllBare s'.gens) s₁:=by
 have rv:=iP hi
 have lenV:=hi.length
 have tb0:∀b∈cU K,s₁.heap.get? b=some (PySem.W.tabObj #[]):=λb m=>by
  obtain⟨x,c,m1,e⟩:=rV.mp m
  exact (hT x c b m1 e).2
 have Z:Hid K (kT K):=EN KX tb0
 have na:a ∉ cU K:=λm=>by
  have:=tb0 a m
  rw[ha] at this;cases this
 have core:∀H:Hp,(∀b u,H b=some u->(b∈cU K/\u = .tbl #[])\/(b=a/\K.lookup a=none/\∃o xs,u = .frz o (.lst xs)))->(∀b∈cU K,H b=some (.tbl #[]))->FzL (kT K) H a (ns.map V.int)->HOk P w H s₁.heap ->
   codeAny (model P w) callerA (.call (.ref fa) ⟨[.ref a],[]⟩) (λr s'=>r = .ok (.ret (.bool true))/\OldK s₁.heap s'.heap/\s'.os=s₁.os/\AllBare s'.gens) s₁:=by
  intro H hO hH hS hok
  have base_of:∀{b:Addr} {o:Obj},s₁.heap.get? b=some o->H b=none->(oW s₁.heap H).get? b=some o:=λe n=>zK e n
  have noA:∀{b:Addr} {o:Obj},s₁.heap.get? b=some o->o.data≠.fields #[]->b≠a->H b=none:=λ{b o} e d n=>by
   cases q:H b with
   | none=>rfl
   | some u =>
    rcases hO b u q with ⟨m,_⟩ | ⟨e',_⟩
    ·have:=tb0 b m
     rw[e] at this;cases this
     exact (d rfl).elim
    ·exact (n e').elim
  have neA:∀{b:Addr} {o:Obj},s₁.heap.get? b=some o->(∀xs n,o.data≠.seq xs n)->b≠a:=λ{b o} e d z=>by
   subst z
   rw[ha] at e;cases e
   exact d _ _ rfl
  have nsK:∀{b:Addr} {m:Str->Option Value},s₁.heap.Ns b m->(oW s₁.heap H).Ns b m:=λ{b m} ⟨o,es,ep,e,d,r⟩=>⟨o,es,ep,base_of e (noA e (by rw[d];intro y;cases y) (neA e (by rw[d];intro _ _ y;cases y))),d,r⟩
  have hKb:(kT K).In (oW s₁.heap H):=λb o e=>base_of (KX b o (Z.of b o e)) (by
   cases q:H b with
   | none=>rfl
   | some u =>
    rcases hO b u q with ⟨m,_⟩ | ⟨e',n,_⟩
    ·rw[BU m] at e;cases e
    ·subst e'
     have:=Z.of b o e
     rw[n] at this;cases this)
  have hM:Mod (kT K) mg (oW s₁.heap H):=⟨hKb,nsK hns,⟨mb,nsK hb,hbb⟩,let ⟨mc,h1,h2⟩:=hlim;⟨mc,nsK h1,h2⟩⟩
  have e0:Env0 P w (kT K) mg (oW s₁.heap H) callerA [] s₁ H:=⟨rfl,hM,λb o e=>CA e,Nat.le_of_eq (wW _ _),trivial,λb hb=>absurd (show b∈([]:List Addr) from hb) (by simp),hok,.of_eq hg⟩
  have tw:pF (kT K) mg (oW s₁.heap H):=λx c T m e=>by
   obtain⟨hd,ht⟩:=hT x c T m (Z.tab' e)
   refine⟨e,?_,?_,λz=>?_⟩
   ·obtain⟨o,vs',file,tf,flags,tg,inF,text,tt,e1,e2,e3,e4,r⟩:=hd
    refine⟨o,vs',file,tf,flags,tg,inF,text,tt,base_of e1 (noA e1 (by rw[e3];intro y;cases y;cases e4) (neA e1 (by rw[e3];intro _ _ y;cases y))),e2,e3,e4,r⟩
   ·obtain⟨bm,ob,b1,b2,b3,b4,b5,b6⟩:=hbm
    refine⟨bm,ob,b1,b2,λz=>?_,λz=>?_,base_of b3 (noA b3 (by rw[b6];intro y;cases y) (neA b3 (by rw[b6];intro _ _ y;cases y))),b4,b5,b6⟩
    ·obtain⟨o,es,ep,e1,d,_⟩:=hns
     rw[<-z,b3] at e1;cases e1
     rw[b6] at d;cases d
    ·rw[z,ht] at b3;cases b3;cases b6
   ·obtain⟨o,es,ep,e1,d,_⟩:=hns
    rw[z,ht] at e1;cases e1;cases d
  have tin:TabsIn (kT K) H:=λx c T m e=>⟨#[],hH T (rV.mpr ⟨x,c,m,Z.tab' e⟩),⟨trivial,λpos cv z=>by cases z⟩⟩
  refine codeAny_mono ((F _ _ Z hKb (nsK hns) tw).run callerA [] s₁ H ⟨[.ref a],[]⟩ [.ref a] [.ref a] (λv _=>v = .bl true) (λ_ _ _=>False) hr e0 (hbind s₁ (.ref a)) (.cons rfl .nil)
   ⟨tin,[.lst (ns.map .int)],λd=>d = .bl true,.cons (.lst hS .ints) .nil,⟨ns,rfl,hl,rfl⟩,λd v H' e _ r=>by subst e;exact r.bl_inv⟩) λr s' h=>?_
  cases r with
  | error e=>exact False.elim h
  | ok fl =>
   cases fl with
   | next=>exact False.elim h
   | brk=>exact False.elim h
   | cont=>exact False.elim h
   | ret u =>
    obtain⟨v,H',os,bare,un,hok',r',q⟩:=h
    have q':v = .bl true:=q
    subst q'
    obtain rfl:u=Value.bool true:=r'
    have as:∀b o,s₁.heap.get? b=some o->asItWas s₁.heap s'.heap b o:=λb o e=>by
     cases q:H b with
     | none=>exact .inl (un.keep b o e q (by intro z;exact absurd (show b∈([]:List Addr) from z) (by simp)) (by simp))
     | some u =>
      rcases hO b u q with ⟨m,rfl⟩ | ⟨_,_,ob,xs,rfl⟩
      ·obtain⟨more,e2⟩:=un.tbls b _ q
       have e3:s'.heap.get? b=some (PySem.W.tabObj (#[]++more)):=hok' b _ e2
       obtain⟨x,c,m1,e4⟩:=rV.mp m
       obtain⟨hd,ht⟩:=hT x c b m1 e4
       rw[e] at ht;cases ht
       exact .inr (.inl ⟨(hd.tab e).isCodeTable,rfl,#[],more,rfl,e3⟩)
      ·have z2:=un.frzs b ob _ q
       obtain⟨e1,_⟩:=hok b _ q
       obtain⟨e2,_⟩:=hok' b _ z2
       rw[e] at e1;cases e1
       exact .inl e2
    exact⟨rfl,⟨as,λb o e=>un.there b o e (by simp)⟩,os,bare⟩
 cases hk:K.lookup a with
 | some o =>
  have e:=KX a o hk
  rw[ha] at e
  cases e
  refine core (λb=>if b∈cU K then some (.tbl #[]) else none) (λb u z=>?_) (λb m=>if_pos m) (.inr ⟨_,vs.toArray,_,Z.get a _ hk (by intro y;cases y),rfl,rfl,rfl,by rw[List.size_toArray,lenV,sizeLine_eq];omega,by simpa using rv⟩) (λb u z=>?_)
  ·by_cases hb:b∈cU K
   ·have z':=(if_pos hb).symm.trans z
    cases z';exact .inl ⟨hb,rfl⟩
   ·have z':=(if_neg hb).symm.trans z
    cases z'
  ·by_cases hb:b∈cU K
   ·have z':=(if_pos hb).symm.trans z
    cases z';exact tb0 b hb
   ·have z':=(if_neg hb).symm.trans z
    cases z'
 | none =>
  refine core (λb=>if b∈cU K then some (.tbl #[]) else if b=a then some (.frz { cls:=.type "list",data:=.seq vs.toArray } (.lst (ns.map V.int))) else none) (λb u z=>?_) (λb m=>if_pos m) (.inl ⟨{ cls:=.type "list",data:=.seq vs.toArray },?_⟩) (λb u z=>?_)
  ·by_cases hb:b∈cU K
   ·have z':=(if_pos hb).symm.trans z
    cases z';exact .inl ⟨hb,rfl⟩
   ·have z':=(if_neg hb).symm.trans z
    by_cases hb:b=a
    ·have z':=(if_pos hb).symm.trans z'
     cases z';exact .inr ⟨hb,hk,_,_,rfl⟩
    ·have z':=(if_neg hb).symm.trans z'
     cases z'
  ·show (if a∈cU K then _ else _)=_
   rw[if_neg na,if_pos rfl]
  ·by_cases hb:b∈cU K
   ·have z':=(if_pos hb).symm.trans z
    cases z';exact tb0 b hb
   ·have z':=(if_neg hb).symm.trans z
    by_cases hb:b=a
    ·have z':=(if_pos hb).symm.trans z'
     cases z'
     subst hb
     exact⟨ha,by rw[List.length_map,sizeLine_eq];omega,vs,_,rv,ha⟩
    ·have z':=(if_neg hb).symm.trans z'
     cases z'
noncomputable def CT (q:Program) (K:PySem.W.Frag):Prop:=∀x∈eC,(∃d,(recsOf q).find? (λe=>e.name == x)=some d)\/PySem.W.nsIn K mainGlobals x=some none
theorem lamIs {q:Program} {K:PySem.W.Frag} (a:(∃d,(recsOf q).find? (λe=>e.name == ("rising":Str))=some d)\/PySem.W.nsIn K mainGlobals "rising" = some none) (b:(∃d,(recsOf q).find? (λe=>e.name == ("framed_rising":Str))=some d)\/PySem.W.nsIn K mainGlobals "framed_rising" = some none)
  (c:(∃d,(recsOf q).find? (λe=>e.name == ("laid_triangles":Str))=some d)\/PySem.W.nsIn K mainGlobals "laid_triangles" = some none):CT q K:=λx m=>by
 simp only[eC,List.mem_cons,List.not_mem_nil,or_false] at m
 rcases m with rfl | rfl | rfl
 ·exact a
 ·exact b
 ·exact c
theorem DefAt.okLT {P:Program} {w:World} {K:PySem.W.Frag} {mg:Str->Option Value} {x:Str} {st:Stmt} {ps:List Str} {k:Nat} {F:FD} (Z:DefAt K mg x st ps)
  (h:∀(base:Heap) (K':PySem.W.Frag) (f:Addr) (fd:FuncData),Hid K K'->pF K' mg base->Fun K' x x st f fd->FnOk P w K' mg base CX0 k f fd ps (spD K' F)) :
  ∃f fd,mg x=some (.ref f)/\(∀us:List Value,us.length=ps.length->bindArgs fd ⟨us,[]⟩=pure (ps.zip us))/\∀(base:Heap) (K':PySem.W.Frag),Hid K K'->K'.In base->base.Ns mainGlobals mg->pF K' mg base->FnOk P w K' mg base CX0 k f fd ps (spD K' F):=by
 obtain⟨f,fd,a,b,c⟩:=Z.ex
 exact⟨f,fd,b,c,λbase K' z _ _ tw=>h base K' f fd z tw (z.fn a)⟩
theorem walk_lawT {l:PySem.W.OpenLaw} {q:Program} {loose:List Str} {XP:(Str->Option Value)->Heap->Prop} {YP:World->Heap->Prop} {d:DefRec} {K:Params->PySem.W.Frag} {x:Str} {k:Nat}
  (hn:l.most=some 63) (hdf:d.params.defaults=[]) (hr:Room k callerA)
  (hY:∀(w:World) (h:Heap),YP w h->(K w.params).In h) (hd:d.name = "law") (hL:∀w:World,CT q (K w.params))
  (F:∀(w:World) (mg:Str->Option Value) (h:Heap),(K w.params).In h->h.Ns mainGlobals mg ->
   ∃f fd,mg "law" = some (.ref f)/\(∀us:List Value,us.length=[x].length->bindArgs fd ⟨us,[]⟩=pure ([x].zip us)) /\
    ∀(base:Heap) (K':PySem.W.Frag),Hid (K w.params) K'->K'.In base->base.Ns mainGlobals mg->pF K' mg base->FnOk l.prog w K' mg base CX0 k f fd [x] (spD K' (wB 63))) :
  PySem.W.WalkO q loose XP YP l.row.toRowW d [] (λf vs=>PySem.call f vs):=by
 refine Att.attach_call hn hdf λw s₀ s₁ mg mb fa o pm cd doc a vs ns G Y ho hd' hcd hmg hobj hints hlen hg=>?_
 have KX:=hY w _ Y
 rw[hd] at hmg
 obtain⟨f,fd,hm,hb,hF⟩:=F w mg _ KX G.T.g
 rw[hmg] at hm;cases hm
 refine xD KX G.T.g G.T.b G.T.builtins G.T.nolimit hg hobj hints hlen hr G.T.bmain (λx c T m e=>?_) hF λs u=>.of_eq (hb [u] rfl)
 rcases hL w x m with ⟨d',hr⟩ | hz
 ·exact PySem.W.tab_of G.T KX hr e
 ·unfold PySem.W.tabIn at e
  rw[hz] at e;cases e
noncomputable def cF:RS :=
 aZ (bK 4 (r2 dD (aE 2) (aE 3)))
 (aZ (bK 2 (aM 3))
 (bK 3 (aM 4)))
noncomputable def cE:RS :=
 aZ (bK 2 (rCB mP (aC (aM 0) (aJ))))
 (aZ (bK 3 (rCB mP (aC (aM 1) (aJ))))
 (aZ (oK (bA (r2 (eV true) (aE 3) (rC (.int 0)))) (cF))
 (bZ (aM 2))))
noncomputable def kM (F_shared_divisor:FD):RS :=
 aZ (eW (bA (r2 (eV false) (aE 1) (rC (.int 0)))) ((λ_ _=>False)) (cH))
 (aZ (bK 2 (aW F_shared_divisor (aC (aM 0) (aC (aM 1) (aJ)))))
 (aZ (eW (bA (r2 (gP λi j=>decide (i<j)) (aE 1) (rC (.int 0)))) (bK 2 (r1 mQ (aE 2))) (cH))
 (bZ (kK (aC (r2 dO (aE 0) (aE 2)) (aC (r2 dO (aE 1) (aE 2)) (aJ)))))))
noncomputable def cL:RS :=
 aZ (eW (bA (r2 (gP λi j=>decide (i<j)) (aE 1) (r1 fU (aE 0)))) (bZ (r2 dIx (aE 0) (aE 1))) (cH))
 (bZ (rC (.int 0)))
noncomputable def dM:RS :=
 bZ (mH (r1 (kZ "int") (aM 0)) (mI (r1 (kZ "bool") (aM 0))))
noncomputable def kL (cJ:FD):RS :=
 bZ (aW cJ (aC (r2 eM (r2 eK (r2 dIx (aE 0) (rC (.int 0))) (r2 dIx (aE 1) (rC (.int 1)))) (r2 eK (r2 dIx (aE 1) (rC (.int 0))) (r2 dIx (aE 0) (rC (.int 1))))) (aC (r2 eK (r2 dIx (aE 0) (rC (.int 1))) (r2 dIx (aE 1) (rC (.int 1)))) (aJ))))
noncomputable def cS:RS :=
 tN 0 1 (aC (aM 1) (aC (r2 dD (aE 0) (aE 1)) (aJ)))
noncomputable def cM:RS :=
 aZ (bK 0 (rCB mP (aC (aM 0) (aJ))))
 (aZ (bK 1 (rCB mP (aC (aM 1) (aJ))))
 (aZ (oK (bA (r2 (gP λi j=>decide (j<i)) (aE 1) (rC (.int 0)))) (cS))
 (bZ (aM 0))))
noncomputable def dA (JW:FD):RS :=
 aZ (bK 2 (aW JW (aC (aM 0) (aC (aM 1) (aJ)))))
 (bZ (kK (aC (r2 dO (aE 0) (aE 2)) (aC (r2 dO (aE 1) (aE 2)) (aJ)))))
noncomputable def bX (F_shared_divisor:FD):RS :=
 bZ (r2 eK (aE 0) (r2 dO (aE 1) (aW F_shared_divisor (aC (aM 0) (aC (aM 1) (aJ))))))
noncomputable def dL:RS :=
 aZ (bK 2 (rC (.int 0)))
 (aZ (eW (bA (r2 (gP λi j=>decide (j<i)) (r1 fU (aE 0)) (rC (.int 0)))) (bK 2 (r2 dIx (aE 0) (r2 dD (aE 1) (rCB jW (aC (rC (.int 63)) (aC (r1 fU (aE 0)) (aJ))))))) (cH))
 (aZ (bK 3 (r2 cV (r2 dD (aE 2) (r2 jX (rC (.int 10)) (rC (.int 18)))) (r2 eK (rC (.int 48271)) (r2 cV (aE 1) (rC (.int 1))))))
 (bZ (r2 dD (r2 eK (aE 3) (aE 3)) (rC (.int 2147483647))))))
noncomputable def eQ (JM:FD) (JO:FD):RS :=
 aZ (bK 3 (r2 cV (rC (.int 1)) (r2 dD (aW JO (aC (aM 0) (aC (r2 cV (rC (.int 100)) (aE 2)) (aJ)))) (rC (.int 3)))))
 (aZ (eW (rN (bA (r2 (eV false) (aE 2) (rC (.int 0)))) (bA (r2 (eV false) (r2 dD (aW JM (aC (aM 0) (aC (rC (.int 2)) (aJ)))) (rC (.int 8))) (rC (.int 1))))) (bK 3 (r2 cV (rC (.int 1)) (r2 dD (r2 dO (aW JM (aC (aM 0) (aC (rC (.int 2)) (aJ)))) (rC (.int 8))) (rC (.int 40))))) (cH))
 (fA 1 (r2 cV (r2 dIx (aE 1) (r1 mQ (rC (.int 1)))) (aE 3))))
noncomputable def cO (JM:FD) (JO:FD):RS :=
 aZ (dQ 1 (gQ (aC (r2 eM (r2 dD (aW JM (aC (aM 0) (aC (rC (.int 0)) (aJ)))) (rC (.int 2001))) (rC (.int 1000))) (aJ))))
 (aZ (eW (bA (r2 (eV false) (r2 dD (r2 dO (aW JM (aC (aM 0) (aC (rC (.int 1)) (aJ)))) (rC (.int 4))) (rC (.int 4))) (rC (.int 1)))) (dQ 1 (gQ (aC (r2 eM (r2 dD (aW JM (aC (aM 0) (aC (rC (.int 0)) (aJ)))) (r2 eK (rC (.int 2)) (r2 jX (rC (.int 10)) (rC (.int 50))))) (r2 jX (rC (.int 10)) (rC (.int 50)))) (aJ)))) (cH))
 (aZ (fF (kP (aC (r2 cV (rC (.int 1)) (r2 dD (aW JM (aC (aM 0) (aC (rC (.int 1)) (aJ)))) (rC (.int 4)))) (aJ))) (aU 2) (eQ JM JO))
 ((λE ρ=>(bZ (aM 1)) E (gB 1 ρ)))))
noncomputable def eP (JO:FD):RS :=
 aZ (bK 4 (aW JO (aC (aM 0) (aC (r2 cV (r2 eK (rC (.int 9)) (aE 2)) (aE 6)) (aJ)))))
 (aZ (bK 7 (r2 dIx ((λρ Q=>(gQ (aC (rC (.int 0)) (aC (rC (.int 1)) (aC (r2 dD (r2 dO (aE 4) (rC (.int 4))) (rC (.int 5))) (aC (r2 dD (r2 dO (aE 4) (rC (.int 4))) (r2 jX (rC (.int 10)) (rC (.int 8)))) (aJ)))))) ρ λds=>Q (.lst ds))) (r2 dD (aE 4) (rC (.int 4)))))
 (fA 5 (r2 cV (r2 dIx (aE 5) (r1 mQ (rC (.int 1)))) (aE 7))))
noncomputable def cN (JM:FD) (JO:FD):RS :=
 aZ (bK 3 (aW JM (aC (aM 0) (aC (r2 cV (rC (.int 5)) (aE 2)) (aJ)))))
 (aZ (bK 4 (r2 eM (r2 dD (aE 3) (rC (.int 41))) (rC (.int 20))))
 (aZ (eW (bA (r2 (eV false) (r2 dD (aW JM (aC (aM 0) (aC (rC (.int 3)) (aJ)))) (rC (.int 4))) (rC (.int 1)))) (bK 4 (r2 eM (r2 dD (aE 3) (r2 eK (rC (.int 2)) (r2 jX (rC (.int 10)) (rC (.int 58))))) (r2 jX (rC (.int 10)) (rC (.int 58))))) (cH))
 (aZ (dQ 5 (gQ (aC (aM 4) (aJ))))
 (aZ (fF (tR (aC (rC (.int 1)) (aC (aM 1) (aJ)))) (aU 6) (eP JO))
 ((λE ρ=>(bZ (aM 5)) E (gB 5 ρ)))))))
noncomputable def cZ (JM:FD) (JX:FD) (JZ:FD):RS :=
 aZ (bK 1 (aW JZ (aC (aM 0) (aJ))))
 (aZ (bK 2 (r2 cV (rC (.int 2)) (r2 eK (rC (.int 2)) (r2 dD (aW JM (aC (aM 0) (aC (rC (.int 4)) (aJ)))) (rC (.int 3))))))
 (bZ (kK (aC (aM 1) (aC ((λρ Q=>(hR (kP (aC (r1 fU (aE 1)) (aJ))) 1 [0,2] (aU 0) (aW JX (aC (aM 1) (aC (aM 2) (aC (aM 0) (aJ)))))) ρ λds=>Q (.lst ds))) (aJ))))))
noncomputable def gC (JP:FD):RS :=
 aZ (bK 5 (r2 eM (r2 dIx (aE 0) (r2 cV (aE 2) (rC (.int 1)))) (r2 dIx (aE 0) (aE 2))))
 (aZ (bK 6 (r2 dIx (r2 dIx (aE 1) (aE 2)) (aE 4)))
 (bZ (aW JP (aC (r2 cV (r2 eK (aE 6) (r2 eM (aE 5) (aE 3))) (r2 eK (r2 dIx (r2 dIx (aE 1) (r2 cV (aE 2) (rC (.int 1)))) (aE 4)) (aE 3))) (aC (aM 5) (aJ))))))
noncomputable def dG (JU:FD):RS :=
 aZ (fA 6 (aW JU (aC (aM 0) (aC (aM 1) (aC (aM 3) (aC (aM 4) (aC (aM 7) (aJ))))))))
 (fA 6 (aW JU (aC (aM 0) (aC (aM 1) (aC (aM 3) (aC (r2 cV (aE 4) (rC (.int 1))) (aC (aM 7) (aJ))))))))
noncomputable def fV (JU:FD):RS :=
 aZ (dQ 6 (gQ (aC (r2 cV (r2 dIx (aE 0) (aE 3)) (aE 4)) (aJ))))
 (aZ (fF (riL ((λρ Q=>(gQ (aC (aM 5) (aC (r2 cV (aE 5) (rC (.int 1))) (aJ)))) ρ λds=>Q (.lst ds)))) (aU 7) (dG JU))
 (eW (rOr (bA (r2 (dNe) (r2 dIx (aE 6) (rC (.int 1))) (r2 dIx (aE 6) (rC (.int 3))))) (bA (r2 (dNe) (r2 dIx (aE 6) (rC (.int 2))) (r2 dIx (aE 6) (rC (.int 4)))))) (fA 2 (r1 fY (aE 6))) (cH)))
noncomputable def fW (JU:FD):RS :=
 fF (hX (aC (rC (.int 0)) (aC (r1 fU (r2 dIx (aE 1) (rC (.int 0)))) (aC (rC (.int 2)) (aJ))))) (aU 5) (fV JU)
noncomputable def fX (JU:FD):RS :=
 fF (kP (aC (r2 eM (r2 dIx (aE 0) (r2 cV (aE 3) (rC (.int 1)))) (r2 dIx (aE 0) (aE 3))) (aJ))) (aU 4) (fW JU)
noncomputable def dJ (JU:FD):RS :=
 aZ (dQ 2 (gQ (aJ)))
 (aZ (fF (kP (aC (r2 eM (r1 fU (aE 0)) (rC (.int 1))) (aJ))) (aU 3) (fX JU))
 ((λE ρ=>(bZ (aM 2)) E (gB 2 ρ))))
noncomputable def cB (F_shared_multiple:FD):RS :=
 bK 1 (aW F_shared_multiple (aC (aM 1) (aC (aM 2) (aJ))))
noncomputable def bG (F_shared_multiple:FD):RS :=
 aZ (bK 1 (rC (.int 1)))
 (aZ (fF (riL (aM 0)) (aU 2) (cB F_shared_multiple))
 (bZ (aM 1)))
noncomputable def dB (bH:FD):RS :=
 bZ (aW bH (aC (r2 dIx (aE 0) (rC (.int 2))) (aC (r2 dIx (aE 0) (rC (.int 1))) (aJ))))
noncomputable def dC (bH:FD):RS :=
 bZ (aW bH (aC (r2 dIx (aE 0) (rC (.int 4))) (aC (r2 dIx (aE 0) (rC (.int 3))) (aJ))))
noncomputable def iO (F_lowest_multiple:FD):RS :=
 aZ (bK 1 (aW F_lowest_multiple (aC ((λρ Q=>(hR (riL (aM 0)) 1 [] (aU 0) (r2 dIx (aE 0) (rC (.int 1)))) ρ λds=>Q (.lst ds))) (aJ))))
 (bZ ((λρ Q=>(rP 1 (aE 0)) ρ λds=>Q (.lst ds))))
noncomputable def hV (F_lower_slope:FD) (F_upper_slope:FD):RS :=
 aZ (bK 3 (aW F_upper_slope (aC (aM 2) (aJ))))
 (aZ (qB 1 (aM 3) (r2 cV (qA 1 (aM 3) (rC (.int 0))) (rC (.int 1))))
 (aZ (bK 4 (aW F_lower_slope (aC (aM 2) (aJ))))
 (qB 1 (aM 4) (r2 eM (qA 1 (aM 4) (rC (.int 0))) (rC (.int 1))))))
noncomputable def fB (F_lower_slope:FD) (bY:FD) (F_upper_slope:FD):RS :=
 vX (AS 1)
 (vX (fF (riL (aM 0)) (aU 2) (hV F_lower_slope F_upper_slope))
 ((λE ρ=>(AQ (hU (riL (aW bY (aC ((λρ Q=>(uU (aM 1)) ρ λds=>Q (.lst ds))) (aJ)))) 1 [1] (aU 0) (bA (r2 (eV true) (r2 mC (aM 1) (aM 0)) (rC (.int 0)))) (kK (aC (aM 0) (aC (r2 mC (aM 1) (aM 0)) (aJ)))))) E (gB 1 ρ))))
noncomputable def cI (a:Addr) (ks:List (List Int)) (xs:List D) (JP:FD):RM :=
 AR (bK 6 (aW JP (aC (r2 eM (r2 dIx (r2 dIx (aE 1) (r2 cV (aE 2) (rC (.int 1)))) (aE 3)) (r2 dIx (r2 dIx (aE 1) (aE 2)) (aE 3))) (aC (aM 4) (aJ)))))
 (AN 0 a (aM 6) (r2 cV (AO 0 a ks xs (aM 6) (rC (.int 0))) (aE 5)))
noncomputable def dR (JS:FM):RS :=
 CN 2 JS (aC (aM 1) (aC (aM 3) (aC (aM 5) (aC (aM 4) (aC (r2 eK (aE 4) (r2 dIx ((λρ Q=>(gQ (aC (r1 mQ (rC (.int 1))) (aC (rC (.int 1)) (aJ)))) ρ λds=>Q (.lst ds))) (r2 dD (aE 5) (rC (.int 2))))) (aJ))))))
noncomputable def dS (JS:FM):RS :=
 aZ (bK 4 (r2 eM (r2 dIx (aE 0) (r2 cV (aE 3) (rC (.int 1)))) (r2 dIx (aE 0) (aE 3))))
 (fF (kP (aC (r1 fU (r2 dIx (aE 1) (rC (.int 0)))) (aJ))) (aU 5) (dR JS))
noncomputable def cD (JS:FM):RS :=
 aZ (AS 2)
 (aZ (fF (kP (aC (r2 eM (r1 fU (aE 0)) (rC (.int 1))) (aJ))) (aU 3) (dS JS))
 ((λE ρ=>(bZ (aM 2)) E (gB 2 ρ))))
noncomputable def dY (JT:FD):RS :=
 aZ (eW (rOr (kJ (bA (r1 (kZ "tuple") (r2 dIx (aE 0) (aE 3))))) (rOr (bA (r2 (eV true) (r1 fU (r2 dIx (aE 0) (aE 3))) (rC (.int 2)))) (kJ (bA (aW JT (aC (r2 dIx (r2 dIx (aE 0) (aE 3)) (rC (.int 1))) (aJ))))))) (bZ (rC (.bl false))) (cH))
 (aZ (eW (rOr (bA (r2 (eV false) (r2 dIx (r2 dIx (aE 0) (aE 3)) (rC (.int 1))) (rC (.int 0)))) (bA (r2 (dNe) (AM (aM 1) (r2 dIx (r2 dIx (aE 0) (aE 3)) (rC (.int 0))) (rC (.int 0))) (r2 dIx (r2 dIx (aE 0) (aE 3)) (rC (.int 1)))))) (bZ (rC (.bl false))) (cH))
 (aZ (rO (r2 dIx (r2 dIx (aE 0) (aE 3)) (rC (.int 0))) (kO 2 (eR (aU 4) (eR (aU 5) (kN)))))
 (aZ (eW (rOr (kJ (bA (aW JT (aC (aM 4) (aJ))))) (kJ (bA (aW JT (aC (aM 5) (aJ)))))) (bZ (rC (.bl false))) (cH))
 (eW (rN (bA (r2 (gP λi j=>decide (j<i)) (aE 3) (rC (.int 0)))) (bA (r2 (gP λi j=>decide (j<=i)) (r2 eK (r2 dIx (r2 dIx (r2 dIx (aE 0) (r2 eM (aE 3) (rC (.int 1)))) (rC (.int 0))) (rC (.int 0))) (aE 5)) (r2 eK (aE 4) (r2 dIx (r2 dIx (r2 dIx (aE 0) (r2 eM (aE 3) (rC (.int 1)))) (rC (.int 0))) (rC (.int 1))))))) (bZ (rC (.bl false))) (cH)))))
noncomputable def cG (JT:FD):RS :=
 aZ (dQ 2 (hU (uY (aM 1)) 1 [1] (aU 0) (bA (r2 (eV true) (r2 mC (aM 1) (aM 0)) (rC (.int 0)))) (aM 0)))
 (aZ (eW (rOr (kJ (bA (r1 (kZ "list") (aM 0)))) (bA (r2 (eV true) (r1 fU (aE 0)) (r1 fU (aE 2))))) (bZ (rC (.bl false))) (cH))
 (aZ (fF (kP (aC (r1 fU (aE 0)) (aJ))) (aU 3) (dY JT))
 (bZ (rC (.bl true)))))
noncomputable def gD (KF:FD) (KD:FD) (JY:FD) (KC:FD) (bD:FD):RS :=
 aZ (rO (aW KD (aC (aM 0) (aJ))) (kO 2 (eR (aU 1) (eR (aU 2) (kN)))))
 (aZ (bK 3 (aW KF (aC (aM 1) (aC (aM 2) (aJ)))))
 (aZ (bK 4 (r1 dZ (aE 3)))
 (aZ (bK 5 (aW JY (aC (aM 1) (aC (aM 2) (aJ)))))
 (aZ (dQ 6 (jK bD (aC (aM 4) (aJ))))
 (aZ (eW ((λρ Q=>(rOr (kJ (bA (aW KC (aC (aM 6) (aC (aM 5) (aJ)))))) (rOr (bA (r2 (wM) (aE 4) (aE 3))) (bA (r2 (wM) ((λρ Q=>(jK bD (aC ((λρ Q=>(gQ (aJ)) ρ λds=>Q (.lst ds))) (aJ))) ρ λds=>Q (.lst ds))) ((λρ Q=>(gQ (aJ)) ρ λds=>Q (.lst ds))))))) (zT 6 ρ) Q)) (bZ (rC (.bl false))) (cH))
 (aZ (fA 6 (kK (aC (kK (aC (rC (.int 0)) (aC (rC (.int 1)) (aJ)))) (aC (rC (.int 1)) (aJ)))))
 (bZ (aW KC (aC ((λρ Q=>(jK bD (aC (aM 4) (aJ))) ρ λds=>Q (.lst ds))) (aC (aM 5) (aJ)))))))))))
theorem GG {α:Type} (x:α) (xs:List α):atI (x::xs) 0=some x:=by
 unfold atI ixN;simp
theorem GH {α:Type} (x y:α) (xs:List α):atI (x::y::xs) 1=some y:=by
 unfold atI ixN
 rw[if_pos (by decide),if_pos (by simp only[List.length_cons];omega)];rfl
theorem GI {α:Type} (x y z:α) (xs:List α):atI (x::y::z::xs) 2=some z:=by
 unfold atI ixN
 rw[if_pos (by decide),if_pos (by simp only[List.length_cons];omega)];rfl
theorem yM {α:Type} {xs:List α} {i:Int} {j:Nat} {x:α} (h:i=(j:Int)) (e:xs[j]? = some x):atI xs i=some x:=by
 subst h;exact cK e
theorem kY {x y:D} {Q:D->Prop}:dEq x y Q=(match eqF 6 x y with | some b=>Q (.bl b) | none=>False):=rfl
theorem BL.const {n:Nat} {i:Int} (h:i.natAbs<2 ^ n:=by decide):BL n i:=h
theorem lO {i j:Int} (h:0<=j/\j<=1000000/\i.natAbs<2 ^ 64:=by decide):PowOk i j:=⟨h⟩
theorem dX {j:Int} (h:j≠0:=by decide):ModOk j:=⟨h⟩
theorem fR {x:D} {xs:List D} {Q:D->Prop}:dIx (.tup (x::xs)) (.int 0) Q=Q x:=by simp only[dIx,GG]
theorem fS {x y:D} {xs:List D} {Q:D->Prop}:dIx (.tup (x::y::xs)) (.int 1) Q=Q y:=by simp only[dIx,GH]
theorem fT {x y z:D} {xs:List D} {Q:D->Prop}:dIx (.tup (x::y::z::xs)) (.int 2) Q=Q z:=by simp only[dIx,GI]
theorem dH {xs:List D} {i:Int} {Q:D->Prop} {x:D} (e:atI xs i=some x) (h:Q x):dIx (.lst xs) (.int i) Q:=by simp only[dIx,e];exact h
theorem vD {xs:List D} {i:Int} {Q:D->Prop} {x:D} (e:atI xs i=some x) (h:Q x):dIx (.tup xs) (.int i) Q:=by simp only[dIx,e];exact h
theorem vC {xs:List D} {i:Int} {Q:D->Prop} (h0:0<=i) (h1:i<xs.length) (h:∀x,x∈xs->Q x):dIx (.lst xs) (.int i) Q:=by
 have hj:i.toNat<xs.length:=by omega
 exact dH (yM (j:=i.toNat) (by omega) (List.getElem?_eq_getElem hj)) (h _ (List.getElem_mem hj))
theorem dU {xs:List D} {k:Nat} {x:D} {Q:D->Prop} (e:xs[k]? = some x):dIx (.lst xs) (.int (k:Int)) Q=Q x:=by simp only[dIx,cK e]
theorem fG {a0:D} {r:List D} {Q:D->Prop}:dIx (.lst (a0::r)) (.int 0) Q=Q a0:=dU (k:=0) rfl
theorem fH {a0 a1:D} {r:List D} {Q:D->Prop}:dIx (.lst (a0::a1::r)) (.int 1) Q=Q a1:=dU (k:=1) rfl
theorem fI {a0 a1 a2:D} {r:List D} {Q:D->Prop}:dIx (.lst (a0::a1::a2::r)) (.int 2) Q=Q a2:=dU (k:=2) rfl
theorem fJ {a0 a1 a2 a3:D} {r:List D} {Q:D->Prop}:dIx (.lst (a0::a1::a2::a3::r)) (.int 3) Q=Q a3:=dU (k:=3) rfl
theorem fK {a0 a1 a2 a3 a4:D} {r:List D} {Q:D->Prop}:dIx (.lst (a0::a1::a2::a3::a4::r)) (.int 4) Q=Q a4:=dU (k:=4) rfl
theorem fM {a0 a1 a2 a3 a4 a5:D} {r:List D} {Q:D->Prop}:dIx (.lst (a0::a1::a2::a3::a4::a5::r)) (.int 5) Q=Q a5:=dU (k:=5) rfl
theorem fN {a0 a1 a2 a3 a4 a5 a6:D} {r:List D} {Q:D->Prop}:dIx (.lst (a0::a1::a2::a3::a4::a5::a6::r)) (.int 6) Q=Q a6:=dU (k:=6) rfl
theorem fO {a0 a1 a2 a3 a4 a5 a6 a7:D} {r:List D} {Q:D->Prop}:dIx (.lst (a0::a1::a2::a3::a4::a5::a6::a7::r)) (.int 7) Q=Q a7:=dU (k:=7) rfl
theorem fP {a0 a1 a2 a3 a4 a5 a6 a7 a8:D} {r:List D} {Q:D->Prop}:dIx (.lst (a0::a1::a2::a3::a4::a5::a6::a7::a8::r)) (.int 8) Q=Q a8:=dU (k:=8) rfl
theorem fQ {a0 a1 a2 a3 a4 a5 a6 a7 a8 a9:D} {r:List D} {Q:D->Prop}:dIx (.lst (a0::a1::a2::a3::a4::a5::a6::a7::a8::a9::r)) (.int 9) Q=Q a9:=dU (k:=9) rfl
theorem eG {a0 a1 a2 a3 a4 a5 a6 a7 a8 a9 a10:D} {r:List D} {Q:D->Prop}:dIx (.lst (a0::a1::a2::a3::a4::a5::a6::a7::a8::a9::a10::r)) (.int 10) Q=Q a10:=dU (k:=10) rfl
theorem eI {a0 a1 a2 a3 a4 a5 a6 a7 a8 a9 a10 a11:D} {r:List D} {Q:D->Prop}:dIx (.lst (a0::a1::a2::a3::a4::a5::a6::a7::a8::a9::a10::a11::r)) (.int 11) Q=Q a11:=dU (k:=11) rfl
noncomputable def bW (n:Nat) (ds:List D):En:=ds.map (λd=>some (.d d))++List.replicate n none
theorem aS {N:List Str} {ds:List D} (n:Nat) (h:N.length=ds.length+n):aO N ds=bW n ds:=by
 unfold aO bW;rw[h,Nat.add_sub_cancel_left]
theorem lH {i:Int}:wY "int" (.int i)=some true:=rfl
theorem lF {i:Int}:wY "bool" (.int i)=some false:=rfl
theorem lG {i:Bool}:wY "int" (.bl i)=some true:=rfl
theorem lE {i:Bool}:wY "bool" (.bl i)=some true:=rfl
theorem lI {xs:List D}:wY "tuple" (.tup xs)=some true:=rfl
theorem xV {α:Type} {x:α}:List.replicate 0 x=[]:=rfl
theorem tP {α:Type} {x:α}:List.replicate 1 x=[x]:=rfl
theorem rQ {α:Type} {x:α}:List.replicate 2 x=[x,x]:=rfl
theorem uW {α:Type} {x:α}:List.replicate 3 x=[x,x,x]:=rfl
theorem rR {α:Type} {x:α}:List.replicate 4 x=[x,x,x,x]:=rfl
theorem uX {α:Type} {x:α}:List.replicate 5 x=[x,x,x,x,x]:=rfl
theorem tQ {α:Type} {x:α}:List.replicate 6 x=[x,x,x,x,x,x]:=rfl
theorem xW {α:Type} {x:α}:List.replicate 7 x=[x,x,x,x,x,x,x]:=rfl
theorem xX {α:Type} {x:α}:List.replicate 8 x=[x,x,x,x,x,x,x,x]:=rfl
theorem xY {α:Type} {x:α}:List.replicate 9 x=[x,x,x,x,x,x,x,x,x]:=rfl
theorem qC {α:Type} {x:α}:List.replicate 10 x=[x,x,x,x,x,x,x,x,x,x]:=rfl
theorem qD {α:Type} {x:α}:List.replicate 11 x=[x,x,x,x,x,x,x,x,x,x,x]:=rfl
theorem qE {α:Type} {x:α}:List.replicate 12 x=[x,x,x,x,x,x,x,x,x,x,x,x]:=rfl
theorem sz2:Sz (0+1+1):=⟨by decide⟩
theorem sz3:Sz (0+1+1+1):=⟨by decide⟩
theorem sz4:Sz (0+1+1+1+1):=⟨by decide⟩
theorem sz1:Sz (0+1):=⟨by decide⟩
theorem sz0:Sz 0:=⟨by decide⟩
local macro_rules | `(tactic| walk_at "rd")=>do
 let a <- ("aZ cH bZ pW eW bK dQ tN rO aU kO eR kN aM aE rC r2 r1 bA rN rOr kJ mH xR mI rIf aJ aC kK gQ aW rCB iN pX pZ fF xZ riL riT kP tR hX hR dN gO nP gB fA pY lZ xT tU xS pN dZ fY wN dNe lY qF qG cV eM eK dO dD jX mQ gP eV wL kY mF fR fS fT fG fH fI fJ fK fM fN fO fP fQ eG eI mP wK pO jW fU kZ lH lF lG lE lI S.val bW xV tP rQ uW rR uX tQ xW xX xY qC qD qE List.map_cons List.map_nil List.cons_append List.nil_append List.length_cons List.length_nil List.getElem?_cons_zero List.getElem?_cons_succ List.set_cons_zero List.set_cons_succ List.append_nil Bool.or_false Bool.or_true Bool.false_or Bool.true_or Bool.not_true Bool.not_false if_true if_false Bool.false_eq_true sz0 sz1 sz2 sz3 sz4 true_and decide_eq_true_eq Int.reduceToNat Int.reducePow Int.reduceMul Int.reduceSub Int.reduceAdd Int.reduceNeg".splitOn " ").toArray.mapM λx=>`(Lean.Parser.Tactic.simpLemma| $(Lean.mkIdent x.toName):term)
 `(tactic| simp only[$a,*])
local macro_rules | `(tactic| walk_at "side")=>`(tactic| first | exact lO | exact dX | exact (BL.const (n:=9000) (by decide)).divOk (by decide) | exact (BL.const (n:=300) (by decide)).mulOk (BL.const (n:=300) (by decide)))
local macro_rules | `(tactic| walk_at "sides")=>`(tactic| repeat (refine And.intro (by walk_at "side") ?_))
theorem jT (i:Int):(if i<0 then -i else i)=((i.natAbs:Nat):Int):=by split <;> omega
theorem pS (x y:Nat):((x:Nat):Int).fmod (y:Nat)=((x % y:Nat):Int):=by
 rw[Int.fmod_eq_emod_of_nonneg _ (Int.natCast_nonneg y)];exact (Int.natCast_emod x y).symm
noncomputable def mB:FD:=λds Q=>∃a b:Int,ds=[.int a,.int b]/\Q (.int (Int.gcd a b:Nat))
theorem vU:∀ds Q,mB ds Q->ds.length=2:=by rintro ds Q ⟨a,b,rfl,_⟩;rfl
theorem lJ (E:DEnds):∀(y x:Nat),E.nx [some (.d (.int (Nat.gcd x y:Nat))),some (.d (.int (0:Nat)))] ->
  oK (bA (r2 (gP λi j=>decide (j<i)) (aE 1) (rC (.int 0)))) cS E [some (.d (.int (x:Nat))),some (.d (.int (y:Nat)))]:=by
 intro y
 induction y using Nat.strongRecOn with
 | ind y ih =>
  intro x h
  cases Nat.eq_zero_or_pos y with
  | inl hy =>
   subst hy
   refine⟨1,?_⟩
   unfold gE
   walk_at "rd"
   rw[if_neg (by decide)]
   rw[Nat.gcd_zero_right] at h
   exact h
  | inr hy =>
   have h2:=ih (x % y) (Nat.mod_lt x hy) y (by
    rw[Nat.gcd_comm y,<-Nat.gcd_rec,Nat.gcd_comm];exact h)
   obtain⟨n,hn⟩:=h2
   refine⟨n+1,?_⟩
   unfold gE cS
   walk_at "rd"
   rw[if_pos (by omega)]
   refine⟨⟨by omega⟩,?_⟩
   rw[pS]
   exact hn
theorem lR:∀ds Q,mB ds Q->cM { nx:=λ_=>Q .non,rt:=Q } (aO ["_law_one","_law_other"] ds):=by
 rintro ds Q ⟨a,b,rfl,q⟩
 rw[aS 0 rfl]
 unfold cM
 walk_at "rd"
 rw[jT,jT]
 refine lJ _ _ _ ?_
 walk_at "rd"
 exact q
theorem iQ (E:DEnds) (u v:Option S):∀(y x:Nat) (r:Option S),(∀r,E.nx [u,v,some (.d (.int (Nat.gcd x y:Nat))),some (.d (.int (0:Nat))),r]) ->
  oK (bA (r2 (eV true) (aE 3) (rC (.int 0)))) cF E [u,v,some (.d (.int (x:Nat))),some (.d (.int (y:Nat))),r]:=by
 intro y
 induction y using Nat.strongRecOn with
 | ind y ih =>
  intro x r h
  cases Nat.eq_zero_or_pos y with
  | inl hy =>
   subst hy
   refine⟨1,?_⟩
   unfold gE
   walk_at "rd"
   rw[if_neg (by simp)]
   rw[Nat.gcd_zero_right] at h
   exact h r
  | inr hy =>
   obtain⟨n,hn⟩:=ih (x % y) (Nat.mod_lt x hy) y (some (.d (.int ((x % y:Nat))))) (by
    rw[Nat.gcd_comm y,<-Nat.gcd_rec,Nat.gcd_comm];exact h)
   refine⟨n+1,?_⟩
   unfold gE cF
   walk_at "rd"
   rw[if_pos (by simp;omega)]
   refine⟨⟨by omega⟩,?_⟩
   rw[pS]
   exact hn
theorem iR:∀ds Q,mB ds Q->cE { nx:=λ_=>Q .non,rt:=Q } (aO ["one","other","larger","smaller","rest"] ds):=by
 rintro ds Q ⟨a,b,rfl,q⟩
 rw[aS 3 rfl]
 unfold cE
 walk_at "rd"
 rw[jT,jT]
 refine iQ _ _ _ _ _ _ λr=>?_
 walk_at "rd"
 exact q
noncomputable abbrev fr (a b:Int):D:=.tup [.int a,.int b]
theorem nB {a b:Int} (h:b≠0):0<(Int.gcd a b:Int):=by
 have:0<Int.gcd a b:=Int.gcd_pos_of_ne_zero_right a h
 omega
theorem BL.gcd {n:Nat} {a b:Int} (hb:b≠0) (h:BL n b):BL n (Int.gcd a b:Int):=by
 refine h.le ?_
 rw[Int.natAbs_natCast]
 exact Nat.le_of_dvd (by omega) (Int.gcd_dvd_natAbs_right a b)
structure Low (a b p q:Int):Prop where
 pos:0<q
 cop:Int.gcd p q=1
 worth:p*b=a*q
 lea:p.natAbs<=a.natAbs
 leb:q.natAbs<=b.natAbs
theorem nD {a b:Int} (hb:0<b):Low a b (a.fdiv (Int.gcd a b:Nat)) (b.fdiv (Int.gcd a b:Nat)):=by
 have hg:0<(Int.gcd a b:Int):=nB (by omega)
 have ea:((Int.gcd a b:Nat):Int)∣a:=Int.gcd_dvd_left ..
 have eb:((Int.gcd a b:Nat):Int)∣b:=Int.gcd_dvd_right ..
 rw[Int.fdiv_eq_ediv_of_nonneg _ (by omega),Int.fdiv_eq_ediv_of_nonneg _ (by omega)]
 have e1:a / (Int.gcd a b:Int)*(Int.gcd a b:Int)=a:=Int.ediv_mul_cancel ea
 have e2:b / (Int.gcd a b:Int)*(Int.gcd a b:Int)=b:=Int.ediv_mul_cancel eb
 have hc:Int.gcd (a / (Int.gcd a b:Int)) (b / (Int.gcd a b:Int))=1:=Int.gcd_ediv_gcd_ediv_gcd (by omega)
 generalize (Int.gcd a b:Int)=g at *
 generalize a / g=p at *
 generalize b / g=q at *
 subst e1 e2
 refine⟨?_,hc,by rw[Int.mul_assoc,Int.mul_comm q g],?_,?_⟩
 ·exact Int.pos_of_mul_pos_left hb (by omega)
 ·rw[Int.natAbs_mul];exact Nat.le_mul_of_pos_right _ (by omega)
 ·rw[Int.natAbs_mul];exact Nat.le_mul_of_pos_right _ (by omega)
theorem BZ {a b:Int} (hb:b<0):Low a b (a.fdiv (-(Int.gcd a b:Nat))) (b.fdiv (-(Int.gcd a b:Nat))):=by
 have h:=nD (a:=-a) (b:=-b) (by omega)
 have e:Int.gcd (-a) (-b)=Int.gcd a b:=by rw[Int.neg_gcd,Int.gcd_neg]
 rw[e] at h
 have f:∀x g:Int,(-x).fdiv g=x.fdiv (-g):=λx g=>by
  have:=Int.neg_fdiv_neg (-x) g
  rw[Int.neg_neg] at this
  exact this.symm
 rw[f,f] at h
 refine⟨h.pos,h.cop,?_,by have:=h.lea;omega,by have:=h.leb;omega⟩
 have w:=h.worth
 rw[Int.mul_neg,Int.neg_mul] at w
 exact Int.neg_inj.mp w
noncomputable def cJ:FD:=λds Q=>∃a b:Int,ds=[.int a,.int b]/\(b≠0/\BL 9000 b)/\∀p q,Low a b p q->Q (fr p q)
theorem xG:∀ds Q,cJ ds Q->ds.length=2:=by rintro ds Q ⟨a,b,rfl,_⟩;rfl
theorem uT:∀ds Q,cJ ds Q->kM mB { nx:=λ_=>Q .non,rt:=Q } (aO ["top","bottom","divisor"] ds):=by
 rintro ds Q ⟨a,b,rfl,⟨h0,hb⟩,q⟩
 rw[aS 1 rfl]
 unfold kM
 walk_at "rd"
 rw[if_neg h0]
 refine⟨a,b,rfl,?_⟩
 have hg:=nB (a:=a) h0
 have bg:=BL.gcd (a:=a) h0 hb
 walk_at "rd"
 split
 ·rename_i hlt
  refine⟨bg.neg.divOk (by omega),bg.neg.divOk (by omega),q _ _ (BZ hlt)⟩
 ·rename_i hlt
  refine⟨bg.divOk (by omega),bg.divOk (by omega),q _ _ (nD (by omega))⟩
structure Fr (n:Nat) (a b:Int):Prop where
 pos:0<b
 top:BL n a
 bot:BL n b
 cop:Int.gcd a b=1
noncomputable def CS (f:Int->Int->Int->Int->Int):FD:=λds Q=>∃a b c d:Int,ds=[fr a b,fr c d]/\(0<b/\0<d)/\(BL 4000 a/\BL 4000 b/\BL 4000 c/\BL 4000 d)/\∀p q,Low (f a b c d) (b*d) p q->Q (fr p q)
theorem zS {f:Int->Int->Int->Int->Int}:∀ds Q,CS f ds Q->ds.length=2:=by rintro ds Q ⟨a,b,c,d,rfl,_⟩;rfl
noncomputable abbrev bH:FD:=CS λa b c d=>a*d-c*b
theorem uS:∀ds Q,bH ds Q->kL cJ { nx:=λ_=>Q .non,rt:=Q } (aO ["one","other"] ds):=by
 rintro ds Q ⟨a,b,c,d,rfl,⟨h1,h2⟩,⟨ba,bb,bc,bd⟩,q⟩
 rw[aS 0 rfl]
 unfold kL
 walk_at "rd"
 refine⟨ba.mulOk bd,bc.mulOk bb,bb.mulOk bd,_,_,rfl,⟨Int.ne_of_gt (Int.mul_pos h1 h2),(bb.mul bd).mono (by decide)⟩,q⟩
noncomputable def rY:FD:=λds Q=>∃a b:Int,ds=[.int a,.int b]/\(0<b/\BL 9000 b)/\∀p q,Low a b p q->Q (fr p q)
theorem BY:∀ds Q,rY ds Q->ds.length=2:=by rintro ds Q ⟨a,b,rfl,_⟩;rfl
theorem mY:∀ds Q,rY ds Q->dA mB { nx:=λ_=>Q .non,rt:=Q } (aO ["_law_top","_law_bottom","_law_by"] ds):=by
 rintro ds Q ⟨a,b,rfl,⟨h0,hb⟩,q⟩
 rw[aS 1 rfl]
 unfold dA
 walk_at "rd"
 refine⟨a,b,rfl,?_⟩
 have hg:=nB (a:=a) (b:=b) (by omega)
 have bg:=BL.gcd (a:=a) (b:=b) (by omega) hb
 walk_at "rd"
 exact⟨bg.divOk (by omega),bg.divOk (by omega),q _ _ (nD h0)⟩
noncomputable def nA:FD:=λds Q=>∃a:Int,ds=[.int a]/\Q (.bl true)
theorem xH:∀ds Q,nA ds Q->ds.length=1:=by rintro ds Q ⟨a,rfl,_⟩;rfl
theorem oJ:∀ds Q,nA ds Q->dM { nx:=λ_=>Q .non,rt:=Q } (aO ["_law_found"] ds):=by
 rintro ds Q ⟨a,rfl,q⟩
 rw[aS 0 rfl]
 unfold dM
 walk_at "rd"
 exact q
noncomputable def kX:FD:=λds Q=>∃(ns:List Int) (k:Int),ds=[.lst (ns.map .int),.int k]/\0<=k/\∀c,Q (.int c)
theorem zR:∀ds Q,kX ds Q->ds.length=2:=by rintro ds Q ⟨a,b,rfl,_⟩;rfl
theorem lQ:∀ds Q,kX ds Q->cL { nx:=λ_=>Q .non,rt:=Q } (aO ["_law_script","_law_k"] ds):=by
 rintro ds Q ⟨ns,k,rfl,hk,q⟩
 rw[aS 0 rfl]
 unfold cL
 walk_at "rd"
 split
 ·rename_i hlt
  refine vC hk hlt ?_
  intro x hx
  obtain⟨c,_,rfl⟩:=List.mem_map.mp hx
  exact q c
 ·exact q 0
theorem bE {a b:Int} (h:0<b):0<=a.fmod b/\a.fmod b<b:=⟨Int.fmod_nonneg_of_pos a h,Int.fmod_lt_of_pos a h⟩
theorem BW:∀ds Q,wB 63 ds Q->ds.length=1:=by rintro ds Q ⟨a,rfl,_⟩;rfl
theorem kF {g:RG} {t:RS} {E:DEnds} (J:List D->En->Prop)
  (step:∀x xs ρ,J (x::xs) ρ->∀F:DEnds,F.rt=E.rt->F.bk=E.nx->(∀ρ',J xs ρ'->F.nx ρ')->(∀ρ',J xs ρ'->F.ct ρ')->g x ρ λρ1=>t F ρ1) (last:∀ρ,J [] ρ->E.nx ρ):∀xs ρ,J xs ρ->qZ g t xs E ρ
 | [],ρ,h=>last ρ h
 | x::xs,ρ,h=>step x xs ρ h _ rfl rfl (λρ' h'=>kF J step last xs ρ' h') λρ' h'=>kF J step last xs ρ' h'
theorem sJ {α:Type} {g:RG} {te:RE} (R:En->Prop) (enc f:α->D):∀(src:List α) {Q:List D->Prop},(∀a∈src,∀ρ,R ρ->∀K:En->D->Prop,(∀ρ1,R ρ1->K ρ1 (f a))->g (enc a) ρ λρ1=>te ρ1 λd=>K ρ1 d) ->
  ∀(ρ:En) (acc:List D),R ρ->Q (acc++src.map f)->dN g te (src.map enc) ρ acc Q
 | [],Q,_,ρ,acc,_,q=>by
  show Q acc
  simpa using q
 | a::src,Q,step,ρ,acc,h,q=>by
  show g (enc a) ρ λρ'=>te ρ' λd=>dN g te (src.map enc) ρ' (acc++[d]) Q
  refine step a List.mem_cons_self ρ h (λρ1 d=>dN g te (src.map enc) ρ1 (acc++[d]) Q) λρ1 h1=>?_
  exact sJ R enc f src (λb hb=>step b (List.mem_cons_of_mem _ hb)) ρ1 _ h1 (by simpa using q)
theorem yU {α:Type} {g:RG} {te:RE} (R:En->Prop) (enc f:α->D) (src:List α) {Q:List D->Prop} {ρ:En} (step:∀a∈src,∀ρ,R ρ->∀K:En->D->Prop,(∀ρ1,R ρ1->K ρ1 (f a))->g (enc a) ρ λρ1=>te ρ1 λd=>K ρ1 d)
  (h:R ρ) (q:Q (src.map f)):dN g te (src.map enc) ρ [] Q:=sJ R enc f src step ρ [] h (by simpa using q)
noncomputable abbrev il (ns:List Int):D:=.lst (ns.map .int)
noncomputable abbrev pt (p:Int × Int):D:=.tup [.int p.1,.int p.2]
theorem gN {n:Nat} (h:n<=100000):Sz n:=⟨Nat.le_trans h (by decide)⟩
noncomputable abbrev big:Int:=1000000000000000000000000000000000000000000000000000000000007
structure Drawn (m:Nat) (xs:List Int):Prop where
 len:xs.length=m
 lo:∀x∈xs,0<=x
 hi:∀x∈xs,x<big
theorem uO {lo:Int} {n:Nat} {x:D} (h:x∈cY lo n):∃j:Int,x = .int j/\lo<=j/\j<lo+n:=by
 unfold cY at h
 obtain⟨k,hk,rfl⟩:=List.mem_map.mp h
 have:=List.mem_range.mp hk
 exact⟨_,rfl,by omega,by omega⟩
theorem jL {lo:Int} {n:Nat}:(cY lo n).length=n:=by simp[cY]
theorem aQ {t u:RS} {E:DEnds} {ρ:En} (I:En->Prop) (h1:∀K:En->Prop,(∀ρ',I ρ'->K ρ')->t { E with nx:=K } ρ) (h2:∀ρ',I ρ'->u E ρ'):aZ t u E ρ:=h1 (u E) h2
noncomputable def rX:FD:=λds Q=>∃a b:Int,ds=[.int a,.int b]/\(0<a/\0<b)/\(BL 8000 a/\BL 8000 b)/\∀l,0<l->a∣l->b∣l->l<=a*b->Q (.int l)
theorem BX:∀ds Q,rX ds Q->ds.length=2:=by rintro ds Q ⟨_,_,rfl,_⟩;rfl
theorem gZ:∀ds Q,rX ds Q->bX mB { nx:=λ_=>Q .non,rt:=Q } (aO ["one","other"] ds):=by
 rintro ds Q ⟨a,b,rfl,⟨ha,hb⟩,⟨ba,bb⟩,q⟩
 rw[aS 0 rfl]
 unfold bX
 walk_at "rd"
 refine⟨a,b,rfl,?_⟩
 have hg:=nB (a:=a) (b:=b) (by omega)
 have bg:=BL.gcd (a:=a) (b:=b) (by omega) bb
 walk_at "rd"
 have b2:BL 8000 (b.fdiv (Int.gcd a b:Nat)):=bb.fdiv
 refine⟨(bg.mono (by decide)).divOk (by omega),ba.mulOk b2,?_⟩
 obtain⟨c,ec⟩:((Int.gcd a b:Nat):Int)∣b:=Int.gcd_dvd_right ..
 obtain⟨d,ed⟩:((Int.gcd a b:Nat):Int)∣a:=Int.gcd_dvd_left ..
 have e1:b.fdiv (Int.gcd a b:Nat)=c:=by
  rw[Int.fdiv_eq_ediv_of_nonneg _ (by omega)]
  have:b / ((Int.gcd a b:Nat):Int)=(((Int.gcd a b:Nat):Int)*c) / ((Int.gcd a b:Nat):Int):=congrArg (· / ((Int.gcd a b:Nat):Int)) ec
  rw[this,Int.mul_ediv_cancel_left _ (by omega)]
 rw[e1]
 generalize hG:((Int.gcd a b:Nat):Int)=g at *
 have pc:0<c:=by
  apply Int.not_le.mp
  intro hn
  have:g*c<=0:=Int.mul_nonpos_of_nonneg_of_nonpos (by omega) hn
  omega
 refine q _ (Int.mul_pos ha pc) (Int.dvd_mul_right ..) ⟨d,by rw[ed,ec];grind⟩ ?_
 rw[ec]
 have:0<=a*((g-1)*c):=Int.mul_nonneg (by omega) (Int.mul_nonneg (by omega) (by omega))
 have e:a*(g*c)=a*c+a*((g-1)*c):=by grind
 omega
local macro_rules | `(tactic| walk_at "rd")=>do
 let a <- ("S.fz AK AL yV aZ cH bZ pW eW bK dQ tN rO aU kO eR kN aM aE rC r2 r1 bA rN rOr kJ mH xR mI rIf aJ aC kK gQ aW rCB iN pX pZ fF xZ riL riT kP tR hX hR dN gO nP gB fA pY lZ xT tU xS pN dZ fY wN dNe lY qF qG cV eM eK dO dD jX mQ gP eV wL kY mF fR fS fT fG fH fI fJ fK fM fN fO fP fQ eG eI mP wK pO jW fU kZ lH lF lG lE lI S.val bW xV tP rQ uW rR uX tQ xW xX xY qC qD qE List.map_cons List.map_nil List.cons_append List.nil_append List.length_cons List.length_nil List.getElem?_cons_zero List.getElem?_cons_succ List.set_cons_zero List.set_cons_succ List.append_nil Bool.or_false Bool.or_true Bool.false_or Bool.true_or Bool.not_true Bool.not_false if_true if_false Bool.false_eq_true sz0 sz1 sz2 sz3 sz4 true_and decide_eq_true_eq Int.reduceToNat Int.reducePow Int.reduceMul Int.reduceSub Int.reduceAdd Int.reduceNeg".splitOn " ").toArray.mapM λx=>`(Lean.Parser.Tactic.simpLemma| $(Lean.mkIdent x.toName):term)
 `(tactic| simp only[$a,*])
local macro_rules | `(tactic| walk_at "rd")=>do
 let a <- ("aZ cH bZ pW eW bK dQ tN rO aU kO eR kN aM aE rC r2 r1 bA rN rOr kJ mH xR mI rIf aJ aC kK gQ aW rCB iN pX pZ fF xZ riL riT kP tR hX hR dN gO nP gB fA pY lZ xT tU xS pN dZ fY wN dNe lY qF qG cV eM eK dO dD jX mQ gP eV wL kY mF fR fS fT fG fH fI fJ fK fM fN fO fP fQ eG eI mP wK pO jW fU kZ lH lF lG lE lI S.val bW xV tP rQ uW rR uX tQ xW xX xY qC qD qE List.map_cons List.map_nil List.cons_append List.nil_append List.length_cons List.length_nil List.getElem?_cons_zero List.getElem?_cons_succ List.set_cons_zero List.set_cons_succ List.append_nil Bool.or_false Bool.or_true Bool.false_or Bool.true_or Bool.not_true Bool.not_false if_true if_false Bool.false_eq_true sz0 sz1 sz2 sz3 sz4 true_and decide_eq_true_eq Int.reduceToNat Int.reducePow Int.reduceMul Int.reduceSub Int.reduceAdd Int.reduceNeg".splitOn " ").toArray.mapM λx=>`(Lean.Parser.Tactic.simpLemma| $(Lean.mkIdent x.toName):term)
 `(tactic| simp only[$a,*])
namespace K12
theorem vP {q p r:Int} (h:Int.gcd q p=1) (d:q∣p*r):q∣r:=by
 have h1:q.natAbs∣p.natAbs*r.natAbs:=by rw[<-Int.natAbs_mul];exact Int.natAbs_dvd_natAbs.mpr d
 exact Int.natAbs_dvd_natAbs.mp (Nat.Coprime.dvd_of_dvd_mul_left h h1)
theorem low_eq {a b p q p' q':Int} (hb:0<b) (h:Low a b p q) (h':Low a b p' q'):p=p'/\q=q':=by
 have e:p*q'=p'*q:=by
  have h1:=h.worth
  have h2:=h'.worth
  have:(p*q')*b=(p'*q)*b:=by grind
  exact Int.eq_of_mul_eq_mul_right (by omega) this
 have d1:q∣q':=by
  have:q∣p*q':=by rw[e];exact Int.dvd_mul_left ..
  exact vP (by rw[Int.gcd_comm];exact h.cop) this
 have d2:q'∣q:=by
  have:q'∣p'*q:=by rw[<-e];exact Int.dvd_mul_left ..
  exact vP (by rw[Int.gcd_comm];exact h'.cop) this
 have l1:=Int.le_of_dvd h'.pos d1
 have l2:=Int.le_of_dvd h.pos d2
 have eq:q=q':=by omega
 subst eq
 exact⟨Int.eq_of_mul_eq_mul_right (by have:=h.pos;omega) e,rfl⟩
end K12
theorem gU {g:RG} {t:RS} {E:DEnds} (xs:List D) (J:Nat->En->Prop) (step:∀i x ρ,xs[i]? = some x->J i ρ->∀F:DEnds,F.rt=E.rt->F.bk=E.nx->(∀ρ',J (i+1) ρ'->F.nx ρ')->(∀ρ',J (i+1) ρ'->F.ct ρ')->g x ρ λρ1=>t F ρ1)
  (last:∀ρ,J xs.length ρ->E.nx ρ) (ρ:En) (h:J 0 ρ):qZ g t xs E ρ:=by
 refine kF (λys ρ=>∃i,i<=xs.length/\ys=xs.drop i/\J i ρ) ?_ ?_ xs ρ ⟨0,Nat.zero_le _,rfl,h⟩
 ·rintro x ys ρ ⟨i,hi,e,hJ⟩ F f1 f2 f3 f4
  have hlt:i<xs.length:=by
   apply Nat.not_le.mp
   intro hn
   rw[List.drop_of_length_le hn] at e;cases e
  rw[List.drop_eq_getElem_cons hlt] at e
  cases e
  exact step i _ ρ (List.getElem?_eq_getElem hlt) hJ F f1 f2 (λρ' h=>f3 ρ' ⟨i+1,by omega,rfl,h⟩) λρ' h=>f4 ρ' ⟨i+1,by omega,rfl,h⟩
 ·rintro ρ ⟨i,hi,e,hJ⟩
  have:i=xs.length:=by
   have:=congrArg List.length e
   simp at this;omega
  subst this
  exact last ρ hJ
theorem uV {lo:Int} {n i:Nat} {x:D} (h:(cY lo n)[i]? = some x):x = .int (lo+i)/\i<n:=by
 unfold cY at h
 rw[List.getElem?_map] at h
 by_cases hi:i<n
 ·rw[List.getElem?_range hi] at h;cases h;exact⟨rfl,hi⟩
 ·rw[List.getElem?_eq_none (by simpa using hi)] at h;cases h
theorem yE {lo:Int} {n i:Nat} {x:D} (h:(kR lo n)[i]? = some x):x = .int (lo+i*2)/\i<n:=by
 unfold kR at h
 rw[List.getElem?_map] at h
 by_cases hi:i<n
 ·rw[List.getElem?_range hi] at h;cases h;exact⟨rfl,hi⟩
 ·rw[List.getElem?_eq_none (by simpa using hi)] at h;cases h
theorem yF {lo:Int} {n:Nat}:(kR lo n).length=n:=by simp[kR]
theorem gA {g:RG} {t:RS} {E:DEnds} (lo:Int) (n:Nat) (J:Nat->En->Prop) (step:∀i ρ,i<n->J i ρ->∀F:DEnds,F.rt=E.rt->F.bk=E.nx->(∀ρ',J (i+1) ρ'->F.nx ρ')->(∀ρ',J (i+1) ρ'->F.ct ρ')->g (.int (lo+i)) ρ λρ1=>t F ρ1)
  (last:∀ρ,J n ρ->E.nx ρ) (ρ:En) (h:J 0 ρ):qZ g t (cY lo n) E ρ:=by
 refine gU _ J (λi x ρ e hJ=>?_) (λρ h=>last ρ (by rwa [jL] at h)) ρ h
 obtain⟨rfl,hi⟩:=uV e
 exact step i ρ hi hJ
theorem BP {g:RG} {t:RS} {E:DEnds} (lo:Int) (n:Nat) (J:Nat->En->Prop) (step:∀i ρ,i<n->J i ρ->∀F:DEnds,F.rt=E.rt->F.bk=E.nx->(∀ρ',J (i+1) ρ'->F.nx ρ')->(∀ρ',J (i+1) ρ'->F.ct ρ')->g (.int (lo+i*2)) ρ λρ1=>t F ρ1)
  (last:∀ρ,J n ρ->E.nx ρ) (ρ:En) (h:J 0 ρ):qZ g t (kR lo n) E ρ:=by
 refine gU _ J (λi x ρ e hJ=>?_) (λρ h=>last ρ (by rwa [yF] at h)) ρ h
 obtain⟨rfl,hi⟩:=yE e
 exact step i ρ hi hJ
theorem GW {ns:List Int} {i:Int} {Q:D->Prop} (h0:0<=i) (h1:i<ns.length) (q:∀v,ns[i.toNat]? = some v->Q (.int v)):dIx (il ns) (.int i) Q:=by
 have hj:i.toNat<ns.length:=by omega
 exact dH (yM (j:=i.toNat) (by omega) (by rw[List.getElem?_map,List.getElem?_eq_getElem hj];rfl)) (q _ (List.getElem?_eq_getElem hj))
theorem zL {ns:List Int} (hne:ns≠[]) {Q:D->Prop} (q:∀v l,ns=l++[v]->Q (.int v)):dIx (.lst (ns.map D.int)) (.int (-1)) Q:=by
 rcases List.eq_nil_or_concat ns with h | ⟨l,v,h⟩
 ·exact absurd h hne
 ·have e:ns=l++[v]:=by simpa using h
  have:ns.map D.int=l.map D.int++[D.int v]:=by rw[e];simp
  rw[this]
  refine dH ?_ (q v l e)
  unfold atI ixN
  rw[if_neg (by decide),if_pos (by simp;omega)]
  have:((-1:Int)+((l.map D.int++[D.int v]).length:Nat)).toNat=l.length:=by simp;omega
  simp only[this,Option.bind_some]
  simp
noncomputable def jQ:FD:=λds Q=>∃(ns:List Int) (k:Int),ds=[il ns,.int k]/\(0<=k/\k<=100000)/\∀v,0<=v->v<2147483647->Q (.int v)
theorem xF:∀ds Q,jQ ds Q->ds.length=2:=by rintro ds Q ⟨_,_,rfl,_⟩;rfl
theorem oI:∀ds Q,jQ ds Q->dL { nx:=λ_=>Q .non,rt:=Q } (aO ["_law_script","_law_k","_law_cell","_law_number"] ds):=by
 rintro ds Q ⟨ns,k,rfl,⟨k0,k1⟩,q⟩
 rw[aS 2 rfl]
 unfold dL
 simp only[bW,rQ,List.map_cons,List.map_nil,List.cons_append,List.nil_append]
 refine aQ (λρ=>ρ=[some (.d (il ns)),some (.d (.int k)),some (.d (.int 0)),none]) (λK hK=>?_) ?_
 ·walk_at "rd"
  exact hK _ rfl
 rintro ρ rfl
 refine aQ (λρ=>∃c:Int,ρ=[some (.d (il ns)),some (.d (.int k)),some (.d (.int c)),none]) (λK hK=>?_) ?_
 ·walk_at "rd"
  split
  ·rename_i h
   have hl:0<ns.length:=by simp at h;exact h
   have hm:∃m:Int,(if (((ns.map D.int).length:Nat):Int)<63 then (((ns.map D.int).length:Nat):Int) else 63)=m/\0<m/\m<=ns.length:=by
    refine⟨_,rfl,?_,?_⟩ <;> (simp;split <;> omega)
   obtain⟨m,em,m0,m1⟩:=hm
   rw[em]
   obtain⟨a0,a1⟩:=bE (a:=k) (b:=m) m0
   exact⟨⟨by omega⟩,GW a0 (by omega) λv _=>hK _ ⟨v,rfl⟩⟩
  ·exact hK _ ⟨_,rfl⟩
 rintro ρ ⟨c,rfl⟩
 walk_at "rd"
 obtain⟨a0,a1⟩:=bE (a:=c) (b:=1000000000000000000) (by decide)
 have b1:BL 100 (c.fmod 1000000000000000000+48271*(k+1)):=BL.of_lt (by omega) (by
  have:((2 ^ 100:Nat):Int)=1267650600228229401496703205376:=by decide
  omega)
 obtain⟨c0,c1⟩:=bE (a:=(c.fmod 1000000000000000000+48271*(k+1))*(c.fmod 1000000000000000000+48271*(k+1))) (b:=2147483647) (by decide)
 exact⟨lO,dX,(BL.const (n:=20) (by decide)).mulOk (n:=20) (BL.of_lt (by omega) (by omega)),b1.mulOk b1,dX,q _ c0 c1⟩
structure Thr (ts:List Int):Prop where
 len:2<=ts.length/\ts.length<=5
 bl:∀x∈ts,BL 200 x
 step:∀(i:Nat) a b,ts[i]? = some a->ts[i+1]? = some b->1<=b-a/\b-a<=40
 wide:∀x∈ts,∀y∈ts,y-x<=60
noncomputable abbrev gG:Int:=100000000000000000000000000000000000000000000000000
noncomputable def iH:FD:=λds Q=>∃ns:List Int,ds=[il ns]/\∀ts,Thr ts->Q (il ts)
theorem sY:∀ds Q,iH ds Q->ds.length=1:=by rintro ds Q ⟨_,rfl,_⟩;rfl
theorem lU:∀ds Q,iH ds Q->cO kX jQ { nx:=λ_=>Q .non,rt:=Q } (aO ["_law_script","_law_found","_law_k","_law_wide"] ds):=by
 rintro ds Q ⟨ns,rfl,q⟩
 rw[aS 3 rfl]
 unfold cO
 simp only[bW,uW,List.map_cons,List.map_nil,List.cons_append,List.nil_append]
 refine aQ (λρ=>∃a:Int,(-gG<=a/\a<=gG)/\ρ=[some (.d (il ns)),some (.own [.int a]),none,none]) (λK hK=>?_) ?_
 ·walk_at "rd"
  refine⟨ns,0,rfl,by decide,λc=>?_⟩
  walk_at "rd"
  obtain⟨a0,a1⟩:=bE (a:=c) (b:=2001) (by decide)
  exact⟨dX,hK _ ⟨_,⟨by unfold gG;omega,by unfold gG;omega⟩,rfl⟩⟩
 rintro ρ ⟨a,ha,rfl⟩
 refine aQ (λρ=>∃a:Int,(-gG<=a/\a<=gG)/\ρ=[some (.d (il ns)),some (.own [.int a]),none,none]) (λK hK=>?_) ?_
 ·walk_at "rd"
  refine⟨ns,1,rfl,by decide,λc=>?_⟩
  walk_at "rd"
  walk_at "sides"
  split
  ·refine⟨ns,0,rfl,by decide,λc=>?_⟩
   walk_at "rd"
   obtain⟨a0,a1⟩:=bE (a:=c) (b:=200000000000000000000000000000000000000000000000000) (by decide)
   refine⟨lO,(BL.const (n:=300) (by decide)).mulOk (BL.const (n:=300) (by decide)),dX,lO,hK _ ⟨_,⟨by unfold gG;omega,by unfold gG;omega⟩,rfl⟩⟩
  ·exact hK _ ⟨a,ha,rfl⟩
 rintro ρ ⟨a,ha,rfl⟩
 refine aQ (λρ=>∃(ts:List Int) (x y:Option S),Thr ts/\ρ=[some (.d (il ns)),some (.own (ts.map D.int)),x,y]) (λK hK=>?_) ?_
 ·walk_at "rd"
  refine⟨ns,1,rfl,by decide,λc=>?_⟩
  walk_at "rd"
  obtain⟨a0,a1⟩:=bE (a:=c) (b:=4) (by decide)
  refine⟨dX,⟨by omega,by omega⟩,?_⟩
  have hn:((1+c.fmod 4).toNat:Int)=1+c.fmod 4:=by omega
  generalize (1+c.fmod 4).toNat=n at hn
  refine gA 0 n (λi ρ=>∃(ts:List Int) (x y:Option S),(ts.length=i+1/\(∀z∈ts,-gG<=z/\z<=gG+40*i)/\∀(i:Nat) a b,ts[i]? = some a->ts[i+1]? = some b->1<=b-a/\b-a<=40)/\(∀z∈ts,a<=z/\z<=a+37+3*i/\(i=0->z<=a))/\ρ=[some (.d (il ns)),some (.own (ts.map D.int)),x,y]) ?_ ?_ _ ⟨[a],none,none,⟨rfl,(λz hz=>by simp at hz;subst hz;unfold gG at *;omega),λi a b e1 e2=>by simp at e2⟩,(λz hz=>by simp at hz;subst hz;omega),rfl⟩
  ·rintro i ρ hi ⟨ts,x,y,⟨l1,l2,l3⟩,l4,rfl⟩ F _ _ hn' _
   unfold eQ
   simp only[aU,List.set_cons_zero,List.set_cons_succ]
   refine aQ (λρ=>∃w:Int,(1<=w/\w<=40/\(i≠0->w<=3))/\ρ=[some (.d (il ns)),some (.own (ts.map D.int)),some (.d (.int (0+i))),some (.d (.int w))]) (λK hK=>?_) ?_
   ·walk_at "rd"
    refine⟨ns,100+(0+(i:Int)),rfl,⟨by omega,by omega⟩,λv v0 v1=>?_⟩
    walk_at "rd"
    obtain⟨a0,a1⟩:=bE (a:=v) (b:=3) (by decide)
    exact⟨dX,hK _ ⟨_,⟨by omega,by omega,by omega⟩,rfl⟩⟩
   rintro ρ ⟨w,hw,rfl⟩
   refine aQ (λρ=>∃w:Int,(1<=w/\w<=40/\(i≠0->w<=3))/\ρ=[some (.d (il ns)),some (.own (ts.map D.int)),some (.d (.int (0+i))),some (.d (.int w))]) (λK hK=>?_) ?_
   ·walk_at "rd"
    split
    ·rename_i hi0
     refine⟨ns,2,rfl,by decide,λc=>?_⟩
     walk_at "rd"
     walk_at "sides"
     split
     ·refine⟨ns,2,rfl,by decide,λc=>?_⟩
      walk_at "rd"
      walk_at "sides"
      obtain⟨a0,a1⟩:=bE (a:=c.fdiv 8) (b:=40) (by decide)
      exact hK _ ⟨_,⟨by omega,by omega,by simp at hi0;omega⟩,rfl⟩
     ·exact hK _ ⟨w,hw,rfl⟩
    ·exact hK _ ⟨w,hw,rfl⟩
   rintro ρ ⟨w,hw,rfl⟩
   walk_at "rd"
   refine zL (by intro e;rw[e] at l1;simp at l1) λv l e=>?_
   walk_at "rd"
   refine⟨gN (by simp;omega),hn' _ ⟨ts++[v+w],some (.d (.int (0+(i:Int)))),some (.d (.int w)),⟨by simp[l1],λz hz=>?_,λj p r e1 e2=>?_⟩,(λz hz=>?_),by rw[List.map_append];rfl⟩⟩
   ·rcases List.mem_append.mp hz with h | h
    ·have:=l2 z h;omega
    ·have:=l2 v (by rw[e];simp)
     simp at h;subst h;omega
   rotate_left
   ·rcases List.mem_append.mp hz with h | h
    ·have:=l4 z h;omega
    ·have:=l4 v (by rw[e];simp)
     simp at h;subst h;omega
   ·by_cases hj:j+1<ts.length
    ·rw[List.getElem?_append_left (by omega)] at e1
     rw[List.getElem?_append_left hj] at e2
     exact l3 j p r e1 e2
    ·have h2:j+1<(ts++[v+w]).length:=(List.getElem?_eq_some_iff.mp e2).1
     simp at h2
     have hjl:j+1=ts.length:=by omega
     rw[List.getElem?_append_right (by omega),hjl,Nat.sub_self] at e2
     simp at e2
     rw[List.getElem?_append_left (by omega),e] at e1
     have:j=l.length:=by have:=congrArg List.length e;simp at this;omega
     rw[this,List.getElem?_append_right (Nat.le_refl _)] at e1
     simp at e1
     omega
  ·rintro ρ ⟨ts,x,y,⟨l1,l2,l3⟩,l4,rfl⟩
   refine hK _ ⟨ts,x,y,⟨⟨by omega,by omega⟩,λz hz=>?_,l3,λu hu v hv=>by have:=l4 u hu;have:=l4 v hv;omega⟩,rfl⟩
   have:=l2 z hz
   have e:gG+1000<((2 ^ 200:Nat):Int):=by decide
   exact BL.of_lt (by omega) (by omega)
 rintro ρ ⟨ts,x,y,T,rfl⟩
 walk_at "rd"
 exact q ts T
noncomputable abbrev BD (hs:List Int):Prop:=(∀x∈hs,BL 210 x)/\hs.Pairwise (·<=·)
noncomputable def iF:FD:=λds Q=>∃(ns:List Int) (m p:Int),ds=[il ns,.int m,.int p]/\(1<=m/\m<=20/\0<=p/\p<=20)/\∀hs:List Int,(hs.length:Int)=m->BD hs->Q (il hs)
theorem sV:∀ds Q,iF ds Q->ds.length=3:=by rintro ds Q ⟨_,_,_,rfl,_⟩;rfl
noncomputable abbrev gH:Int:=10000000000000000000000000000000000000000000000000000000000
theorem lS:∀ds Q,iF ds Q->cN kX jQ { nx:=λ_=>Q .non,rt:=Q } (aO ["_law_script","_law_many","_law_place","_law_cell","_law_number","_law_found","_law_k","_law_step"] ds):=by
 rintro ds Q ⟨ns,m,p,rfl,⟨m0,m1,p0,p1⟩,q⟩
 rw[aS 5 rfl]
 unfold cN
 simp only[bW,uX,List.map_cons,List.map_nil,List.cons_append,List.nil_append]
 refine aQ (λρ=>∃c:Int,ρ=[some (.d (il ns)),some (.d (.int m)),some (.d (.int p)),some (.d (.int c)),none,none,none,none]) (λK hK=>?_) ?_
 ·walk_at "rd"
  exact⟨ns,5+p,rfl,by omega,λc=>hK _ ⟨c,rfl⟩⟩
 rintro ρ ⟨c,rfl⟩
 refine aQ (λρ=>∃a:Int,(-gH<=a/\a<=gH)/\ρ=[some (.d (il ns)),some (.d (.int m)),some (.d (.int p)),some (.d (.int c)),some (.d (.int a)),none,none,none]) (λK hK=>?_) ?_
 ·walk_at "rd"
  obtain⟨a0,a1⟩:=bE (a:=c) (b:=41) (by decide)
  exact⟨dX,hK _ ⟨_,⟨by unfold gH;omega,by unfold gH;omega⟩,rfl⟩⟩
 rintro ρ ⟨a,ha,rfl⟩
 refine aQ (λρ=>∃a:Int,(-gH<=a/\a<=gH)/\ρ=[some (.d (il ns)),some (.d (.int m)),some (.d (.int p)),some (.d (.int c)),some (.d (.int a)),none,none,none]) (λK hK=>?_) ?_
 ·walk_at "rd"
  refine⟨ns,3,rfl,by decide,λc'=>?_⟩
  walk_at "rd"
  refine⟨dX,?_⟩
  split
  ·obtain⟨a0,a1⟩:=bE (a:=c) (b:=20000000000000000000000000000000000000000000000000000000000) (by decide)
   exact⟨lO,(BL.const (n:=300) (by decide)).mulOk (BL.const (n:=300) (by decide)),dX,lO,hK _ ⟨_,⟨by unfold gH;omega,by unfold gH;omega⟩,rfl⟩⟩
  ·exact hK _ ⟨a,ha,rfl⟩
 rintro ρ ⟨a,ha,rfl⟩
 refine aQ (λρ=>ρ=[some (.d (il ns)),some (.d (.int m)),some (.d (.int p)),some (.d (.int c)),some (.d (.int a)),some (.own [.int a]),none,none]) (λK hK=>?_) ?_
 ·walk_at "rd"
  exact hK _ rfl
 rintro ρ rfl
 refine aQ (λρ=>∃(hs:List Int) (u v w:Option S),((hs.length:Int)=m/\BD hs)/\ρ=[some (.d (il ns)),some (.d (.int m)),some (.d (.int p)),some (.d (.int c)),u,some (.own (hs.map D.int)),v,w]) (λK hK=>?_) ?_
 ·walk_at "rd"
  refine⟨⟨⟨by decide,by decide⟩,⟨by omega,by omega⟩⟩,?_⟩
  have hn:((m-1).toNat:Int)=m-1:=by omega
  generalize (m-1).toNat=n at hn
  refine gA 1 n (λi ρ=>∃(hs:List Int) (u v w:Option S),(hs.length=i+1/\(∀z∈hs,-gH<=z/\z<=gH+100000000*i)/\hs.Pairwise (·<=·))/\ρ=[some (.d (il ns)),some (.d (.int m)),some (.d (.int p)),some (.d (.int c)),u,some (.own (hs.map D.int)),v,w]) ?_ ?_ _ ⟨[a],some (.d (.int a)),none,none,⟨rfl,(λz hz=>by simp at hz;subst hz;unfold gH at *;omega),List.pairwise_singleton _ _⟩,rfl⟩
  ·rintro i ρ hi ⟨hs,u,v,w,⟨l1,l2,l3⟩,rfl⟩ F _ _ hn' _
   unfold eP
   simp only[aU,List.set_cons_zero,List.set_cons_succ]
   refine aQ (λρ=>∃x:Int,(0<=x/\x<2147483647)/\ρ=[some (.d (il ns)),some (.d (.int m)),some (.d (.int p)),some (.d (.int c)),some (.d (.int x)),some (.own (hs.map D.int)),some (.d (.int (1+i))),w]) (λK hK=>?_) ?_
   ·walk_at "rd"
    exact⟨(BL.const (n:=20) (by decide)).mulOk (n:=20) (BL.of_lt (by omega) (by omega)),ns,9*p+(1+(i:Int)),rfl,⟨by omega,by omega⟩,λx x0 x1=>hK _ ⟨x,⟨x0,x1⟩,rfl⟩⟩
   rintro ρ ⟨x,⟨x0,x1⟩,rfl⟩
   refine aQ (λρ=>∃y:Int,(0<=y/\y<100000000)/\ρ=[some (.d (il ns)),some (.d (.int m)),some (.d (.int p)),some (.d (.int c)),some (.d (.int x)),some (.own (hs.map D.int)),some (.d (.int (1+i))),some (.d (.int y))]) (λK hK=>?_) ?_
   ·walk_at "rd"
    obtain⟨b0,b1⟩:=bE (a:=x.fdiv 4) (b:=5) (by decide)
    obtain⟨c0,c1⟩:=bE (a:=x.fdiv 4) (b:=100000000) (by decide)
    obtain⟨a0,a1⟩:=bE (a:=x) (b:=4) (by decide)
    walk_at "sides"
    refine vC a0 (by simpa using a1) λz hz=>?_
    simp only[List.mem_cons,List.not_mem_nil,or_false] at hz
    rcases hz with rfl | rfl | rfl | rfl
    ·exact hK _ ⟨0,by decide,rfl⟩
    ·exact hK _ ⟨1,by decide,rfl⟩
    ·exact hK _ ⟨_,⟨by omega,by omega⟩,rfl⟩
    ·exact hK _ ⟨_,⟨by omega,by omega⟩,rfl⟩
   rintro ρ ⟨y,hy,rfl⟩
   walk_at "rd"
   refine zL (by intro e;rw[e] at l1;simp at l1) λt l e=>?_
   walk_at "rd"
   refine⟨gN (by simp;omega),hn' _ ⟨hs++[t+y],some (.d (.int x)),some (.d (.int (1+(i:Int)))),some (.d (.int y)),⟨by simp[l1],λz hz=>?_,List.pairwise_append.mpr ⟨l3,List.pairwise_singleton _ _,λx hx y hy=>?_⟩⟩,by rw[List.map_append];rfl⟩⟩
   ·rcases List.mem_append.mp hz with h | h
    ·have:=l2 z h;omega
    ·have:=l2 t (by rw[e];simp)
     simp at h;subst h;omega
   ·rw[e] at hx l3
    have hxt:x<=t:=by
     rcases List.mem_append.mp hx with h | h
     ·exact (List.pairwise_append.mp l3).2.2 x h t (.head _)
     ·rw[List.mem_singleton.mp h];exact Int.le_refl _
    rw[List.mem_singleton.mp hy];omega
  ·rintro ρ ⟨hs,u,v,w,⟨l1,l2,l3⟩,rfl⟩
   refine hK _ ⟨hs,u,v,w,⟨by omega,(λz hz=>?_),l3⟩,rfl⟩
   have:=l2 z hz
   have e:gH+100000000*30<((2 ^ 210:Nat):Int):=by decide
   exact BL.of_lt (by omega) (by omega)
 rintro ρ ⟨hs,u,v,w,⟨l1,l2⟩,rfl⟩
 walk_at "rd"
 exact q hs l1 l2
structure Curves (ts:List Int) (hss:List (List Int)) (n:Nat):Prop where
 thr:Thr ts
 len:hss.length=ts.length
 n1:1<=n/\n<=3
 each:∀hs∈hss,hs.length=2*n
 bl:∀hs∈hss,∀x∈hs,BL 210 x
 up:∀hs∈hss,hs.Pairwise (·<=·)
noncomputable abbrev ill (hss:List (List Int)):D:=.lst (hss.map il)
noncomputable def jO:FD:=λds Q=>∃ns:List Int,ds=[il ns]/\∀ts hss n,Curves ts hss n->Q (.tup [il ts,ill hss])
theorem uI:∀ds Q,jO ds Q->ds.length=1:=by rintro ds Q ⟨_,rfl,_⟩;rfl
theorem sK {g:RG} {te:RE} {R:En->Prop} {P:D->Prop}:∀(src:List D) {Q:List D->Prop} (ρ:En) (acc:List D),R ρ->(∀a∈src,∀ρ,R ρ->∀K:En->D->Prop,(∀ρ1 d,R ρ1->P d->K ρ1 d)->g a ρ λρ1=>te ρ1 λd=>K ρ1 d) ->
  (∀out:List D,out.length=src.length->(∀d∈out,P d)->Q (acc++out))->dN g te src ρ acc Q
 | [],Q,ρ,acc,_,_,q=>by
  show Q acc
  simpa using q [] rfl (by simp)
 | a::src,Q,ρ,acc,h,step,q=>by
  show g a ρ λρ'=>te ρ' λd=>dN g te src ρ' (acc++[d]) Q
  refine step a List.mem_cons_self ρ h (λρ1 d=>dN g te src ρ1 (acc++[d]) Q) λρ1 d h1 hd=>?_
  refine sK src ρ1 _ h1 (λb hb=>step b (List.mem_cons_of_mem _ hb)) λout hl hp=>?_
  have:=q (d::out) (by simp[hl]) λx hx=>by
   rcases List.mem_cons.mp hx with rfl | hx
   ·exact hd
   ·exact hp x hx
  simpa using this
theorem mX:∀ds Q,jO ds Q->cZ kX iF iH { nx:=λ_=>Q .non,rt:=Q } (aO ["_law_script","_law_threads_here","_law_many"] ds):=by
 rintro ds Q ⟨ns,rfl,q⟩
 rw[aS 2 rfl]
 unfold cZ
 simp only[bW,rQ,List.map_cons,List.map_nil,List.cons_append,List.nil_append]
 refine aQ (λρ=>∃ts,Thr ts/\ρ=[some (.d (il ns)),some (.d (il ts)),none]) (λK hK=>?_) ?_
 ·walk_at "rd"
  exact⟨ns,rfl,λts T=>hK _ ⟨ts,T,rfl⟩⟩
 rintro ρ ⟨ts,T,rfl⟩
 refine aQ (λρ=>∃n:Nat,(1<=n/\n<=3)/\ρ=[some (.d (il ns)),some (.d (il ts)),some (.d (.int (2*n)))]) (λK hK=>?_) ?_
 ·walk_at "rd"
  refine⟨ns,4,rfl,by decide,λc=>?_⟩
  walk_at "rd"
  obtain⟨a0,a1⟩:=bE (a:=c) (b:=3) (by decide)
  refine⟨dX,(BL.const (n:=20) (by decide)).mulOk (n:=20) (BL.of_lt (by omega) (by omega)),hK _ ⟨(1+c.fmod 3).toNat,⟨by omega,by omega⟩,?_⟩⟩
  have:((1+c.fmod 3).toNat:Int)=1+c.fmod 3:=by omega
  rw[this,show (2:Int)*(1+c.fmod 3)=2+2*c.fmod 3 by omega]
 rintro ρ ⟨n,hn,rfl⟩
 have tl:=T.len
 walk_at "rd"
 refine⟨⟨by rw[List.length_map];omega,by rw[List.length_map];omega⟩,gN (by rw[jL];simp;omega),?_⟩
 refine sK (R:=λρ=>∃a,ρ=[a,some (.d (il ns)),some (.d (.int (2*n)))]) (P:=λd=>∃hs:List Int,d=il hs/\hs.length=2*n/\BD hs) _ _ _ ⟨_,rfl⟩ ?_ ?_
 ·rintro a ha ρ ⟨b,rfl⟩ K hK
  obtain⟨j,rfl,j0,j1⟩:=uO ha
  simp at j1
  walk_at "rd"
  exact⟨ns,2*n,j,rfl,⟨by omega,by omega,by omega,by omega⟩,λhs l1 l2=>hK _ _ ⟨_,rfl⟩ ⟨hs,rfl,by omega,l2⟩⟩
 ·intro out hl hp
  obtain⟨hss,e,h1⟩:∃hss:List (List Int),out=hss.map il/\∀hs∈hss,hs.length=2*n/\BD hs:=by
   clear hl
   induction out with
   | nil=>exact⟨[],rfl,by simp⟩
   | cons d out ih =>
    obtain⟨hss,e,h1⟩:=ih λd hd=>hp d (by simp[hd])
    obtain⟨hs,rfl,h2⟩:=hp d (by simp)
    refine⟨hs::hss,by rw[e];rfl,λx hx=>?_⟩
    rcases List.mem_cons.mp hx with rfl | hx
    ·exact h2
    ·exact h1 x hx
  subst e
  simp only[List.nil_append]
  refine q ts hss n ⟨T,?_,hn,λhs h=>(h1 hs h).1,λhs h=>(h1 hs h).2.1,λhs h=>(h1 hs h).2.2⟩
  rw[jL] at hl
  simpa using hl
noncomputable abbrev lin (w k a b:Int):Int:=a*(w-k)+b*k
noncomputable def BC:FD:=λds Q=>∃(ts:List Int) (hss:List (List Int)) (n z:Nat) (k:Int) (c:Nat) (t0 t1:Int) (as bs:List Int) (a b:Int),ds=[il ts,ill hss,.int z,.int k,.int c]/\Curves ts hss n /\
 (ts[z]? = some t0/\ts[z+1]? = some t1/\hss[z]? = some as/\hss[z+1]? = some bs/\as[c]? = some a/\bs[c]? = some b/\0<=k/\k<=40)/\∀p q,Low (lin (t1-t0) k a b) (t1-t0) p q->Q (fr p q)
theorem ET:∀ds Q,BC ds Q->ds.length=5:=by rintro ds Q ⟨_,_,_,_,_,_,_,_,_,_,_,_,rfl,_⟩;rfl
theorem gW {ns:List Int} {i:Nat} {v:Int} {Q:D->Prop} (e:ns[i]? = some v) (q:Q (.int v)):dIx (il ns) (.int (i:Int)) Q:=dH (cK (by rw[List.getElem?_map,e];rfl)) q
theorem rA {hss:List (List Int)} {i:Nat} {hs:List Int} {Q:D->Prop} (e:hss[i]? = some hs) (q:Q (il hs)):dIx (ill hss) (.int (i:Int)) Q:=dH (cK (by rw[List.getElem?_map,e];rfl)) q
theorem tK:∀ds Q,BC ds Q->gC rY { nx:=λ_=>Q .non,rt:=Q } (aO ["_law_threads_here","_law_heights_here","_law_zone","_law_k","_law_curve","_law_wide","_law_left"] ds):=by
 rintro ds Q ⟨ts,hss,n,z,k,c,t0,t1,as,bs,a,b,rfl,C,⟨e0,e1,e2,e3,e4,e5,k0,k1⟩,q⟩
 rw[aS 2 rfl]
 unfold gC
 simp only[bW,rQ,List.map_cons,List.map_nil,List.cons_append,List.nil_append]
 have ez:((z:Int)+1)=((z+1:Nat):Int):=by omega
 have w:=C.thr.step z t0 t1 e0 e1
 have ba:=C.bl as (List.mem_of_getElem? e2) a (List.mem_of_getElem? e4)
 have bb:=C.bl bs (List.mem_of_getElem? e3) b (List.mem_of_getElem? e5)
 refine aQ (λρ=>ρ=[some (.d (il ts)),some (.d (ill hss)),some (.d (.int z)),some (.d (.int k)),some (.d (.int c)),some (.d (.int (t1-t0))),none]) (λK hK=>?_) ?_
 ·walk_at "rd"
  rw[ez]
  refine gW e1 ?_
  refine gW e0 ?_
  walk_at "rd"
  exact hK _ rfl
 rintro ρ rfl
 refine aQ (λρ=>ρ=[some (.d (il ts)),some (.d (ill hss)),some (.d (.int z)),some (.d (.int k)),some (.d (.int c)),some (.d (.int (t1-t0))),some (.d (.int a))]) (λK hK=>?_) ?_
 ·walk_at "rd"
  refine rA e2 ?_
  refine gW e4 ?_
  exact hK _ rfl
 rintro ρ rfl
 walk_at "rd"
 refine⟨ba.mulOk (n:=10) (BL.of_lt (by omega) (by omega)),?_⟩
 rw[ez]
 refine rA e3 ?_
 refine gW e5 ?_
 walk_at "rd"
 refine⟨bb.mulOk (n:=10) (BL.of_lt (by omega) (by omega)),_,_,rfl,⟨by omega,(BL.of_lt (m:=10) (by omega) (by omega)).mono (by decide)⟩,q⟩
local macro_rules | `(tactic| walk_at "rd")=>do
 let a <- ("S.fz AK AL yV aZ cH bZ pW eW bK dQ tN rO aU kO eR kN aM aE rC r2 r1 bA rN rOr kJ mH xR mI rIf aJ aC kK gQ aW rCB iN pX pZ fF xZ riL riT kP tR hX hR dN gO nP gB fA pY lZ xT tU xS pN dZ fY wN dNe lY qF qG cV eM eK dO dD jX mQ gP eV wL kY mF fR fS fT fG fH fI fJ fK fM fN fO fP fQ eG eI mP wK pO jW fU kZ lH lF lG lE lI S.val bW xV tP rQ uW rR uX tQ xW xX xY qC qD qE List.map_cons List.map_nil List.cons_append List.nil_append List.length_cons List.length_nil List.getElem?_cons_zero List.getElem?_cons_succ List.set_cons_zero List.set_cons_succ List.append_nil Bool.or_false Bool.or_true Bool.false_or Bool.true_or Bool.not_true Bool.not_false if_true if_false Bool.false_eq_true sz0 sz1 sz2 sz3 sz4 true_and decide_eq_true_eq Int.reduceToNat Int.reducePow Int.reduceMul Int.reduceSub Int.reduceAdd Int.reduceNeg".splitOn " ").toArray.mapM λx=>`(Lean.Parser.Tactic.simpLemma| $(Lean.mkIdent x.toName):term)
 `(tactic| simp only[$a,*])
noncomputable abbrev wE (R:List (List Pt)):List jS:=(R.map AX).flatten
theorem RgsOk.pos {R:List (List Pt)}:∀s∈wE R,0<wid s:=λs hs=>by
 obtain⟨l,hl,hs⟩:=List.mem_flatten.mp hs
 obtain⟨g,hg,rfl⟩:=List.mem_map.mp hl
 exact (yC hs).2
theorem kE {α β:Type} (f:α->List β) (n:Nat):∀(l:List α),(∀x∈l,(f x).length<=n)->((l.map f).flatten).length<=n*l.length
 | [],_=>Nat.zero_le _
 | x::l,h=>by
  have h1:=h x (.head _)
  have h2:=kE f n l λy hy=>h y (.tail _ hy)
  rw[List.map_cons,List.flatten_cons,List.length_append,List.length_cons,Nat.mul_succ];omega
noncomputable def iZ:FD:=λds Q=>∃ws:List Int,ds=[il ws]/\ws.length<=15/\(∀w∈ws,0<w/\w<=5)/\∀B,0<B->(∀w∈ws,w∣B)->BL 50 B->Q (.int B)
theorem sW:∀ds Q,iZ ds Q->ds.length=1:=by rintro ds Q ⟨_,rfl,_⟩;rfl
theorem dP:∀ds Q,iZ ds Q->bG rX { nx:=λ_=>Q .non,rt:=Q } (aO ["numbers","multiple","number"] ds):=by
 rintro ds Q ⟨ws,rfl,hl,hw,q⟩
 rw[aS 2 rfl]
 unfold bG
 refine aQ (λρ=>ρ=[some (.d (il ws)),some (.d (.int 1)),none]) (λK hK=>?_) ?_
 ·walk_at "rd"
  exact hK _ rfl
 rintro ρ rfl
 refine aQ (λρ=>∃(B:Int) (u:Option S),(0<B/\(∀w∈ws,w∣B)/\B<=((5 ^ 15:Nat):Int))/\ρ=[some (.d (il ws)),some (.d (.int B)),u]) (λK hK=>?_) ?_
 ·simp only[fF,riL,aM,List.getElem?_cons_zero]
  refine kF (λxs ρ=>∃done todo:List Int,ws=done++todo/\xs=todo.map .int/\∃(B:Int) (u:Option S),(0<B/\(∀w∈done,w∣B)/\B<=((5 ^ done.length:Nat):Int))/\ρ=[some (.d (il ws)),some (.d (.int B)),u]) ?_ ?_ _ _ ⟨[],ws,rfl,rfl,1,none,⟨by decide,(λw h=>by cases h),by decide⟩,rfl⟩
  ·rintro x xs ρ ⟨done,todo,e,exs,B,u,⟨h1,h2,h3⟩,rfl⟩ F hr hb hn hc
   cases todo with
   | nil=>cases exs
   | cons w todo =>
    rw[List.map_cons] at exs
    injection exs with ex exs
    subst ex exs
    obtain⟨w0,w5⟩:=hw w (by rw[e];exact List.mem_append_right _ (.head _))
    have dl:done.length<=14:=by rw[e] at hl;simp at hl;omega
    have pw:((5 ^ done.length:Nat):Int)<=((5 ^ 14:Nat):Int):=Int.ofNat_le.mpr (Nat.pow_le_pow_right (by decide) dl)
    have bB:BL 50 B:=BL.of_lt (by omega) (Int.lt_of_le_of_lt (Int.le_trans h3 pw) (by decide))
    have bw:BL 50 w:=BL.of_lt (by omega) (Int.lt_of_le_of_lt w5 (by decide))
    unfold cB
    simp only[aU,bK,aW,aC,aJ,aM,List.getElem?_cons_zero,List.getElem?_cons_succ,List.set_cons_zero,List.set_cons_succ]
    refine⟨B,w,rfl,⟨h1,w0⟩,⟨bB.mono (by decide),bw.mono (by decide)⟩,λl l0 d1 d2 le=>?_⟩
    refine hn _ ⟨done++[w],todo,by rw[e];simp,rfl,l,some (.d (.int w)),⟨l0,λv hv=>?_,?_⟩,rfl⟩
    ·rcases List.mem_append.mp hv with hv | hv
     ·exact Int.dvd_trans (h2 v hv) d1
     ·rw[List.mem_singleton.mp hv];exact d2
    ·rw[List.length_append,List.length_singleton,Nat.pow_succ,Int.natCast_mul]
     have k1:=Int.mul_le_mul_of_nonneg_right h3 (Int.le_of_lt w0)
     have k2:=Int.mul_le_mul_of_nonneg_left w5 (Int.natCast_nonneg (5 ^ done.length))
     exact Int.le_trans le (Int.le_trans k1 k2)
  ·rintro ρ ⟨done,todo,e,exs,B,u,⟨h1,h2,h3⟩,rfl⟩
   have:todo=[]:=by cases todo with | nil=>rfl | cons _ _=>cases exs
   subst this
   rw[List.append_nil] at e
   subst e
   exact hK _ ⟨B,u,⟨h1,h2,Int.le_trans h3 (Int.ofNat_le.mpr (Nat.pow_le_pow_right (by decide) hl))⟩,rfl⟩
 rintro ρ ⟨B,u,⟨h1,h2,h3⟩,rfl⟩
 walk_at "rd"
 exact q B h1 h2 (BL.of_lt (by omega) (Int.lt_of_le_of_lt h3 (by decide)))
structure SdB (s:jS):Prop where
 x1:BL 200 s.1.1
 y1:BL 200 s.1.2
 x2:BL 200 s.2.1
 y2:BL 200 s.2.2
noncomputable def GF (B c:Int) (z:IP × IP) (d:D):Prop:=∃p1 q1 p2 q2 p3 q3 p4 q4,(Low z.1.1 B p1 q1/\Low z.1.2 B p2 q2/\Low z.2.1 B p3 q3/\Low z.2.2 B p4 q4)/\d = .tup [.int c,fr p1 q1,fr p2 q2,fr p3 q3,fr p4 q4]
inductive RowsOf (B c:Int):List (IP × IP)->List D->Prop
 | nil:RowsOf B c [] []
 | cons {z:IP × IP} {d:D} {zs:List (IP × IP)} {ds:List D} (h:GF B c z d) (t:RowsOf B c zs ds):RowsOf B c (z::zs) (d::ds)
theorem RowsOf.length {B c:Int} {zs:List (IP × IP)} {ds:List D} (t:RowsOf B c zs ds):zs.length=ds.length:=by
 induction t with
 | nil=>rfl
 | cons _ _ ih=>rw[List.length_cons,List.length_cons,ih]
structure BandsIn (R:List (List Pt)) (o:Int):Prop where
 len:R.length<=3
 each:∀g∈R,g.length<=5
 near:∀s∈wE R,o<=s.1.1/\s.2.1<=o+5
 bd:∀s∈wE R,SdB s
 unc:∀c,sA (wE R) c
theorem BandsIn.five {R:List (List Pt)} {o:Int} (h:BandsIn R o):∀s∈wE R,wid s<=5:=λs hs=>by
 have:=h.near s hs;unfold wid;omega
theorem GO {w:Int} (h0:0<w) (h5:w<=5):w∣60:=by
 have:w=1\/w=2\/w=3\/w=4\/w=5:=by omega
 rcases this with rfl | rfl | rfl | rfl | rfl <;> decide
theorem BandsIn.ok {R:List (List Pt)} {o:Int} (h:BandsIn R o):∀s∈wE R,SdOk s:=λs hs=>⟨RgsOk.pos s hs,GO (RgsOk.pos s hs) (h.five s hs)⟩
local macro_rules | `(tactic| walk_at "rd")=>do
 let a <- ("aZ cH bZ pW eW bK dQ tN rO aU kO eR kN aM aE rC r2 r1 bA rN rOr kJ mH xR mI rIf aJ aC kK gQ aW rCB iN pX pZ fF xZ riL riT kP tR hX hR dN gO nP gB fA pY lZ xT tU xS pN dZ fY wN dNe lY qF qG cV eM eK dO dD jX mQ gP eV wL kY mF fR fS fT fG fH fI fJ fK fM fN fO fP fQ eG eI mP wK pO jW fU kZ lH lF lG lE lI S.val bW xV tP rQ uW rR uX tQ xW xX xY qC qD qE List.map_cons List.map_nil List.cons_append List.nil_append List.length_cons List.length_nil List.getElem?_cons_zero List.getElem?_cons_succ List.set_cons_zero List.set_cons_succ List.append_nil Bool.or_false Bool.or_true Bool.false_or Bool.true_or Bool.not_true Bool.not_false if_true if_false Bool.false_eq_true sz0 sz1 sz2 sz3 sz4 true_and decide_eq_true_eq Int.reduceToNat Int.reducePow Int.reduceMul Int.reduceSub Int.reduceAdd Int.reduceNeg".splitOn " ").toArray.mapM λx=>`(Lean.Parser.Tactic.simpLemma| $(Lean.mkIdent x.toName):term)
 `(tactic| simp only[$a,*])
theorem uM {v M p q:Int} (hM:0<M) (hq:0<q) (cop:Int.gcd p q=1) (w:p*M=v*q):Low v M p q:=by
 have dq:q∣M:=by
  have d:q.natAbs∣p.natAbs*M.natAbs:=by
   rw[<-Int.natAbs_mul,w,Int.natAbs_mul];exact Nat.dvd_mul_left ..
  exact Int.natAbs_dvd_natAbs.mp (Nat.Coprime.dvd_of_dvd_mul_left (show Nat.Coprime q.natAbs p.natAbs from by
   have:Nat.gcd p.natAbs q.natAbs=1:=cop
   rw[Nat.Coprime,Nat.gcd_comm];exact this) d)
 have lq:q<=M:=Int.le_of_dvd hM dq
 refine⟨hq,cop,w,?_,by omega⟩
 have e:p.natAbs*M.natAbs=v.natAbs*q.natAbs:=by rw[<-Int.natAbs_mul,w,Int.natAbs_mul]
 have lq':q.natAbs<=M.natAbs:=by omega
 have M0:0<M.natAbs:=by omega
 apply Nat.le_of_mul_le_mul_right (c:=M.natAbs) ?_ M0
 rw[e]
 exact Nat.mul_le_mul_left _ lq'
theorem Low.minus {M v w a b c d p q:Int} (hM:0<M) (h1:Low v M a b) (h2:Low w M c d) (h:Low (a*d-c*b) (b*d) p q):Low (v-w) M p q:=by
 refine uM hM h.pos h.cop ?_
 have bd:0<b*d:=Int.mul_pos h1.pos h2.pos
 refine Int.eq_of_mul_eq_mul_right (a:=b*d) (by omega) ?_
 have e1:=h1.worth
 have e2:=h2.worth
 have e3:=h.worth
 grind
theorem Low.bl {v M p q:Int} {n:Nat} (h:Low v M p q) (hv:BL n v) (hM:BL n M):BL n p/\BL n q:=⟨hv.le h.lea,hM.le h.leb⟩
structure Row where
 x:Int
 l0:Int × Int
 l1:Int × Int
 u0:Int × Int
 u1:Int × Int
noncomputable abbrev yA (r:Row):D:=.tup [.int r.x,fr r.l0.1 r.l0.2,fr r.l1.1 r.l1.2,fr r.u0.1 r.u0.2,fr r.u1.1 r.u1.2]
structure RowV (M:Int) (r:Row) (a b c d:Int):Prop where
 l0:Low a M r.l0.1 r.l0.2
 l1:Low b M r.l1.1 r.l1.2
 u0:Low c M r.u0.1 r.u0.2
 u1:Low d M r.u1.1 r.u1.2
 ba:BL 400 a
 bb:BL 400 b
 bc:BL 400 c
 bd:BL 400 d
inductive Tot (M:Int):List Row->Int->Prop
 | nil:Tot M [] 0
 | snoc {rs:List Row} {r:Row} {N a b c d:Int} (t:Tot M rs N) (h:RowV M r a b c d):Tot M (rs++[r]) (N+(c-a+(d-b)))
theorem Tot.mono {M N N':Int} {rs:List Row} (h:Tot M rs N) (e:N=N'):Tot M rs N':=e ▸ h
local macro_rules | `(tactic| walk_at "rd")=>do
 let a <- ("S.fz AK AL yV aZ cH bZ pW eW bK dQ tN rO aU kO eR kN aM aE rC r2 r1 bA rN rOr kJ mH xR mI rIf aJ aC kK gQ aW rCB iN pX pZ fF xZ riL riT kP tR hX hR dN gO nP gB fA pY lZ xT tU xS pN dZ fY wN dNe lY qF qG cV eM eK dO dD jX mQ gP eV wL kY mF fR fS fT fG fH fI fJ fK fM fN fO fP fQ eG eI mP wK pO jW fU kZ lH lF lG lE lI S.val bW xV tP rQ uW rR uX tQ xW xX xY qC qD qE List.map_cons List.map_nil List.cons_append List.nil_append List.length_cons List.length_nil List.getElem?_cons_zero List.getElem?_cons_succ List.set_cons_zero List.set_cons_succ List.append_nil Bool.or_false Bool.or_true Bool.false_or Bool.true_or Bool.not_true Bool.not_false if_true if_false Bool.false_eq_true sz0 sz1 sz2 sz3 sz4 true_and decide_eq_true_eq Int.reduceToNat Int.reducePow Int.reduceMul Int.reduceSub Int.reduceAdd Int.reduceNeg".splitOn " ").toArray.mapM λx=>`(Lean.Parser.Tactic.simpLemma| $(Lean.mkIdent x.toName):term)
 `(tactic| simp only[$a,*])
namespace K23
end K23
namespace K23
noncomputable def T (ts:List Int) (i:Nat):Int:=ts.getD i 0
noncomputable def Hh (hss:List (List Int)) (z j:Nat):Int:=(hss.getD z []).getD j 0
theorem pE {ts:List Int} {i:Nat} (h:i<ts.length):ts[i]? = some (T ts i):=by unfold T;rw[List.getD_eq_getElem?_getD,List.getElem?_eq_getElem h];rfl
theorem FW {ts:List Int} (h:Thr ts) {i:Nat} (hi:i+1<ts.length):1<=T ts (i+1)-T ts i/\T ts (i+1)-T ts i<=40 :=
 h.step i _ _ (pE (by omega)) (pE hi)
end K23
namespace K23
noncomputable def Wd (ts:List Int) (z:Nat):Int:=T ts (z+1)-T ts z
end K23
namespace K23
end K23
namespace K23
section
variable {ts:List Int} {hss:List (List Int)} {n:Nat} {R:List (List Pt)}
theorem qM (C:Curves ts hss n) {z:Nat} (hz:z+1<ts.length):0<Wd ts z/\Wd ts z<=40:=by
 have:=FW C.thr hz
 unfold Wd
 omega
end
end K23
namespace K23
theorem rZ {hss:List (List Int)} {z:Nat} (h:z<hss.length):hss[z]? = some (hss.getD z []):=by rw[List.getD_eq_getElem?_getD,List.getElem?_eq_getElem h];rfl
theorem nH {ts:List Int} {hss:List (List Int)} {n:Nat} (C:Curves ts hss n) {z j:Nat} (hz:z<ts.length) (hj:j<2*n):(hss.getD z [])[j]? = some (Hh hss z j):=by
 have hl:=C.len
 have:=C.each _ (List.mem_of_getElem? (rZ (hss:=hss) (z:=z) (by omega)))
 unfold Hh
 rw[List.getD_eq_getElem?_getD (l:=hss.getD z []),List.getElem?_eq_getElem (by omega)];rfl
theorem zJ (n:Nat) (p q p' q':Int):eqL (eqF (n+1)) [.int p,.int q] [.int p',.int q']=some (decide (p=p'/\q=q')):=by
 simp only[eqL,eqF]
 by_cases h1:p=p' <;> by_cases h2:q=q' <;> simp[h1,h2]
theorem low_inj {a b W p q:Int} (h:Low a W p q) (h':Low b W p q):a=b:=Int.eq_of_mul_eq_mul_right (by have:=h.pos;omega) (h.worth.symm.trans h'.worth)
end K23
namespace K23
end K23
namespace K23
end K23
namespace K23
theorem qX {f:D->D->Option Bool}:∀(xs:List D),(∀x∈xs,f x x=some true)->eqL f xs xs=some true
 | [],_=>rfl
 | x::xs,h=>by
  simp only[eqL,h x (by simp),qX xs λy hy=>h y (by simp[hy])]
  rfl
theorem CW (n:Nat) (i:Int):eqF (n+1) (.int i) (.int i)=some true:=by simp[eqF]
theorem tF {xs:List D} {Q:D->Prop} (h:eqL (eqF 5) xs xs=some true) (q:Q (.bl false)):wM (.lst xs) (.lst xs) Q:=by
 unfold wM
 simp only[h]
 exact⟨trivial,q⟩
end K23
namespace K22
noncomputable abbrev ck (p:IP):List Int:=[p.1,p.2]
noncomputable abbrev frP (p:IP):D:=.tup [.int p.1,.int p.2]
noncomputable def one (u p:IP):Int:=if u=p then 1 else 0
theorem tI (p:IP):one p p=1:=if_pos rfl
theorem rJ {u p:IP} (h:u≠p):one u p=0:=if_neg h
theorem qS {p q:IP} (h:ck p=ck q):p=q:=by
 injection h with h1 h2
 injection h2 with h2 _
 exact Prod.ext h1 h2
theorem qT {p:IP} {kl:List IP}:ck p∈kl.map ck↔p∈kl:=by
 constructor
 ·intro h
  obtain⟨q,hq,e⟩:=List.mem_map.mp h
  rw[<-qS e];exact hq
 ·exact λh=>List.mem_map.mpr ⟨p,h,rfl⟩
theorem yN {f:IP->D} {p:IP}:∀{kl:List IP},p∈kl->cT (kl.map ck) (kl.map f) (ck p)=some (f p)
 | q::kl,h=>by
  show (if ck q=ck p then some (f q) else cT (kl.map ck) (kl.map f) (ck p))=_
  by_cases e:q=p
  ·subst e;rw[if_pos rfl]
  ·rw[if_neg λz=>e (qS z)]
   exact yN (by cases h with | head=>exact absurd rfl e | tail _ h=>exact h)
theorem yO {f:IP->D} {p:IP}:∀{kl:List IP},p ∉ kl->cT (kl.map ck) (kl.map f) (ck p)=none
 | [],_=>rfl
 | q::kl,h=>by
  show (if ck q=ck p then some (f q) else cT (kl.map ck) (kl.map f) (ck p))=_
  rw[if_neg λz=>h (by rw[qS z];exact .head _)]
  exact yO λz=>h (.tail _ z)
theorem wA {f:IP->D} {p:IP} {x:D}:∀kl:List IP,List.zipWith (λk' y=>if k'=ck p then x else y) (kl.map ck) (kl.map f)=kl.map λq=>if q=p then x else f q
 | []=>rfl
 | q::kl=>by
  show (if ck q=ck p then x else f q)::List.zipWith _ (kl.map ck) (kl.map f)=_
  rw[wA kl]
  by_cases e:q=p
  ·subst e;simp
  ·rw[if_neg λz=>e (qS z)];simp[e]
structure Cts (L:List IP) (ks:List (List Int)) (xs:List D) (c:IP->Int):Prop where
 ex:∃kl:List IP,ks=kl.map ck/\xs=kl.map (λp=>D.int (c p))/\kl.Nodup/\(∀p∈kl,p∈L)/\∀p,p ∉ kl->c p=0
theorem Cts.nil (L:List IP):Cts L [] [] λ_=>0:=⟨[],rfl,rfl,.nil,(λp h=>by cases h),λ_ _=>rfl⟩
variable {L:List IP} {ks:List (List Int)} {xs:List D} {c c':IP->Int}
theorem Cts.mono (h:Cts L ks xs c) (e:∀p,c p=c' p):Cts L ks xs c':=by rw[<-funext e];exact h
theorem Cts.get (h:Cts L ks xs c) (p:IP):(cT ks xs (ck p)).getD (.int 0) = .int (c p):=by
 obtain⟨kl,rfl,rfl,nd,sub,z⟩:=h.ex
 by_cases hp:p∈kl
 ·rw[yN (f:=λp=>D.int (c p)) hp];rfl
 ·rw[yO (f:=λp=>D.int (c p)) hp,z p hp];rfl
theorem Cts.put (h:Cts L ks xs c) {p:IP} (hL:p∈L) (v:Int):Cts L (gR ks (ck p)) (putX ks xs (ck p) (.int (c p+v))) λq=>c q+v*one p q:=by
 obtain⟨kl,rfl,rfl,nd,sub,z⟩:=h.ex
 unfold gR putX
 by_cases hp:p∈kl
 ·rw[if_pos (qT.mpr hp),if_pos (qT.mpr hp),wA (f:=λp=>D.int (c p))]
  refine⟨kl,rfl,List.map_congr_left λq _=>?_,nd,sub,λq hq=>?_⟩
  ·by_cases e:q=p
   ·subst e;rw[if_pos rfl,tI,Int.mul_one]
   ·rw[if_neg e,rJ λz=>e z.symm,Int.mul_zero,Int.add_zero]
  ·rw[z q hq,rJ (u:=p) (p:=q) λe=>hq (e ▸ hp)];omega
 ·rw[if_neg λz=>hp (qT.mp z),if_neg λz=>hp (qT.mp z)]
  refine⟨kl++[p],by rw[List.map_append];rfl,?_,?_,λq hq=>?_,λq hq=>?_⟩
  ·rw[List.map_append]
   congr 1
   ·refine List.map_congr_left λq hq=>?_
    rw[rJ (u:=p) (p:=q) λe=>hp (e ▸ hq),Int.mul_zero,Int.add_zero]
   ·show [D.int (c p+v)]=[D.int (c p+v*one p p)];rw[tI,Int.mul_one]
  ·exact List.nodup_append.mpr ⟨nd,by simp,λa ha b hb e=>hp (by rw[List.mem_singleton.mp hb] at e;exact e ▸ ha)⟩
  ·rcases List.mem_append.mp hq with h | h
   ·exact sub q h
   ·rw[List.mem_singleton.mp h];exact hL
  ·rw[z q λh=>hq (List.mem_append_left _ h),rJ λe=>hq (List.mem_append_right _ (by rw[e];exact List.mem_singleton.mpr rfl))];omega
theorem Cts.len (h:Cts L ks xs c):ks.length<=L.length:=by
 obtain⟨kl,rfl,rfl,nd,sub,z⟩:=h.ex
 rw[List.length_map];exact eD kl L nd sub
structure LOk (L:List IP):Prop where
 len:L.length<=24
 each:∀p∈L,0<p.2/\p.2<=40/\Int.gcd p.1 p.2=1/\BL 250 p.1
noncomputable def ltR (p q:IP):Prop:=p.1*q.2<q.1*p.2
structure Lns (L:List IP) (c:IP->Int) (fl:List IP):Prop where
 mem:∀p,p∈fl↔c p≠0
 inc:fl.Pairwise ltR
 sub:∀p∈fl,p∈L
theorem ltR.ne {p q:IP} (h:ltR p q):p≠q:=λe=>by subst e;exact absurd h (Int.lt_irrefl _)
theorem Lns.nodup {fl:List IP} (h:Lns L c fl):fl.Nodup:=h.inc.imp ltR.ne
noncomputable def iZ:FD:=λds Q=>∃ws:List Int,ds=[il ws]/\ws.length<=24/\(∀w∈ws,0<w/\w<=40)/\∀B,0<B->(∀w∈ws,w∣B)->BL 140 B->Q (.int B)
theorem sW:∀ds Q,iZ ds Q->ds.length=1:=by rintro ds Q ⟨_,rfl,_⟩;rfl
theorem dP:∀ds Q,iZ ds Q->bG rX { nx:=λ_=>Q .non,rt:=Q } (aO ["numbers","multiple","number"] ds):=by
 rintro ds Q ⟨ws,rfl,hl,hw,q⟩
 rw[aS 2 rfl]
 unfold bG
 refine aQ (λρ=>ρ=[some (.d (il ws)),some (.d (.int 1)),none]) (λK hK=>?_) ?_
 ·walk_at "rd"
  exact hK _ rfl
 rintro ρ rfl
 refine aQ (λρ=>∃(B:Int) (u:Option S),(0<B/\(∀w∈ws,w∣B)/\B<=((40 ^ 24:Nat):Int))/\ρ=[some (.d (il ws)),some (.d (.int B)),u]) (λK hK=>?_) ?_
 ·simp only[fF,riL,aM,List.getElem?_cons_zero]
  refine kF (λxs ρ=>∃done todo:List Int,ws=done++todo/\xs=todo.map .int/\∃(B:Int) (u:Option S),(0<B/\(∀w∈done,w∣B)/\B<=((40 ^ done.length:Nat):Int))/\ρ=[some (.d (il ws)),some (.d (.int B)),u]) ?_ ?_ _ _ ⟨[],ws,rfl,rfl,1,none,⟨by decide,(λw h=>by cases h),by decide⟩,rfl⟩
  ·rintro x xs ρ ⟨done,todo,e,exs,B,u,⟨h1,h2,h3⟩,rfl⟩ F hr hb hn hc
   cases todo with
   | nil=>cases exs
   | cons w todo =>
    rw[List.map_cons] at exs
    injection exs with ex exs
    subst ex exs
    obtain⟨w0,w5⟩:=hw w (by rw[e];exact List.mem_append_right _ (.head _))
    have dl:done.length<=23:=by rw[e] at hl;simp at hl;omega
    have pw:((40 ^ done.length:Nat):Int)<=((40 ^ 23:Nat):Int):=Int.ofNat_le.mpr (Nat.pow_le_pow_right (by decide) dl)
    have bB:BL 140 B:=BL.of_lt (by omega) (Int.lt_of_le_of_lt (Int.le_trans h3 pw) (by decide))
    have bw:BL 140 w:=BL.of_lt (by omega) (Int.lt_of_le_of_lt w5 (by decide))
    unfold cB
    simp only[aU,bK,aW,aC,aJ,aM,List.getElem?_cons_zero,List.getElem?_cons_succ,List.set_cons_zero,List.set_cons_succ]
    refine⟨B,w,rfl,⟨h1,w0⟩,⟨bB.mono (by decide),bw.mono (by decide)⟩,λl l0 d1 d2 le=>?_⟩
    refine hn _ ⟨done++[w],todo,by rw[e];simp,rfl,l,some (.d (.int w)),⟨l0,λv hv=>?_,?_⟩,rfl⟩
    ·rcases List.mem_append.mp hv with hv | hv
     ·exact Int.dvd_trans (h2 v hv) d1
     ·rw[List.mem_singleton.mp hv];exact d2
    ·rw[List.length_append,List.length_singleton,Nat.pow_succ,Int.natCast_mul]
     have k1:=Int.mul_le_mul_of_nonneg_right h3 (Int.le_of_lt w0)
     have k2:=Int.mul_le_mul_of_nonneg_left w5 (Int.natCast_nonneg (40 ^ done.length))
     exact Int.le_trans le (Int.le_trans k1 k2)
  ·rintro ρ ⟨done,todo,e,exs,B,u,⟨h1,h2,h3⟩,rfl⟩
   have:todo=[]:=by cases todo with | nil=>rfl | cons _ _=>cases exs
   subst this
   rw[List.append_nil] at e
   subst e
   exact hK _ ⟨B,u,⟨h1,h2,Int.le_trans h3 (Int.ofNat_le.mpr (Nat.pow_le_pow_right (by decide) hl))⟩,rfl⟩
 rintro ρ ⟨B,u,⟨h1,h2,h3⟩,rfl⟩
 walk_at "rd"
 exact q B h1 h2 (BL.of_lt (by omega) (Int.lt_of_le_of_lt h3 (by decide)))
theorem uN {B:Int} {p q:IP} (B0:0<B) (hp:0<p.2) (hq:0<q.2) (gp:Int.gcd p.1 p.2=1) (gq:Int.gcd q.1 q.2=1) (dp:p.2∣B) (dq:q.2∣B) (ne:p≠q) (h:p.1*B.fdiv p.2<=q.1*B.fdiv q.2):ltR p q:=by
 obtain⟨m,em⟩:=dp
 obtain⟨n,en⟩:=dq
 have e1:B.fdiv p.2=m:=by rw[em,Int.mul_fdiv_cancel_left _ (by omega)]
 have e2:B.fdiv q.2=n:=by rw[en,Int.mul_fdiv_cancel_left _ (by omega)]
 rw[e1,e2] at h
 have h2:=Int.mul_le_mul_of_nonneg_right h (Int.le_of_lt (Int.mul_pos hp hq))
 have h3:p.1*m*(p.2*q.2)=p.1*q.2*B:=by rw[em];grind
 have h4:q.1*n*(p.2*q.2)=q.1*p.2*B:=by rw[en];grind
 rw[h3,h4] at h2
 have h5:=Int.le_of_mul_le_mul_right h2 B0
 refine Int.lt_iff_le_and_ne.mpr ⟨h5,λe=>ne ?_⟩
 have l1:Low p.1 p.2 p.1 p.2:=uM hp hp gp rfl
 have l2:Low p.1 p.2 q.1 q.2:=uM hp hq gq e.symm
 obtain⟨a,b⟩:=K12.low_eq hp l1 l2
 exact Prod.ext a b
noncomputable def bY:FD:=λds Q=>∃(L kl:List IP),ds=[.lst (kl.map frP)]/\(LOk L/\kl.Nodup/\∀p∈kl,p∈L)/\∀gs:List IP,gs.Perm kl->gs.Pairwise ltR->Q (.lst (gs.map frP))
theorem uK:∀ds Q,bY ds Q->ds.length=1:=by rintro ds Q ⟨_,_,rfl,_⟩;rfl
theorem tL:∀ds Q,bY ds Q->iO iZ { nx:=λ_=>Q .non,rt:=Q } (aO ["ones","bottom"] ds):=by
 rintro ds Q ⟨L,kl,rfl,⟨lok,nd,sub⟩,q⟩
 rw[aS 1 rfl]
 unfold iO
 simp only[bW,tP,List.map_cons,List.map_nil,List.cons_append,List.nil_append]
 have kl24:kl.length<=24:=Nat.le_trans (eD kl L nd sub) lok.len
 refine aQ (λρ=>∃B:Int,(0<B/\(∀p∈kl,p.2∣B)/\BL 140 B)/\ρ=[some (.d (.lst (kl.map frP))),some (.d (.int B))]) (λK hK=>?_) ?_
 ·walk_at "rd"
  refine⟨gN (by rw[List.length_map];omega),?_⟩
  refine yU (λρ=>∃u,ρ=[u]) frP (λp=>D.int p.2) kl ?_ ⟨_,rfl⟩ ?_
  ·rintro p hp ρ ⟨u,rfl⟩ K' hK'
   walk_at "rd"
   exact hK' _ ⟨_,rfl⟩
  ·refine⟨kl.map (·.2),by show _=[D.lst (List.map D.int (List.map (·.2) kl))];rw[List.map_map];rfl,by rw[List.length_map];exact kl24,λw hw=>?_,λB B0 dv bB=>?_⟩
   ·obtain⟨p,hp,rfl⟩:=List.mem_map.mp hw
    have:=lok.each p (sub p hp)
    exact⟨this.1,this.2.1⟩
   ·exact hK _ ⟨B,⟨B0,λp hp=>dv _ (List.mem_map_of_mem hp),bB⟩,rfl⟩
 rintro ρ ⟨B,⟨B0,dv,bB⟩,rfl⟩
 simp only[bZ,rP,aE,List.getElem?_cons_zero,List.getElem?_cons_succ,L2.R2.S.val]
 refine⟨B,kl,rfl,rfl,by omega,λf hf=>?_,λgs pm pw=>q gs pm ?_⟩
 ·obtain⟨f0,f1,f2,f3⟩:=lok.each f (sub f hf)
  exact⟨((BL.of_lt (m:=10) (by omega) (Int.lt_of_le_of_lt f1 (by decide))).mono (by decide)).divOk (by omega),f3.mulOk (bB.fdiv)⟩
 ·have ndg:gs.Nodup:=pm.nodup_iff.mpr nd
  refine List.Pairwise.imp_of_mem (λ{a b} ha hb h=>?_) (List.pairwise_and_iff.mpr ⟨ndg,pw⟩)
  have ka:=pm.mem_iff.mp ha
  have kb:=pm.mem_iff.mp hb
  have xa:=lok.each a (sub a ka)
  have xb:=lok.each b (sub b kb)
  exact uN B0 xa.1 xb.1 xa.2.2.1 xb.2.2.1 (dv a ka) (dv b kb) h.1 h.2
end K22
namespace K22
variable {L:List IP} {ks:List (List Int)} {xs:List D} {c c':IP->Int}
structure RowS (r:D) (u l:IP):Prop where
 ex:∃(row:Row) (W a b c d:Int),r=yA row/\(0<W/\BL 400 W)/\RowV W row a b c d/\Low (d-c) W u.1 u.2/\Low (b-a) W l.1 l.2
noncomputable def jP:FD:=λds Q=>∃(r:D) (u l:IP),ds=[r]/\RowS r u l/\Q (frP l)
noncomputable def jR:FD:=λds Q=>∃(r:D) (u l:IP),ds=[r]/\RowS r u l/\Q (frP u)
theorem uJ:∀ds Q,jP ds Q->ds.length=1:=by rintro ds Q ⟨_,_,_,rfl,_⟩;rfl
theorem uL:∀ds Q,jR ds Q->ds.length=1:=by rintro ds Q ⟨_,_,_,rfl,_⟩;rfl
theorem lV:∀ds Q,jP ds Q->dB bH { nx:=λ_=>Q .non,rt:=Q } (aO ["row"] ds):=by
 rintro ds Q ⟨r,u,l,rfl,⟨row,M,a,b,c,d,rfl,⟨hM,bM⟩,V,lu,ll⟩,q⟩
 rw[aS 0 rfl]
 unfold dB
 walk_at "rd"
 have x1:=V.l1.bl V.bb bM
 have x2:=V.l0.bl V.ba bM
 refine⟨_,_,_,_,rfl,⟨V.l1.pos,V.l0.pos⟩,⟨x1.1.mono (by decide),x1.2.mono (by decide),x2.1.mono (by decide),x2.2.mono (by decide)⟩,λp q' L=>?_⟩
 obtain⟨e1,e2⟩:=K12.low_eq hM (V.l1.minus hM V.l0 L) ll
 rw[e1,e2];exact q
theorem lW:∀ds Q,jR ds Q->dC bH { nx:=λ_=>Q .non,rt:=Q } (aO ["row"] ds):=by
 rintro ds Q ⟨r,u,l,rfl,⟨row,M,a,b,c,d,rfl,⟨hM,bM⟩,V,lu,ll⟩,q⟩
 rw[aS 0 rfl]
 unfold dC
 walk_at "rd"
 refine vD (cK (j:=4) rfl) (vD (cK (j:=3) rfl) ?_)
 have x1:=V.u1.bl V.bd bM
 have x2:=V.u0.bl V.bc bM
 refine⟨_,_,_,_,rfl,⟨V.u1.pos,V.u0.pos⟩,⟨x1.1.mono (by decide),x1.2.mono (by decide),x2.1.mono (by decide),x2.2.mono (by decide)⟩,λp q' L=>?_⟩
 obtain⟨e1,e2⟩:=K12.low_eq hM (V.u1.minus hM V.u0 L) lu
 rw[e1,e2];exact q
noncomputable abbrev nG:=D × IP × IP
noncomputable def qK (L:List IP) (es:List nG):Prop:=∀e∈es,RowS e.1 e.2.1 e.2.2/\e.2.1∈L/\e.2.2∈L
noncomputable def cOf (p:IP):List nG->Int
 | []=>0
 | e::es=>(one e.2.1 p-one e.2.2 p)+cOf p es
theorem nO (p:IP) (e:nG):∀es,cOf p (es++[e])=cOf p es+(one e.2.1 p-one e.2.2 p)
 | []=>by show _+0=0+_;omega
 | x::es=>by show _+cOf p (es++[e])=_+cOf p es+_;rw[nO p e es];omega
theorem eY {α:Type} {g:RG} {tt:RT} {te:RE} (R:En->Prop) (enc f:α->D) (t:α->Bool):∀(src:List α) {Q:List D->Prop} (_:∀a∈src,∀ρ,R ρ->∀K:En->Bool->Prop,(∀ρ1,R ρ1->(t a=true->∀K':D->Prop,K' (f a)->te ρ1 K')->K ρ1 (t a))->g (enc a) ρ λρ1=>tt ρ1 λb=>K ρ1 b)
  (ρ:En) (acc:List D),R ρ->Q (acc++(src.filter t).map f)->bN g tt te (src.map enc) ρ acc Q
 | [],Q,_,ρ,acc,_,q=>by
  show Q acc
  simpa using q
 | a::src,Q,step,ρ,acc,h,q=>by
  show g (enc a) ρ λρ'=>tt ρ' λb=>if b=true then te ρ' λd=>bN g tt te (src.map enc) ρ' (acc++[d]) Q else bN g tt te (src.map enc) ρ' acc Q
  refine step a List.mem_cons_self ρ h (λρ' b=>if b=true then te ρ' λd=>bN g tt te (src.map enc) ρ' (acc++[d]) Q else bN g tt te (src.map enc) ρ' acc Q) λρ1 h1 ev=>?_
  cases e:t a with
  | true =>
   rw[if_pos rfl]
   refine ev e _ ?_
   refine eY R enc f t src (λb hb=>step b (List.mem_cons_of_mem _ hb)) ρ1 _ h1 ?_
   rw[List.filter_cons_of_pos e] at q
   simpa using q
  | false =>
   rw[if_neg (by decide)]
   refine eY R enc f t src (λb hb=>step b (List.mem_cons_of_mem _ hb)) ρ1 _ h1 ?_
   rw[List.filter_cons_of_neg (by rw[e];decide)] at q
   exact q
noncomputable abbrev lnD (c:IP->Int) (p:IP):D:=.tup [frP p,.int (c p)]
noncomputable def bD:FD:=λds Q=>∃(L:List IP) (es:List nG),ds=[.lst (es.map (·.1))]/\(LOk L/\qK L es)/\∀fl,Lns L (λp=>cOf p es) fl->Q (.lst (fl.map (lnD λp=>cOf p es)))
theorem rF:∀ds Q,bD ds Q->ds.length=1:=by rintro ds Q ⟨_,_,rfl,_⟩;rfl
theorem vY {t u:RS} {E:DEnds} {ρ:En} (J:En->Prop) (h1:∀K:En->Prop,(∀ρ',J ρ'->K ρ')->t { nx:=K,rt:=λ_=>False } ρ) (h2:∀ρ',J ρ'->u E ρ'):vX t u E ρ:=h1 _ h2
theorem sL (h:Cts L ks xs c):∃kl:List IP,ks.map eF=kl.map frP/\kl.Nodup/\(∀p∈kl,p∈L)/\(∀p,c p≠0->p∈kl)/\(∀p∈kl,cT ks xs (ck p)=some (.int (c p))):=by
 obtain⟨kl,rfl,rfl,nd,sub,z⟩:=h.ex
 refine⟨kl,by rw[List.map_map];rfl,nd,sub,λp hp=>Decidable.byContradiction λn=>hp (z p n),λp hp=>yN (f:=λp=>D.int (c p)) hp⟩
theorem pD:∀ds Q,bD ds Q->fB jP bY jR { nx:=λ_=>False,rt:=Q } (aO ["rows","numbers","row","upper","lower"] ds):=by
 rintro ds Q ⟨L,es,rfl,⟨lok,eok⟩,q⟩
 rw[aS 4 rfl]
 unfold fB
 simp only[bW,rR,List.map_cons,List.map_nil,List.cons_append,List.nil_append]
 refine vY (λρ=>ρ=[some (.d (.lst (es.map (·.1)))),some (.dt [] []),none,none,none]) (λK hK=>?_) ?_
 ·exact hK _ rfl
 rintro ρ rfl
 refine vY (λρ=>∃(ks:List (List Int)) (xs:List D) (a b c:Option S),Cts L ks xs (λp=>cOf p es)/\ρ=[some (.d (.lst (es.map (·.1)))),some (.dt ks xs),a,b,c]) (λK hK=>?_) ?_
 ·simp only[fF,riL,aM,List.getElem?_cons_zero]
  refine gU _ (λi ρ=>∃(ks:List (List Int)) (xs:List D) (a b c:Option S),Cts L ks xs (λp=>cOf p (es.take i))/\ρ=[some (.d (.lst (es.map (·.1)))),some (.dt ks xs),a,b,c]) ?_ ?_ _ ⟨[],[],none,none,none,(Cts.nil L).mono λp=>rfl,rfl⟩
  ·rintro i x ρ e ⟨ks,xs,a,b,c,C,rfl⟩ F _ _ hn _
   rw[List.getElem?_map] at e
   cases er:es[i]? with
   | none=>rw[er] at e;cases e
   | some en =>
    rw[er] at e
    cases e
    obtain⟨rs,hu,hl⟩:=eok en (List.mem_of_getElem? er)
    have et:es.take (i+1)=es.take i++[en]:=by rw[List.take_succ,er];rfl
    have l24:=lok.len
    unfold hV
    simp only[aU,List.set_cons_zero,List.set_cons_succ]
    refine aQ (λρ=>ρ=[some (.d (.lst (es.map (·.1)))),some (.dt ks xs),some (.d en.1),some (.d (frP en.2.1)),c]) (λK hK=>?_) ?_
    ·simp only[bK,aW,aC,aJ,aM,List.getElem?_cons_zero,List.getElem?_cons_succ,List.set_cons_zero,List.set_cons_succ]
     exact⟨en.1,_,_,rfl,rs,hK _ rfl⟩
    rintro ρ rfl
    have C1:=C.put hu 1
    refine aQ (λρ=>∃ks1 xs1,Cts L ks1 xs1 (λp=>cOf p (es.take i)+1*one en.2.1 p)/\ρ=[some (.d (.lst (es.map (·.1)))),some (.dt ks1 xs1),some (.d en.1),some (.d (frP en.2.1)),c]) (λK hK=>?_) ?_
    ·simp only[qB,qA,r2,aM,rC,List.getElem?_cons_zero,List.getElem?_cons_succ,List.set_cons_zero,List.set_cons_succ]
     refine⟨ck en.2.1,rfl,?_⟩
     rw[C.get]
     refine⟨ck en.2.1,rfl,gN (by have:=C.len;omega),hK _ ⟨_,_,C1,rfl⟩⟩
    rintro ρ ⟨ks1,xs1,C1,rfl⟩
    refine aQ (λρ=>ρ=[some (.d (.lst (es.map (·.1)))),some (.dt ks1 xs1),some (.d en.1),some (.d (frP en.2.1)),some (.d (frP en.2.2))]) (λK hK=>?_) ?_
    ·simp only[bK,aW,aC,aJ,aM,List.getElem?_cons_zero,List.getElem?_cons_succ,List.set_cons_zero,List.set_cons_succ]
     exact⟨en.1,_,_,rfl,rs,hK _ rfl⟩
    rintro ρ rfl
    have C2:=C1.put hl (-1)
    simp only[qB,qA,r2,aM,rC,List.getElem?_cons_zero,List.getElem?_cons_succ,List.set_cons_zero,List.set_cons_succ]
    refine⟨ck en.2.2,rfl,?_⟩
    rw[C1.get]
    refine⟨ck en.2.2,rfl,gN (by have:=C1.len;omega),hn _ ⟨_,_,_,_,_,C2.mono λp=>?_,rfl⟩⟩
    rw[et,nO];omega
  ·rintro ρ ⟨ks,xs,a,b,c,C,rfl⟩
   rw[List.length_map,List.take_length] at C
   exact hK _ ⟨ks,xs,a,b,c,C,rfl⟩
 rintro ρ ⟨ks,xs,a,b,c,C,rfl⟩
 obtain⟨kl,ek,nd,sub,all,hat⟩:=sL C
 have l24:=lok.len
 have kl24:=eD kl L nd sub
 simp only[gB,S.fz,AQ,hU,riL,aW,aC,aJ,uU,aM,List.getElem?_cons_zero,List.getElem?_cons_succ,List.set_cons_zero,List.set_cons_succ]
 refine⟨ks,xs,rfl,?_⟩
 rw[ek]
 refine⟨L,kl,rfl,⟨lok,nd,sub⟩,λgs pm pw=>?_⟩
 refine⟨gN (by rw[List.length_map,pm.length_eq];omega),?_⟩
 have hg:∀p∈gs,p∈kl:=λp hp=>pm.mem_iff.mp hp
 refine eY (λρ=>∃u,ρ=[u,some (.d (.dtt ks xs))]) frP (lnD λp=>cOf p es) (λp=>decide (cOf p es≠0)) gs ?_ _ [] ⟨_,rfl⟩ ?_
 ·rintro p hp ρ ⟨u,rfl⟩ K hK
  simp only[aU,bA,r2,aM,rC,mC,List.getElem?_cons_zero,List.getElem?_cons_succ,List.set_cons_zero,List.set_cons_succ]
  refine⟨ck p,_,rfl,hat p (hg p hp),?_⟩
  walk_at "rd"
  have:=hK [some (.d (frP p)),some (.d (.dtt ks xs))] ⟨_,rfl⟩ λ_ K' hk=>by
   simp only[kK,aC,aJ,r2,aM,mC,List.getElem?_cons_zero,List.getElem?_cons_succ]
   exact⟨ck p,_,rfl,hat p (hg p hp),sz2,hk⟩
  rw[<-decide_not];exact this
 ·refine q _ ⟨λp=>?_,pw.filter _,λp hp=>sub p (hg p (List.mem_filter.mp hp).1)⟩
  rw[List.mem_filter]
  constructor
  ·exact λh=>by simpa using h.2
  ·exact λh=>⟨pm.mem_iff.mpr (all p h),by simpa using h⟩
end K22
namespace K22
open K23
noncomputable def zW (a b:Int):IP:=(a.fdiv (Int.gcd a b:Nat),b.fdiv (Int.gcd a b:Nat))
noncomputable def slp (ts:List Int) (hss:List (List Int)) (z j:Nat):IP:=zW (Hh hss (z+1) j-Hh hss z j) (Wd ts z)
theorem nF {ts:List Int} (hss:List (List Int)) {z:Nat} (w:0<Wd ts z) (j:Nat):Low (Hh hss (z+1) j-Hh hss z j) (Wd ts z) (slp ts hss z j).1 (slp ts hss z j).2:=nD w
noncomputable def SL (ts:List Int) (hss:List (List Int)) (n:Nat):List IP:=(List.range (ts.length-1)).flatMap λz=>(List.range (2*n)).map (slp ts hss z)
theorem rT {ts:List Int} {hss:List (List Int)} {n:Nat} (C:Curves ts hss n) {z j:Nat} (hz:z+1<ts.length) (hj:j<2*n):slp ts hss z j∈SL ts hss n :=
 List.mem_flatMap.mpr ⟨z,List.mem_range.mpr (by omega),List.mem_map.mpr ⟨j,List.mem_range.mpr hj,rfl⟩⟩
theorem wC {ts:List Int} {hss:List (List Int)} {n:Nat} (C:Curves ts hss n) {z j:Nat} (hz:z<ts.length) (hj:j<2*n):BL 210 (Hh hss z j):=by
 have hl:=C.len
 exact C.bl _ (List.mem_of_getElem? (rZ (hss:=hss) (z:=z) (by omega))) _ (List.mem_of_getElem? (nH C hz hj))
theorem kE {α β:Type} (f:α->List β) (m:Nat):∀l:List α,(∀x∈l,(f x).length=m)->(l.flatMap f).length=l.length*m
 | [],_=>by simp
 | x::l,h=>by
  rw[List.flatMap_cons,List.length_append,kE f m l λy hy=>h y (.tail _ hy),h x (.head _),List.length_cons,Nat.add_mul,Nat.one_mul,Nat.add_comm]
theorem yL {ts:List Int} {hss:List (List Int)} {n:Nat} (C:Curves ts hss n):LOk (SL ts hss n):=by
 have tl:=C.thr.len
 have nn:=C.n1
 refine⟨?_,λp hp=>?_⟩
 ·unfold SL
  rw[kE _ (2*n) _ λx _=>by rw[List.length_map,List.length_range],List.length_range]
  exact Nat.le_trans (Nat.mul_le_mul (show ts.length-1<=4 by omega) (show 2*n<=6 by omega)) (by decide)
 ·obtain⟨z,hz,hp⟩:=List.mem_flatMap.mp hp
  obtain⟨j,hj,rfl⟩:=List.mem_map.mp hp
  have hz:=List.mem_range.mp hz
  have hj:=List.mem_range.mp hj
  obtain⟨w0,w1⟩:=qM C (z:=z) (by omega)
  have l:=nF hss w0 j
  have b1:=wC C (z:=z+1) (j:=j) (by omega) hj
  have b0:=wC C (z:=z) (j:=j) (by omega) hj
  have:=l.leb
  have:=l.pos
  exact⟨l.pos,by omega,l.cop,((b1.sub b0).le l.lea).mono (by decide)⟩
noncomputable def rD (ts:List Int) (hss:List (List Int)) (z:Nat):Nat->IP->Int
 | 0,_=>0
 | i+1,p=>rD ts hss z i p+(one (slp ts hss z (2*i+1)) p-one (slp ts hss z (2*i)) p)
noncomputable def zs (ts:List Int) (hss:List (List Int)) (n:Nat):Nat->IP->Int
 | 0,_=>0
 | z+1,p=>zs ts hss n z p+Wd ts z*rD ts hss z n p
noncomputable def iE:FD:=λds Q=>∃(ts:List Int) (hss:List (List Int)) (n:Nat),ds=[il ts,ill hss]/\Curves ts hss n/\∀es:List nG,es.length<=1000->qK (SL ts hss n) es->(∀p,cOf p es=zs ts hss n (ts.length-1) p)->Q (.lst (es.map (·.1)))
theorem sU:∀ds Q,iE ds Q->ds.length=2:=by rintro ds Q ⟨_,_,_,rfl,_⟩;rfl
theorem lP:∀ds Q,iE ds Q->dJ BC { nx:=λ_=>Q .non,rt:=Q } (aO ["_law_threads_here","_law_heights_here","_law_found","_law_zone","_law_k","_law_low","_law_band","_law_curve"] ds):=by
 rintro ds Q ⟨ts,hss,n,rfl,C,q⟩
 have lok:=yL C
 rw[aS 6 rfl]
 unfold dJ
 simp only[bW,tQ,List.map_cons,List.map_nil,List.cons_append,List.nil_append]
 have tl:=C.thr.len
 have hl:=C.len
 have nn:=C.n1
 refine aQ (λρ=>ρ=[some (.d (il ts)),some (.d (ill hss)),some (.own []),none,none,none,none,none]) (λK hK=>?_) ?_
 ·walk_at "rd"
  exact hK _ rfl
 rintro ρ rfl
 refine aQ (λρ=>∃(es:List nG) (a b c d e:Option S),(es.length<=1000/\qK (SL ts hss n) es/\∀p,cOf p es=zs ts hss n (ts.length-1) p)/\ρ=[some (.d (il ts)),some (.d (ill hss)),some (.own (es.map (·.1))),a,b,c,d,e]) (λK hK=>?_) ?_
 ·walk_at "rd"
  refine⟨⟨by rw[List.length_map];omega,by rw[List.length_map];omega⟩,?_⟩
  rw[List.length_map,show ((ts.length:Int)-1).toNat=ts.length-1 by omega]
  refine gA 0 (ts.length-1) (λz ρ=>∃(es:List nG) (a b c d e:Option S),(es.length<=120*z/\qK (SL ts hss n) es/\∀p,cOf p es=zs ts hss n z p)/\ρ=[some (.d (il ts)),some (.d (ill hss)),some (.own (es.map (·.1))),a,b,c,d,e]) ?_ ?_ _ ⟨[],none,none,none,none,none,⟨Nat.zero_le _,(λe h=>by cases h),λp=>rfl⟩,rfl⟩
  ·rintro z ρ hz ⟨rs0,a,b,c,d,e,⟨rl,T0,S0⟩,rfl⟩ F _ _ hn _
   have e0:=pE (ts:=ts) (i:=z) (by omega)
   have e1:=pE (ts:=ts) (i:=z+1) (by omega)
   have g0:=rZ (hss:=hss) (z:=z) (by omega)
   have g1:=rZ (hss:=hss) (z:=z+1) (by omega)
   obtain⟨w0,w1⟩:=qM C (z:=z) (by omega)
   have hW:T ts (z+1)-T ts z=Wd ts z:=rfl
   unfold fX
   simp only[aU,List.set_cons_zero,List.set_cons_succ]
   walk_at "rd"
   have ez:((0:Int)+(z:Int)+1)=((z+1:Nat):Int):=by omega
   have ez0:((0:Int)+(z:Int))=(z:Int):=by omega
   rw[ez,ez0]
   refine gW e1 (gW e0 ?_)
   walk_at "rd"
   rw[hW]
   refine⟨⟨by omega,by omega⟩,?_⟩
   have hWn:(((Wd ts z).toNat:Nat):Int)=Wd ts z:=by omega
   refine gA 0 (Wd ts z).toNat (λk ρ=>∃(es:List nG) (b c d e:Option S),(es.length<=120*z+3*k/\qK (SL ts hss n) es/\∀p,cOf p es=zs ts hss n z p+k*rD ts hss z n p)/\ρ=[some (.d (il ts)),some (.d (ill hss)),some (.own (es.map (·.1))),some (.d (.int z)),b,c,d,e]) ?_ ?_ _ ⟨rs0,b,c,d,e,⟨by omega,T0,λp=>by rw[S0];show _=_+0*_;rw[Int.zero_mul,Int.add_zero]⟩,rfl⟩
   ·rintro k ρ hk ⟨rs1,b,c,d,e,⟨rl1,T1,S1⟩,rfl⟩ F' _ _ hn' _
    unfold fW
    simp only[aU,List.set_cons_zero,List.set_cons_succ]
    walk_at "rd"
    have i0:=rZ (hss:=hss) (z:=0) (by omega)
    refine dH (x:=il (hss.getD 0 [])) (cK (j:=0) (by rw[List.getElem?_map,i0];rfl)) ?_
    have l0:=C.each _ (List.mem_of_getElem? i0)
    walk_at "rd"
    refine⟨⟨⟨by decide,by decide⟩,⟨by rw[List.length_map];omega,by rw[List.length_map];omega⟩,trivial⟩,?_⟩
    rw[List.length_map,l0,show (((2*n:Nat):Int)-0+1) / 2=(n:Int) by omega,Int.toNat_natCast]
    have ek:((0:Int)+(k:Int))=(k:Int):=by omega
    rw[ek]
    refine BP 0 n (λi ρ=>∃(es:List nG) (c d e:Option S),(es.length<=120*z+3*k+i/\qK (SL ts hss n) es/\∀p,cOf p es=zs ts hss n z p+k*rD ts hss z n p+rD ts hss z i p)/\ρ=[some (.d (il ts)),some (.d (ill hss)),some (.own (es.map (·.1))),some (.d (.int z)),some (.d (.int k)),c,d,e]) ?_ ?_ _ ⟨rs1,c,d,e,⟨by omega,T1,λp=>by rw[S1];exact (Int.add_zero _).symm⟩,rfl⟩
    ·rintro i ρ hi ⟨rs2,c,d,e,⟨rl2,T2,S2⟩,rfl⟩ F'' _ _ hn'' _
     have a0:=nH C (z:=z) (j:=2*i) (by omega) (by omega)
     have a1:=nH C (z:=z) (j:=2*i+1) (by omega) (by omega)
     have b0:=nH C (z:=z+1) (j:=2*i) (by omega) (by omega)
     have b1:=nH C (z:=z+1) (j:=2*i+1) (by omega) (by omega)
     have mu:=rT C (z:=z) (j:=2*i+1) (by omega) (by omega)
     have ml:=rT C (z:=z) (j:=2*i) (by omega) (by omega)
     have lu:=nF hss w0 (2*i+1)
     have ll:=nF hss w0 (2*i)
     have dl:slp ts hss z (2*i)=zW (Hh hss (z+1) (2*i)-Hh hss z (2*i)) (Wd ts z):=rfl
     have du:slp ts hss z (2*i+1)=zW (Hh hss (z+1) (2*i+1)-Hh hss z (2*i+1)) (Wd ts z):=rfl
     have di:∀p,rD ts hss z (i+1) p=rD ts hss z i p+(one (slp ts hss z (2*i+1)) p-one (slp ts hss z (2*i)) p):=λp=>rfl
     have ba0:=wC C (z:=z) (j:=2*i) (by omega) (by omega)
     have ba1:=wC C (z:=z) (j:=2*i+1) (by omega) (by omega)
     have bb0:=wC C (z:=z+1) (j:=2*i) (by omega) (by omega)
     have bb1:=wC C (z:=z+1) (j:=2*i+1) (by omega) (by omega)
     generalize hLa:Hh hss z (2*i)=La at a0 ll dl ba0
     generalize hUa:Hh hss z (2*i+1)=Ua at a1 lu du ba1
     generalize hLb:Hh hss (z+1) (2*i)=Lb at b0 ll dl bb0
     generalize hUb:Hh hss (z+1) (2*i+1)=Ub at b1 lu du bb1
     generalize slp ts hss z (2*i+1)=su at *
     generalize slp ts hss z (2*i)=sl at *
     generalize hGW:Wd ts z=W at *
     generalize hGt:T ts z=t0 at *
     unfold fV
     simp only[aU,List.set_cons_zero,List.set_cons_succ]
     have ei:((0:Int)+(i:Int)*2)=((2*i:Nat):Int):=by omega
     rw[ei]
     refine aQ (λρ=>ρ=[some (.d (il ts)),some (.d (ill hss)),some (.own (rs2.map (·.1))),some (.d (.int z)),some (.d (.int k)),some (.d (.int ((2*i:Nat):Int))),some (.own [.int (t0+k)]),e]) (λK hK=>?_) ?_
     ·walk_at "rd"
      refine gW e0 ?_
      walk_at "rd"
      exact hK _ rfl
     rintro ρ rfl
     refine aQ (λρ=>∃(r:Row) (x:Option S),(r.x=t0+k/\Low (lin W k La Lb) W r.l0.1 r.l0.2/\Low (lin W (k+1) La Lb) W r.l1.1 r.l1.2/\Low (lin W k Ua Ub) W r.u0.1 r.u0.2/\Low (lin W (k+1) Ua Ub) W r.u1.1 r.u1.2)/\ρ=[some (.d (il ts)),some (.d (ill hss)),some (.own (rs2.map (·.1))),some (.d (.int z)),some (.d (.int k)),some (.d (.int ((2*i:Nat):Int))),some (.own [.int r.x,fr r.l0.1 r.l0.2,fr r.l1.1 r.l1.2,fr r.u0.1 r.u0.2,fr r.u1.1 r.u1.2]),x]) (λK hK=>?_) ?_
     ·walk_at "rd"
      refine gU _ (λj ρ=>(j=0/\∃x:Option S,ρ=[some (.d (il ts)),some (.d (ill hss)),some (.own (rs2.map (·.1))),some (.d (.int z)),some (.d (.int k)),some (.d (.int ((2*i:Nat):Int))),some (.own [.int (t0+k)]),x]) \/
        (j=1/\∃(p0 q0 p1 q1:Int) (x:Option S),(Low (lin W k La Lb) W p0 q0/\Low (lin W (k+1) La Lb) W p1 q1)/\ρ=[some (.d (il ts)),some (.d (ill hss)),some (.own (rs2.map (·.1))),some (.d (.int z)),some (.d (.int k)),some (.d (.int ((2*i:Nat):Int))),some (.own [.int (t0+k),fr p0 q0,fr p1 q1]),x]) \/
        (j=2/\∃(r:Row) (x:Option S),(r.x=t0+k/\Low (lin W k La Lb) W r.l0.1 r.l0.2/\Low (lin W (k+1) La Lb) W r.l1.1 r.l1.2/\Low (lin W k Ua Ub) W r.u0.1 r.u0.2/\Low (lin W (k+1) Ua Ub) W r.u1.1 r.u1.2)/\ρ=[some (.d (il ts)),some (.d (ill hss)),some (.own (rs2.map (·.1))),some (.d (.int z)),some (.d (.int k)),some (.d (.int ((2*i:Nat):Int))),some (.own [.int r.x,fr r.l0.1 r.l0.2,fr r.l1.1 r.l1.2,fr r.u0.1 r.u0.2,fr r.u1.1 r.u1.2]),x])) ?_ ?_ _ (Or.inl ⟨rfl,e,rfl⟩)
      ·rintro j x ρ ex (⟨rfl,u,rfl⟩ | ⟨rfl,p0,q0,p1,q1,u,⟨L0,L1⟩,rfl⟩ | ⟨rfl,_⟩) G _ _ hG _
       ·simp at ex
        subst ex
        unfold dG
        simp only[aU,List.set_cons_zero,List.set_cons_succ]
        walk_at "rd"
        refine⟨ts,hss,n,z,k,2*i,t0,_,_,_,La,Lb,rfl,C,⟨e0,e1,g0,g1,a0,b0,by omega,by omega⟩,λp q' L=>?_⟩
        refine⟨ts,hss,n,z,(k:Int)+1,2*i,t0,_,_,_,La,Lb,rfl,C,⟨e0,e1,g0,g1,a0,b0,by omega,by omega⟩,λp1 q1 L1=>?_⟩
        rw[hW] at L L1
        exact hG _ (Or.inr (Or.inl ⟨rfl,p,q',p1,q1,some (.d (.int (2*(i:Int)))),⟨L,L1⟩,rfl⟩))
       ·simp at ex
        subst ex
        unfold dG
        simp only[aU,List.set_cons_zero,List.set_cons_succ]
        walk_at "rd"
        have e2i:(2*(i:Int)+1)=((2*i+1:Nat):Int):=by omega
        refine⟨ts,hss,n,z,k,2*i+1,t0,_,_,_,Ua,Ub,rfl,C,⟨e0,e1,g0,g1,a1,b1,by omega,by omega⟩,λp2 q2 L2=>?_⟩
        refine⟨ts,hss,n,z,(k:Int)+1,2*i+1,t0,_,_,_,Ua,Ub,rfl,C,⟨e0,e1,g0,g1,a1,b1,by omega,by omega⟩,λp3 q3 L3=>?_⟩
        rw[hW] at L2 L3
        exact⟨gN (by decide),hG _ (Or.inr (Or.inr ⟨rfl,⟨t0+k,(p0,q0),(p1,q1),(p2,q2),(p3,q3)⟩,some (.d (.int (2*(i:Int)+1))),⟨rfl,L0,L1,L2,L3⟩,rfl⟩))⟩
       ·simp at ex
      ·rintro ρ (⟨h,_⟩ | ⟨h,_⟩ | ⟨_,r,x,h,rfl⟩)
       ·simp at h
       ·simp at h
       ·exact hK _ ⟨r,x,h,rfl⟩
     rintro ρ ⟨r,x,⟨hx,L0,L1,U0,U1⟩,rfl⟩
     have kl:∀{j:Int} {a b:Int},0<=j->j<=40->BL 210 a->BL 210 b->BL 400 (lin W j a b):=λ{j a b} j0 j1 ha hb =>
      ((ha.mul (n:=10) (BL.of_lt (by omega) (by omega))).add (hb.mul (n:=10) (BL.of_lt (by omega) (by omega)))).mono (by decide)
     have V:RowV W r (lin W k La Lb) (lin W (k+1) La Lb) (lin W k Ua Ub) (lin W (k+1) Ua Ub):=⟨L0,L1,U0,U1,kl (by omega) (by omega) ba0 bb0,kl (by omega) (by omega) ba0 bb0,kl (by omega) (by omega) ba1 bb1,kl (by omega) (by omega) ba1 bb1⟩
     have eU:lin W (k+1) Ua Ub-lin W k Ua Ub=Ub-Ua:=by unfold lin;grind
     have eL:lin W (k+1) La Lb-lin W k La Lb=Lb-La:=by unfold lin;grind
     have rS:RowS (yA r) su sl:=⟨r,W,_,_,_,_,rfl,⟨w0,(BL.of_lt (m:=10) (by omega) (by omega)).mono (by decide)⟩,V,by rw[eU];exact lu,by rw[eL];exact ll⟩
     have app:F''.nx [some (.d (il ts)),some (.d (ill hss)),some (.own (rs2.map (·.1)++[yA r])),some (.d (.int z)),some (.d (.int k)),some (.d (.int ((2*i:Nat):Int))),some (.own [.int r.x,fr r.l0.1 r.l0.2,fr r.l1.1 r.l1.2,fr r.u0.1 r.u0.2,fr r.u1.1 r.u1.2]),x]:=by
      refine hn'' _ ⟨rs2++[(yA r,su,sl)],some (.d (.int ((2*i:Nat):Int))),some (.own [.int r.x,fr r.l0.1 r.l0.2,fr r.l1.1 r.l1.2,fr r.u0.1 r.u0.2,fr r.u1.1 r.u1.2]),x,⟨by rw[List.length_append,List.length_singleton];omega,λe he=>?_,λp=>?_⟩,by rw[List.map_append];rfl⟩
      ·rcases List.mem_append.mp he with he | he
       ·exact T2 e he
       ·rw[List.mem_singleton.mp he];exact⟨rS,mu,ml⟩
      ·rw[nO,S2,di];show _+_+_+(one su p-one sl p)=_;omega
     walk_at "rd"
     have hsz:Sz ((rs2.map (·.1)).length+1):=gN (by rw[List.length_map];omega)
     rw[zJ 4]
     by_cases k0:r.l0.1=r.u0.1/\r.l0.2=r.u0.2
     ·rw[decide_eq_true k0]
      simp only[Bool.not_true,Bool.false_eq_true,if_false]
      rw[zJ 4]
      by_cases k1:r.l1.1=r.u1.1/\r.l1.2=r.u1.2
      ·rw[decide_eq_true k1]
       simp only[Bool.not_true,Bool.false_eq_true,if_false]
       refine hn'' _ ⟨rs2,_,_,x,⟨by omega,T2,λp=>?_⟩,rfl⟩
       rw[<-k0.1,<-k0.2] at U0
       rw[<-k1.1,<-k1.2] at U1
       have q0:=K23.low_inj L0 U0
       have q1:=K23.low_inj L1 U1
       have e:Ub-Ua=Lb-La:=by omega
       rw[e,<-dl] at du
       rw[S2,di,du];omega
      ·rw[decide_eq_false k1]
       simp only[Bool.not_false,if_true]
       exact⟨hsz,app⟩
     ·rw[decide_eq_false k0]
      simp only[Bool.not_false,if_true]
      exact⟨hsz,app⟩
    ·rintro ρ ⟨es,c,d,e,⟨rl2,T2,S2⟩,rfl⟩
     refine hn' _ ⟨es,_,c,d,e,⟨by omega,T2,λp=>?_⟩,rfl⟩
     rw[S2,show ((k+1:Nat):Int)=(k:Int)+1 by omega,Int.add_mul,Int.one_mul];omega
   ·rintro ρ ⟨es,b,c,d,e,⟨rl1,T1,S1⟩,rfl⟩
    refine hn _ ⟨es,_,b,c,d,e,⟨by omega,T1,λp=>?_⟩,rfl⟩
    rw[S1,hWn];rfl
  ·rintro ρ ⟨es,a,b,c,d,e,⟨rl,T,S⟩,rfl⟩
   exact hK _ ⟨es,a,b,c,d,e,⟨by omega,T,S⟩,rfl⟩
 rintro ρ ⟨es,a,b,c,d,e,⟨rl,T,S1⟩,rfl⟩
 walk_at "rd"
 exact q es rl T S1
end K22
namespace K22
open K23
variable {L:List IP} {ks:List (List Int)} {xs:List D} {c c':IP->Int}
noncomputable def mZ:FM:=λks xs ds Q=>∃(L:List IP) (c:IP->Int) (ts:List Int) (hss:List (List Int)) (n z j:Nat) (v:Int),ds=[ill hss,.int z,.int j,.int (Wd ts z),.int v]/\(Curves ts hss n/\z+1<ts.length/\j<2*n)/\Cts L ks xs c/\Q (ck (slp ts hss z j)) (.int (c (slp ts hss z j)+v))
theorem xE:∀ks xs ds Q,mZ ks xs ds Q->ds.length+1=6:=by rintro ks xs ds Q ⟨_,_,_,_,_,_,_,_,rfl,_⟩;rfl
theorem oH:∀a ks xs ds Q,mZ ks xs ds Q->cI a ks xs rY Q (oO ["_law_numbers_here","_law_heights_here","_law_zone","_law_curve","_law_wide","_law_by","_law_slope"] a ds):=by
 rintro a ks xs ds Q ⟨L,c,ts,hss,n,z,j,v,rfl,⟨C,hz,hj⟩,T,q⟩
 unfold oO
 rw[aS 1 rfl]
 unfold cI
 simp only[bW,tP,List.map_cons,List.map_nil,List.cons_append,List.nil_append]
 have hl:=C.len
 have g0:=rZ (hss:=hss) (z:=z) (by omega)
 have g1:=rZ (hss:=hss) (z:=z+1) (by omega)
 have a0:=nH C (z:=z) (j:=j) (by omega) (by omega)
 have a1:=nH C (z:=z+1) (j:=j) (by omega) (by omega)
 obtain⟨w0,w1⟩:=qM C (z:=z) (by omega)
 unfold AR
 walk_at "rd"
 rw[show ((z:Int)+1)=((z+1:Nat):Int) by omega]
 refine rA g1 (gW a1 (rA g0 (gW a0 ?_)))
 walk_at "rd"
 refine⟨_,_,rfl,⟨w0,(BL.of_lt (m:=10) (by omega) (by omega)).mono (by decide)⟩,λp q' lo=>?_⟩
 obtain⟨e1,e2⟩:=K12.low_eq w0 lo (nF hss w0 j)
 have e:(p,q')=slp ts hss z j:=Prod.ext e1 e2
 simp only[AN,AO,r2,aM,aE,rC,List.getElem?_cons_zero,List.getElem?_cons_succ,true_and]
 refine⟨ck (p,q'),rfl,?_⟩
 rw[T.get,e]
 exact⟨ck (p,q'),rfl,by rw[e];exact q⟩
noncomputable def xA (ts:List Int) (hss:List (List Int)) (z:Nat):Nat->IP->Int
 | 0,_=>0
 | j+1,p=>xA ts hss z j p+(Wd ts z*(if j % 2=0 then -1 else 1))*one (slp ts hss z j) p
theorem sT (ts:List Int) (hss:List (List Int)) (z:Nat) (p:IP):∀i:Nat,xA ts hss z (2*i) p=Wd ts z*rD ts hss z i p
 | 0=>by show (0:Int)=_*0;rw[Int.mul_zero]
 | i+1=>by
  show xA ts hss z (2*i) p+(Wd ts z*(if (2*i) % 2=0 then -1 else 1))*one (slp ts hss z (2*i)) p+(Wd ts z*(if (2*i+1) % 2=0 then -1 else 1))*one (slp ts hss z (2*i+1)) p=Wd ts z*(rD ts hss z i p+(one (slp ts hss z (2*i+1)) p-one (slp ts hss z (2*i)) p))
  rw[sT ts hss z p i,if_pos (by omega),if_neg (by omega)]
  grind
noncomputable def eX:FD:=λds Q=>∃(ts:List Int) (hss:List (List Int)) (n:Nat),ds=[il ts,ill hss]/\Curves ts hss n/\∀ks xs,Cts (SL ts hss n) ks xs (zs ts hss n (ts.length-1))->Q (.dtt ks xs)
theorem oX:∀ds Q,eX ds Q->ds.length=2:=by rintro ds Q ⟨_,_,_,rfl,_⟩;rfl
theorem jJ:∀ds Q,eX ds Q->cD mZ { nx:=λ_=>Q .non,rt:=Q } (aO ["_law_threads_here","_law_heights_here","_law_numbers_here","_law_zone","_law_wide","_law_curve"] ds):=by
 rintro ds Q ⟨ts,hss,n,rfl,C,q⟩
 have lok:=yL C
 have tl:=C.thr.len
 have hl:=C.len
 have nn:=C.n1
 rw[aS 4 rfl]
 unfold cD
 simp only[bW,rR,List.map_cons,List.map_nil,List.cons_append,List.nil_append]
 refine aQ (λρ=>ρ=[some (.d (il ts)),some (.d (ill hss)),some (.dt [] []),none,none,none]) (λK hK=>hK _ rfl) ?_
 rintro ρ rfl
 refine aQ (λρ=>∃(ks:List (List Int)) (xs:List D) (a b c:Option S),Cts (SL ts hss n) ks xs (zs ts hss n (ts.length-1))/\ρ=[some (.d (il ts)),some (.d (ill hss)),some (.dt ks xs),a,b,c]) (λK hK=>?_) ?_
 ·walk_at "rd"
  refine⟨⟨by rw[List.length_map];omega,by rw[List.length_map];omega⟩,?_⟩
  rw[List.length_map,show ((ts.length:Int)-1).toNat=ts.length-1 by omega]
  refine gA 0 (ts.length-1) (λz ρ=>∃(ks:List (List Int)) (xs:List D) (a b c:Option S),Cts (SL ts hss n) ks xs (zs ts hss n z)/\ρ=[some (.d (il ts)),some (.d (ill hss)),some (.dt ks xs),a,b,c]) ?_ ?_ _ ⟨[],[],none,none,none,Cts.nil _,rfl⟩
  ·rintro z ρ hz ⟨ks0,xs0,a,b,c,T0,rfl⟩ F _ _ hn _
   have e0:=pE (ts:=ts) (i:=z) (by omega)
   have e1:=pE (ts:=ts) (i:=z+1) (by omega)
   obtain⟨w0,w1⟩:=qM C (z:=z) (by omega)
   unfold dS
   simp only[aU,List.set_cons_zero,List.set_cons_succ]
   have ez:((0:Int)+(z:Int)+1)=((z+1:Nat):Int):=by omega
   have ez0:((0:Int)+(z:Int))=(z:Int):=by omega
   refine aQ (λρ=>ρ=[some (.d (il ts)),some (.d (ill hss)),some (.dt ks0 xs0),some (.d (.int z)),some (.d (.int (Wd ts z))),c]) (λK hK=>?_) ?_
   ·walk_at "rd"
    rw[ez,ez0]
    refine gW e1 (gW e0 ?_)
    exact hK _ rfl
   rintro ρ rfl
   walk_at "rd"
   have i0:=rZ (hss:=hss) (z:=0) (by omega)
   refine dH (x:=il (hss.getD 0 [])) (cK (j:=0) (by rw[List.getElem?_map,i0];rfl)) ?_
   have l0:=C.each _ (List.mem_of_getElem? i0)
   walk_at "rd"
   refine⟨⟨by rw[List.length_map];omega,by rw[List.length_map];omega⟩,?_⟩
   rw[List.length_map,l0,Int.toNat_natCast]
   refine gA 0 (2*n) (λj ρ=>∃(ks:List (List Int)) (xs:List D) (c:Option S),Cts (SL ts hss n) ks xs (λp=>zs ts hss n z p+xA ts hss z j p)/\ρ=[some (.d (il ts)),some (.d (ill hss)),some (.dt ks xs),some (.d (.int z)),some (.d (.int (Wd ts z))),c]) ?_ ?_ _ ⟨ks0,xs0,c,T0.mono λp=>(Int.add_zero _).symm,rfl⟩
   ·rintro j ρ hj ⟨ks1,xs1,c,T1,rfl⟩ F' _ _ hn' _
    have ej:((0:Int)+(j:Int))=(j:Int):=by omega
    unfold dR
    simp only[aU,List.set_cons_zero,List.set_cons_succ]
    rw[ej]
    simp only[CN,List.getElem?_cons_zero,List.getElem?_cons_succ]
    walk_at "rd"
    have hm:(j:Int).fmod 2=((j % 2:Nat):Int):=by rw[Int.fmod_eq_emod_of_nonneg _ (by decide)];rfl
    refine⟨dX,?_⟩
    rw[hm]
    refine dH (x:=.int (if j % 2=0 then -1 else 1)) (cK (j:=j % 2) ?_) ?_
    ·rcases Nat.mod_two_eq_zero_or_one j with h | h <;> rw[h] <;> rfl
    walk_at "rd"
    refine⟨(BL.of_lt (m:=10) (by omega) (by omega)).mulOk (n:=10) (BL.of_lt (by split <;> omega) (by split <;> omega)),gN (by have:=T1.len;have:=lok.len;omega),?_⟩
    refine⟨_,_,ts,hss,n,z,j,_,rfl,⟨C,by omega,hj⟩,T1,?_⟩
    refine hn' _ ⟨_,_,_,(T1.put (rT C (by omega) hj) _).mono λp=>?_,rfl⟩
    show _+xA ts hss z j p+_=_+(xA ts hss z j p+_)
    omega
   ·rintro ρ ⟨ks1,xs1,c,T1,rfl⟩
    exact hn _ ⟨ks1,xs1,_,_,c,T1.mono λp=>by rw[sT];rfl,rfl⟩
  ·rintro ρ ⟨ks,xs,a,b,c,T,rfl⟩
   exact hK _ ⟨ks,xs,a,b,c,T,rfl⟩
 rintro ρ ⟨ks,xs,a,b,c,T,rfl⟩
 simp only[gB,S.fz,bZ,aM,List.getElem?_cons_zero,List.getElem?_cons_succ,List.set_cons_zero,List.set_cons_succ]
 exact q ks xs T
noncomputable def iG:FD:=λds Q=>∃(L:List IP) (c:IP->Int) (ks:List (List Int)) (xs:List D) (fl:List IP),ds=[.lst (fl.map (lnD c)),.dtt ks xs]/\(LOk L/\Cts L ks xs c/\Lns L c fl)/\Q (.bl true)
theorem sX:∀ds Q,iG ds Q->ds.length=2:=by rintro ds Q ⟨_,_,_,_,_,rfl,_⟩;rfl
theorem AV {α:Type} [DecidableEq α] {l m:List α} (hl:l.Nodup) (hm:m.Nodup) (h:∀x,x∈l↔x∈m):l.length=m.length :=
 Nat.le_antisymm (eD l m hl λx hx=>(h x).mp hx) (eD m l hm λx hx=>(h x).mpr hx)
theorem lT:∀ds Q,iG ds Q->cG nA { nx:=λ_=>Q .non,rt:=Q } (aO ["_law_found","_law_numbers_here","_law_due","_law_k","_law_top","_law_bottom"] ds):=by
 rintro ds Q ⟨L,c,ks,xs,fl,rfl,⟨lok,T,N⟩,q⟩
 rw[aS 4 rfl]
 unfold cG
 simp only[bW,rR,List.map_cons,List.map_nil,List.cons_append,List.nil_append]
 obtain⟨kl,ek,nd,sub,all,hat⟩:=sL T
 have l24:=lok.len
 have kl24:=eD kl L nd sub
 have fl24:=eD fl L N.nodup N.sub
 have el:fl.length=(kl.filter λp=>decide (c p≠0)).length:=AV N.nodup (nd.filter _) λp=>by
  rw[N.mem,List.mem_filter]
  constructor
  ·exact λh=>⟨all p h,by simpa using h⟩
  ·exact λh=>by simpa using h.2
 refine aQ (λρ=>ρ=[some (.d (.lst (fl.map (lnD c)))),some (.d (.dtt ks xs)),some (.own ((kl.filter λp=>decide (c p≠0)).map frP)),none,none,none]) (λK hK=>?_) ?_
 ·simp only[dQ,hU,uY,aM,List.getElem?_cons_zero,List.getElem?_cons_succ,List.set_cons_zero,List.set_cons_succ]
  rw[ek]
  refine⟨gN (by rw[List.length_map];omega),?_⟩
  refine eY (λρ=>∃u,ρ=[u,some (.d (.dtt ks xs))]) frP frP (λp=>decide (c p≠0)) kl ?_ _ [] ⟨_,rfl⟩ (hK _ rfl)
  rintro p hp ρ ⟨u,rfl⟩ K hK
  simp only[aU,bA,r2,aM,rC,mC,List.getElem?_cons_zero,List.getElem?_cons_succ,List.set_cons_zero,List.set_cons_succ]
  refine⟨ck p,_,rfl,hat p hp,?_⟩
  walk_at "rd"
  have:=hK [some (.d (frP p)),some (.d (.dtt ks xs))] ⟨_,rfl⟩ λ_ K' hk=>hk
  rw[<-decide_not];exact this
 rintro ρ rfl
 refine aQ (λρ=>ρ=[some (.d (.lst (fl.map (lnD c)))),some (.d (.dtt ks xs)),some (.own ((kl.filter λp=>decide (c p≠0)).map frP)),none,none,none]) (λK hK=>?_) ?_
 ·walk_at "rd"
  rw[List.length_map,List.length_map,el]
  show if (!true)=true then Q (D.bl false) else _
  rw[if_neg (by decide),if_neg (by simp)]
  exact hK _ rfl
 rintro ρ rfl
 refine aQ (λρ=>True) (λK hK=>?_) ?_
 ·walk_at "rd"
  refine⟨⟨by rw[List.length_map];omega,by rw[List.length_map];omega⟩,?_⟩
  rw[List.length_map,Int.toNat_natCast]
  refine gA 0 fl.length (λk ρ=>∃(a b d:Option S),ρ=[some (.d (.lst (fl.map (lnD c)))),some (.d (.dtt ks xs)),some (.own ((kl.filter λp=>decide (c p≠0)).map frP)),a,b,d]) ?_ (λρ _=>hK _ trivial) _ ⟨none,none,none,rfl⟩
  rintro k ρ hk ⟨a,b,d,rfl⟩ F _ _ hn _
  have ek':fl[k]? = some fl[k]:=List.getElem?_eq_getElem hk
  have hp:=List.getElem_mem hk
  generalize fl[k]=p at ek' hp
  have cp:=(N.mem p).mp hp
  have dk:∀{Q:D->Prop},Q (lnD c p)->dIx (.lst (fl.map (lnD c))) (.int (k:Int)) Q:=λh=>dH (cK (by rw[List.getElem?_map,ek'];rfl)) h
  unfold dY
  simp only[aU,List.set_cons_zero,List.set_cons_succ]
  rw[show ((0:Int)+(k:Int))=(k:Int) by omega]
  refine aQ (λρ=>ρ=[some (.d (.lst (fl.map (lnD c)))),some (.d (.dtt ks xs)),some (.own ((kl.filter λp=>decide (c p≠0)).map frP)),some (.d (.int k)),b,d]) (λK hK=>?_) ?_
  ·walk_at "rd"
   refine dk ?_
   walk_at "rd"
   refine dk ?_
   walk_at "rd"
   rw[if_neg (by simp)]
   refine dk ?_
   walk_at "rd"
   refine⟨_,rfl,?_⟩
   walk_at "rd"
   exact hK _ rfl
  rintro ρ rfl
  refine aQ (λρ=>ρ=[some (.d (.lst (fl.map (lnD c)))),some (.d (.dtt ks xs)),some (.own ((kl.filter λp=>decide (c p≠0)).map frP)),some (.d (.int k)),b,d]) (λK hK=>?_) ?_
  ·walk_at "rd"
   refine dk ?_
   walk_at "rd"
   rw[if_neg cp]
   simp only[AM,r2,aM,aE,rC,L2.R2.S.val,List.getElem?_cons_zero,List.getElem?_cons_succ]
   refine dk ?_
   walk_at "rd"
   refine⟨ck p,rfl,?_⟩
   rw[T.get]
   refine dk ?_
   walk_at "rd"
   rw[if_neg (by simp)]
   exact hK _ rfl
  rintro ρ rfl
  refine aQ (λρ=>ρ=[some (.d (.lst (fl.map (lnD c)))),some (.d (.dtt ks xs)),some (.own ((kl.filter λp=>decide (c p≠0)).map frP)),some (.d (.int k)),some (.d (.int p.1)),some (.d (.int p.2))]) (λK hK=>?_) ?_
  ·walk_at "rd"
   refine dk ?_
   walk_at "rd"
   exact hK _ rfl
  rintro ρ rfl
  refine aQ (λρ=>ρ=[some (.d (.lst (fl.map (lnD c)))),some (.d (.dtt ks xs)),some (.own ((kl.filter λp=>decide (c p≠0)).map frP)),some (.d (.int k)),some (.d (.int p.1)),some (.d (.int p.2))]) (λK hK=>?_) ?_
  ·walk_at "rd"
   refine⟨_,rfl,?_⟩
   walk_at "rd"
   refine⟨_,rfl,?_⟩
   walk_at "rd"
   exact hK _ rfl
  rintro ρ rfl
  walk_at "rd"
  split
  ·rename_i k0
   have hk1:k-1<fl.length:=by omega
   have eq':fl[k-1]? = some fl[k-1]:=List.getElem?_eq_getElem hk1
   have hr:=List.pairwise_iff_getElem.mp N.inc (k-1) k hk1 hk (by omega)
   have hq:=List.getElem_mem hk1
   have e5:fl[k]=p:=by rw[List.getElem?_eq_getElem hk] at ek';exact Option.some.inj ek'
   rw[e5] at hr
   generalize fl[k-1]=r at eq' hr hq
   have dj:∀{Q:D->Prop},Q (lnD c r)->dIx (.lst (fl.map (lnD c))) (.int ((k:Int)-1)) Q:=λh=>by
    rw[show ((k:Int)-1)=((k-1:Nat):Int) by omega]
    exact dH (cK (by rw[List.getElem?_map,eq'];rfl)) h
   obtain⟨p0,p1,_,p3⟩:=lok.each p (N.sub p hp)
   obtain⟨r0,r1,_,r3⟩:=lok.each r (N.sub r hq)
   refine dj ?_
   walk_at "rd"
   refine⟨r3.mulOk (n:=10) (BL.of_lt (by omega) (by omega)),dj ?_⟩
   walk_at "rd"
   refine⟨p3.mulOk (n:=10) (BL.of_lt (by omega) (by omega)),?_⟩
   rw[if_neg (Int.not_le.mpr hr)]
   exact hn _ ⟨_,_,_,rfl⟩
  ·exact hn _ ⟨_,_,_,rfl⟩
 rintro ρ _
 walk_at "rd"
 exact q
end K22
namespace K22
open K23
theorem EK (n:Nat) (p q:Int):eqF (n+2) (fr p q) (fr p q)=some true:=by
 show eqL (eqF (n+1)) _ _=_
 refine qX _ λx hx=>?_
 simp only[List.mem_cons,List.not_mem_nil,or_false] at hx
 rcases hx with rfl | rfl <;> exact CW n _
theorem BO (n:Nat) (r:Row):eqF (n+3) (yA r) (yA r)=some true:=by
 show eqL (eqF (n+2)) _ _=_
 refine qX _ λx hx=>?_
 simp only[List.mem_cons,List.not_mem_nil,or_false] at hx
 rcases hx with rfl | rfl | rfl | rfl | rfl
 ·exact CW _ _
 all_goals exact EK n _ _
theorem CO {L:List IP} {es:List nG} (h:qK L es):eqL (eqF 5) (es.map (·.1)) (es.map (·.1))=some true:=qX _ λd hd=>by
 obtain⟨e,he,rfl⟩:=List.mem_map.mp hd
 obtain⟨⟨row,W,a,b,c,d,er,_⟩,_⟩:=h e he
 rw[er]
 exact BO 2 row
theorem AJ:∀ds Q,wB 63 ds Q->gD iE jO eX iG bD { nx:=λ_=>Q .non,rt:=Q } (aO ["_law_script","_law_threads_here","_law_heights_here","_law_rows","_law_handed","_law_numbers_here","_law_found"] ds):=by
 rintro ds Q ⟨ns,rfl,hn,Qt⟩
 rw[aS 6 rfl]
 unfold gD
 simp only[bW,tQ,List.map_cons,List.map_nil,List.cons_append,List.nil_append]
 refine aQ (λρ=>∃ts hss n,Curves ts hss n/\ρ=[some (.d (il ns)),some (.d (il ts)),some (.d (ill hss)),none,none,none,none]) (λK hK=>?_) ?_
 ·walk_at "rd"
  refine⟨ns,rfl,λts hss n C=>?_⟩
  walk_at "rd"
  exact hK _ ⟨ts,hss,n,C,rfl⟩
 rintro ρ ⟨ts,hss,n,C,rfl⟩
 have lok:=yL C
 refine aQ (λρ=>∃es:List nG,(es.length<=1000/\qK (SL ts hss n) es/\(λp=>cOf p es)=zs ts hss n (ts.length-1))/\ρ=[some (.d (il ns)),some (.d (il ts)),some (.d (ill hss)),some (.d (.lst (es.map (·.1)))),none,none,none]) (λK hK=>?_) ?_
 ·simp only[bK,aW,aC,aJ,aM,List.getElem?_cons_zero,List.getElem?_cons_succ,List.set_cons_zero,List.set_cons_succ]
  exact⟨ts,hss,n,rfl,C,λes l ok h=>hK _ ⟨es,⟨l,ok,funext h⟩,rfl⟩⟩
 rintro ρ ⟨es,⟨rl,ok,ec⟩,rfl⟩
 refine aQ (λρ=>ρ=[some (.d (il ns)),some (.d (il ts)),some (.d (ill hss)),some (.d (.lst (es.map (·.1)))),some (.d (.lst (es.map (·.1)))),none,none]) (λK hK=>?_) ?_
 ·walk_at "rd"
  exact hK _ rfl
 rintro ρ rfl
 refine aQ (λρ=>∃ks xs,Cts (SL ts hss n) ks xs (λp=>cOf p es)/\ρ=[some (.d (il ns)),some (.d (il ts)),some (.d (ill hss)),some (.d (.lst (es.map (·.1)))),some (.d (.lst (es.map (·.1)))),some (.d (.dtt ks xs)),none]) (λK hK=>?_) ?_
 ·simp only[bK,aW,aC,aJ,aM,List.getElem?_cons_zero,List.getElem?_cons_succ,List.set_cons_zero,List.set_cons_succ]
  exact⟨ts,hss,n,rfl,C,λks xs T=>hK _ ⟨ks,xs,by rw[ec];exact T,rfl⟩⟩
 rintro ρ ⟨ks,xs,T,rfl⟩
 refine aQ (λρ=>∃fl:List IP,Lns (SL ts hss n) (λp=>cOf p es) fl/\ρ=[some (.d (il ns)),some (.d (il ts)),some (.d (ill hss)),some (.d (.lst (es.map (·.1)))),some (.d (.lst (es.map (·.1)))),some (.d (.dtt ks xs)),some (.own (fl.map (lnD λp=>cOf p es)))]) (λK hK=>?_) ?_
 ·simp only[dQ,jK,aC,aJ,aM,List.getElem?_cons_zero,List.getElem?_cons_succ,List.set_cons_zero,List.set_cons_succ]
  exact⟨_,es,rfl,⟨lok,ok⟩,λfl N=>hK _ ⟨fl,N,rfl⟩⟩
 rintro ρ ⟨fl,N,rfl⟩
 have fl24:=eD fl _ N.nodup N.sub
 have l24:=lok.len
 refine aQ (λρ=>ρ=[some (.d (il ns)),some (.d (il ts)),some (.d (ill hss)),some (.d (.lst (es.map (·.1)))),some (.d (.lst (es.map (·.1)))),some (.d (.dtt ks xs)),some (.own (fl.map (lnD λp=>cOf p es)))]) (λK hK=>?_) ?_
 ·simp only[eW,zT,rOr,kJ,bA,aW,jK,gQ,aC,aJ,aM,aE,r2,cH,bZ,rC,L2.R2.S.val,List.getElem?_cons_zero,List.getElem?_cons_succ,List.set_cons_zero,List.set_cons_succ]
  refine⟨_,_,ks,xs,fl,rfl,⟨lok,T,N⟩,?_⟩
  simp only[Bool.not_true,Bool.false_eq_true,if_false]
  refine tF (CO ok) ?_
  simp only[Bool.false_eq_true,if_false]
  refine⟨sz0,?_⟩
  refine⟨_,[],rfl,⟨lok,λe h=>by cases h⟩,λfl' N'=>?_⟩
  have:fl'=[]:=by
   cases fl' with
   | nil=>rfl
   | cons p _=>exact absurd rfl ((N'.mem p).mp (.head _))
  subst this
  dsimp only
  refine⟨sz0,?_⟩
  refine tF rfl ?_
  simp only[Bool.false_eq_true,if_false]
  exact hK _ rfl
 rintro ρ rfl
 refine aQ (λρ=>∃u,ρ=[some (.d (il ns)),some (.d (il ts)),some (.d (ill hss)),some (.d (.lst (es.map (·.1)))),some (.d (.lst (es.map (·.1)))),some (.d (.dtt ks xs)),u]) (λK hK=>?_) ?_
 ·walk_at "rd"
  exact⟨gN (by rw[List.length_map];omega),hK _ ⟨_,rfl⟩⟩
 rintro ρ ⟨u,rfl⟩
 walk_at "rd"
 simp only[jK,aC,aJ,aM,List.getElem?_cons_zero,List.getElem?_cons_succ]
 refine⟨_,es,rfl,⟨lok,ok⟩,λfl' N'=>?_⟩
 exact⟨_,_,ks,xs,fl',rfl,⟨lok,T,N'⟩,Qt⟩
end K22
namespace K22
set_option maxHeartbeats 4000000
noncomputable def top (i:Nat):Stmt:=PySem.Challenge.pw_recut_k22_leanings.main.body.getD i (.Pass ⟨0,0,0,0⟩)
noncomputable abbrev s__law_divisor:Stmt:=top 17
noncomputable abbrev s__law_lowest:Stmt:=top 18
noncomputable abbrev s__law_at:Stmt:=top 23
noncomputable abbrev s__law_bands:Stmt:=top 24
noncomputable abbrev s__law_cell_at:Stmt:=top 15
noncomputable abbrev s__law_mixed:Stmt:=top 19
noncomputable abbrev s__law_heights:Stmt:=top 21
noncomputable abbrev s__law_threads:Stmt:=top 20
noncomputable abbrev s__law_curves:Stmt:=top 22
noncomputable abbrev s__law_count:Stmt:=top 25
noncomputable abbrev s__law_numbers:Stmt:=top 26
noncomputable abbrev s__law_whole:Stmt:=top 16
noncomputable abbrev s__law_right:Stmt:=top 27
noncomputable abbrev s_shared_divisor:Stmt:=top 4
noncomputable abbrev s_ratio:Stmt:=top 6
noncomputable abbrev s_minus:Stmt:=top 7
noncomputable abbrev s_lower_slope:Stmt:=top 11
noncomputable abbrev s_shared_multiple:Stmt:=top 5
noncomputable abbrev s_lowest_multiple:Stmt:=top 8
noncomputable abbrev s_rising:Stmt:=top 9
noncomputable abbrev s_upper_slope:Stmt:=top 12
noncomputable abbrev s_leanings:Stmt:=top 13
noncomputable abbrev s_law:Stmt:=top 28
section
variable {P:Program} {w:World} {K:PySem.W.Frag} {mg:Str->Option Value} {base:Heap}
theorem gJ:FnScope ["_law_one","_law_other"] ["_law_one","_law_other"] (aA s__law_divisor):=⟨rfl,rfl,rfl,by decide +kernel,rfl,by decide +kernel,by decide +kernel⟩
theorem mL {f:Addr} {cdv:Value} {A:Around} {outer:List Env} {s:Shared} {H:Hp} {E:XK} (m_abs:mg "abs" = none) (hr:Room 0 (A.deeper (envOfC "_law_divisor" (aA s__law_divisor) s.heap.objs.size f cdv))) :
  DSs (bS CX0 P w K mg base ["_law_one","_law_other"] "_law_divisor" (aA s__law_divisor) f cdv A outer s H E).nox (aH s__law_divisor) (cM) :=
 have nd:=gJ.nd
 aF (aY nd (gT qR m_abs iJ (aB (dv 0) (aI))))
 (aF (aY nd (gT qR m_abs iJ (aB (dv 1) (aI))))
 (aF (sS PassesOwn.never (bO zY (dvb 1) (DE.bor (aD))) (aN (EI rfl nd (aB (dv 1) (aB (aK bV (dvb 0) (dvb 1)) (aI))))))
 (aN (bF (dv 0)))))
theorem mT (Z:DefAt K mg "_law_divisor" s__law_divisor ["_law_one","_law_other"]) (m_abs:mg "abs" = none) {F:FD} (len:∀ds Q,F ds Q->ds.length=2) (pure:∀ds Q,F ds Q->cM { nx:=λ_=>Q .non,rt:=Q } (aO ["_law_one","_law_other"] ds)):FnAt P w K mg base "_law_divisor" ["_law_one","_law_other"] 1 F :=
 Z.ok gJ (λcdv A outer s H E hr=>mL m_abs hr) len pure
theorem iA:FnScope ["_law_top","_law_bottom","_law_by"] ["_law_top","_law_bottom"] (aA s__law_lowest):=⟨rfl,rfl,rfl,by decide +kernel,rfl,by decide +kernel,by decide +kernel⟩
theorem nK {f:Addr} {cdv:Value} {A:Around} {outer:List Env} {s:Shared} {H:Hp} {E:XK} {JW:FD} (KG:FnAt P w K mg base "_law_divisor" ["_law_one","_law_other"] 1 JW) (hr:Room 1 (A.deeper (envOfC "_law_lowest" (aA s__law_lowest) s.heap.objs.size f cdv))) :
  DSs (bS CX0 P w K mg base ["_law_top","_law_bottom","_law_by"] "_law_lowest" (aA s__law_lowest) f cdv A outer s H E).nox (aH s__law_lowest) (dA JW) :=
 have nd:=iA.nd
 aF (aY nd (aP KG (hr.mono (by decide)) (aB (dv 0) (aB (dv 1) (aI)))))
 (aN (bF (lA (aB (aK eE (dvb 0) (dvb 2)) (aB (aK eE (dvb 1) (dvb 2)) (aI))))))
theorem oB (Z:DefAt K mg "_law_lowest" s__law_lowest ["_law_top","_law_bottom"]) {JW:FD} (KG:FnAt P w K mg base "_law_divisor" ["_law_one","_law_other"] 1 JW) {F:FD} (len:∀ds Q,F ds Q->ds.length=2) (pure:∀ds Q,F ds Q->dA JW { nx:=λ_=>Q .non,rt:=Q } (aO ["_law_top","_law_bottom","_law_by"] ds)):FnAt P w K mg base "_law_lowest" ["_law_top","_law_bottom"] 2 F :=
 Z.ok iA (λcdv A outer s H E hr=>nK KG hr) len pure
theorem oN:FnScope ["_law_threads_here","_law_heights_here","_law_zone","_law_k","_law_curve","_law_wide","_law_left"] ["_law_threads_here","_law_heights_here","_law_zone","_law_k","_law_curve"] (aA s__law_at):=⟨rfl,rfl,rfl,by decide +kernel,rfl,by decide +kernel,by decide +kernel⟩
theorem uA {f:Addr} {cdv:Value} {A:Around} {outer:List Env} {s:Shared} {H:Hp} {E:XK} {JP:FD} (JR:FnAt P w K mg base "_law_lowest" ["_law_top","_law_bottom"] 2 JP) (hr:Room 2 (A.deeper (envOfC "_law_at" (aA s__law_at) s.heap.objs.size f cdv))) :
  DSs (bS CX0 P w K mg base ["_law_threads_here","_law_heights_here","_law_zone","_law_k","_law_curve","_law_wide","_law_left"] "_law_at" (aA s__law_at) f cdv A outer s H E).nox (aH s__law_at) (gC JP) :=
 have nd:=oN.nd
 aF (aY nd (aK cR (DE.bor (aT (dvb 0) (DE.bor (aK bP (dvb 2) (DE.bor (aD)))))) (DE.bor (aT (dvb 0) (dvb 2)))))
 (aF (aY nd (aT (DE.bor (aT (dvb 1) (dvb 2))) (dvb 4)))
 (aN (bF (aP JR (hr.mono (by decide)) (aB (aK bP (DE.bor (aK cQ (dvb 6) (DE.bor (aK cR (dvb 5) (dvb 3))))) (DE.bor (aK cQ (DE.bor (aT (DE.bor (aT (dvb 1) (DE.bor (aK bP (dvb 2) (DE.bor (aD)))))) (dvb 4))) (dvb 3)))) (aB (dv 5) (aI)))))))
theorem uP (Z:DefAt K mg "_law_at" s__law_at ["_law_threads_here","_law_heights_here","_law_zone","_law_k","_law_curve"]) {JP:FD} (JR:FnAt P w K mg base "_law_lowest" ["_law_top","_law_bottom"] 2 JP) {F:FD} (len:∀ds Q,F ds Q->ds.length=5) (pure:∀ds Q,F ds Q->gC JP { nx:=λ_=>Q .non,rt:=Q } (aO ["_law_threads_here","_law_heights_here","_law_zone","_law_k","_law_curve","_law_wide","_law_left"] ds)):FnAt P w K mg base "_law_at" ["_law_threads_here","_law_heights_here","_law_zone","_law_k","_law_curve"] 3 F :=
 Z.ok oN (λcdv A outer s H E hr=>uA JR hr) len pure
theorem iU:FnScope ["_law_threads_here","_law_heights_here","_law_found","_law_zone","_law_k","_law_low","_law_band","_law_curve"] ["_law_threads_here","_law_heights_here"] (aA s__law_bands):=⟨rfl,rfl,rfl,by decide +kernel,rfl,by decide +kernel,by decide +kernel⟩
theorem oQ {f:Addr} {cdv:Value} {A:Around} {outer:List Env} {s:Shared} {H:Hp} {E:XK} {JU:FD} (KS:FnAt P w K mg base "_law_at" ["_law_threads_here","_law_heights_here","_law_zone","_law_k","_law_curve"] 3 JU) (m_len:mg "len" = none) (m_range:mg "range" = none) (m_tuple:mg "tuple" = none) (hr:Room 3 (A.deeper (envOfC "_law_bands" (aA s__law_bands) s.heap.objs.size f cdv))) :
  DSs (bS CX0 P w K mg base ["_law_threads_here","_law_heights_here","_law_found","_law_zone","_law_k","_law_low","_law_band","_law_curve"] "_law_bands" (aA s__law_bands) f cdv A outer s H E).nox (aH s__law_bands) (dJ JU) :=
 have nd:=iU.nd
 aF (iK nd (fE (aI)))
 (aF (eN PassesOwn.never rfl (dE m_range (aB (aK cR (DE.bor (dW m_len (dvb 0))) (DE.bor (aD))) (aI))) (bI nd) (aN (eN PassesOwn.never rfl (dE m_range (aB (aK cR (DE.bor (aT (dvb 0) (DE.bor (aK bP (dvb 3) (DE.bor (aD)))))) (DE.bor (aT (dvb 0) (dvb 3)))) (aI))) (bI nd) (aN (eN PassesOwn.never rfl (BM m_range (aB (aD) (aB (dW m_len (DE.bor (aT (dvb 1) (DE.bor (aD))))) (aB (aD) (aI))))) (bI nd) (aF (iK nd (fE (aB (aK bP (DE.bor (aT (dvb 0) (dvb 3))) (dvb 4)) (aI))))
 (aF (eN PassesOwn.never rfl (jZ (DO.val (fE (aB (dv 5) (aB (aK bP (dvb 5) (DE.bor (aD))) (aI)))))) (bI nd) (aF (eJ 6 (aP KS (hr.mono (by decide)) (aB (dv 0) (aB (dv 1) (aB (dv 3) (aB (dv 4) (aB (dv 7) (aI))))))))
 (aN (eJ 6 (aP KS (hr.mono (by decide)) (aB (dv 0) (aB (dv 1) (aB (dv 3) (aB (aK bP (dvb 4) (DE.bor (aD))) (aB (dv 7) (aI)))))))))))
 (aN (eZ (DW.tst (mD (bO (zZ hr) (DE.bor (aT (dvb 6) (DE.bor (aD)))) (DE.bor (aT (dvb 6) (DE.bor (aD))))) (lD (bO (zZ hr) (DE.bor (aT (dvb 6) (DE.bor (aD)))) (DE.bor (aT (dvb 6) (DE.bor (aD)))))))) (aN (eJ 2 (yX m_tuple (dvb 6)))) (cC))))))))))
 (aN (vM 2 (bF (dv 2)))))
theorem oY (Z:DefAt K mg "_law_bands" s__law_bands ["_law_threads_here","_law_heights_here"]) {JU:FD} (KS:FnAt P w K mg base "_law_at" ["_law_threads_here","_law_heights_here","_law_zone","_law_k","_law_curve"] 3 JU) (m_len:mg "len" = none) (m_range:mg "range" = none) (m_tuple:mg "tuple" = none) {F:FD} (len:∀ds Q,F ds Q->ds.length=2) (pure:∀ds Q,F ds Q->dJ JU { nx:=λ_=>Q .non,rt:=Q } (aO ["_law_threads_here","_law_heights_here","_law_found","_law_zone","_law_k","_law_low","_law_band","_law_curve"] ds)):FnAt P w K mg base "_law_bands" ["_law_threads_here","_law_heights_here"] 4 F :=
 Z.ok iU (λcdv A outer s H E hr=>oQ KS m_len m_range m_tuple hr) len pure
theorem gI:FnScope ["_law_script","_law_k"] ["_law_script","_law_k"] (aA s__law_cell_at):=⟨rfl,rfl,rfl,by decide +kernel,rfl,by decide +kernel,by decide +kernel⟩
theorem mK {f:Addr} {cdv:Value} {A:Around} {outer:List Env} {s:Shared} {H:Hp} {E:XK} (m_len:mg "len" = none) (hr:Room 0 (A.deeper (envOfC "_law_cell_at" (aA s__law_cell_at) s.heap.objs.size f cdv))) :
  DSs (bS CX0 P w K mg base ["_law_script","_law_k"] "_law_cell_at" (aA s__law_cell_at) f cdv A outer s H E).nox (aH s__law_cell_at) (cL) :=
 have nd:=gI.nd
 aF (eZ (bO DL (dvb 1) (DE.bor (dW m_len (dvb 0)))) (aN (bF (aT (dvb 0) (dvb 1)))) (cC))
 (aN (bF (aD)))
theorem mS (Z:DefAt K mg "_law_cell_at" s__law_cell_at ["_law_script","_law_k"]) (m_len:mg "len" = none) {F:FD} (len:∀ds Q,F ds Q->ds.length=2) (pure:∀ds Q,F ds Q->cL { nx:=λ_=>Q .non,rt:=Q } (aO ["_law_script","_law_k"] ds)):FnAt P w K mg base "_law_cell_at" ["_law_script","_law_k"] 1 F :=
 Z.ok gI (λcdv A outer s H E hr=>mK m_len hr) len pure
theorem iW:FnScope ["_law_script","_law_k","_law_cell","_law_number"] ["_law_script","_law_k"] (aA s__law_mixed):=⟨rfl,rfl,rfl,by decide +kernel,rfl,by decide +kernel,by decide +kernel⟩
theorem oS {f:Addr} {cdv:Value} {A:Around} {outer:List Env} {s:Shared} {H:Hp} {E:XK} (m_len:mg "len" = none) (m_min:mg "min" = none) (hr:Room 0 (A.deeper (envOfC "_law_mixed" (aA s__law_mixed) s.heap.objs.size f cdv))) :
  DSs (bS CX0 P w K mg base ["_law_script","_law_k","_law_cell","_law_number"] "_law_mixed" (aA s__law_mixed) f cdv A outer s H E).nox (aH s__law_mixed) (dL) :=
 have nd:=iW.nd
 aF (aY nd (aD))
 (aF (eZ (bO zY (DE.bor (dW m_len (dvb 0))) (DE.bor (aD))) (aN (aY nd (aT (dvb 0) (DE.bor (aK bV (dvb 1) (DE.bor (gT (BF rfl) m_min wH (aB (aD) (aB (dW m_len (dvb 0)) (aI)))))))))) (cC))
 (aF (aY nd (aK bP (DE.bor (aK bV (dvb 2) (DE.bor (aK lM (DE.bor (aD)) (DE.bor (aD)))))) (DE.bor (aK cQ (DE.bor (aD)) (DE.bor (aK bP (dvb 1) (DE.bor (aD))))))))
 (aN (bF (aK bV (DE.bor (aK cQ (dvb 3) (dvb 3))) (DE.bor (aD)))))))
theorem pA (Z:DefAt K mg "_law_mixed" s__law_mixed ["_law_script","_law_k"]) (m_len:mg "len" = none) (m_min:mg "min" = none) {F:FD} (len:∀ds Q,F ds Q->ds.length=2) (pure:∀ds Q,F ds Q->dL { nx:=λ_=>Q .non,rt:=Q } (aO ["_law_script","_law_k","_law_cell","_law_number"] ds)):FnAt P w K mg base "_law_mixed" ["_law_script","_law_k"] 1 F :=
 Z.ok iW (λcdv A outer s H E hr=>oS m_len m_min hr) len pure
theorem gK:FnScope ["_law_script","_law_many","_law_place","_law_cell","_law_number","_law_found","_law_k","_law_step"] ["_law_script","_law_many","_law_place"] (aA s__law_heights):=⟨rfl,rfl,rfl,by decide +kernel,rfl,by decide +kernel,by decide +kernel⟩
theorem mM {f:Addr} {cdv:Value} {A:Around} {outer:List Env} {s:Shared} {H:Hp} {E:XK} {JM:FD} (JN:FnAt P w K mg base "_law_cell_at" ["_law_script","_law_k"] 1 JM) {JO:FD} (JV:FnAt P w K mg base "_law_mixed" ["_law_script","_law_k"] 1 JO) (m_range:mg "range" = none) (hr:Room 1 (A.deeper (envOfC "_law_heights" (aA s__law_heights) s.heap.objs.size f cdv))) :
  DSs (bS CX0 P w K mg base ["_law_script","_law_many","_law_place","_law_cell","_law_number","_law_found","_law_k","_law_step"] "_law_heights" (aA s__law_heights) f cdv A outer s H E).nox (aH s__law_heights) (cN JM JO) :=
 have nd:=gK.nd
 aF (aY nd (aP JN (hr.mono (by decide)) (aB (dv 0) (aB (aK bP (DE.bor (aD)) (dvb 2)) (aI)))))
 (aF (aY nd (aK cR (DE.bor (aK bV (dvb 3) (DE.bor (aD)))) (DE.bor (aD))))
 (aF (eZ (bO lL (DE.bor (aK bV (DE.bor (aP JN (hr.mono (by decide)) (aB (dv 0) (aB (aD) (aI))))) (DE.bor (aD)))) (DE.bor (aD))) (aN (aY nd (aK cR (DE.bor (aK bV (dvb 3) (DE.bor (aK cQ (DE.bor (aD)) (DE.bor (aK lM (DE.bor (aD)) (DE.bor (aD)))))))) (DE.bor (aK lM (DE.bor (aD)) (DE.bor (aD))))))) (cC))
 (aF (iK nd (fE (aB (dv 4) (aI))))
 (aF (eN PassesOwn.never rfl (wR m_range (aB (aD) (aB (dv 1) (aI)))) (bI nd) (aF (aY nd (aP JV (hr.mono (by decide)) (aB (dv 0) (aB (aK bP (DE.bor (aK cQ (DE.bor (aD)) (dvb 2))) (dvb 6)) (aI)))))
 (aF (aY nd (aT (DE.bor (DO.val (fE (aB (aD) (aB (aD) (aB (aK bV (DE.bor (aK eE (dvb 4) (DE.bor (aD)))) (DE.bor (aD))) (aB (aK bV (DE.bor (aK eE (dvb 4) (DE.bor (aD)))) (DE.bor (aK lM (DE.bor (aD)) (DE.bor (aD))))) (aI)))))))) (DE.bor (aK bV (dvb 4) (DE.bor (aD))))))
 (aN (eJ 5 (aK bP (DE.bor (aT (dvb 5) (DE.bor (vG rW (DE.bor (aD)))))) (dvb 7)))))))
 (aN (vM 5 (bF (dv 5))))))))
theorem mU (Z:DefAt K mg "_law_heights" s__law_heights ["_law_script","_law_many","_law_place"]) {JM:FD} (JN:FnAt P w K mg base "_law_cell_at" ["_law_script","_law_k"] 1 JM) {JO:FD} (JV:FnAt P w K mg base "_law_mixed" ["_law_script","_law_k"] 1 JO) (m_range:mg "range" = none) {F:FD} (len:∀ds Q,F ds Q->ds.length=3) (pure:∀ds Q,F ds Q->cN JM JO { nx:=λ_=>Q .non,rt:=Q } (aO ["_law_script","_law_many","_law_place","_law_cell","_law_number","_law_found","_law_k","_law_step"] ds)):FnAt P w K mg base "_law_heights" ["_law_script","_law_many","_law_place"] 2 F :=
 Z.ok gK (λcdv A outer s H E hr=>mM JN JV m_range hr) len pure
theorem gM:FnScope ["_law_script","_law_found","_law_k","_law_wide"] ["_law_script"] (aA s__law_threads):=⟨rfl,rfl,rfl,by decide +kernel,rfl,by decide +kernel,by decide +kernel⟩
theorem mO {f:Addr} {cdv:Value} {A:Around} {outer:List Env} {s:Shared} {H:Hp} {E:XK} {JM:FD} (JN:FnAt P w K mg base "_law_cell_at" ["_law_script","_law_k"] 1 JM) {JO:FD} (JV:FnAt P w K mg base "_law_mixed" ["_law_script","_law_k"] 1 JO) (m_range:mg "range" = none) (hr:Room 1 (A.deeper (envOfC "_law_threads" (aA s__law_threads) s.heap.objs.size f cdv))) :
  DSs (bS CX0 P w K mg base ["_law_script","_law_found","_law_k","_law_wide"] "_law_threads" (aA s__law_threads) f cdv A outer s H E).nox (aH s__law_threads) (cO JM JO) :=
 have nd:=gM.nd
 aF (iK nd (fE (aB (aK cR (DE.bor (aK bV (DE.bor (aP JN (hr.mono (by decide)) (aB (dv 0) (aB (aD) (aI))))) (DE.bor (aD)))) (DE.bor (aD))) (aI))))
 (aF (eZ (bO lL (DE.bor (aK bV (DE.bor (aK eE (DE.bor (aP JN (hr.mono (by decide)) (aB (dv 0) (aB (aD) (aI))))) (DE.bor (aD)))) (DE.bor (aD)))) (DE.bor (aD))) (aN (iK nd (fE (aB (aK cR (DE.bor (aK bV (DE.bor (aP JN (hr.mono (by decide)) (aB (dv 0) (aB (aD) (aI))))) (DE.bor (aK cQ (DE.bor (aD)) (DE.bor (aK lM (DE.bor (aD)) (DE.bor (aD)))))))) (DE.bor (aK lM (DE.bor (aD)) (DE.bor (aD))))) (aI))))) (cC))
 (aF (eN PassesOwn.never rfl (dE m_range (aB (aK bP (DE.bor (aD)) (DE.bor (aK bV (DE.bor (aP JN (hr.mono (by decide)) (aB (dv 0) (aB (aD) (aI))))) (DE.bor (aD))))) (aI))) (bI nd) (aF (aY nd (aK bP (DE.bor (aD)) (DE.bor (aK bV (DE.bor (aP JV (hr.mono (by decide)) (aB (dv 0) (aB (aK bP (DE.bor (aD)) (dvb 2)) (aI))))) (DE.bor (aD))))))
 (aF (eZ (DW.tst (zH (bO lL (dvb 2) (DE.bor (aD))) (vQ (bO lL (DE.bor (aK bV (DE.bor (aP JN (hr.mono (by decide)) (aB (dv 0) (aB (aD) (aI))))) (DE.bor (aD)))) (DE.bor (aD)))))) (aN (aY nd (aK bP (DE.bor (aD)) (DE.bor (aK bV (DE.bor (aK eE (DE.bor (aP JN (hr.mono (by decide)) (aB (dv 0) (aB (aD) (aI))))) (DE.bor (aD)))) (DE.bor (aD))))))) (cC))
 (aN (eJ 1 (aK bP (DE.bor (aT (dvb 1) (DE.bor (vG rW (DE.bor (aD)))))) (dvb 3)))))))
 (aN (vM 1 (bF (dv 1))))))
theorem mW (Z:DefAt K mg "_law_threads" s__law_threads ["_law_script"]) {JM:FD} (JN:FnAt P w K mg base "_law_cell_at" ["_law_script","_law_k"] 1 JM) {JO:FD} (JV:FnAt P w K mg base "_law_mixed" ["_law_script","_law_k"] 1 JO) (m_range:mg "range" = none) {F:FD} (len:∀ds Q,F ds Q->ds.length=1) (pure:∀ds Q,F ds Q->cO JM JO { nx:=λ_=>Q .non,rt:=Q } (aO ["_law_script","_law_found","_law_k","_law_wide"] ds)):FnAt P w K mg base "_law_threads" ["_law_script"] 2 F :=
 Z.ok gM (λcdv A outer s H E hr=>mO JN JV m_range hr) len pure
theorem hZ:FnScope ["_law_script","_law_threads_here","_law_many"] ["_law_script"] (aA s__law_curves):=⟨rfl,rfl,rfl,by decide +kernel,rfl,by decide +kernel,by decide +kernel⟩
theorem kG:List.Nodup (["_law_place","_law_script","_law_many"]:List Str):=by decide +kernel
theorem nJ {f:Addr} {cdv:Value} {A:Around} {outer:List Env} {s:Shared} {H:Hp} {E:XK} {JM:FD} (JN:FnAt P w K mg base "_law_cell_at" ["_law_script","_law_k"] 1 JM) {JX:FD} (KH:FnAt P w K mg base "_law_heights" ["_law_script","_law_many","_law_place"] 2 JX) {JZ:FD} (KJ:FnAt P w K mg base "_law_threads" ["_law_script"] 2 JZ) (m_len:mg "len" = none) (m_range:mg "range" = none) (hr:Room 2 (A.deeper (envOfC "_law_curves" (aA s__law_curves) s.heap.objs.size f cdv))) :
  DSs (bS CX0 P w K mg base ["_law_script","_law_threads_here","_law_many"] "_law_curves" (aA s__law_curves) f cdv A outer s H E).nox (aH s__law_curves) (cZ JM JX JZ) :=
 have nd:=hZ.nd
 aF (aY nd (aP KJ (hr.mono (by decide)) (aB (dv 0) (aI))))
 (aF (aY nd (aK bP (DE.bor (aD)) (DE.bor (aK cQ (DE.bor (aD)) (DE.bor (aK bV (DE.bor (aP JN (hr.mono (by decide)) (aB (dv 0) (aB (aD) (aI))))) (DE.bor (aD))))))))
 (aN (bF (lA (aB (dv 1) (aB (DO.val (vL ["_law_place","_law_script","_law_many"] 1 [0,2] (dE m_range (aB (dW m_len (dvb 1)) (aI))) (λcl C s H fp=>bI kG) (λcl C s H fp=>aP KH (hr.mono (by decide)) (aB (dv 1) (aB (dv 2) (aB (dv 0) (aI))))))) (aI)))))))
theorem oA (Z:DefAt K mg "_law_curves" s__law_curves ["_law_script"]) {JM:FD} (JN:FnAt P w K mg base "_law_cell_at" ["_law_script","_law_k"] 1 JM) {JX:FD} (KH:FnAt P w K mg base "_law_heights" ["_law_script","_law_many","_law_place"] 2 JX) {JZ:FD} (KJ:FnAt P w K mg base "_law_threads" ["_law_script"] 2 JZ) (m_len:mg "len" = none) (m_range:mg "range" = none) {F:FD} (len:∀ds Q,F ds Q->ds.length=1) (pure:∀ds Q,F ds Q->cZ JM JX JZ { nx:=λ_=>Q .non,rt:=Q } (aO ["_law_script","_law_threads_here","_law_many"] ds)):FnAt P w K mg base "_law_curves" ["_law_script"] 3 F :=
 Z.ok hZ (λcdv A outer s H E hr=>nJ JN KH KJ m_len m_range hr) len pure
theorem iV:FnScope ["_law_numbers_here","_law_heights_here","_law_zone","_law_curve","_law_wide","_law_by","_law_slope"] ["_law_numbers_here","_law_heights_here","_law_zone","_law_curve","_law_wide","_law_by"] (aA s__law_count):=⟨rfl,rfl,rfl,by decide +kernel,rfl,by decide +kernel,by decide +kernel⟩
theorem oR {f:Addr} {cdv:Value} {A:Around} {outer:List Env} {s:Shared} {H:Hp} {E:XK} {JP:FD} (JR:FnAt P w K mg base "_law_lowest" ["_law_top","_law_bottom"] 2 JP) (hr:Room 2 (A.deeper (envOfC "_law_count" (aA s__law_count) s.heap.objs.size f cdv))) {a:Addr} {ks:List (List Int)} {xs:List D} {ws:List V} (hA:H a=some (.dT (aV ks ws))) (hl:ks.length=ws.length) (hz:ks.length<sizeLine) (rr:Reps K H xs ws) :
  PSs (bS CX0 P w K mg base ["_law_numbers_here","_law_heights_here","_law_zone","_law_curve","_law_wide","_law_by","_law_slope"] "_law_count" (aA s__law_count) f cdv A outer s H E).nox (aH s__law_count) (sZ (bS CX0 P w K mg base ["_law_numbers_here","_law_heights_here","_law_zone","_law_curve","_law_wide","_law_by","_law_slope"] "_law_count" (aA s__law_count) f cdv A outer s H E).nox a ks ws (cI a ks xs JP)) :=
 have nd:=iV.nd
 wU (aY nd (aP JR (hr.mono (by decide)) (aB (aK cR (DE.bor (aT (DE.bor (aT (dvb 1) (DE.bor (aK bP (dvb 2) (DE.bor (aD)))))) (dvb 3))) (DE.bor (aT (DE.bor (aT (dvb 1) (dvb 2))) (dvb 3)))) (aB (dv 4) (aI)))))
 (wV 0 hr hA hl hz (dv 6) (aK bP (DE.bor (BJ 0 hr hA rr (dv 6) (aD))) (dvb 5)))
theorem oZ (Z:DefAt K mg "_law_count" s__law_count ["_law_numbers_here","_law_heights_here","_law_zone","_law_curve","_law_wide","_law_by"]) {JP:FD} (JR:FnAt P w K mg base "_law_lowest" ["_law_top","_law_bottom"] 2 JP) {F:FM} (len:∀ks xs ds Q,F ks xs ds Q->ds.length+1=6) (pure:∀a ks xs ds Q,F ks xs ds Q->cI a ks xs JP Q (oO ["_law_numbers_here","_law_heights_here","_law_zone","_law_curve","_law_wide","_law_by","_law_slope"] a ds)):FnAtM P w K mg base "_law_count" ["_law_numbers_here","_law_heights_here","_law_zone","_law_curve","_law_wide","_law_by"] 3 F :=
 Z.okM (t:=λa ks xs=>cI a ks xs JP) iV (by decide) (λcdv A outer s H E hr a ks xs ws hA hl hz rr=>oR JR hr hA hl hz rr) len pure
theorem gL:FnScope ["_law_threads_here","_law_heights_here","_law_numbers_here","_law_zone","_law_wide","_law_curve"] ["_law_threads_here","_law_heights_here"] (aA s__law_numbers):=⟨rfl,rfl,rfl,by decide +kernel,rfl,by decide +kernel,by decide +kernel⟩
theorem mN {f:Addr} {cdv:Value} {A:Around} {outer:List Env} {s:Shared} {H:Hp} {E:XK} {JS:FM} (KQ:FnAtM P w K mg base "_law_count" ["_law_numbers_here","_law_heights_here","_law_zone","_law_curve","_law_wide","_law_by"] 3 JS) (m_len:mg "len" = none) (m_range:mg "range" = none) (hr:Room 3 (A.deeper (envOfC "_law_numbers" (aA s__law_numbers) s.heap.objs.size f cdv))) :
  DSs (bS CX0 P w K mg base ["_law_threads_here","_law_heights_here","_law_numbers_here","_law_zone","_law_wide","_law_curve"] "_law_numbers" (aA s__law_numbers) f cdv A outer s H E).nox (aH s__law_numbers) (cD JS) :=
 have nd:=gL.nd
 aF (vN nd)
 (aF (eN PassesOwn.never rfl (dE m_range (aB (aK cR (DE.bor (dW m_len (dvb 0))) (DE.bor (aD))) (aI))) (bI nd) (aF (aY nd (aK cR (DE.bor (aT (dvb 0) (DE.bor (aK bP (dvb 3) (DE.bor (aD)))))) (DE.bor (aT (dvb 0) (dvb 3)))))
 (aN (eN PassesOwn.never rfl (dE m_range (aB (dW m_len (DE.bor (aT (dvb 1) (DE.bor (aD))))) (aI))) (bI nd) (aN (EH 2 KQ (hr.mono (by decide)) (aB (dv 1) (aB (dv 3) (aB (dv 5) (aB (dv 4) (aB (aK cQ (dvb 4) (DE.bor (aT (DE.bor (DO.val (fE (aB (vG rW (DE.bor (aD))) (aB (aD) (aI)))))) (DE.bor (aK bV (dvb 5) (DE.bor (aD))))))) (aI))))))))))))
 (aN (vM 2 (bF (dv 2)))))
theorem mV (Z:DefAt K mg "_law_numbers" s__law_numbers ["_law_threads_here","_law_heights_here"]) {JS:FM} (KQ:FnAtM P w K mg base "_law_count" ["_law_numbers_here","_law_heights_here","_law_zone","_law_curve","_law_wide","_law_by"] 3 JS) (m_len:mg "len" = none) (m_range:mg "range" = none) {F:FD} (len:∀ds Q,F ds Q->ds.length=2) (pure:∀ds Q,F ds Q->cD JS { nx:=λ_=>Q .non,rt:=Q } (aO ["_law_threads_here","_law_heights_here","_law_numbers_here","_law_zone","_law_wide","_law_curve"] ds)):FnAt P w K mg base "_law_numbers" ["_law_threads_here","_law_heights_here"] 4 F :=
 Z.ok gL (λcdv A outer s H E hr=>mN KQ m_len m_range hr) len pure
theorem iY:FnScope ["_law_found"] ["_law_found"] (aA s__law_whole):=⟨rfl,rfl,rfl,by decide +kernel,rfl,by decide +kernel,by decide +kernel⟩
theorem oU {f:Addr} {cdv:Value} {A:Around} {outer:List Env} {s:Shared} {H:Hp} {E:XK} (m_isinstance:mg "isinstance" = none) (m_bool:mg "bool" = none) (m_int:mg "int" = none) (hr:Room 0 (A.deeper (envOfC "_law_whole" (aA s__law_whole) s.heap.objs.size f cdv))) :
  DSs (bS CX0 P w K mg base ["_law_found"] "_law_whole" (aA s__law_whole) f cdv A outer s H E).nox (aH s__law_whole) (dM) :=
 have nd:=iY.nd
 aN (bF (EC (qU (CQ _) m_isinstance m_int wG (dv 0)) (EF (ED (qU (AZ _) m_isinstance m_bool uC (dv 0))))))
theorem pC (Z:DefAt K mg "_law_whole" s__law_whole ["_law_found"]) (m_isinstance:mg "isinstance" = none) (m_bool:mg "bool" = none) (m_int:mg "int" = none) {F:FD} (len:∀ds Q,F ds Q->ds.length=1) (pure:∀ds Q,F ds Q->dM { nx:=λ_=>Q .non,rt:=Q } (aO ["_law_found"] ds)):FnAt P w K mg base "_law_whole" ["_law_found"] 1 F :=
 Z.ok iY (λcdv A outer s H E hr=>oU m_isinstance m_bool m_int hr) len pure
theorem iX:FnScope ["_law_found","_law_numbers_here","_law_due","_law_k","_law_top","_law_bottom"] ["_law_found","_law_numbers_here"] (aA s__law_right):=⟨rfl,rfl,rfl,by decide +kernel,rfl,by decide +kernel,by decide +kernel⟩
theorem lK:List.Nodup (["_law_slope","_law_numbers_here"]:List Str):=by decide +kernel
theorem oT {f:Addr} {cdv:Value} {A:Around} {outer:List Env} {s:Shared} {H:Hp} {E:XK} {JT:FD} (KE:FnAt P w K mg base "_law_whole" ["_law_found"] 1 JT) (m_len:mg "len" = none) (m_range:mg "range" = none) (m_isinstance:mg "isinstance" = none) (m_tuple:mg "tuple" = none) (m_list:mg "list" = none) (hr:Room 1 (A.deeper (envOfC "_law_right" (aA s__law_right) s.heap.objs.size f cdv))) :
  DSs (bS CX0 P w K mg base ["_law_found","_law_numbers_here","_law_due","_law_k","_law_top","_law_bottom"] "_law_right" (aA s__law_right) f cdv A outer s H E).nox (aH s__law_right) (cG JT) :=
 have nd:=iX.nd
 aF (zF ["_law_slope","_law_numbers_here"] 1 [1] nd (BK (dv 1)) (λcl C s H fp=>bI lK) (λcl C s H fp=>sN (bO nY (DE.bor (qV hr (dv 1) (dv 0))) (DE.bor (aD)))) (λcl C s H fp=>dv 0))
 (aF (eZ (DW.tst (mD (lB (lC (qU (BA _) m_isinstance m_list uD (dv 0)))) (lD (bO nY (DE.bor (dW m_len (dvb 0))) (DE.bor (dW m_len (dvb 2))))))) (aN (bF (nQ))) (cC))
 (aF (eN PassesOwn.never rfl (dE m_range (aB (dW m_len (dvb 0)) (aI))) (bI nd) (aF (eZ (DW.tst (mD (lB (lC (qU (yG _) m_isinstance m_tuple sE (aT (dvb 0) (dvb 3))))) (mD (bO nY (DE.bor (dW m_len (DE.bor (aT (dvb 0) (dvb 3))))) (DE.bor (aD))) (lD (lB (lC (aP KE (hr.mono (by decide)) (aB (aT (DE.bor (aT (dvb 0) (dvb 3))) (DE.bor (aD))) (aI))))))))) (aN (bF (nQ))) (cC))
 (aF (eZ (DW.tst (mD (bO lL (DE.bor (aT (DE.bor (aT (dvb 0) (dvb 3))) (DE.bor (aD)))) (DE.bor (aD))) (lD (bO (zZ hr) (DE.bor (BI hr (dv 1) (aT (DE.bor (aT (dvb 0) (dvb 3))) (DE.bor (aD))) (aD))) (DE.bor (aT (DE.bor (aT (dvb 0) (dvb 3))) (DE.bor (aD)))))))) (aN (bF (nQ))) (cC))
 (aF (zD (aT (DE.bor (aT (dvb 0) (dvb 3))) (DE.bor (aD))) (yZ rfl (jY (bI nd) (jY (bI nd) (vK)))))
 (aF (eZ (DW.tst (mD (lB (lC (aP KE (hr.mono (by decide)) (aB (dv 4) (aI))))) (lD (lB (lC (aP KE (hr.mono (by decide)) (aB (dv 5) (aI)))))))) (aN (bF (nQ))) (cC))
 (aN (eZ (DW.tst (zH (bO zY (dvb 3) (DE.bor (aD))) (vQ (bO HF (DE.bor (aK cQ (DE.bor (aT (DE.bor (aT (DE.bor (aT (dvb 0) (DE.bor (aK cR (dvb 3) (DE.bor (aD)))))) (DE.bor (aD)))) (DE.bor (aD)))) (dvb 5))) (DE.bor (aK cQ (dvb 4) (DE.bor (aT (DE.bor (aT (DE.bor (aT (dvb 0) (DE.bor (aK cR (dvb 3) (DE.bor (aD)))))) (DE.bor (aD)))) (DE.bor (aD)))))))))) (aN (bF (nQ))) (cC))))))))
 (aN (bF (nQ)))))
theorem pB (Z:DefAt K mg "_law_right" s__law_right ["_law_found","_law_numbers_here"]) {JT:FD} (KE:FnAt P w K mg base "_law_whole" ["_law_found"] 1 JT) (m_len:mg "len" = none) (m_range:mg "range" = none) (m_isinstance:mg "isinstance" = none) (m_tuple:mg "tuple" = none) (m_list:mg "list" = none) {F:FD} (len:∀ds Q,F ds Q->ds.length=2) (pure:∀ds Q,F ds Q->cG JT { nx:=λ_=>Q .non,rt:=Q } (aO ["_law_found","_law_numbers_here","_law_due","_law_k","_law_top","_law_bottom"] ds)):FnAt P w K mg base "_law_right" ["_law_found","_law_numbers_here"] 2 F :=
 Z.ok iX (λcdv A outer s H E hr=>oT KE m_len m_range m_isinstance m_tuple m_list hr) len pure
theorem fC:FnScope ["one","other","larger","smaller","rest"] ["one","other"] (aA s_shared_divisor):=⟨rfl,rfl,rfl,by decide +kernel,rfl,by decide +kernel,by decide +kernel⟩
theorem jV {f:Addr} {cdv:Value} {A:Around} {outer:List Env} {s:Shared} {H:Hp} {E:XK} (m_abs:mg "abs" = none) (hr:Room 0 (A.deeper (envOfC "shared_divisor" (aA s_shared_divisor) s.heap.objs.size f cdv))) :
  DSs (bS CX0 P w K mg base ["one","other","larger","smaller","rest"] "shared_divisor" (aA s_shared_divisor) f cdv A outer s H E).nox (aH s_shared_divisor) (cE) :=
 have nd:=fC.nd
 aF (aY nd (gT qR m_abs iJ (aB (dv 0) (aI))))
 (aF (aY nd (gT qR m_abs iJ (aB (dv 1) (aI))))
 (aF (sS PassesOwn.never (bO nY (dvb 3) (DE.bor (aD))) (aF (aY nd (aK bV (dvb 2) (dvb 3)))
 (aF (aY nd (dv 3))
 (aN (aY nd (dv 4))))))
 (aN (bF (dv 2)))))
theorem kH (Z:DefAt K mg "shared_divisor" s_shared_divisor ["one","other"]) (m_abs:mg "abs" = none) {F:FD} (len:∀ds Q,F ds Q->ds.length=2) (pure:∀ds Q,F ds Q->cE { nx:=λ_=>Q .non,rt:=Q } (aO ["one","other","larger","smaller","rest"] ds)):FnAt P w K mg base "shared_divisor" ["one","other"] 1 F :=
 Z.ok fC (λcdv A outer s H E hr=>jV m_abs hr) len pure
theorem tT:FnScope ["top","bottom","divisor"] ["top","bottom"] (aA s_ratio):=⟨rfl,rfl,rfl,by decide +kernel,rfl,by decide +kernel,by decide +kernel⟩
theorem yQ {f:Addr} {cdv:Value} {A:Around} {outer:List Env} {s:Shared} {H:Hp} {E:XK} {F_shared_divisor:FD} (JQ:FnAt P w K mg base "shared_divisor" ["one","other"] 1 F_shared_divisor) (hr:Room 1 (A.deeper (envOfC "ratio" (aA s_ratio) s.heap.objs.size f cdv))) :
  DSs (bS CX0 P w K mg base ["top","bottom","divisor"] "ratio" (aA s_ratio) f cdv A outer s H E).nox (aH s_ratio) (kM F_shared_divisor) :=
 have nd:=tT.nd
 aF (eZ (bO lL (dvb 1) (DE.bor (aD))) (aN (zE)) (cC))
 (aF (aY nd (aP JQ (hr.mono (by decide)) (aB (dv 0) (aB (dv 1) (aI)))))
 (aF (eZ (bO DL (dvb 1) (DE.bor (aD))) (aN (aY nd (vG rW (dvb 2)))) (cC))
 (aN (bF (lA (aB (aK eE (dvb 0) (dvb 2)) (aB (aK eE (dvb 1) (dvb 2)) (aI))))))))
theorem AC (Z:DefAt K mg "ratio" s_ratio ["top","bottom"]) {F_shared_divisor:FD} (JQ:FnAt P w K mg base "shared_divisor" ["one","other"] 1 F_shared_divisor) {F:FD} (len:∀ds Q,F ds Q->ds.length=2) (pure:∀ds Q,F ds Q->kM F_shared_divisor { nx:=λ_=>Q .non,rt:=Q } (aO ["top","bottom","divisor"] ds)):FnAt P w K mg base "ratio" ["top","bottom"] 2 F :=
 Z.ok tT (λcdv A outer s H E hr=>yQ JQ hr) len pure
theorem tS:FnScope ["one","other"] ["one","other"] (aA s_minus):=⟨rfl,rfl,rfl,by decide +kernel,rfl,by decide +kernel,by decide +kernel⟩
theorem yP {f:Addr} {cdv:Value} {A:Around} {outer:List Env} {s:Shared} {H:Hp} {E:XK} {cJ:FD} (KW:FnAt P w K mg base "ratio" ["top","bottom"] 2 cJ) (hr:Room 2 (A.deeper (envOfC "minus" (aA s_minus) s.heap.objs.size f cdv))) :
  DSs (bS CX0 P w K mg base ["one","other"] "minus" (aA s_minus) f cdv A outer s H E).nox (aH s_minus) (kL cJ) :=
 have nd:=tS.nd
 aN (bF (aP KW (hr.mono (by decide)) (aB (aK cR (DE.bor (aK cQ (DE.bor (aT (dvb 0) (DE.bor (aD)))) (DE.bor (aT (dvb 1) (DE.bor (aD)))))) (DE.bor (aK cQ (DE.bor (aT (dvb 1) (DE.bor (aD)))) (DE.bor (aT (dvb 0) (DE.bor (aD))))))) (aB (aK cQ (DE.bor (aT (dvb 0) (DE.bor (aD)))) (DE.bor (aT (dvb 1) (DE.bor (aD))))) (aI)))))
theorem AB (Z:DefAt K mg "minus" s_minus ["one","other"]) {cJ:FD} (KW:FnAt P w K mg base "ratio" ["top","bottom"] 2 cJ) {F:FD} (len:∀ds Q,F ds Q->ds.length=2) (pure:∀ds Q,F ds Q->kL cJ { nx:=λ_=>Q .non,rt:=Q } (aO ["one","other"] ds)):FnAt P w K mg base "minus" ["one","other"] 3 F :=
 Z.ok tS (λcdv A outer s H E hr=>yP KW hr) len pure
theorem iB:FnScope ["row"] ["row"] (aA s_lower_slope):=⟨rfl,rfl,rfl,by decide +kernel,rfl,by decide +kernel,by decide +kernel⟩
theorem nM {f:Addr} {cdv:Value} {A:Around} {outer:List Env} {s:Shared} {H:Hp} {E:XK} {bH:FD} (KR:FnAt P w K mg base "minus" ["one","other"] 3 bH) (hr:Room 3 (A.deeper (envOfC "lower_slope" (aA s_lower_slope) s.heap.objs.size f cdv))) :
  DSs (bS CX0 P w K mg base ["row"] "lower_slope" (aA s_lower_slope) f cdv A outer s H E).nox (aH s_lower_slope) (dB bH) :=
 have nd:=iB.nd
 aN (bF (aP KR (hr.mono (by decide)) (aB (aT (dvb 0) (DE.bor (aD))) (aB (aT (dvb 0) (DE.bor (aD))) (aI)))))
theorem oC (Z:DefAt K mg "lower_slope" s_lower_slope ["row"]) {bH:FD} (KR:FnAt P w K mg base "minus" ["one","other"] 3 bH) {F:FD} (len:∀ds Q,F ds Q->ds.length=1) (pure:∀ds Q,F ds Q->dB bH { nx:=λ_=>Q .non,rt:=Q } (aO ["row"] ds)):FnAt P w K mg base "lower_slope" ["row"] 4 F :=
 Z.ok iB (λcdv A outer s H E hr=>nM KR hr) len pure
theorem eT:FnScope ["one","other"] ["one","other"] (aA s_shared_multiple):=⟨rfl,rfl,rfl,by decide +kernel,rfl,by decide +kernel,by decide +kernel⟩
theorem jB {f:Addr} {cdv:Value} {A:Around} {outer:List Env} {s:Shared} {H:Hp} {E:XK} {F_shared_divisor:FD} (JQ:FnAt P w K mg base "shared_divisor" ["one","other"] 1 F_shared_divisor) (hr:Room 1 (A.deeper (envOfC "shared_multiple" (aA s_shared_multiple) s.heap.objs.size f cdv))) :
  DSs (bS CX0 P w K mg base ["one","other"] "shared_multiple" (aA s_shared_multiple) f cdv A outer s H E).nox (aH s_shared_multiple) (bX F_shared_divisor) :=
 have nd:=eT.nd
 aN (bF (aK cQ (dvb 0) (DE.bor (aK eE (dvb 1) (DE.bor (aP JQ (hr.mono (by decide)) (aB (dv 0) (aB (dv 1) (aI)))))))))
theorem jI (Z:DefAt K mg "shared_multiple" s_shared_multiple ["one","other"]) {F_shared_divisor:FD} (JQ:FnAt P w K mg base "shared_divisor" ["one","other"] 1 F_shared_divisor) {F:FD} (len:∀ds Q,F ds Q->ds.length=2) (pure:∀ds Q,F ds Q->bX F_shared_divisor { nx:=λ_=>Q .non,rt:=Q } (aO ["one","other"] ds)):FnAt P w K mg base "shared_multiple" ["one","other"] 2 F :=
 Z.ok eT (λcdv A outer s H E hr=>jB JQ hr) len pure
theorem eS:FnScope ["numbers","multiple","number"] ["numbers"] (aA s_lowest_multiple):=⟨rfl,rfl,rfl,by decide +kernel,rfl,by decide +kernel,by decide +kernel⟩
theorem jA {f:Addr} {cdv:Value} {A:Around} {outer:List Env} {s:Shared} {H:Hp} {E:XK} {F_shared_multiple:FD} (KB:FnAt P w K mg base "shared_multiple" ["one","other"] 2 F_shared_multiple) (hr:Room 2 (A.deeper (envOfC "lowest_multiple" (aA s_lowest_multiple) s.heap.objs.size f cdv))) :
  DSs (bS CX0 P w K mg base ["numbers","multiple","number"] "lowest_multiple" (aA s_lowest_multiple) f cdv A outer s H E).nox (aH s_lowest_multiple) (bG F_shared_multiple) :=
 have nd:=eS.nd
 aF (aY nd (aD))
 (aF (eN PassesOwn.never rfl (jZ (dv 0)) (bI nd) (aN (aY nd (aP KB (hr.mono (by decide)) (aB (dv 1) (aB (dv 2) (aI)))))))
 (aN (bF (dv 1))))
theorem jH (Z:DefAt K mg "lowest_multiple" s_lowest_multiple ["numbers"]) {F_shared_multiple:FD} (KB:FnAt P w K mg base "shared_multiple" ["one","other"] 2 F_shared_multiple) {F:FD} (len:∀ds Q,F ds Q->ds.length=1) (pure:∀ds Q,F ds Q->bG F_shared_multiple { nx:=λ_=>Q .non,rt:=Q } (aO ["numbers","multiple","number"] ds)):FnAt P w K mg base "lowest_multiple" ["numbers"] 3 F :=
 Z.ok eS (λcdv A outer s H E hr=>jA KB hr) len pure
theorem qH:FnScope ["ones","bottom"] ["ones"] (aA s_rising):=⟨rfl,rfl,rfl,by decide +kernel,rfl,by decide +kernel,by decide +kernel⟩
theorem rH:List.Nodup (["one"]:List Str):=by decide +kernel
theorem wF {f:Addr} {cdv:Value} {A:Around} {outer:List Env} {s:Shared} {H:Hp} {E:XK} {lc lt:Addr} (W:LamW K mg base "rising" lc lt) (hcd:cdv = .ref lc) {F_lowest_multiple:FD} (KA:FnAt P w K mg base "lowest_multiple" ["numbers"] 3 F_lowest_multiple) (m_sorted:mg "sorted" = none) (hr:Room 3 (A.deeper (envOfC "rising" (aA s_rising) s.heap.objs.size f cdv))) :
  DSs (bS CX0 P w K mg base ["ones","bottom"] "rising" (aA s_rising) f cdv A outer s H E).nox (aH s_rising) (iO F_lowest_multiple) :=
 have nd:=qH.nd
 aF (aY nd (aP KA (hr.mono (by decide)) (aB (DO.val (vL ["one"] 1 [] (jZ (dv 0)) (λcl C s H fp=>bI rH) (λcl C s H fp=>aT (dvb 0) (DE.bor (aD))))) (aI))))
 (aN (bF (DO.val (wT (k:=0) (j:=1) hr m_sorted W (by decide) hcd (dvb 0) (by rfl) (hfree:=zP rfl)))))
theorem xL (Z:DefAt K mg "rising" s_rising ["ones"]) {lc lt:Addr} (W:LamW K mg base "rising" lc lt) {F_lowest_multiple:FD} (KA:FnAt P w K mg base "lowest_multiple" ["numbers"] 3 F_lowest_multiple) (m_sorted:mg "sorted" = none) {F:FD} (len:∀ds Q,F ds Q->ds.length=1) (pure:∀ds Q,F ds Q->iO F_lowest_multiple { nx:=λ_=>Q .non,rt:=Q } (aO ["ones","bottom"] ds)):FnAt P w K mg base "rising" ["ones"] 4 F :=
 Z.okC qH (λcdv A outer s H E hc hr=>wF W (hc _ _ W.tab) KA m_sorted hr) len pure
theorem iC:FnScope ["row"] ["row"] (aA s_upper_slope):=⟨rfl,rfl,rfl,by decide +kernel,rfl,by decide +kernel,by decide +kernel⟩
theorem nN {f:Addr} {cdv:Value} {A:Around} {outer:List Env} {s:Shared} {H:Hp} {E:XK} {bH:FD} (KR:FnAt P w K mg base "minus" ["one","other"] 3 bH) (hr:Room 3 (A.deeper (envOfC "upper_slope" (aA s_upper_slope) s.heap.objs.size f cdv))) :
  DSs (bS CX0 P w K mg base ["row"] "upper_slope" (aA s_upper_slope) f cdv A outer s H E).nox (aH s_upper_slope) (dC bH) :=
 have nd:=iC.nd
 aN (bF (aP KR (hr.mono (by decide)) (aB (aT (dvb 0) (DE.bor (aD))) (aB (aT (dvb 0) (DE.bor (aD))) (aI)))))
theorem oD (Z:DefAt K mg "upper_slope" s_upper_slope ["row"]) {bH:FD} (KR:FnAt P w K mg base "minus" ["one","other"] 3 bH) {F:FD} (len:∀ds Q,F ds Q->ds.length=1) (pure:∀ds Q,F ds Q->dC bH { nx:=λ_=>Q .non,rt:=Q } (aO ["row"] ds)):FnAt P w K mg base "upper_slope" ["row"] 4 F :=
 Z.ok iC (λcdv A outer s H E hr=>nN KR hr) len pure
theorem mJ:FnScope ["rows","numbers","row","upper","lower"] ["rows"] (aA s_leanings):=⟨rfl,rfl,rfl,by decide +kernel,rfl,by decide +kernel,by decide +kernel⟩
theorem nX:List.Nodup (["slope","numbers"]:List Str):=by decide +kernel
theorem sC {f:Addr} {cdv:Value} {A:Around} {outer:List Env} {s:Shared} {H:Hp} {E:XK} {F_lower_slope:FD} (KM:FnAt P w K mg base "lower_slope" ["row"] 4 F_lower_slope) {bY:FD} (KU:FnAt P w K mg base "rising" ["ones"] 4 bY) {F_upper_slope:FD} (KN:FnAt P w K mg base "upper_slope" ["row"] 4 F_upper_slope) (m_list:mg "list" = none) (hr:Room 4 (A.deeper (envOfC "leanings" (aA s_leanings) s.heap.objs.size f cdv))) :
  PSs (bS CX0 P w K mg base ["rows","numbers","row","upper","lower"] "leanings" (aA s_leanings) f cdv A outer s H E).nox (aH s_leanings) (jG (bS CX0 P w K mg base ["rows","numbers","row","upper","lower"] "leanings" (aA s_leanings) f cdv A outer s H E).nox (fB F_lower_slope bY F_upper_slope)) :=
 have nd:=mJ.nd
 pQ (vN nd)
 (pQ (eN PassesOwn.never rfl (jZ (dv 0)) (bI nd) (aF (aY nd (aP KN (hr.mono (by decide)) (aB (dv 2) (aI))))
 (aF (vO 1 hr (dv 3) (aK bP (DE.bor (vF 1 hr (dv 3) (aD))) (DE.bor (aD))))
 (aF (aY nd (aP KM (hr.mono (by decide)) (aB (dv 2) (aI))))
 (aN (vO 1 hr (dv 4) (aK cR (DE.bor (vF 1 hr (dv 4) (aD))) (DE.bor (aD)))))))))
 (BN 1 (uH (sR ["slope","numbers"] 1 [1] (jZ (aP KU (hr.mono (by decide)) (aB (DO.val (zC m_list rfl (dv 1))) (aI)))) (λcl C s H fp=>bI nX) (λcl C s H fp=>sN (bO nY (DE.bor (qV hr (dv 1) (dv 0))) (DE.bor (aD)))) (λcl C s H fp=>lA (aB (dv 0) (aB (qV hr (dv 1) (dv 0)) (aI))))))))
theorem tH (Z:DefAt K mg "leanings" s_leanings ["rows"]) {F_lower_slope:FD} (KM:FnAt P w K mg base "lower_slope" ["row"] 4 F_lower_slope) {bY:FD} (KU:FnAt P w K mg base "rising" ["ones"] 4 bY) {F_upper_slope:FD} (KN:FnAt P w K mg base "upper_slope" ["row"] 4 F_upper_slope) (m_list:mg "list" = none) {F:FD} (len:∀ds Q,F ds Q->ds.length=1) (pure:∀ds Q,F ds Q->fB F_lower_slope bY F_upper_slope { nx:=λ_=>False,rt:=Q } (aO ["rows","numbers","row","upper","lower"] ds)):FnAtO P w K mg base "leanings" ["rows"] 5 F :=
 Z.okO mJ (λcdv A outer s H E hr=>sC KM KU KN m_list hr) len pure
theorem AW:FnScope ["_law_script","_law_threads_here","_law_heights_here","_law_rows","_law_handed","_law_numbers_here","_law_found"] ["_law_script"] (aA s_law):=⟨rfl,rfl,rfl,by decide +kernel,rfl,by decide +kernel,by decide +kernel⟩
theorem DX {f:Addr} {cdv:Value} {A:Around} {outer:List Env} {s:Shared} {H:Hp} {E:XK} {KF:FD} (KP:FnAt P w K mg base "_law_bands" ["_law_threads_here","_law_heights_here"] 4 KF) {KD:FD} (KL:FnAt P w K mg base "_law_curves" ["_law_script"] 3 KD) {JY:FD} (KI:FnAt P w K mg base "_law_numbers" ["_law_threads_here","_law_heights_here"] 4 JY) {KC:FD} (KK:FnAt P w K mg base "_law_right" ["_law_found","_law_numbers_here"] 2 KC) {bD:FD} (KO:FnAtO P w K mg base "leanings" ["rows"] 5 bD) (m_list:mg "list" = none) (hr:Room 5 (A.deeper (envOfC "law" (aA s_law) s.heap.objs.size f cdv))) :
  DSs (bS CX0 P w K mg base ["_law_script","_law_threads_here","_law_heights_here","_law_rows","_law_handed","_law_numbers_here","_law_found"] "law" (aA s_law) f cdv A outer s H E).nox (aH s_law) (gD KF KD JY KC bD) :=
 have nd:=AW.nd
 aF (zD (aP KL (hr.mono (by decide)) (aB (dv 0) (aI))) (yZ rfl (jY (bI nd) (jY (bI nd) (vK)))))
 (aF (aY nd (aP KP (hr.mono (by decide)) (aB (dv 1) (aB (dv 2) (aI)))))
 (aF (aY nd (wQ m_list (dvb 3)))
 (aF (aY nd (aP KI (hr.mono (by decide)) (aB (dv 1) (aB (dv 2) (aI)))))
 (aF (iK nd (nR KO (hr.mono (by decide)) (aB (dv 4) (aI))))
 (aF (eZ (EJ 6 (DW.tst (mD (lB (lC (aP KK (hr.mono (by decide)) (aB (dv 6) (aB (dv 5) (aI)))))) (mD (bO (AA hr) (dvb 4) (dvb 3)) (lD (bO (AA hr) (DE.bor (DO.val (nR KO (hr.mono (by decide)) (aB (DO.val (fE (aI))) (aI))))) (DE.bor (DO.val (fE (aI)))))))))) (aN (bF (nQ))) (cC))
 (aF (eJ 6 (lA (aB (lA (aB (aD) (aB (aD) (aI)))) (aB (aD) (aI)))))
 (aN (bF (aP KK (hr.mono (by decide)) (aB (DO.val (nR KO (hr.mono (by decide)) (aB (dv 4) (aI)))) (aB (dv 5) (aI))))))))))))
theorem EL {KF:FD} (KP:FnAt P w K mg base "_law_bands" ["_law_threads_here","_law_heights_here"] 4 KF) {KD:FD} (KL:FnAt P w K mg base "_law_curves" ["_law_script"] 3 KD) {JY:FD} (KI:FnAt P w K mg base "_law_numbers" ["_law_threads_here","_law_heights_here"] 4 JY) {KC:FD} (KK:FnAt P w K mg base "_law_right" ["_law_found","_law_numbers_here"] 2 KC) {bD:FD} (KO:FnAtO P w K mg base "leanings" ["rows"] 5 bD) (m_list:mg "list" = none) {F:FD} {f:Addr} {fd:FuncData} (Fu:Fun K "law" "law" s_law f fd) (len:∀ds Q,F ds Q->ds.length=1) (pure:∀ds Q,F ds Q->gD KF KD JY KC bD { nx:=λ_=>Q .non,rt:=Q } (aO ["_law_script","_law_threads_here","_law_heights_here","_law_rows","_law_handed","_law_numbers_here","_law_found"] ds)):FnOk P w K mg base CX0 6 f fd ["_law_script"] (spD K F) :=
 CZ Fu AW (λcdv A outer s H E hr=>DX KP KL KI KK KO m_list hr) len pure
end
structure TopF (K:PySem.W.Frag) (mg:Str->Option Value):Prop where
 d__law_divisor:DefAt K mg "_law_divisor" s__law_divisor ["_law_one","_law_other"]
 d__law_lowest:DefAt K mg "_law_lowest" s__law_lowest ["_law_top","_law_bottom"]
 d__law_at:DefAt K mg "_law_at" s__law_at ["_law_threads_here","_law_heights_here","_law_zone","_law_k","_law_curve"]
 d__law_bands:DefAt K mg "_law_bands" s__law_bands ["_law_threads_here","_law_heights_here"]
 d__law_cell_at:DefAt K mg "_law_cell_at" s__law_cell_at ["_law_script","_law_k"]
 d__law_mixed:DefAt K mg "_law_mixed" s__law_mixed ["_law_script","_law_k"]
 d__law_heights:DefAt K mg "_law_heights" s__law_heights ["_law_script","_law_many","_law_place"]
 d__law_threads:DefAt K mg "_law_threads" s__law_threads ["_law_script"]
 d__law_curves:DefAt K mg "_law_curves" s__law_curves ["_law_script"]
 d__law_count:DefAt K mg "_law_count" s__law_count ["_law_numbers_here","_law_heights_here","_law_zone","_law_curve","_law_wide","_law_by"]
 d__law_numbers:DefAt K mg "_law_numbers" s__law_numbers ["_law_threads_here","_law_heights_here"]
 d__law_whole:DefAt K mg "_law_whole" s__law_whole ["_law_found"]
 d__law_right:DefAt K mg "_law_right" s__law_right ["_law_found","_law_numbers_here"]
 d_shared_divisor:DefAt K mg "shared_divisor" s_shared_divisor ["one","other"]
 d_ratio:DefAt K mg "ratio" s_ratio ["top","bottom"]
 d_minus:DefAt K mg "minus" s_minus ["one","other"]
 d_lower_slope:DefAt K mg "lower_slope" s_lower_slope ["row"]
 d_shared_multiple:DefAt K mg "shared_multiple" s_shared_multiple ["one","other"]
 d_lowest_multiple:DefAt K mg "lowest_multiple" s_lowest_multiple ["numbers"]
 d_rising:DefAt K mg "rising" s_rising ["ones"]
 d_upper_slope:DefAt K mg "upper_slope" s_upper_slope ["row"]
 d_leanings:DefAt K mg "leanings" s_leanings ["rows"]
 d_law:DefAt K mg "law" s_law ["_law_script"]
 m_abs:mg "abs" = none
 m_len:mg "len" = none
 m_range:mg "range" = none
 m_tuple:mg "tuple" = none
 m_min:mg "min" = none
 m_isinstance:mg "isinstance" = none
 m_bool:mg "bool" = none
 m_int:mg "int" = none
 m_list:mg "list" = none
 m_sorted:mg "sorted" = none
 t_rising:∃c T,PySem.W.tabIn K "rising" = some (c,T)
theorem top_mk {K:PySem.W.Frag} {h:Heap} {mg:Str->Option Value} (X:K.In h) (G:h.Ns mainGlobals mg)
  {f0:Addr} {od0 an0:Option Addr} {sl0:Array (Option Value)} {oc0 kV0 dc0 pm0 cd0 ct0:Value}
  {f1:Addr} {od1 an1:Option Addr} {sl1:Array (Option Value)} {oc1 kV1 dc1 pm1 cd1 ct1:Value}
  {f2:Addr} {od2 an2:Option Addr} {sl2:Array (Option Value)} {oc2 kV2 dc2 pm2 cd2 ct2:Value}
  {f3:Addr} {od3 an3:Option Addr} {sl3:Array (Option Value)} {oc3 kV3 dc3 pm3 cd3 ct3:Value}
  {f4:Addr} {od4 an4:Option Addr} {sl4:Array (Option Value)} {oc4 kV4 dc4 pm4 cd4 ct4:Value}
  {f5:Addr} {od5 an5:Option Addr} {sl5:Array (Option Value)} {oc5 kV5 dc5 pm5 cd5 ct5:Value}
  {f6:Addr} {od6 an6:Option Addr} {sl6:Array (Option Value)} {oc6 kV6 dc6 pm6 cd6 ct6:Value}
  {f7:Addr} {od7 an7:Option Addr} {sl7:Array (Option Value)} {oc7 kV7 dc7 pm7 cd7 ct7:Value}
  {f8:Addr} {od8 an8:Option Addr} {sl8:Array (Option Value)} {oc8 kV8 dc8 pm8 cd8 ct8:Value}
  {f9:Addr} {od9 an9:Option Addr} {sl9:Array (Option Value)} {oc9 kV9 dc9 pm9 cd9 ct9:Value}
  {f10:Addr} {od10 an10:Option Addr} {sl10:Array (Option Value)} {oc10 kV10 dc10 pm10 cd10 ct10:Value}
  {f11:Addr} {od11 an11:Option Addr} {sl11:Array (Option Value)} {oc11 kV11 dc11 pm11 cd11 ct11:Value}
  {f12:Addr} {od12 an12:Option Addr} {sl12:Array (Option Value)} {oc12 kV12 dc12 pm12 cd12 ct12:Value}
  {f13:Addr} {od13 an13:Option Addr} {sl13:Array (Option Value)} {oc13 kV13 dc13 pm13 cd13 ct13:Value}
  {f14:Addr} {od14 an14:Option Addr} {sl14:Array (Option Value)} {oc14 kV14 dc14 pm14 cd14 ct14:Value}
  {f15:Addr} {od15 an15:Option Addr} {sl15:Array (Option Value)} {oc15 kV15 dc15 pm15 cd15 ct15:Value}
  {f16:Addr} {od16 an16:Option Addr} {sl16:Array (Option Value)} {oc16 kV16 dc16 pm16 cd16 ct16:Value}
  {f17:Addr} {od17 an17:Option Addr} {sl17:Array (Option Value)} {oc17 kV17 dc17 pm17 cd17 ct17:Value}
  {f18:Addr} {od18 an18:Option Addr} {sl18:Array (Option Value)} {oc18 kV18 dc18 pm18 cd18 ct18:Value}
  {f19:Addr} {od19 an19:Option Addr} {sl19:Array (Option Value)} {oc19 kV19 dc19 pm19 cd19 ct19:Value}
  {f20:Addr} {od20 an20:Option Addr} {sl20:Array (Option Value)} {oc20 kV20 dc20 pm20 cd20 ct20:Value}
  {f21:Addr} {od21 an21:Option Addr} {sl21:Array (Option Value)} {oc21 kV21 dc21 pm21 cd21 ct21:Value}
  {f22:Addr} {od22 an22:Option Addr} {sl22:Array (Option Value)} {oc22 kV22 dc22 pm22 cd22 ct22:Value}
  {tc0 tT0:Addr} {tod0:Option Addr} {tsl0:Array (Option Value)} {toc0:Value} {tvs0:Array Value}
  (a0:PySem.W.nsIn K mainGlobals "_law_divisor" = some (some (.ref f0))) (l0:K.lookup f0=some ⟨oc0,od0,.func (PySem.W.fnOf "_law_divisor" "_law_divisor" (aX s__law_divisor) (aH s__law_divisor) (aA s__law_divisor) .none kV0 dc0 pm0 an0 cd0 ct0),sl0⟩) (c0:PySem.W.codeIn K cd0 "_law_divisor" = true) (k0:PySem.W.keepIn K (.ref f0)=true)
  (a1:PySem.W.nsIn K mainGlobals "_law_lowest" = some (some (.ref f1))) (l1:K.lookup f1=some ⟨oc1,od1,.func (PySem.W.fnOf "_law_lowest" "_law_lowest" (aX s__law_lowest) (aH s__law_lowest) (aA s__law_lowest) .none kV1 dc1 pm1 an1 cd1 ct1),sl1⟩) (c1:PySem.W.codeIn K cd1 "_law_lowest" = true) (k1:PySem.W.keepIn K (.ref f1)=true)
  (a2:PySem.W.nsIn K mainGlobals "_law_at" = some (some (.ref f2))) (l2:K.lookup f2=some ⟨oc2,od2,.func (PySem.W.fnOf "_law_at" "_law_at" (aX s__law_at) (aH s__law_at) (aA s__law_at) .none kV2 dc2 pm2 an2 cd2 ct2),sl2⟩) (c2:PySem.W.codeIn K cd2 "_law_at" = true) (k2:PySem.W.keepIn K (.ref f2)=true)
  (a3:PySem.W.nsIn K mainGlobals "_law_bands" = some (some (.ref f3))) (l3:K.lookup f3=some ⟨oc3,od3,.func (PySem.W.fnOf "_law_bands" "_law_bands" (aX s__law_bands) (aH s__law_bands) (aA s__law_bands) .none kV3 dc3 pm3 an3 cd3 ct3),sl3⟩) (c3:PySem.W.codeIn K cd3 "_law_bands" = true) (k3:PySem.W.keepIn K (.ref f3)=true)
  (a4:PySem.W.nsIn K mainGlobals "_law_cell_at" = some (some (.ref f4))) (l4:K.lookup f4=some ⟨oc4,od4,.func (PySem.W.fnOf "_law_cell_at" "_law_cell_at" (aX s__law_cell_at) (aH s__law_cell_at) (aA s__law_cell_at) .none kV4 dc4 pm4 an4 cd4 ct4),sl4⟩) (c4:PySem.W.codeIn K cd4 "_law_cell_at" = true) (k4:PySem.W.keepIn K (.ref f4)=true)
  (a5:PySem.W.nsIn K mainGlobals "_law_mixed" = some (some (.ref f5))) (l5:K.lookup f5=some ⟨oc5,od5,.func (PySem.W.fnOf "_law_mixed" "_law_mixed" (aX s__law_mixed) (aH s__law_mixed) (aA s__law_mixed) .none kV5 dc5 pm5 an5 cd5 ct5),sl5⟩) (c5:PySem.W.codeIn K cd5 "_law_mixed" = true) (k5:PySem.W.keepIn K (.ref f5)=true)
  (a6:PySem.W.nsIn K mainGlobals "_law_heights" = some (some (.ref f6))) (l6:K.lookup f6=some ⟨oc6,od6,.func (PySem.W.fnOf "_law_heights" "_law_heights" (aX s__law_heights) (aH s__law_heights) (aA s__law_heights) .none kV6 dc6 pm6 an6 cd6 ct6),sl6⟩) (c6:PySem.W.codeIn K cd6 "_law_heights" = true) (k6:PySem.W.keepIn K (.ref f6)=true)
  (a7:PySem.W.nsIn K mainGlobals "_law_threads" = some (some (.ref f7))) (l7:K.lookup f7=some ⟨oc7,od7,.func (PySem.W.fnOf "_law_threads" "_law_threads" (aX s__law_threads) (aH s__law_threads) (aA s__law_threads) .none kV7 dc7 pm7 an7 cd7 ct7),sl7⟩) (c7:PySem.W.codeIn K cd7 "_law_threads" = true) (k7:PySem.W.keepIn K (.ref f7)=true)
  (a8:PySem.W.nsIn K mainGlobals "_law_curves" = some (some (.ref f8))) (l8:K.lookup f8=some ⟨oc8,od8,.func (PySem.W.fnOf "_law_curves" "_law_curves" (aX s__law_curves) (aH s__law_curves) (aA s__law_curves) .none kV8 dc8 pm8 an8 cd8 ct8),sl8⟩) (c8:PySem.W.codeIn K cd8 "_law_curves" = true) (k8:PySem.W.keepIn K (.ref f8)=true)
  (a9:PySem.W.nsIn K mainGlobals "_law_count" = some (some (.ref f9))) (l9:K.lookup f9=some ⟨oc9,od9,.func (PySem.W.fnOf "_law_count" "_law_count" (aX s__law_count) (aH s__law_count) (aA s__law_count) .none kV9 dc9 pm9 an9 cd9 ct9),sl9⟩) (c9:PySem.W.codeIn K cd9 "_law_count" = true) (k9:PySem.W.keepIn K (.ref f9)=true)
  (a10:PySem.W.nsIn K mainGlobals "_law_numbers" = some (some (.ref f10))) (l10:K.lookup f10=some ⟨oc10,od10,.func (PySem.W.fnOf "_law_numbers" "_law_numbers" (aX s__law_numbers) (aH s__law_numbers) (aA s__law_numbers) .none kV10 dc10 pm10 an10 cd10 ct10),sl10⟩) (c10:PySem.W.codeIn K cd10 "_law_numbers" = true) (k10:PySem.W.keepIn K (.ref f10)=true)
  (a11:PySem.W.nsIn K mainGlobals "_law_whole" = some (some (.ref f11))) (l11:K.lookup f11=some ⟨oc11,od11,.func (PySem.W.fnOf "_law_whole" "_law_whole" (aX s__law_whole) (aH s__law_whole) (aA s__law_whole) .none kV11 dc11 pm11 an11 cd11 ct11),sl11⟩) (c11:PySem.W.codeIn K cd11 "_law_whole" = true) (k11:PySem.W.keepIn K (.ref f11)=true)
  (a12:PySem.W.nsIn K mainGlobals "_law_right" = some (some (.ref f12))) (l12:K.lookup f12=some ⟨oc12,od12,.func (PySem.W.fnOf "_law_right" "_law_right" (aX s__law_right) (aH s__law_right) (aA s__law_right) .none kV12 dc12 pm12 an12 cd12 ct12),sl12⟩) (c12:PySem.W.codeIn K cd12 "_law_right" = true) (k12:PySem.W.keepIn K (.ref f12)=true)
  (a13:PySem.W.nsIn K mainGlobals "shared_divisor" = some (some (.ref f13))) (l13:K.lookup f13=some ⟨oc13,od13,.func (PySem.W.fnOf "shared_divisor" "shared_divisor" (aX s_shared_divisor) (aH s_shared_divisor) (aA s_shared_divisor) .none kV13 dc13 pm13 an13 cd13 ct13),sl13⟩) (c13:PySem.W.codeIn K cd13 "shared_divisor" = true) (k13:PySem.W.keepIn K (.ref f13)=true)
  (a14:PySem.W.nsIn K mainGlobals "ratio" = some (some (.ref f14))) (l14:K.lookup f14=some ⟨oc14,od14,.func (PySem.W.fnOf "ratio" "ratio" (aX s_ratio) (aH s_ratio) (aA s_ratio) .none kV14 dc14 pm14 an14 cd14 ct14),sl14⟩) (c14:PySem.W.codeIn K cd14 "ratio" = true) (k14:PySem.W.keepIn K (.ref f14)=true)
  (a15:PySem.W.nsIn K mainGlobals "minus" = some (some (.ref f15))) (l15:K.lookup f15=some ⟨oc15,od15,.func (PySem.W.fnOf "minus" "minus" (aX s_minus) (aH s_minus) (aA s_minus) .none kV15 dc15 pm15 an15 cd15 ct15),sl15⟩) (c15:PySem.W.codeIn K cd15 "minus" = true) (k15:PySem.W.keepIn K (.ref f15)=true)
  (a16:PySem.W.nsIn K mainGlobals "lower_slope" = some (some (.ref f16))) (l16:K.lookup f16=some ⟨oc16,od16,.func (PySem.W.fnOf "lower_slope" "lower_slope" (aX s_lower_slope) (aH s_lower_slope) (aA s_lower_slope) .none kV16 dc16 pm16 an16 cd16 ct16),sl16⟩) (c16:PySem.W.codeIn K cd16 "lower_slope" = true) (k16:PySem.W.keepIn K (.ref f16)=true)
  (a17:PySem.W.nsIn K mainGlobals "shared_multiple" = some (some (.ref f17))) (l17:K.lookup f17=some ⟨oc17,od17,.func (PySem.W.fnOf "shared_multiple" "shared_multiple" (aX s_shared_multiple) (aH s_shared_multiple) (aA s_shared_multiple) .none kV17 dc17 pm17 an17 cd17 ct17),sl17⟩) (c17:PySem.W.codeIn K cd17 "shared_multiple" = true) (k17:PySem.W.keepIn K (.ref f17)=true)
  (a18:PySem.W.nsIn K mainGlobals "lowest_multiple" = some (some (.ref f18))) (l18:K.lookup f18=some ⟨oc18,od18,.func (PySem.W.fnOf "lowest_multiple" "lowest_multiple" (aX s_lowest_multiple) (aH s_lowest_multiple) (aA s_lowest_multiple) .none kV18 dc18 pm18 an18 cd18 ct18),sl18⟩) (c18:PySem.W.codeIn K cd18 "lowest_multiple" = true) (k18:PySem.W.keepIn K (.ref f18)=true)
  (a19:PySem.W.nsIn K mainGlobals "rising" = some (some (.ref f19))) (l19:K.lookup f19=some ⟨oc19,od19,.func (PySem.W.fnOf "rising" "rising" (aX s_rising) (aH s_rising) (aA s_rising) .none kV19 dc19 pm19 an19 cd19 ct19),sl19⟩) (c19:PySem.W.codeIn K cd19 "rising" = true) (k19:PySem.W.keepIn K (.ref f19)=true)
  (a20:PySem.W.nsIn K mainGlobals "upper_slope" = some (some (.ref f20))) (l20:K.lookup f20=some ⟨oc20,od20,.func (PySem.W.fnOf "upper_slope" "upper_slope" (aX s_upper_slope) (aH s_upper_slope) (aA s_upper_slope) .none kV20 dc20 pm20 an20 cd20 ct20),sl20⟩) (c20:PySem.W.codeIn K cd20 "upper_slope" = true) (k20:PySem.W.keepIn K (.ref f20)=true)
  (a21:PySem.W.nsIn K mainGlobals "leanings" = some (some (.ref f21))) (l21:K.lookup f21=some ⟨oc21,od21,.func (PySem.W.fnOf "leanings" "leanings" (aX s_leanings) (aH s_leanings) (aA s_leanings) .none kV21 dc21 pm21 an21 cd21 ct21),sl21⟩) (c21:PySem.W.codeIn K cd21 "leanings" = true) (k21:PySem.W.keepIn K (.ref f21)=true)
  (a22:PySem.W.nsIn K mainGlobals "law" = some (some (.ref f22))) (l22:K.lookup f22=some ⟨oc22,od22,.func (PySem.W.fnOf "law" "law" (aX s_law) (aH s_law) (aA s_law) .none kV22 dc22 pm22 an22 cd22 ct22),sl22⟩) (c22:PySem.W.codeIn K cd22 "law" = true) (k22:PySem.W.keepIn K (.ref f22)=true)
  (z0:PySem.W.nsIn K mainGlobals "abs" = some none)
  (z1:PySem.W.nsIn K mainGlobals "len" = some none)
  (z2:PySem.W.nsIn K mainGlobals "range" = some none)
  (z3:PySem.W.nsIn K mainGlobals "tuple" = some none)
  (z4:PySem.W.nsIn K mainGlobals "min" = some none)
  (z5:PySem.W.nsIn K mainGlobals "isinstance" = some none)
  (z6:PySem.W.nsIn K mainGlobals "bool" = some none)
  (z7:PySem.W.nsIn K mainGlobals "int" = some none)
  (z8:PySem.W.nsIn K mainGlobals "list" = some none)
  (z9:PySem.W.nsIn K mainGlobals "sorted" = some none)
  (te0:cd19 = .ref tc0) (tl0:K.lookup tc0=some ⟨toc0,tod0,.fields tvs0,tsl0⟩) (tv0:tvs0[11]? = some (.ref tT0)):TopF K mg :=
 ⟨⟨_,_,bJ (st:=s__law_divisor) l0 c0 k0,PySem.W.mg_of X G a0,gF (λ_ _=>rfl)⟩,
  ⟨_,_,bJ (st:=s__law_lowest) l1 c1 k1,PySem.W.mg_of X G a1,gF (λ_ _=>rfl)⟩,
  ⟨_,_,bJ (st:=s__law_at) l2 c2 k2,PySem.W.mg_of X G a2,CV (λ_ _ _ _ _=>rfl)⟩,
  ⟨_,_,bJ (st:=s__law_bands) l3 c3 k3,PySem.W.mg_of X G a3,gF (λ_ _=>rfl)⟩,
  ⟨_,_,bJ (st:=s__law_cell_at) l4 c4 k4,PySem.W.mg_of X G a4,gF (λ_ _=>rfl)⟩,
  ⟨_,_,bJ (st:=s__law_mixed) l5 c5 k5,PySem.W.mg_of X G a5,gF (λ_ _=>rfl)⟩,
  ⟨_,_,bJ (st:=s__law_heights) l6 c6 k6,PySem.W.mg_of X G a6,CU (λ_ _ _=>rfl)⟩,
  ⟨_,_,bJ (st:=s__law_threads) l7 c7 k7,PySem.W.mg_of X G a7,iS (λ_=>rfl)⟩,
  ⟨_,_,bJ (st:=s__law_curves) l8 c8 k8,PySem.W.mg_of X G a8,iS (λ_=>rfl)⟩,
  ⟨_,_,bJ (st:=s__law_count) l9 c9 k9,PySem.W.mg_of X G a9,GL (λ_ _ _ _ _ _=>rfl)⟩,
  ⟨_,_,bJ (st:=s__law_numbers) l10 c10 k10,PySem.W.mg_of X G a10,gF (λ_ _=>rfl)⟩,
  ⟨_,_,bJ (st:=s__law_whole) l11 c11 k11,PySem.W.mg_of X G a11,iS (λ_=>rfl)⟩,
  ⟨_,_,bJ (st:=s__law_right) l12 c12 k12,PySem.W.mg_of X G a12,gF (λ_ _=>rfl)⟩,
  ⟨_,_,bJ (st:=s_shared_divisor) l13 c13 k13,PySem.W.mg_of X G a13,gF (λ_ _=>rfl)⟩,
  ⟨_,_,bJ (st:=s_ratio) l14 c14 k14,PySem.W.mg_of X G a14,gF (λ_ _=>rfl)⟩,
  ⟨_,_,bJ (st:=s_minus) l15 c15 k15,PySem.W.mg_of X G a15,gF (λ_ _=>rfl)⟩,
  ⟨_,_,bJ (st:=s_lower_slope) l16 c16 k16,PySem.W.mg_of X G a16,iS (λ_=>rfl)⟩,
  ⟨_,_,bJ (st:=s_shared_multiple) l17 c17 k17,PySem.W.mg_of X G a17,gF (λ_ _=>rfl)⟩,
  ⟨_,_,bJ (st:=s_lowest_multiple) l18 c18 k18,PySem.W.mg_of X G a18,iS (λ_=>rfl)⟩,
  ⟨_,_,bJ (st:=s_rising) l19 c19 k19,PySem.W.mg_of X G a19,iS (λ_=>rfl)⟩,
  ⟨_,_,bJ (st:=s_upper_slope) l20 c20 k20,PySem.W.mg_of X G a20,iS (λ_=>rfl)⟩,
  ⟨_,_,bJ (st:=s_leanings) l21 c21 k21,PySem.W.mg_of X G a21,iS (λ_=>rfl)⟩,
  ⟨_,_,bJ (st:=s_law) l22 c22 k22,PySem.W.mg_of X G a22,iS (λ_=>rfl)⟩,
  PySem.W.mg_none_of X G z0,
  PySem.W.mg_none_of X G z1,
  PySem.W.mg_none_of X G z2,
  PySem.W.mg_none_of X G z3,
  PySem.W.mg_none_of X G z4,
  PySem.W.mg_none_of X G z5,
  PySem.W.mg_none_of X G z6,
  PySem.W.mg_none_of X G z7,
  PySem.W.mg_none_of X G z8,
  PySem.W.mg_none_of X G z9,
  ⟨_,_,GB a19 l19 te0 tl0 tv0⟩⟩
theorem TopF.hid {K K':PySem.W.Frag} {mg:Str->Option Value} (T:TopF K mg) (z:Hid K K'):TopF K' mg :=
 ⟨z.def T.d__law_divisor,
  z.def T.d__law_lowest,
  z.def T.d__law_at,
  z.def T.d__law_bands,
  z.def T.d__law_cell_at,
  z.def T.d__law_mixed,
  z.def T.d__law_heights,
  z.def T.d__law_threads,
  z.def T.d__law_curves,
  z.def T.d__law_count,
  z.def T.d__law_numbers,
  z.def T.d__law_whole,
  z.def T.d__law_right,
  z.def T.d_shared_divisor,
  z.def T.d_ratio,
  z.def T.d_minus,
  z.def T.d_lower_slope,
  z.def T.d_shared_multiple,
  z.def T.d_lowest_multiple,
  z.def T.d_rising,
  z.def T.d_upper_slope,
  z.def T.d_leanings,
  z.def T.d_law,
  T.m_abs,
  T.m_len,
  T.m_range,
  T.m_tuple,
  T.m_min,
  T.m_isinstance,
  T.m_bool,
  T.m_int,
  T.m_list,
  T.m_sorted,
  let ⟨c,P,e⟩:=T.t_rising;⟨c,P,z.tab e⟩⟩
theorem law_fn {P:Program} {w:World} {K:PySem.W.Frag} {mg:Str->Option Value} {base:Heap} {f:Addr} {fd:FuncData} (T:TopF K mg) (TW:pF K mg base) (Fu:Fun K "law" "law" s_law f fd):FnOk P w K mg base CX0 6 f fd ["_law_script"] (spD K (wB 63)):=by
 obtain⟨lc_rising,lt_rising,le_rising⟩:=T.t_rising
 have W_rising:=TW "rising" _ _ (by decide) le_rising
 have KG:=mT (P:=P) (w:=w) (base:=base) T.d__law_divisor T.m_abs (F:=mB) vU lR
 have JR:=oB (P:=P) (w:=w) (base:=base) T.d__law_lowest KG (F:=rY) BY mY
 have KS:=uP (P:=P) (w:=w) (base:=base) T.d__law_at JR (F:=BC) ET tK
 have KP:=oY (P:=P) (w:=w) (base:=base) T.d__law_bands KS T.m_len T.m_range T.m_tuple (F:=iE) sU lP
 have JN:=mS (P:=P) (w:=w) (base:=base) T.d__law_cell_at T.m_len (F:=kX) zR lQ
 have JV:=pA (P:=P) (w:=w) (base:=base) T.d__law_mixed T.m_len T.m_min (F:=jQ) xF oI
 have KH:=mU (P:=P) (w:=w) (base:=base) T.d__law_heights JN JV T.m_range (F:=iF) sV lS
 have KJ:=mW (P:=P) (w:=w) (base:=base) T.d__law_threads JN JV T.m_range (F:=iH) sY lU
 have KL:=oA (P:=P) (w:=w) (base:=base) T.d__law_curves JN KH KJ T.m_len T.m_range (F:=jO) uI mX
 have KQ:=oZ (P:=P) (w:=w) (base:=base) T.d__law_count JR (F:=mZ) xE oH
 have KI:=mV (P:=P) (w:=w) (base:=base) T.d__law_numbers KQ T.m_len T.m_range (F:=eX) oX jJ
 have KE:=pC (P:=P) (w:=w) (base:=base) T.d__law_whole T.m_isinstance T.m_bool T.m_int (F:=nA) xH oJ
 have KK:=pB (P:=P) (w:=w) (base:=base) T.d__law_right KE T.m_len T.m_range T.m_isinstance T.m_tuple T.m_list (F:=iG) sX lT
 have JQ:=kH (P:=P) (w:=w) (base:=base) T.d_shared_divisor T.m_abs (F:=mB) vU iR
 have KW:=AC (P:=P) (w:=w) (base:=base) T.d_ratio JQ (F:=cJ) xG uT
 have KR:=AB (P:=P) (w:=w) (base:=base) T.d_minus KW (F:=bH) zS uS
 have KM:=oC (P:=P) (w:=w) (base:=base) T.d_lower_slope KR (F:=jP) uJ lV
 have KB:=jI (P:=P) (w:=w) (base:=base) T.d_shared_multiple JQ (F:=rX) BX gZ
 have KA:=jH (P:=P) (w:=w) (base:=base) T.d_lowest_multiple KB (F:=iZ) sW dP
 have KU:=xL (P:=P) (w:=w) (base:=base) T.d_rising W_rising KA T.m_sorted (F:=bY) uK tL
 have KN:=oD (P:=P) (w:=w) (base:=base) T.d_upper_slope KR (F:=jR) uL lW
 have KO:=tH (P:=P) (w:=w) (base:=base) T.d_leanings KM KU KN T.m_list (F:=bD) rF pD
 exact EL KP KL KI KK KO T.m_list (F:=wB 63) Fu BW AJ
end K22
end L2.R2
open PySem PySem.W PyProof.Rows
set_option maxRecDepth 100000 in
set_option maxHeartbeats 0 in
theorem PySem.Challenge.cw_recut_k22_leanings_holds : PySem.Challenge.rw_recut_k22_leanings.Holds := by
 w_on;o_law;k_head;(case hw=>w_witness2)
 k_fill
 refine L2.R2.walk_lawT (l:=PySem.Challenge.rw_recut_k22_leanings) (k:=6) (x:="_law_script") rfl rfl ⟨rfl,by decide,by decide⟩ (λw h Y=>PySem.W.km_in_of Y) rfl ?L ?F
 case L =>
  intro w
  refine' L2.R2.lamIs ?q1 ?q2 ?q3
  (case q1=>exact .inl ⟨_,rfl⟩)
  (case q2=>refine' .inr ?_;k_is)
  (case q3=>refine' .inr ?_;k_is)
 case F =>
  intro w mg h KX G
  have T:L2.R2.K22.TopF (L2.KOf KX) mg:=by
   dsimp only[L2.KOf]
   refine' L2.R2.K22.top_mk KX G ?a0 ?l0 ?c0 ?k0 ?a1 ?l1 ?c1 ?k1 ?a2 ?l2 ?c2 ?k2 ?a3 ?l3 ?c3 ?k3 ?a4 ?l4 ?c4 ?k4 ?a5 ?l5 ?c5 ?k5 ?a6 ?l6 ?c6 ?k6 ?a7 ?l7 ?c7 ?k7 ?a8 ?l8 ?c8 ?k8 ?a9 ?l9 ?c9 ?k9 ?a10 ?l10 ?c10 ?k10 ?a11 ?l11 ?c11 ?k11 ?a12 ?l12 ?c12 ?k12 ?a13 ?l13 ?c13 ?k13 ?a14 ?l14 ?c14 ?k14 ?a15 ?l15 ?c15 ?k15 ?a16 ?l16 ?c16 ?k16 ?a17 ?l17 ?c17 ?k17 ?a18 ?l18 ?c18 ?k18 ?a19 ?l19 ?c19 ?k19 ?a20 ?l20 ?c20 ?k20 ?a21 ?l21 ?c21 ?k21 ?a22 ?l22 ?c22 ?k22 ?z0 ?z1 ?z2 ?z3 ?z4 ?z5 ?z6 ?z7 ?z8 ?z9 ?te0 ?tl0 ?tv0
   (case a0=>k_is);(case l0=>k_is);(case c0=>k_is);(case k0=>k_is)
   (case a1=>k_is);(case l1=>k_is);(case c1=>k_is);(case k1=>k_is)
   (case a2=>k_is);(case l2=>k_is);(case c2=>k_is);(case k2=>k_is)
   (case a3=>k_is);(case l3=>k_is);(case c3=>k_is);(case k3=>k_is)
   (case a4=>k_is);(case l4=>k_is);(case c4=>k_is);(case k4=>k_is)
   (case a5=>k_is);(case l5=>k_is);(case c5=>k_is);(case k5=>k_is)
   (case a6=>k_is);(case l6=>k_is);(case c6=>k_is);(case k6=>k_is)
   (case a7=>k_is);(case l7=>k_is);(case c7=>k_is);(case k7=>k_is)
   (case a8=>k_is);(case l8=>k_is);(case c8=>k_is);(case k8=>k_is)
   (case a9=>k_is);(case l9=>k_is);(case c9=>k_is);(case k9=>k_is)
   (case a10=>k_is);(case l10=>k_is);(case c10=>k_is);(case k10=>k_is)
   (case a11=>k_is);(case l11=>k_is);(case c11=>k_is);(case k11=>k_is)
   (case a12=>k_is);(case l12=>k_is);(case c12=>k_is);(case k12=>k_is)
   (case a13=>k_is);(case l13=>k_is);(case c13=>k_is);(case k13=>k_is)
   (case a14=>k_is);(case l14=>k_is);(case c14=>k_is);(case k14=>k_is)
   (case a15=>k_is);(case l15=>k_is);(case c15=>k_is);(case k15=>k_is)
   (case a16=>k_is);(case l16=>k_is);(case c16=>k_is);(case k16=>k_is)
   (case a17=>k_is);(case l17=>k_is);(case c17=>k_is);(case k17=>k_is)
   (case a18=>k_is);(case l18=>k_is);(case c18=>k_is);(case k18=>k_is)
   (case a19=>k_is);(case l19=>k_is);(case c19=>k_is);(case k19=>k_is)
   (case a20=>k_is);(case l20=>k_is);(case c20=>k_is);(case k20=>k_is)
   (case a21=>k_is);(case l21=>k_is);(case c21=>k_is);(case k21=>k_is)
   (case a22=>k_is);(case l22=>k_is);(case c22=>k_is);(case k22=>k_is)
   (case z0=>k_is)
   (case z1=>k_is)
   (case z2=>k_is)
   (case z3=>k_is)
   (case z4=>k_is)
   (case z5=>k_is)
   (case z6=>k_is)
   (case z7=>k_is)
   (case z8=>k_is)
   (case z9=>k_is)
   (case te0=>exact rfl);(case tl0=>k_is);(case tv0=>exact rfl)
  exact T.d_law.okLT λbase K' f fd z tw Fu=>L2.R2.K22.law_fn (T.hid z) tw Fu

import PyProof.Rows.All
import Wide.All
import OpenK.AllK
import Wide.FinOn
import Lean
import PyProof.EqAt
import PyProof.EqKinds
import PyProof.TupleCall
import PySem.Challenge.RW_lentshelf_k64_whole_moved_about
set_option Elab.async false
set_option linter.all false
set_option bootstrap.genMatcherCode false
local macro_rules | `(tactic| omega) => `(tactic| lia)
-- CHANGE: your row's module here,as the last of these rows
set_option maxRecDepth 100000
namespace L2
open PySem PySem.Spec PyProof.Rows
noncomputable abbrev Key:=Sum Int Str
noncomputable def keyIs:Key->Value->Bool
 | .inl k,v=>Value.isInt k v
 | .inr x,v=>Value.isStrOf x v
noncomputable def keyH (w:World):Key->Int
 | .inl k=>hashInt k
 | .inr x=>hashStr w x
theorem bW:∀ {k:Key} {v:Value},keyIs k v=true->(∃ i t,k=Sum.inl i/\v=Value.int i t)\/(∃ x t,k=Sum.inr x/\v=Value.str x t)
 | .inl i,v,h=>by
  obtain ⟨t,e⟩:=Value.isInt_shape (k:=i) (v:=v) h
  exact .inl ⟨i,t,rfl,e⟩
 | .inr x,v,h=>by
  obtain ⟨t,e⟩:=Value.isStrOf_shape (x:=x) (v:=v) h
  exact .inr ⟨x,t,rfl,e⟩
theorem aKb (a b:Int):decide ((Sum.inl a:Key)=Sum.inl b)=(a==b):=by
 by_cases e:a=b
 ·subst e; simp
 ·have h:¬ (Sum.inl a:Key)=Sum.inl b:=fun q=>e (Sum.inl.inj q)
  rw [decide_eq_false h]
  exact (beq_eq_false_iff_ne.mpr e).symm
theorem aId (a b:Str):decide ((Sum.inr a:Key)=Sum.inr b)=decide (a=b):=by
 by_cases e:a=b
 ·subst e; simp
 ·have h:¬ (Sum.inr a:Key)=Sum.inr b:=fun q=>e (Sum.inr.inj q)
  rw [decide_eq_false h,decide_eq_false e]
theorem aHr (a:Int) (b:Str):decide ((Sum.inl a:Key)=Sum.inr b)=false:=decide_eq_false (fun q=>nomatch q)
theorem aKn (a:Str) (b:Int):decide ((Sum.inr a:Key)=Sum.inl b)=false:=decide_eq_false (fun q=>nomatch q)
noncomputable def mixKind (prog:Program) (w:World):PySem.KeyKind prog w Key where
 is:=keyIs
 hash:=keyH w
 inj:=fun v a b ha hb=>by
  rcases bW ha with ⟨i,t,rfl,rfl⟩ | ⟨x,t,rfl,rfl⟩
  ·rcases bW hb with ⟨j,u,rfl,e⟩ | ⟨y,u,rfl,e⟩
   ·injection e with e1 _; rw [e1]
   ·exact nomatch e
  ·rcases bW hb with ⟨j,u,rfl,e⟩ | ⟨y,u,rfl,e⟩
   ·exact nomatch e
   ·injection e with e1 _; rw [e1]
 byValue:=fun k v h=>by
  rcases bW h with ⟨i,t,rfl,rfl⟩ | ⟨x,t,rfl,rfl⟩ <;> rfl
 pyHash:=fun hv h=>by
  rcases bW hv with ⟨i,t,rfl,rfl⟩ | ⟨x,t,rfl,rfl⟩
  ·exact wpAny_pyHash_int h
  ·exact wpAny_pyHash_str h
 eqBool:=fun hu hv h=>by
  rcases bW hu with ⟨i,t,rfl,rfl⟩ | ⟨x,t,rfl,rfl⟩
  ·rcases bW hv with ⟨j,u,rfl,rfl⟩ | ⟨y,u,rfl,rfl⟩
   ·rw [aKb] at h; exact wpAny_eqBool_int h
   ·rw [aHr] at h; exact SeqAt.EqAt.int_str i t y u _ _ _ _ h
  ·rcases bW hv with ⟨j,u,rfl,rfl⟩ | ⟨y,u,rfl,rfl⟩
   ·rw [aKn] at h; exact SeqAt.EqAt.str_int x t j u _ _ _ _ h
   ·rw [aId] at h; exact wpAny_eqBool_str h
 «strs»:=fun k x t v h=>by
  rcases bW h with ⟨i,u,rfl,e⟩ | ⟨y,u,rfl,e⟩
  ·exact nomatch e
  ·injection e with e1 _
   subst e1
   cases v <;> rfl
theorem aGz (prog:Program) (w:World) (k:Key) (v:Value):(mixKind prog w).is k v=keyIs k v:=rfl
end L2
namespace L2
open PySem PySem.Spec PyProof.Rows
inductive V where
 | non | bl (b:Bool) | int (i:Int) | str (x:Str) | byt (b:Array UInt8) | flt (b:UInt64) | ref (a:Addr) | ty (n:String)
 deriving DecidableEq
noncomputable def RelV:V->Value->Prop
 | .non,u=>u=Value.none
 | .bl b,u=>u=Value.bool b
 | .int i,u=>∃ t,u=Value.int i t
 | .str x,u=>∃ t,u=Value.str x t
 | .byt b,u=>∃ t,u=Value.bytes b t
 | .flt b,u=>∃ t,u=Value.float b t
 | .ref a,u=>u=Value.ref a
 | .ty n,u=>u=Value.type n
noncomputable abbrev Vals:List V->List Value->Prop:=Paired RelV
theorem Vals.length {xs:List V} {us:List Value} (r:Vals xs us):xs.length=us.length:=Paired.length r
theorem Vals.get:∀ {xs:List V} {us:List Value} {i:Nat} {x:V},Vals xs us->xs[i]?=some x->∃ u,us[i]?=some u/\RelV x u
 | _,_,_,_,.nil,e=>by simp at e
 | _,_,0,_,.cons r _,e=>by simp at e; subst e; exact ⟨_,rfl,r⟩
 | _,_,i+1,x,.cons _ t,e=>by
  obtain ⟨u,h1,h2⟩:=Vals.get (i:=i) (x:=x) t (by simpa using e)
  exact ⟨u,by simpa using h1,h2⟩
theorem Vals.set {x:V} {u:Value} (r:RelV x u):∀ {xs:List V} {us:List Value} (i:Nat),Vals xs us->Vals (xs.set i x) (us.set i u)
 | _,_,_,.nil=>.nil
 | _,_,0,.cons _ t=>.cons r t
 | _,_,i+1,.cons q t=>.cons q (Vals.set r i t)
theorem Vals.append:∀ {xs ys:List V} {us ws:List Value},Vals xs us->Vals ys ws->Vals (xs++ys) (us++ws)
 | _,_,_,_,.nil,s=>s
 | _,_,_,_,.cons r t,s=>.cons r (Vals.append t s)
theorem Vals.take:∀ {xs:List V} {us:List Value} (n:Nat),Vals xs us->Vals (xs.take n) (us.take n)
 | _,_,0,_=>.nil
 | _,_,_+1,.nil=>.nil
 | _,_,n+1,.cons r t=>.cons r (Vals.take n t)
theorem Vals.drop:∀ {xs:List V} {us:List Value} (n:Nat),Vals xs us->Vals (xs.drop n) (us.drop n)
 | _,_,0,r=>r
 | _,_,_+1,.nil=>.nil
 | _,_,n+1,.cons _ t=>Vals.drop n t
noncomputable def RelO:Option V->Option Value->Prop
 | some v,some u=>RelV v u
 | none,none=>True
 | _,_=>False
noncomputable def KV {κ:Type}:List (κ×V)->List (κ×Value)->Prop:=Paired fun (p:κ×V) (q:κ×Value)=>p.1=q.1/\RelV p.2 q.2
noncomputable def kV:Key->V
 | .inl i=>.int i
 | .inr x=>.str x
inductive HO where
 | lst (xs:List V)
 | tup (xs:List V)
 | dK (kvs:List (Key×V)) | dT (kvs:List (List Key×V))
 | set (S:Int->Bool) (n:Nat)
 | ins (C dx:Addr) (fs:List (Str×V))
 | own (x:Addr)
 | xd (fs:List (Str×V))
 | met (f x:Addr)
 | rng (lo hi:Int)
 | frz (o:Obj) (u:HO)
 | tbl (ps:Array Value)
 | ext (φ:Heap->Prop)
noncomputable abbrev Hp:=Addr->Option HO
noncomputable def upd (H:Hp) (a:Addr) (o:HO):Hp:=fun b=>if b=a then some o else H b
theorem dX {H:Hp} {a:Addr} {o:HO}:upd H a o a=some o:=by unfold upd; rw [if_pos rfl]
theorem bF {H:Hp} {a b:Addr} {o:HO} (h:b≠a):upd H a o b=H b:=by unfold upd; rw [if_neg h]
theorem aKw {H:Hp} {a b:Addr} {o u:HO} (h:H a=some o) (h':H b=some u) (d:o≠u):a≠b:=by
 intro e; subst e; rw [h] at h'; exact d (Option.some.inj h')
theorem cK {H:Hp} {a b:Addr} {o:HO} (h:H a=some o) (h':H b=none):a≠b:=by
 intro e; subst e; rw [h] at h'; cases h'
section
variable (P:Program) (w:World)
noncomputable def ObjOk (H:Hp) (h:Heap) (a:Addr):HO->Prop
 | .lst xs=>xs.length<=sizeLine/\∃ (its:List Value) (n:Nat),Vals xs its/\h.get? a=some { cls:=.type "list",data:=.seq its.toArray n }
 | .tup xs=>xs.length<=sizeLine/\∃ its:List Value,Vals xs its/\IsTup h a its.toArray
 | .dK kvs=>kvs.length<=sizeLine/\(a==sysModules)=false/\∃ vs,KV kvs vs/\h.DictOf (mixKind P w) a vs
 | .dT kvs=>kvs.length<=sizeLine/\(a==sysModules)=false/\∃ xs:List (List Key×Addr×Value),
   Paired (fun (p:List Key×V) (q:List Key×Addr×Value)=>p.1=q.1/\H q.2.1=some (.tup (p.1.map kV))/\RelV p.2 q.2.2) kvs xs /\
   ∃ o es ep,h.get? a=some o/\o.ExactDict/\o.data=.dict es ep/\es.toList=xs.map (entryOfKey (tupleKind (mixKind P w)))/\(xs.map (·.1)).Nodup
 | .set S n=>h.SetOf (intKind P w) a S n
 | .ins C dx fs=>H dx=some (.own a)/\fs.length<=1000/\dx≠a/\h.get? a=some (PySem.W.instObj C dx) /\
   ∃ mA,h.Ns1 dx mA/\(∀ f,RelO (fs.lookup f) (mA f))/\PySem.Within mA (fs.map (·.1))
 | .own _=>∃ o,h.get? a=some o
 | .xd fs=>∃ mA,h.Ns1 a mA/\∀ f,RelO (fs.lookup f) (mA f)
 | .rng lo hi=>∃ t u v,h.get? a=some { cls:=.type "range",data:=.fields #[.int lo t,.int hi u,.int 1 v] }
 | .frz o u=>h.get? a=some o/\ObjOk H h a u
 | .tbl ps=>h.get? a=some { cls:=.none,data:=.fields ps }
 | .met f x=>h.get? a=some (PySem.W.methodObj (.ref f) (.ref x))
 | .ext φ=>φ h/\(∃ o,h.get? a=some o)/\∀ h1 h2:Heap,φ h1->(∀ o,h1.get? a=some o->h2.get? a=some o)->φ h2
noncomputable def HOk (H:Hp) (h:Heap):Prop:=∀ a o,H a=some o->ObjOk P w H h a o
end
section
variable {P:Program} {w:World} {H H':Hp} {h h':Heap} {a:Addr} {o:HO}
theorem ObjOk.lt (x:ObjOk P w H h a o):a < h.objs.size:=by
 cases o with
 | lst xs=>obtain ⟨_,_,_,_,e⟩:=x; exact Heap.lt_size e
 | tup xs=>obtain ⟨_,_,_,p⟩:=x; exact p.lt
 | dK kvs=>obtain ⟨_,_,_,_,o,_,_,e,_⟩:=x; exact Heap.lt_size e
 | dT kvs=>obtain ⟨_,_,_,_,o,_,_,e,_⟩:=x; exact Heap.lt_size e
 | set S n=>obtain ⟨o,_,_,_,e,_⟩:=x; exact Heap.lt_size e
 | ins C dx fs=>obtain ⟨_,_,_,e,_⟩:=x; exact Heap.lt_size e
 | own y=>obtain ⟨_,e⟩:=x; exact Heap.lt_size e
 | xd fs=>obtain ⟨_,⟨_,_,_,e,_⟩,_⟩:=x; exact Heap.lt_size e
 | rng lo hi=>obtain ⟨_,_,_,e⟩:=x; exact Heap.lt_size e
 | frz ob u=>obtain ⟨e,_⟩:=x; exact Heap.lt_size e
 | tbl ps=>exact Heap.lt_size (show h.get? a=some _ from x)
 | met f y=>exact Heap.lt_size (show h.get? a=some _ from x)
 | ext φ=>obtain ⟨_,⟨_,e⟩,_⟩:=x; exact Heap.lt_size e
theorem Paired.mapP {α β:Type} {F G:α->β->Prop}:∀ {l₁:List α} {l₂:List β},Paired F l₁ l₂->(∀ a b,F a b->G a b)->Paired G l₁ l₂
 | _,_,.nil,_=>.nil
 | _,_,.cons r t,f=>.cons (f _ _ r) (Paired.mapP t f)
theorem ObjOk.stay (x:ObjOk P w H h a o) (k:∀ b u,(b=a\/H b=some (.own a))->h.get? b=some u->h'.get? b=some u)
  (ho:∀ b,H b=some (.own a)->H' b=some (.own a)) (ht:∀ b xs,H b=some (.tup xs)->H' b=some (.tup xs)):ObjOk P w H' h' a o:=by
 induction o with
 | lst xs=>obtain ⟨z,its,n,r,e⟩:=x; exact ⟨z,its,n,r,k _ _ (.inl rfl) e⟩
 | tup xs=>obtain ⟨z,its,r,ob,e,c⟩:=x; exact ⟨z,its,r,ob,k _ _ (.inl rfl) e,c⟩
 | dK kvs=>obtain ⟨z,y,vs,r,ob,es,ep,e,c⟩:=x; exact ⟨z,y,vs,r,ob,es,ep,k _ _ (.inl rfl) e,c⟩
 | dT kvs =>
  obtain ⟨z,y,xs,r,ob,es,ep,e,c⟩:=x
  exact ⟨z,y,xs,Paired.mapP r fun p q z=>⟨z.1,ht _ _ z.2.1,z.2.2⟩,ob,es,ep,k _ _ (.inl rfl) e,c⟩
 | set S n=>obtain ⟨ob,es,ep,t,e,c⟩:=x; exact ⟨ob,es,ep,t,k _ _ (.inl rfl) e,c⟩
 | ins C dx fs =>
  obtain ⟨d,z,ne,e,mA,⟨od,es,ep,e2,c⟩,r⟩:=x
  exact ⟨ho _ d,z,ne,k _ _ (.inl rfl) e,mA,⟨od,es,ep,k _ _ (.inr d) e2,c⟩,r⟩
 | own y=>obtain ⟨ob,e⟩:=x; exact ⟨ob,k _ _ (.inl rfl) e⟩
 | xd fs=>obtain ⟨mA,⟨od,es,ep,e,c⟩,r⟩:=x; exact ⟨mA,⟨od,es,ep,k _ _ (.inl rfl) e,c⟩,r⟩
 | rng lo hi=>obtain ⟨t,u,v,e⟩:=x; exact ⟨t,u,v,k _ _ (.inl rfl) e⟩
 | frz ob u ih=>obtain ⟨e,q⟩:=x; exact ⟨k _ _ (.inl rfl) e,ih q⟩
 | tbl ps =>
  have e:h.get? a=some { cls:=.none,data:=.fields ps }:=x
  show h'.get? a=some { cls:=.none,data:=.fields ps }
  exact k a _ (.inl rfl) e
 | met f y =>
  have e:h.get? a=some (PySem.W.methodObj (.ref f) (.ref y)):=x
  show h'.get? a=some (PySem.W.methodObj (.ref f) (.ref y))
  exact k a _ (.inl rfl) e
 | ext φ=>obtain ⟨p,⟨o,e⟩,st⟩:=x; exact ⟨st _ _ p fun o q=>k _ _ (.inl rfl) q,⟨o,k _ _ (.inl rfl) e⟩,st⟩
theorem HOk.lt (x:HOk P w H h) (e:H a=some o):a < h.objs.size:=(x a o e).lt
theorem HOk.fresh (x:HOk P w H h) (e:h.objs.size<=a):H a=none:=by
 cases q:H a with
 | none=>rfl
 | some u=>exact absurd (Nat.lt_of_lt_of_le (x.lt q) e) (Nat.lt_irrefl _)
theorem HOk.kept (x:HOk P w H h) (k:∀ b u,h.get? b=some u->h'.get? b=some u):HOk P w H h':=fun a o e =>
 (x a o e).stay (fun b u _ q=>k b u q) (fun _ q=>q) fun _ _ q=>q
theorem HOk.laid (x:HOk P w H h) (k:∀ b u,h.get? b=some u->h'.get? b=some u) (hp:h.objs.size<=a) (new:ObjOk P w (upd H a o) h' a o):HOk P w (upd H a o) h':=fun b u e=>by
 have hn:=x.fresh hp
 by_cases hb:b=a
 ·subst hb; rw [dX] at e; cases e; exact new
 ·rw [bF hb] at e
  exact (x b u e).stay (fun c v _ q=>k c v q) (fun c q=>by rw [bF (cK q hn)]; exact q) fun c xs q=>by rw [bF (cK q hn)]; exact q
end
noncomputable def Rd (H:Hp) (a:Addr) (u:HO):Prop:=H a=some u\/∃ o,H a=some (.frz o u)
theorem Rd.of {H:Hp} {a:Addr} {u:HO} (h:H a=some u):Rd H a u:=.inl h
theorem Rd.ok {P:Program} {w:World} {H:Hp} {h:Heap} {a:Addr} {u:HO} (r:Rd H a u) (x:HOk P w H h):ObjOk P w H h a u:=by
 rcases r with r | ⟨o,r⟩
 ·exact x a u r
 ·obtain ⟨_,q⟩:=x a _ r
  exact q
noncomputable def Mut:Option HO->Prop
 | some (.lst _)=>True
 | some (.dK _)=>True
 | some (.dT _)=>True
 | some (.set _ _)=>True
 | some (.ins _ _ _)=>True
 | some (.ext _)=>True
 | _=>False
section
variable {P:Program} {w:World} {H:Hp} {h h':Heap} {x e:Addr} {o':HO}
theorem HOk.write (ok:HOk P w H h) (mu:Mut (H x)) (he:e=x\/H e=some (.own x)) (k:∀ b u,b≠e->h.get? b=some u->h'.get? b=some u) (heo:∃ u,h'.get? e=some u)
  (new:ObjOk P w (upd H x o') h' x o'):HOk P w (upd H x o') h':=fun b u q=>by
 have nown:∀ c y,H c=some (.own y)->c≠x:=fun c y r z=>by subst z; rw [r] at mu; exact mu
 have ntup:∀ c xs,H c=some (.tup xs)->c≠x:=fun c xs r z=>by subst z; rw [r] at mu; exact mu
 by_cases hb:b=x
 ·subst hb; rw [dX] at q; cases q; exact new
 ·rw [bF hb] at q
  by_cases hbe:b=e
  ·have q':H b=some (.own x):=by
    rcases he with z | z
    ·exact absurd (hbe.trans z) hb
    ·rw [hbe]; exact z
   rw [q] at q'; cases q'
   obtain ⟨v,hv⟩:=heo
   exact ⟨v,by rw [hbe]; exact hv⟩
  ·refine (ok b u q).stay (fun c v hc r=>k c v ?_ r) (fun c r=>by rw [bF (nown c b r)]; exact r) fun c xs r=>by rw [bF (ntup c xs r)]; exact r
   rcases hc with rfl | hc
   ·exact hbe
   ·rintro rfl
    rcases he with z | z
    ·exact nown c b hc z
    ·rw [hc] at z; cases z; exact hb rfl
end
structure Un (fs ex:List Addr) (H H':Hp) (h h':Heap):Prop where
 keep:∀ b o,h.get? b=some o->H b=none->b∉fs->b∉ex->h'.get? b=some o
 slot:∀ b o,h.get? b=some o->H b=none->b∈fs->b∉ex->∃ sl,h'.get? b=some { o with slots:=sl }
 free:∀ b o,h.get? b=some o->H b=none->b∉ex->H' b=none
 there:∀ b o,h.get? b=some o->b∉ex->∃ o',h'.get? b=some o'
 tups:∀ b xs,H b=some (.tup xs)->H' b=some (.tup xs)
 frzs:∀ b o u,H b=some (.frz o u)->H' b=some (.frz o u)
 tbls:∀ b ps,H b=some (.tbl ps)->∃ more,H' b=some (.tbl (ps++more))
section
variable {fs fs' ex ex':List Addr} {H H1 H2:Hp} {h h1 h2 h':Heap} {a x e:Addr} {o:HO}
theorem Un.any (u:Un fs ex H H1 h h1) {b:Addr} {ob:Obj} (q:h.get? b=some ob) (n:H b=none) (hx:b∉ex):∃ sl,h1.get? b=some { ob with slots:=sl }:=by
 by_cases hb:b∈fs
 ·exact u.slot b ob q n hb hx
 ·exact ⟨ob.slots,u.keep b ob q n hb hx⟩
theorem Un.trans (a:Un fs ex H H1 h h1) (b:Un fs ex H1 H2 h1 h2):Un fs ex H H2 h h2 where
 keep:=fun c ob q n hc hx=>b.keep c ob (a.keep c ob q n hc hx) (a.free c ob q n hx) hc hx
 slot:=fun c ob q n hc hx=>by
  obtain ⟨sl,e1⟩:=a.slot c ob q n hc hx
  obtain ⟨sl',e2⟩:=b.slot c _ e1 (a.free c ob q n hx) hc hx
  exact ⟨sl',e2⟩
 free:=fun c ob q n hx=>by
  obtain ⟨o',e1⟩:=a.there c ob q hx
  exact b.free c o' e1 (a.free c ob q n hx) hx
 there:=fun c ob q hx=>by
  obtain ⟨o',e1⟩:=a.there c ob q hx
  exact b.there c o' e1 hx
 tups:=fun c xs q=>b.tups c xs (a.tups c xs q)
 frzs:=fun c ob xs q=>b.frzs c ob xs (a.frzs c ob xs q)
 tbls:=fun c ps q=>by
  obtain ⟨m1,e1⟩:=a.tbls c ps q
  obtain ⟨m2,e2⟩:=b.tbls c _ e1
  exact ⟨m1++m2,by rw [e2,Array.append_assoc]⟩
theorem Un.kept (k:∀ b u,h.get? b=some u->h'.get? b=some u):Un fs ex H H h h' :=
 ⟨fun b ob q _ _ _=>k b ob q,fun b ob q _ _ _=>⟨ob.slots,k b ob q⟩,fun _ _ _ n _=>n,fun b ob q _=>⟨ob,k b ob q⟩,fun _ _ q=>q,fun _ _ _ q=>q,fun _ ps q=>⟨#[],by rw [q]; simp⟩⟩
theorem Un.refl:Un fs ex H H h h:=Un.kept fun _ _ q=>q
theorem Un.laid (k:∀ b u,h.get? b=some u->h'.get? b=some u) (hp:h.objs.size<=a) (hn:H a=none):Un fs ex H (upd H a o) h h' where
 keep:=fun b u q _ _ _=>k b u q
 slot:=fun b u q _ _ _=>⟨u.slots,k b u q⟩
 free:=fun b u q n _=>by rw [bF (Nat.ne_of_lt (Nat.lt_of_lt_of_le (Heap.lt_size q) hp))]; exact n
 there:=fun b u q _=>⟨u,k b u q⟩
 tups:=fun b xs q=>by rw [bF (cK q hn)]; exact q
 frzs:=fun b u xs q=>by rw [bF (cK q hn)]; exact q
 tbls:=fun b ps q=>⟨#[],by rw [bF (cK q hn),q]; simp⟩
theorem Un.write (mu:Mut (H x)) (he:e=x\/H e=some (.own x)) (k:∀ b u,b≠e->h.get? b=some u->h'.get? b=some u) (heo:∃ u,h'.get? e=some u):Un fs ex H (upd H x o) h h':=by
 have hx:∀ b,H b=none->b≠x:=fun b n z=>by subst z; rw [n] at mu; exact mu
 have hb:∀ b,H b=none->b≠e:=fun b n z=>by
  subst z
  rcases he with r | r
  ·exact hx b n r
  ·rw [n] at r; cases r
 have hm:∀ b u,H b=some u->¬ Mut (some u)->b≠x:=fun b u q nm z=>by subst z; rw [q] at mu; exact nm mu
 refine ⟨fun b u q n _ _=>k b u (hb b n) q,fun b u q n _ _=>⟨u.slots,k b u (hb b n) q⟩,fun b u q n _=>by rw [bF (hx b n)]; exact n,fun b u q _=>?_,
  fun b xs q=>by rw [bF (hm b _ q fun z=>z)]; exact q,fun b u xs q=>by rw [bF (hm b _ q fun z=>z)]; exact q,fun b ps q=>⟨#[],by rw [bF (hm b _ q fun z=>z),q]; simp⟩⟩
 by_cases hbe:b=e
 ·subst hbe; exact heo
 ·exact ⟨u,k b u hbe q⟩
theorem Un.mono (u:Un fs ex H H1 h h1) (hs:∀ b∈fs,b∈fs') (hx:∀ b∈ex,b∈ex'):Un fs' ex' H H1 h h1 :=
 ⟨fun b ob q n hb he=>u.keep b ob q n (fun z=>hb (hs b z)) fun z=>he (hx b z),fun _ _ q n _ he=>u.any q n fun z=>he (hx _ z),fun b ob q n he=>u.free b ob q n fun z=>he (hx b z),fun b ob q he=>u.there b ob q fun z=>he (hx b z),u.tups,u.frzs,u.tbls⟩
end
noncomputable def trk (h:Heap) (H:Hp):List Addr:=(List.range h.objs.size).filter fun a=>(H a).isSome
noncomputable def hidT (h:Heap) (H:Hp):Heap:=PySem.W.hideAll h (trk h H)
theorem zG (h:Heap) (H:Hp):(hidT h H).objs.size=h.objs.size:=PySem.W.hideAll_size _ _
theorem aCp {h:Heap} {H:Hp} {b:Addr} {o:Obj} (e:h.get? b=some o) (n:H b=none):(hidT h H).get? b=some o :=
 PySem.W.hideAll_get _ e fun hm=>by
  have q:(H b).isSome=true:=(List.mem_filter.mp hm).2
  rw [n] at q; simp at q
theorem aEv {h:Heap} {H:Hp} {b:Addr} {o:Obj} (e:(hidT h H).get? b=some o):h.get? b=some o/\H b=none:=by
 have e':h.get? b=some o:=PySem.W.of_hideAll (trk h H) e
 refine ⟨e',?_⟩
 cases q:H b with
 | none=>rfl
 | some x =>
  have hm:b∈trk h H:=List.mem_filter.mpr ⟨List.mem_range.mpr (Heap.lt_size e'),by simp [q]⟩
  have z:(hidT h H).get? b=none:=PySem.W.hideAll_none (trk h H) hm
  rw [z] at e; cases e
noncomputable def allNews (g h:Heap) (L:Addr):List (Addr×Obj):=(List.range h.objs.size).filterMap fun a=>if a=L\/(g.get? a).isSome=true then none else (h.get? a).map fun o=>(a,o)
noncomputable def rest (g h:Heap) (L d:Addr):List (Addr×Obj):=(allNews g h L).filter fun p=>decide (p.1≠d)
end L2
namespace L2
open PySem PySem.Spec PyProof.Rows
structure Mod (K:PySem.W.Frag) (mg:Str->Option Value) (base:Heap):Prop where
 kin:K.In base
 glob:base.Ns mainGlobals mg
 blt:∃ mb,base.Ns builtinsNs mb/\∀ x:Str,x≠"__name__"->mb x=bootBuiltins x
 nolimit:base.NoLimit
structure Cx where
 prog:Program
 w:World
 K:PySem.W.Frag
 mg:Str->Option Value
 base:Heap
 A:Around
 N:List Str
 s₀:Shared
 H₀:Hp
 env:Env
 outer:List Env
 stack:List Env
 ex:List Addr
 fn:Str->Bool
 calm:Bool
 pn:List (Addr×Obj)
 xe:Value->Shared->Prop
noncomputable def frs (l:List Env):List Addr:=l.filterMap (·.frame)
noncomputable abbrev Cx.fs (X:Cx):List Addr:=frs X.outer
noncomputable def Vis (sc:Scope) (x:Str):Prop:=sc.names.lookup x=some .local\/sc.names.lookup x=some .cell\/sc.names.lookup x=some .free
noncomputable def Loc (sc:Scope) (x:Str):Prop:=sc.names.lookup x=some .local\/sc.names.lookup x=some .cell
noncomputable def Look (env:Env) (h:Heap) (m:Str->Option Value) (x:Str) (u:Value):Prop :=
 (env.kindOf x=some .local/\m x=some u)\/((env.kindOf x=some .cell\/env.kindOf x=some .free)/\∃ c,env.cells.lookup x=some c/\h.IsCell c (some u))
structure Cx.Ok (X:Cx):Prop where
 mod:Mod X.K X.mg X.base
 kind:X.env.scope.kind=.function
 glob:X.env.globals=mainGlobals
 blt:X.env.builtins=builtinsNs
 above:X.s₀.heap.objs.size<=X.env.locals
 inj:∀ x y c,X.env.cells.lookup x=some c->X.env.cells.lookup y=some c->x=y
 has:∀ x,(X.env.kindOf x=some .cell\/X.env.kindOf x=some .free)->∃ c,X.env.cells.lookup x=some c
 cab:∀ x c,X.fn x=true->X.env.cells.lookup x=some c->X.s₀.heap.objs.size<=c
 hd:X.calm=true->X.A.handled=none
 frames:X.A.frames=some X.stack
 stk:X.stack=X.outer\/(X.stack=X.env::X.outer/\X.env.frame=some X.env.locals)
 exf:∀ b∈X.ex,b≠X.env.locals/\∀ x c,X.env.cells.lookup x=some c->c≠b
 bs:∀ b o,X.base.get? b=some o->X.s₀.heap.get? b=some o/\X.H₀ b=none
 bsz:X.base.objs.size<=X.s₀.heap.objs.size
 noex:∀ b o,X.base.get? b=some o->b∉X.ex
 exfs:∀ b∈X.ex,b∉X.fs
 funs:X.s₀.heap.FunFrames X.base X.outer
 frf:∀ b∈X.fs,X.H₀ b=none
structure Inv (X:Cx) (pins:List (Addr×Obj)) (σ:List (Option V)) (H:Hp) (s:Shared):Prop where
 ok:X.Ok
 os:s.os=X.s₀.os
 bare:AllBare s.gens
 base:Un X.fs X.ex X.H₀ H X.s₀.heap s.heap
 loc:∃ m,s.heap.Ns X.env.locals m/\∀ (i:Nat) (x:Str) (v:V),X.N[i]?=some x->σ[i]?=some (some v)->Vis X.env.scope x->∃ u,RelV v u/\Look X.env s.heap m x u
 cell:∀ x c,X.env.cells.lookup x=some c->∃ v,s.heap.IsCell c v
 free:H X.env.locals=none
 freeC:∀ x c,X.env.cells.lookup x=some c->H c=none
 pin:∀ p∈X.pn++pins,s.heap.get? p.1=some p.2/\H p.1=none/\p.1≠X.env.locals/\p.1∉X.fs/\∀ v,p.2.data≠.cell v
 hok:HOk X.prog X.w H s.heap
 len:σ.length=X.N.length
section
variable {X:Cx} {pins:List (Addr×Obj)} {σ:List (Option V)} {H H':Hp} {s:Shared} {h':Heap}
theorem Cx.Ok.nofr (ok:X.Ok) {b:Addr} {o:Obj} (e:X.base.get? b=some o):b∉X.fs:=fun hb=>by
 have:=(ok.funs.mem hb).1
 rw [e] at this; cases this
theorem Inv.bs (I:Inv X pins σ H s):∀ b o,X.base.get? b=some o->s.heap.get? b=some o/\H b=none:=fun b o e =>
 ⟨I.base.keep b o (I.ok.bs b o e).1 (I.ok.bs b o e).2 (I.ok.nofr e) (I.ok.noex b o e),I.base.free b o (I.ok.bs b o e).1 (I.ok.bs b o e).2 (I.ok.noex b o e)⟩
theorem Inv.bk (I:Inv X pins σ H s):∀ b o,X.base.get? b=some o->s.heap.get? b=some o:=fun b o e=>(I.bs b o e).1
theorem Inv.mod (I:Inv X pins σ H s):Mod X.K X.mg X.base:=I.ok.mod
theorem Inv.kIn (I:Inv X pins σ H s):X.K.In s.heap:=I.ok.mod.kin.keeps I.bk
theorem Inv.nolimit (I:Inv X pins σ H s):s.heap.NoLimit:=I.ok.mod.nolimit.keeps I.bk
theorem Inv.lt (I:Inv X pins σ H s):X.env.locals < s.heap.objs.size:=let ⟨_,hn,_⟩:=I.loc; hn.lt
theorem Inv.sz (I:Inv X pins σ H s):X.s₀.heap.objs.size<=s.heap.objs.size:=Nat.le_trans I.ok.above (Nat.le_of_lt I.lt)
theorem Inv.nofs (I:Inv X pins σ H s) {a:Addr} (h:s.heap.objs.size<=a):a∉X.fs:=fun hb=>by
 obtain ⟨_,o,ho,_⟩:=I.ok.funs.mem hb
 exact absurd (Nat.lt_of_lt_of_le (Heap.lt_size ho) (Nat.le_trans I.sz h)) (Nat.lt_irrefl _)
theorem Inv.cne (I:Inv X pins σ H s):∀ x c,X.env.cells.lookup x=some c->c≠X.env.locals:=fun x c e z=>by
 obtain ⟨v,o,ho,hd⟩:=I.cell x c e
 obtain ⟨m,⟨o',es,ep,ho',hd',_⟩,_⟩:=I.loc
 rw [z,ho'] at ho; cases ho; rw [hd'] at hd; cases hd
theorem Inv.funs (I:Inv X pins σ H s):s.heap.FunFrames X.base X.outer:=by
 have all:∀ (l:List Env),(∀ b∈frs l,b∈X.fs)->X.s₀.heap.FunFrames X.base l->s.heap.FunFrames X.base l:=by
  intro l
  induction l with
  | nil=>intro _ _; trivial
  | cons env r ih =>
   intro hs hl
   obtain ⟨hk,⟨L,o,hf,hn,ho,hd⟩,hr⟩:=hl
   have hL:L∈X.fs:=hs L (by unfold frs; rw [List.filterMap_cons,hf]; exact List.mem_cons_self)
   obtain ⟨sl,e⟩:=I.base.slot L o ho (I.ok.frf L hL) hL fun z=>I.ok.exfs L z hL
   exact ⟨hk,⟨L,_,hf,hn,e,hd⟩,ih (fun b hb=>hs b (by unfold frs; rw [List.filterMap_cons,hf]; exact List.mem_cons_of_mem _ hb)) hr⟩
 exact all X.outer (fun _ hb=>hb) I.ok.funs
theorem Inv.stack (I:Inv X pins σ H s):s.heap.FunFrames X.base X.stack:=by
 rcases I.ok.stk with e | ⟨e,hf⟩
 ·rw [e]; exact I.funs
 ·rw [e]
  obtain ⟨m,hn,_⟩:=I.loc
  refine .cons (by rw [I.ok.kind]; decide) hf hn ?_ I.funs
  exact Heap.get?_none_of_le (Nat.le_trans I.ok.bsz I.ok.above)
theorem Inv.stkSub (I:Inv X pins σ H s):∀ b∈frs X.stack,b∈X.env.locals::X.fs:=fun b hb=>by
 rcases I.ok.stk with e | ⟨e,hf⟩
 ·rw [e] at hb; exact List.mem_cons_of_mem _ hb
 ·rw [e] at hb
  unfold frs at hb
  rw [List.filterMap_cons,hf] at hb
  exact hb
theorem Inv.stkFree (I:Inv X pins σ H s):∀ b∈frs X.stack,H b=none:=fun b hb=>by
 rcases List.mem_cons.mp (I.stkSub b hb) with e | hb
 ·rw [e]; exact I.free
 ·obtain ⟨_,o,ho,_⟩:=I.ok.funs.mem hb
  exact I.base.free b o ho (I.ok.frf b hb) fun z=>I.ok.exfs b z hb
theorem Inv.step {g':Array GenState} {t':Nat} {d':Drawn} {ch:List Addr} (I:Inv X pins σ H s)
  (hch:∀ b∈ch,(b∈X.ex\/X.s₀.heap.objs.size<=b)/\b≠X.env.locals/\(∀ x c,X.env.cells.lookup x=some c->c≠b)/\∀ p∈X.pn++pins,p.1≠b)
  (keep:∀ b o,b≠X.env.locals->b∉X.fs->b∉ch->s.heap.get? b=some o->H b=none->h'.get? b=some o)
  (slot:∀ b o,b≠X.env.locals->b∈X.fs->b∉ch->s.heap.get? b=some o->H b=none->∃ sl,h'.get? b=some { o with slots:=sl }) (free:∀ b o,b∉ch->s.heap.get? b=some o->H b=none->H' b=none)
  (there:∀ b o,b∉ch->s.heap.get? b=some o->∃ o',h'.get? b=some o')
  (tups:∀ b xs,H b=some (.tup xs)->H' b=some (.tup xs)) (frzs:∀ b o u,H b=some (.frz o u)->H' b=some (.frz o u)) (tbls:∀ b ps,H b=some (.tbl ps)->∃ more,H' b=some (.tbl (ps++more)))
  (ns:∀ m,s.heap.Ns X.env.locals m->h'.Ns X.env.locals m) (hok:HOk X.prog X.w H' h') (hg:AllBare g') :
  Inv X pins σ H' { s with heap:=h',gens:=g',drawn:=d',toks:=t' }:=by
 have neL:∀ b o,X.s₀.heap.get? b=some o->b≠X.env.locals:=fun b o e=>Nat.ne_of_lt (Nat.lt_of_lt_of_le (Heap.lt_size e) I.ok.above)
 have neC:∀ b o,X.s₀.heap.get? b=some o->b∉X.ex->b∉ch:=fun b o e hx hb=>by
  rcases (hch b hb).1 with z | z
  ·exact hx z
  ·exact absurd (Nat.lt_of_lt_of_le (Heap.lt_size e) z) (Nat.lt_irrefl _)
 have cellK:∀ x c,X.env.cells.lookup x=some c->∀ v,s.heap.IsCell c v->h'.IsCell c v:=fun x c e v ⟨o,ho,hd⟩=>by
  have nch:c∉ch:=fun z=>(hch c z).2.2.1 x c e rfl
  by_cases hc:c∈X.fs
  ·obtain ⟨sl,q⟩:=slot c o (I.cne x c e) hc nch ho (I.freeC x c e)
   exact ⟨_,q,hd⟩
  ·exact ⟨o,keep c o (I.cne x c e) hc nch ho (I.freeC x c e),hd⟩
 refine ⟨I.ok,I.os,hg,⟨fun b o e n hb hx=>?_,fun b o e n hb hx=>?_,fun b o e n hx=>?_,fun b o e hx=>?_,fun b xs e=>tups b xs (I.base.tups b xs e),fun b o xs e=>frzs b o xs (I.base.frzs b o xs e),fun b ps e=>?_⟩,?_,fun x c e=>?_,?_,fun x c e=>?_,fun p hp=>?_,hok,I.len⟩
 ·exact keep b o (neL b o e) hb (neC b o e hx) (I.base.keep b o e n hb hx) (I.base.free b o e n hx)
 ·obtain ⟨sl,e1⟩:=I.base.slot b o e n hb hx
  obtain ⟨sl',e2⟩:=slot b _ (neL b o e) hb (neC b o e hx) e1 (I.base.free b o e n hx)
  exact ⟨sl',e2⟩
 ·obtain ⟨o',e1⟩:=I.base.there b o e hx
  exact free b o' (neC b o e hx) e1 (I.base.free b o e n hx)
 ·obtain ⟨o',e1⟩:=I.base.there b o e hx
  exact there b o' (neC b o e hx) e1
 ·obtain ⟨m1,e1⟩:=I.base.tbls b ps e
  obtain ⟨m2,e2⟩:=tbls b _ e1
  exact ⟨m1++m2,by rw [e2,Array.append_assoc]⟩
 ·obtain ⟨m,hn,hl⟩:=I.loc
  refine ⟨m,ns m hn,fun i x v e1 e2 e3=>?_⟩
  obtain ⟨u,r,l⟩:=hl i x v e1 e2 e3
  refine ⟨u,r,?_⟩
  rcases l with l | ⟨k,c,e,z⟩
  ·exact .inl l
  ·exact .inr ⟨k,c,e,cellK x c e _ z⟩
 ·obtain ⟨v,z⟩:=I.cell x c e
  exact ⟨v,cellK x c e v z⟩
 ·obtain ⟨m,⟨o,_,_,ho,_⟩,_⟩:=I.loc
  exact free _ o (fun z=>(hch _ z).2.1 rfl) ho I.free
 ·obtain ⟨v,o,ho,hd⟩:=I.cell x c e
  exact free c o (fun z=>(hch c z).2.2.1 x c e rfl) ho (I.freeC x c e)
 ·obtain ⟨e,n,ne,nf,d⟩:=I.pin p hp
  have nch:p.1∉ch:=fun z=>(hch p.1 z).2.2.2 p hp rfl
  exact ⟨keep p.1 p.2 ne nf nch e n,free p.1 p.2 nch e n,ne,nf,d⟩
theorem Inv.un {t':Nat} (I:Inv X pins σ H s) (u:Un X.fs [] H H' s.heap h') (hok:HOk X.prog X.w H' h'):Inv X pins σ H' { s with heap:=h',toks:=t' }:=by
 obtain ⟨m,⟨o,es,ep,ho,r⟩,_⟩:=id I.loc
 obtain ⟨sl,hL⟩:=u.any ho I.free (by simp)
 exact I.step (g':=s.gens) (d':=s.drawn) (ch:=[]) (fun _ z=>nomatch z) (fun b o _ hb _ e n=>u.keep b o e n hb (by simp)) (fun b o _ hb _ e n=>u.slot b o e n hb (by simp)) (fun b o _ e n=>u.free b o e n (by simp)) (fun b o _ e=>u.there b o e (by simp)) u.tups u.frzs u.tbls (fun m' hm=>by
  obtain ⟨o',es',ep',ho',r'⟩:=hm
  rw [ho] at ho'; cases ho'
  exact ⟨_,es',ep',hL,r'⟩) hok I.bare
theorem Inv.call {g':Array GenState} {t':Nat} {d':Drawn} {ch:List Addr} (I:Inv X pins σ H s) (u:Un (frs X.stack) ch H H' s.heap h') (hok:HOk X.prog X.w H' h') (hg:AllBare g')
  (hch:∀ b∈ch,(b∈X.ex\/X.s₀.heap.objs.size<=b)/\b≠X.env.locals/\(∀ x c,X.env.cells.lookup x=some c->c≠b)/\∀ p∈X.pn++pins,p.1≠b) :
  Inv X pins σ H' { s with heap:=h',gens:=g',drawn:=d',toks:=t' }:=by
 obtain ⟨m,⟨o,es,ep,ho,r⟩,_⟩:=id I.loc
 obtain ⟨sl,hL⟩:=u.any ho I.free fun z=>(hch _ z).2.1 rfl
 exact I.step (ch:=ch) hch (fun b o hL hb hc e n=>u.keep b o e n (fun z=>(List.mem_cons.mp (I.stkSub b z)).elim hL hb) hc) (fun b o _ _ hc e n=>u.any e n hc) (fun b o hc e n=>u.free b o e n hc) (fun b o hc e=>u.there b o e hc) u.tups u.frzs u.tbls (fun m' hm=>by
  obtain ⟨o',es',ep',ho',r'⟩:=hm
  rw [ho] at ho'; cases ho'
  exact ⟨_,es',ep',hL,r'⟩) hok hg
theorem Inv.turned {t':Nat} {it:Addr} (I:Inv X pins σ H s) (k:∀ b o,b≠it->s.heap.get? b=some o->h'.get? b=some o) (hn:H it=none) (hL:it≠X.env.locals)
  (h1:it∈X.ex\/X.s₀.heap.objs.size<=it) (h2:∀ x c,X.env.cells.lookup x=some c->c≠it) (h3:∀ p∈X.pn++pins,p.1≠it):Inv X pins σ H { s with heap:=h',toks:=t' }:=by
 have nit:∀ b u,H b=some u->b≠it:=fun b u e z=>by rw [z,hn] at e; cases e
 refine I.step (g':=s.gens) (d':=s.drawn) (ch:=[it]) (fun b hb=>?_) (fun b o _ _ hc e _=>k b o (fun z=>hc (by simp [z])) e) (fun b o _ _ hc e _=>⟨o.slots,k b o (fun z=>hc (by simp [z])) e⟩) (fun _ _ _ _ n=>n)
  (fun b o hc e=>⟨o,k b o (fun z=>hc (by simp [z])) e⟩) (fun _ _ e=>e) (fun _ _ _ e=>e) (fun b ps e=>⟨#[],by rw [e]; simp⟩) (fun m hm=>?_) (fun b u e=>?_) I.bare
 ·have e:b=it:=by simpa using hb
  subst e
  exact ⟨h1,hL,h2,h3⟩
 ·obtain ⟨o,es,ep,ho,r⟩:=hm
  exact ⟨o,es,ep,k _ o (Ne.symm hL) ho,r⟩
 ·refine (I.hok b u e).stay (fun c v hc q=>k c v ?_ q) (fun _ q=>q) fun _ _ q=>q
  rcases hc with z | z
  ·rw [z]; exact nit b u e
  ·exact nit c _ z
theorem Inv.tok (I:Inv X pins σ H s) (t:Nat):Inv X pins σ H { s with toks:=t }:=I.un (h':=s.heap) (t':=t) Un.refl I.hok
theorem Inv.kept {t':Nat} (I:Inv X pins σ H s) (k:∀ b u,s.heap.get? b=some u->h'.get? b=some u):Inv X pins σ H { s with heap:=h',toks:=t' }:=I.un (Un.kept k) (I.hok.kept k)
theorem Inv.laid {a:Addr} {o:HO} {t':Nat} (I:Inv X pins σ H s) (k:∀ b u,s.heap.get? b=some u->h'.get? b=some u) (hp:s.heap.objs.size<=a) (new:ObjOk X.prog X.w (upd H a o) h' a o) :
  Inv X pins σ (upd H a o) { s with heap:=h',toks:=t' }:=I.un (Un.laid k hp (I.hok.fresh hp)) (I.hok.laid k hp new)
theorem Inv.write {x e:Addr} {o:HO} {t':Nat} (I:Inv X pins σ H s) (mu:Mut (H x)) (he:e=x\/H e=some (.own x)) (k:∀ b u,b≠e->s.heap.get? b=some u->h'.get? b=some u) (heo:∃ u,h'.get? e=some u)
  (new:ObjOk X.prog X.w (upd H x o) h' x o):Inv X pins σ (upd H x o) { s with heap:=h',toks:=t' }:=I.un (Un.write mu he k heo) (I.hok.write mu he k heo new)
theorem Inv.pins_of {pins':List (Addr×Obj)} (I:Inv X pins σ H s) (h:∀ p∈pins',s.heap.get? p.1=some p.2/\H p.1=none/\p.1≠X.env.locals/\p.1∉X.fs/\∀ v,p.2.data≠.cell v):Inv X pins' σ H s :=
 ⟨I.ok,I.os,I.bare,I.base,I.loc,I.cell,I.free,I.freeC,fun p hp=>(List.mem_append.mp hp).elim (fun z=>I.pin p (List.mem_append_left _ z)) (h p),I.hok,I.len⟩
theorem uK {N:List Str} (hN:N.Nodup) {i j:Nat} {x:Str} (a:N[i]?=some x) (b:N[j]?=some x):i=j:=by
 obtain ⟨h1,e1⟩:=List.getElem?_eq_some_iff.mp a
 obtain ⟨h2,e2⟩:=List.getElem?_eq_some_iff.mp b
 exact (List.getElem_inj hN).mp (e1.trans e2.symm)
theorem yJ {M:Model} {A:Around} {E:Value->Shared->Prop} {i:Nat} {x:Str} {v:V} {u:Value} {Q:Unit->Shared->Prop} (I:Inv X pins σ H s) (hN:X.N.Nodup) (hi:X.N[i]?=some x) (hx:Loc X.env.scope x) (r:RelV v u)
  (h:∀ s',Inv X pins (σ.set i (some v)) H s'->(∃ a,Heap.SameBut a s.heap s'.heap/\(a=X.env.locals\/X.env.cells.lookup x=some a))->Q () s') (hf:X.fn x=true\/X.env.scope.names.lookup x=some .local:=by first | exact .inl rfl | exact .inr rfl | assumption):wpAny M A (storeName X.env x u) Q E s:=by
 obtain ⟨m,hn,hl⟩:=id I.loc
 have hcls:(X.env.scope.kind==.class || (X.env.scope.kind==.module&&X.env.locals != X.env.globals))=false:=by rw [I.ok.kind]; rfl
 have hiσ:i < σ.length:=by rw [I.len]; exact (List.getElem?_eq_some_iff.mp hi).1
 have cne:=I.cne
 have tracked:∀ {a:Addr} {h':Heap},(∃ o,s.heap.get? a=some o/\H a=none)->Heap.SameBut a s.heap h'->HOk X.prog X.w H h':=fun {a h'} ha hs b ob e=>by
  obtain ⟨_,_,hfree⟩:=ha
  refine (I.hok b ob e).stay (fun c w' hc q=>(hs.2 c ?_).trans q) (fun _ q=>q) fun _ _ q=>q
  rintro rfl
  rcases hc with rfl | hc
  ·rw [hfree] at e; cases e
  ·rw [hfree] at hc; cases hc
 rcases hx with hk | hk
 ·refine wpAny_storeName_local hk hn (fun h' hn' hs=>?_) hcls
  obtain ⟨oL,_,_,hoL,_⟩:=id hn
  refine h _ ⟨I.ok,I.os,I.bare,⟨fun b o e n hb hx=>?_,fun b o e n hb hx=>?_,I.base.free,fun b o e hx=>?_,I.base.tups,I.base.frzs,I.base.tbls⟩,⟨_,hn',fun j y v' e1 e2 e3=>?_⟩,fun y c e=>?_,I.free,I.freeC,fun p hp=>?_,tracked ⟨oL,hoL,I.free⟩ hs,by simpa using I.len⟩ ⟨_,hs,.inl rfl⟩
  ·exact (hs.2 b (Nat.ne_of_lt (Nat.lt_of_lt_of_le (Heap.lt_size e) I.ok.above))).trans (I.base.keep b o e n hb hx)
  ·obtain ⟨sl,e1⟩:=I.base.slot b o e n hb hx
   exact ⟨sl,(hs.2 b (Nat.ne_of_lt (Nat.lt_of_lt_of_le (Heap.lt_size e) I.ok.above))).trans e1⟩
  ·obtain ⟨o',e1⟩:=I.base.there b o e hx
   exact ⟨o',(hs.2 b (Nat.ne_of_lt (Nat.lt_of_lt_of_le (Heap.lt_size e) I.ok.above))).trans e1⟩
  ·by_cases hj:j=i
   ·subst hj
    rw [hi] at e1; cases e1
    rw [List.getElem?_set_self hiσ] at e2
    cases e2
    exact ⟨u,r,.inl ⟨hk,by simp⟩⟩
   ·rw [List.getElem?_set_ne (Ne.symm hj)] at e2
    obtain ⟨u',r',q⟩:=hl j y v' e1 e2 e3
    refine ⟨u',r',?_⟩
    rcases q with ⟨k,e⟩ | ⟨k,c,e,z⟩
    ·refine .inl ⟨k,?_⟩
     have:y≠x:=fun e=>hj (uK hN e1 (e▸hi))
     simp [this,e]
    ·exact .inr ⟨k,c,e,z.sameBut hs (cne y c e)⟩
  ·obtain ⟨w',z⟩:=I.cell y c e
   exact ⟨w',z.sameBut hs (cne y c e)⟩
  ·obtain ⟨e,n,ne,nf,d⟩:=I.pin p hp
   exact ⟨(hs.2 p.1 ne).trans e,n,ne,nf,d⟩
 ·have hfn:X.fn x=true:=by
   rcases hf with z | z
   ·exact z
   ·rw [z] at hk; cases hk
  obtain ⟨c,hc⟩:=I.ok.has x (.inl hk)
  obtain ⟨w',z⟩:=I.cell x c hc
  refine wpAny_storeName_cell I.ok.kind hk hc z (fun h' hc' hs=>?_)
  obtain ⟨oc,hoc,hocd⟩:=id z
  refine h { s with heap:=h' } ⟨I.ok,I.os,I.bare,⟨fun b o e n hb hx=>?_,fun b o e n hb hx=>?_,I.base.free,fun b o e hx=>?_,I.base.tups,I.base.frzs,I.base.tbls⟩,⟨m,hn.sameBut hs (Ne.symm (cne x c hc)),fun j y v' e1 e2 e3=>?_⟩,fun y c' e=>?_,I.free,I.freeC,fun p hp=>?_,tracked ⟨oc,hoc,I.freeC x c hc⟩ hs,by simpa using I.len⟩ ⟨c,hs,.inr hc⟩
  ·exact (hs.2 b (Nat.ne_of_lt (Nat.lt_of_lt_of_le (Heap.lt_size e) (I.ok.cab x c hfn hc)))).trans (I.base.keep b o e n hb hx)
  ·obtain ⟨sl,e1⟩:=I.base.slot b o e n hb hx
   exact ⟨sl,(hs.2 b (Nat.ne_of_lt (Nat.lt_of_lt_of_le (Heap.lt_size e) (I.ok.cab x c hfn hc)))).trans e1⟩
  ·obtain ⟨o',e1⟩:=I.base.there b o e hx
   exact ⟨o',(hs.2 b (Nat.ne_of_lt (Nat.lt_of_lt_of_le (Heap.lt_size e) (I.ok.cab x c hfn hc)))).trans e1⟩
  ·by_cases hj:j=i
   ·subst hj
    rw [hi] at e1; cases e1
    rw [List.getElem?_set_self hiσ] at e2
    cases e2
    exact ⟨u,r,.inr ⟨.inl hk,c,hc,hc'⟩⟩
   ·rw [List.getElem?_set_ne (Ne.symm hj)] at e2
    obtain ⟨u',r',q⟩:=hl j y v' e1 e2 e3
    refine ⟨u',r',?_⟩
    rcases q with q | ⟨k,c',e,z'⟩
    ·exact .inl q
    ·refine .inr ⟨k,c',e,z'.sameBut hs ?_⟩
     rintro rfl
     exact hj (uK hN e1 (I.ok.inj _ _ _ e hc▸hi))
  ·by_cases hcc:c'=c
   ·subst hcc; exact ⟨_,hc'⟩
   ·obtain ⟨w2,z2⟩:=I.cell y c' e
    exact ⟨w2,z2.sameBut hs hcc⟩
  ·obtain ⟨e,n,ne,nf,d⟩:=I.pin p hp
   refine ⟨(hs.2 p.1 ?_).trans e,n,ne,nf,d⟩
   intro q
   rw [q,hoc] at e
   have q':oc=p.2:=Option.some.inj e
   exact d w' (by rw [<- q']; exact hocd)
theorem lD {M:Model} {A:Around} {E:Value->Shared->Prop} {i:Nat} {x:Str} {v:V} {u:Value} {Q:Unit->Shared->Prop} (I:Inv X pins σ H s) (hN:X.N.Nodup) (hi:X.N[i]?=some x) (hx:Loc X.env.scope x) (r:RelV v u)
  (h:∀ s',Inv X pins (σ.set i (some v)) H s'->Q () s') (hf:X.fn x=true\/X.env.scope.names.lookup x=some .local:=by first | exact .inl rfl | exact .inr rfl | assumption):wpAny M A (storeName X.env x u) Q E s :=
 yJ I hN hi hx r (fun s' I' _=>h s' I') hf
theorem Inv.call' {s':Shared} {ch:List Addr} (I:Inv X pins σ H s) (ho:s'.os=s.os) (u:Un (frs X.stack) ch H H' s.heap s'.heap) (hok:HOk X.prog X.w H' s'.heap) (hg:AllBare s'.gens)
  (hch:∀ b∈ch,(b∈X.ex\/X.s₀.heap.objs.size<=b)/\b≠X.env.locals/\(∀ x c,X.env.cells.lookup x=some c->c≠b)/\∀ p∈X.pn++pins,p.1≠b):Inv X pins σ H' s':=by
 obtain ⟨h',g',d',t',o'⟩:=s'
 have e:o'=s.os:=ho
 subst e
 exact I.call (g':=g') (t':=t') (d':=d') u hok hg hch
end
noncomputable abbrev XK:=Value->Option Addr->Hp->Prop
noncomputable abbrev St:=List (Option V)
noncomputable abbrev VK:=V->Hp->Prop
noncomputable abbrev TE:=St->Hp->VK->Prop
noncomputable abbrev TT:=St->Hp->(Bool->Hp->Prop)->Prop
noncomputable abbrev TA:=St->Hp->(List V->Hp->Prop)->Prop
structure Ends where
 nx:St->Hp->Prop
 rt:VK
 bk:St->Hp->Prop:=fun _ _=>False
 ct:St->Hp->Prop:=fun _ _=>False
noncomputable abbrev TS:=Ends->St->Hp->Prop
noncomputable def EP (X:Cx) (pins:List (Addr×Obj)) (σ:St) (Q:VK) (u:Value) (s':Shared):Prop:=∃ v H',Inv X pins σ H' s'/\RelV v u/\Q v H'
noncomputable def TP (X:Cx) (pins:List (Addr×Obj)) (σ:St) (Q:Bool->Hp->Prop) (b:Bool) (s':Shared):Prop:=∃ H',Inv X pins σ H' s'/\Q b H'
noncomputable def AP (X:Cx) (pins:List (Addr×Obj)) (σ:St) (Q:List V->Hp->Prop) (us:List Value) (s':Shared):Prop:=∃ vs H',Inv X pins σ H' s'/\Vals vs us/\Q vs H'
noncomputable def SP (X:Cx) (pins:List (Addr×Obj)) (D:Ends) (f:Flow) (s':Shared):Prop :=
 match f with
 | .next=>∃ σ' H',Inv X pins σ' H' s'/\D.nx σ' H'
 | .brk=>∃ σ' H',Inv X pins σ' H' s'/\D.bk σ' H'
 | .cont=>∃ σ' H',Inv X pins σ' H' s'/\D.ct σ' H'
 | .ret u=>∃ v σ' H',Inv X pins σ' H' s'/\RelV v u/\D.rt v H'
noncomputable def PE (X:Cx) (e:Expr) (t:TE):Prop :=
 ∀ (pins:List (Addr×Obj)) (s:Shared) (σ:St) (H:Hp) (Q:VK),Inv X pins σ H s->t σ H Q->wpAny (model X.prog X.w) X.A (eval e X.env) (EP X pins σ Q) X.xe s
noncomputable def PT (X:Cx) (e:Expr) (t:TT):Prop :=
 ∀ (pins:List (Addr×Obj)) (s:Shared) (σ:St) (H:Hp) (Q:Bool->Hp->Prop),Inv X pins σ H s->t σ H Q->wpAny (model X.prog X.w) X.A (isTrue e X.env (eval e X.env)) (TP X pins σ Q) X.xe s
noncomputable def PW (X:Cx) (e:Expr) (t:TT):Prop :=
 ∀ (whole:Sem Value) (pins:List (Addr×Obj)) (s:Shared) (σ:St) (H:Hp) (Q:Bool->Hp->Prop),Inv X pins σ H s->t σ H Q->wpAny (model X.prog X.w) X.A (isTrue e X.env whole) (TP X pins σ Q) X.xe s
theorem PW.pt {X:Cx} {e:Expr} {t:TT} (h:PW X e t):PT X e t:=h _
noncomputable def PA (X:Cx) (es:List Expr) (t:TA):Prop :=
 ∀ (pos:Pos) (pins:List (Addr×Obj)) (s:Shared) (σ:St) (H:Hp) (Q:List V->Hp->Prop),Inv X pins σ H s->t σ H Q->wpAny (model X.prog X.w) X.A (spliced (backTo pos (starEach es X.env))) (AP X pins σ Q) X.xe s
noncomputable def PS (X:Cx) (st:Stmt) (t:TS):Prop :=
 ∀ (pins:List (Addr×Obj)) (s:Shared) (σ:St) (H:Hp) (D:Ends),Inv X pins σ H s->t D σ H->wpAny (model X.prog X.w) X.A (exec st X.env) (SP X pins D) X.xe s
noncomputable def PSs (X:Cx) (st:List Stmt) (t:TS):Prop :=
 ∀ (pins:List (Addr×Obj)) (s:Shared) (σ:St) (H:Hp) (D:Ends),Inv X pins σ H s->t D σ H->wpAny (model X.prog X.w) X.A (execs st X.env) (SP X pins D) X.xe s
theorem thn {α:Type} {t:Sem α} {Q Q':α->Shared->Prop} {M:Model} {A:Around} {E:Value->Shared->Prop} {s:Shared} (h:wpAny M A t Q E s) (hQ:∀ a s,Q a s->Q' a s):wpAny M A t Q' E s:=wpAny_mono h hQ fun _ _ x=>x
end L2
namespace L2
open PySem PySem.Spec PyProof.Rows
section
variable {X:Cx}
noncomputable def tVar (i:Nat):TE:=fun σ H Q=>∃ v,σ[i]?=some (some v)/\Q v H
noncomputable def tC (v:V):TE:=fun _ H Q=>Q v H
theorem aKg {i:Nat} {x:Str} {pos:Pos} (hN:X.N[i]?=some x) (hv:Vis X.env.scope x) (hd:(x==("__debug__":Str))=false:=by decide) (hcd:(x==("__classdict__":Str))=false:=by decide):PE X (.Name x pos) (tVar i):=by
 intro pins s σ H Q I h
 obtain ⟨v,e,h⟩:=h
 obtain ⟨m,hn,hl⟩:=I.loc
 obtain ⟨u,r,l⟩:=hl i x v hN e hv
 have fin:EP X pins σ Q u s:=⟨v,H,I,r,h⟩
 rcases l with ⟨hk,hm⟩ | ⟨hk,c,hc,hcell⟩
 ·exact wpAny_Name (wpAny_loadName_local I.ok.kind hk hn hm fin) hd
 ·rcases hk with hk | hk
  ·exact wpAny_Name (wpAny_loadName_cell I.ok.kind hk hc hcell fin) hd
  ·exact wpAny_Name (wpAny_loadName_free I.ok.kind hk hc hcell fin hcd) hd
theorem aAt {i j pos}:PE X (.Constant (.int i) j pos) (tC (.int i)):=fun _ _ _ H _ I h=>wpAny_Constant_int ⟨.int i,H,I.tok _,⟨_,rfl⟩,h⟩
theorem aKy {b j pos}:PE X (.Constant (.bool b) j pos) (tC (.bl b)):=fun _ _ _ H _ I h=>Constant_bool ⟨.bl b,H,I,rfl,h⟩
theorem aHx {j pos}:PE X (.Constant .none j pos) (tC .non):=fun _ _ _ H _ I h=>Constant_none ⟨.non,H,I,rfl,h⟩
theorem aIm {x j pos}:PE X (.Constant (.str x) j pos) (tC (.str x)):=fun _ _ _ H _ I h=>Calls.Constant_str ⟨.str x,H,I.tok _,⟨_,rfl⟩,h⟩
noncomputable def Gl (X:Cx) (x:Str):Prop:=X.env.kindOf x=some .globalImplicit
theorem aDz {E:Value->Shared->Prop} {pins:List (Addr×Obj)} {s:Shared} {σ:St} {H:Hp} {x:Str} {u:Value} {pos:Pos} {Q:Value->Shared->Prop} (I:Inv X pins σ H s) (hg:Gl X x) (hm:X.mg x=some u) (h:Q u s)
  (hd:(x==("__debug__":Str))=false:=by decide):wpAny (model X.prog X.w) X.A (eval (.Name x pos) X.env) Q E s :=
 Calls.Name_function_global I.ok.kind hg (Calls.loadGlobal_global (by rw [I.ok.glob]; exact I.mod.glob.keeps I.bk) hm h) hd
theorem gL {E:Value->Shared->Prop} {pins:List (Addr×Obj)} {s:Shared} {σ:St} {H:Hp} {x:Str} {u:Value} {pos:Pos} {Q:Value->Shared->Prop} (I:Inv X pins σ H s) (hg:Gl X x) (hm:X.mg x=none) (hv:bootBuiltins x=some u) (h:Q u s)
  (hn:x≠"__name__":=by decide) (hd:(x==("__debug__":Str))=false:=by decide):wpAny (model X.prog X.w) X.A (eval (.Name x pos) X.env) Q E s:=by
 obtain ⟨mb,h1,h2⟩:=I.mod.blt
 exact Calls.Name_function_global I.ok.kind hg (Calls.loadGlobal_builtin (by rw [I.ok.glob]; exact I.mod.glob.keeps I.bk) hm (by rw [I.ok.blt]; exact h1.keeps I.bk) ((h2 x hn).trans hv) h) hd
theorem aFo {x:Str} {v:V} {u:Value} {pos:Pos} (hg:Gl X x) (hm:X.mg x=none) (hv:bootBuiltins x=some u) (r:RelV v u) (hn:x≠"__name__":=by decide) (hd:(x==("__debug__":Str))=false:=by decide):PE X (.Name x pos) (tC v) :=
 fun _ _ _ H _ I h=>gL I hg hm hv ⟨v,H,I,r,h⟩ hn hd
variable {a b:Expr} {ta tb:TE} {pos:Pos}
noncomputable def tB (t:TE):TT:=fun σ H Q=>t σ H fun x H1=>∃ c,x=.bl c/\Q c H1
variable {tA tB':TT} {rest:List Expr}
noncomputable def tAnd (t u:TT):TT:=fun σ H Q=>t σ H fun c H1=>if c=true then u σ H1 Q else Q false H1
noncomputable def tOr (t u:TT):TT:=fun σ H Q=>t σ H fun c H1=>if c=true then Q true H1 else u σ H1 Q
noncomputable def tNot (t:TT):TT:=fun σ H Q=>t σ H fun c H1=>Q (!c) H1
theorem aEg (ha:PT X a tA):PW X (.BoolOp .And [a] pos) tA:=by
 intro wh pins s σ H Q I h
 refine isTrue_and (thn (ha pins s σ H Q I h) fun c s1 e=>?_)
 cases c with
 | true=>exact isTrue_and_nil e
 | false=>exact e
theorem aHe (ha:PT X a tA):PW X (.BoolOp .Or [a] pos) tA:=by
 intro wh pins s σ H Q I h
 refine isTrue_or (thn (ha pins s σ H Q I h) fun c s1 e=>?_)
 cases c with
 | false=>exact isTrue_or_nil e
 | true=>exact e
theorem aHk (ha:PT X a tA) (hb:PW X (.BoolOp .And (b::rest) pos) tB'):PW X (.BoolOp .And (a::b::rest) pos) (tAnd tA tB'):=by
 intro wh pins s σ H Q I h
 refine isTrue_and (thn (ha pins s σ H _ I h) fun c s1 ⟨H1,I1,q1⟩=>?_)
 cases c with
 | true=>exact hb wh pins s1 σ H1 Q I1 q1
 | false=>exact ⟨H1,I1,q1⟩
theorem aLl (ha:PT X a tA) (hb:PW X (.BoolOp .Or (b::rest) pos) tB'):PW X (.BoolOp .Or (a::b::rest) pos) (tOr tA tB'):=by
 intro wh pins s σ H Q I h
 refine isTrue_or (thn (ha pins s σ H _ I h) fun c s1 ⟨H1,I1,q1⟩=>?_)
 cases c with
 | true=>exact ⟨H1,I1,q1⟩
 | false=>exact hb wh pins s1 σ H1 Q I1 q1
theorem aGo (ha:PT X a tA):PT X (.UnaryOp .Not a pos) (tNot tA):=by
 intro pins s σ H Q I h
 exact isTrue_not (ha pins s σ H (fun c H1=>Q (!c) H1) I h)
noncomputable def tAndV (ta tb:TE):TE:=fun σ H Q=>ta σ H fun x H1=>∃ c,x=.bl c/\if c=true then tb σ H1 Q else Q (.bl false) H1
noncomputable def tNotV (ta:TE):TE:=fun σ H Q=>ta σ H fun x H1=>∃ c,x=.bl c/\Q (.bl (!c)) H1
theorem aHt {op} {t:TE} (h:PE X a t):PE X (.BoolOp op [a] pos) t:=fun pins s σ H Q I hw=>BoolOp_one (h pins s σ H Q I hw)
theorem aIl (ha:PE X a ta) (hb:PE X (.BoolOp .And (b::rest) pos) tb):PE X (.BoolOp .And (a::b::rest) pos) (tAndV ta tb):=by
 intro pins s σ H Q I h
 refine BoolOp_and (thn (ha pins s σ H _ I h) fun v s1 ⟨x,H1,I1,r1,q1⟩=>?_)
 obtain ⟨c,rfl,q1⟩:=q1
 cases r1
 refine wpAny_truthy_bool ?_
 cases c with
 | true=>exact hb pins s1 σ H1 Q I1 q1
 | false=>exact ⟨.bl false,H1,I1,rfl,q1⟩
theorem aJt (ha:PE X a ta):PE X (.UnaryOp .Not a pos) (tNotV ta):=by
 intro pins s σ H Q I h
 refine UnaryOp_ (thn (ha pins s σ H _ I h) fun v s1 ⟨x,H1,I1,r1,q1⟩=>?_)
 obtain ⟨c,rfl,q1⟩:=q1
 cases r1
 exact not_of (wpAny_truthy_bool ⟨.bl (!c),H1,I1,rfl,q1⟩)
noncomputable def tIf (t:TT) (ta tb:TE):TE:=fun σ H Q=>t σ H fun c H1=>if c=true then ta σ H1 Q else tb σ H1 Q
theorem aCc {c:Expr} (hc:PT X c tA) (ha:PE X a ta) (hb:PE X b tb):PE X (.IfExp c a b pos) (tIf tA ta tb):=by
 intro pins s σ H Q I h
 refine wpAny_IfExp (thn (hc pins s σ H _ I h) fun d s1 ⟨H1,I1,q1⟩=>?_)
 cases d with
 | true=>exact ha pins s1 σ H1 Q I1 q1
 | false=>exact hb pins s1 σ H1 Q I1 q1
end
end L2
namespace L2
open PySem PySem.Spec PyProof.Rows
noncomputable def SqL (K:PySem.W.Frag) (H:Hp) (a:Addr) (xs:List V):Prop :=
 Rd H a (.lst xs) \/
  ∃ (o:Obj) (its:Array Value) (n:Nat),K.lookup a=some o/\o.cls=.type "list"/\o.dict=none/\o.data=.seq its n/\its.size<=sizeLine/\Vals xs its.toList
noncomputable def SqT (K:PySem.W.Frag) (H:Hp) (a:Addr) (xs:List V):Prop :=
 Rd H a (.tup xs) \/
  ∃ (o:Obj) (its:Array Value) (n:Nat),K.lookup a=some o/\o.cls=.type "tuple"/\o.data=.seq its n/\its.size<=sizeLine/\Vals xs its.toList
noncomputable def absV:Value->Option V
 | .none=>some .non
 | .bool b=>some (.bl b)
 | .int i _=>some (.int i)
 | .str x _=>some (.str x)
 | .bytes b _=>some (.byt b)
 | .float b _=>some (.flt b)
 | .ref a=>some (.ref a)
 | .type n=>some (.ty n)
 | _=>none
theorem RelV.abs {x:V} {u:Value} (r:RelV x u):absV u=some x:=by
 cases x with
 | non=>cases r; rfl
 | bl _=>cases r; rfl
 | int _=>obtain ⟨t,rfl⟩:=r; rfl
 | str _=>obtain ⟨t,rfl⟩:=r; rfl
 | byt _=>obtain ⟨t,rfl⟩:=r; rfl
 | flt _=>obtain ⟨t,rfl⟩:=r; rfl
 | ref _=>cases r; rfl
 | ty _=>cases r; rfl
theorem RelV.inj {x y:V} {u:Value} (r:RelV x u) (q:RelV y u):x=y:=Option.some.inj (r.abs.symm.trans q.abs)
theorem Vals.inj:∀ {xs ys:List V} {us:List Value},Vals xs us->Vals ys us->xs=ys
 | _,_,_,.nil,.nil=>rfl
 | _,_,_,.cons r t,.cons r' t'=>by rw [r.inj r',Vals.inj t t']
section
variable {X:Cx} {pins:List (Addr×Obj)} {σ:St} {H:Hp} {s:Shared} {a:Addr} {xs ys:List V}
theorem SqL.of {K:PySem.W.Frag} (h:H a=some (.lst xs)):SqL K H a xs:=.inl (.inl h)
theorem SqT.of {K:PySem.W.Frag} (h:H a=some (.tup xs)):SqT K H a xs:=.inl (.inl h)
theorem Inv.list (I:Inv X pins σ H s) (h:SqL X.K H a xs):∃ its:List Value,Vals xs its/\PlainL s.heap a its.toArray/\xs.length<=sizeLine:=by
 rcases h with h | ⟨o,its,n,hk,hc,hd,hs,hz,r⟩
 ·obtain ⟨z,its,n,r,e⟩:=h.ok I.hok
  exact ⟨its,r,⟨_,n,e,rfl,rfl,rfl⟩,z⟩
 ·refine ⟨its.toList,r,⟨o,n,I.kIn a o hk,hc,hd,by simpa using hs⟩,?_⟩
  have e:=r.length
  simp only [Array.length_toList] at e
  omega
theorem Inv.tuple (I:Inv X pins σ H s) (h:SqT X.K H a xs):∃ its:List Value,Vals xs its/\IsTup s.heap a its.toArray/\xs.length<=sizeLine:=by
 rcases h with h | ⟨o,its,n,hk,hc,hs,hz,r⟩
 ·obtain ⟨z,its,r,p⟩:=h.ok I.hok
  exact ⟨its,r,p,z⟩
 ·refine ⟨its.toList,r,⟨o,I.kIn a o hk,hc,n,by simpa using hs⟩,?_⟩
  have e:=r.length
  simp only [Array.length_toList] at e
  omega
theorem Inv.list_inj (I:Inv X pins σ H s) (h:SqL X.K H a xs) (h':SqL X.K H a ys):xs=ys:=by
 obtain ⟨its,r,⟨o,n,e,_,_,d⟩,_⟩:=I.list h
 obtain ⟨its',r',⟨o',n',e',_,_,d'⟩,_⟩:=I.list h'
 rw [e] at e'; cases e'
 rw [d] at d'
 injection d' with d1 _
 have:its=its':=by simpa using congrArg Array.toList d1
 subst this
 exact r.inj r'
theorem Inv.tuple_inj (I:Inv X pins σ H s) (h:SqT X.K H a xs) (h':SqT X.K H a ys):xs=ys:=by
 obtain ⟨its,r,⟨o,e,_,n,d⟩,_⟩:=I.tuple h
 obtain ⟨its',r',⟨o',e',_,n',d'⟩,_⟩:=I.tuple h'
 rw [e] at e'; cases e'
 rw [d] at d'
 injection d' with d1 _
 have:its=its':=by simpa using congrArg Array.toList d1
 subst this
 exact r.inj r'
end
noncomputable abbrev Cx.wish (X:Cx) (E:Value->Shared->Prop):Cx:={ X with xe:=E }
noncomputable abbrev Cx.nox (X:Cx):Cx:=X.wish fun _ _=>False
theorem Cx.Ok.wish {X:Cx} (ok:X.Ok) (E:Value->Shared->Prop):(X.wish E).Ok :=
 ⟨ok.mod,ok.kind,ok.glob,ok.blt,ok.above,ok.inj,ok.has,ok.cab,ok.hd,ok.frames,ok.stk,ok.exf,ok.bs,ok.bsz,ok.noex,ok.exfs,ok.funs,ok.frf⟩
theorem Cx.Ok.unwish {X:Cx} {E:Value->Shared->Prop} (ok:(X.wish E).Ok):X.Ok :=
 ⟨ok.mod,ok.kind,ok.glob,ok.blt,ok.above,ok.inj,ok.has,ok.cab,ok.hd,ok.frames,ok.stk,ok.exf,ok.bs,ok.bsz,ok.noex,ok.exfs,ok.funs,ok.frf⟩
section
variable {X:Cx} {pins:List (Addr×Obj)} {σ:St} {H:Hp} {s:Shared} {E:Value->Shared->Prop}
theorem Inv.wish (I:Inv X pins σ H s) (E:Value->Shared->Prop):Inv (X.wish E) pins σ H s:=⟨I.ok.wish E,I.os,I.bare,I.base,I.loc,I.cell,I.free,I.freeC,I.pin,I.hok,I.len⟩
theorem Inv.unwish (I:Inv (X.wish E) pins σ H s):Inv X pins σ H s:=⟨I.ok.unwish,I.os,I.bare,I.base,I.loc,I.cell,I.free,I.freeC,I.pin,I.hok,I.len⟩
theorem SP.unwish {D:Ends} {f:Flow} {s':Shared} (h:SP (X.wish E) pins D f s'):SP X pins D f s':=by
 cases f with
 | next=>obtain ⟨σ',H',I,q⟩:=h; exact ⟨σ',H',I.unwish,q⟩
 | brk=>obtain ⟨σ',H',I,q⟩:=h; exact ⟨σ',H',I.unwish,q⟩
 | cont=>obtain ⟨σ',H',I,q⟩:=h; exact ⟨σ',H',I.unwish,q⟩
 | ret u=>obtain ⟨v,σ',H',I,r,q⟩:=h; exact ⟨v,σ',H',I.unwish,r,q⟩
theorem PE.nox {e:Expr} {t:TE} (h:PE X.nox e t):PE X e t:=fun pins s σ H Q I hw =>
 wpAny_mono (h pins s σ H Q (I.wish _) hw) (fun _ _ ⟨v,H',I',r,q⟩=>⟨v,H',I'.unwish,r,q⟩) fun _ _ z=>False.elim z
theorem PT.nox {e:Expr} {t:TT} (h:PT X.nox e t):PT X e t:=fun pins s σ H Q I hw =>
 wpAny_mono (h pins s σ H Q (I.wish _) hw) (fun _ _ ⟨H',I',q⟩=>⟨H',I'.unwish,q⟩) fun _ _ z=>False.elim z
theorem PSs.nox {st:List Stmt} {t:TS} (h:PSs X.nox st t):PSs X st t:=fun pins s σ H D I hw =>
 wpAny_mono (h pins s σ H D (I.wish _) hw) (fun _ _ q=>q.unwish) fun _ _ z=>False.elim z
end
section
variable {X:Cx} {st:Stmt} {rest:List Stmt} {t u:TS} {e:Expr} {te:TE} {pos:Pos}
noncomputable def tNext:TS:=fun D σ H=>D.nx σ H
noncomputable def tSeq (t u:TS):TS:=fun D σ H=>t { D with nx:=u D } σ H
theorem aFq:PSs X [] tNext:=fun _ _ σ H _ I h=>wpAny_execs_nil ⟨σ,H,I,h⟩
theorem aAm (h1:PS X st t) (h2:PSs X rest u):PSs X (st::rest) (tSeq t u):=by
 intro pins s σ H D I h
 refine wpAny_execs_cons (thn (h1 pins s σ H { D with nx:=u D } I h) fun f s1 q=>?_)
 cases f with
 | next =>
  obtain ⟨σ',H',I',q⟩:=q
  exact h2 pins s1 σ' H' D I' q
 | ret v=>exact q
 | brk=>exact q
 | cont=>exact q
theorem aEj (h1:PS X st t):PSs X [st] t:=by
 intro pins s σ H D I h
 refine wpAny_execs_cons (thn (h1 pins s σ H D I h) fun f s1 q=>?_)
 cases f with
 | next=>exact wpAny_execs_nil q
 | ret v=>exact q
 | brk=>exact q
 | cont=>exact q
theorem Inv.quiet {pins:List (Addr×Obj)} {σ:St} {H:Hp} {s:Shared} (I:Inv X pins σ H s):interactive X.env=false:=by simp [interactive,I.ok.kind]
noncomputable def tDrop (te:TE):TS:=fun D σ H=>te σ H fun _ H1=>D.nx σ H1
theorem aEn (he:PE X e te) (hs:swapsWith e none pos.line X.env=pure false:=by rfl):PS X (.Expr e pos) (tDrop te):=by
 intro pins s σ H D I h
 exact wpAny_Expr_any (thn (he pins s σ H _ I h) fun v s1 ⟨x,H1,I1,r1,q1⟩=>⟨σ,H1,I1,q1⟩) I.quiet hs
noncomputable def tRet (te:TE):TS:=fun D σ H=>te σ H D.rt
theorem aHm (he:PE X e te):PS X (.Return (some e) pos) (tRet te):=by
 intro pins s σ H D I h
 exact wpAny_Return_some (thn (he pins s σ H _ I h) fun v s1 ⟨x,H1,I1,r1,q1⟩=>⟨x,σ,H1,I1,r1,q1⟩)
noncomputable def tIfS (c:TT) (t u:TS):TS:=fun D σ H=>c σ H fun b H1=>if b=true then t D σ H1 else u D σ H1
theorem aMb {c:Expr} {a b:List Stmt} {tc:TT} (hc:PT X c tc) (ha:PSs X a t) (hb:PSs X b u):PS X (.If c a b pos) (tIfS tc t u):=by
 intro pins s σ H D I h
 refine wpAny_If (thn (hc pins s σ H _ I h) fun d s1 ⟨H1,I1,q1⟩=>?_)
 cases d with
 | true=>exact ha pins s1 σ H1 D I1 q1
 | false=>exact hb pins s1 σ H1 D I1 q1
noncomputable def tNever:TS:=fun _ _ _=>False
theorem aAo:PS X st tNever:=fun _ _ _ _ _ _ h=>h.elim
end
noncomputable abbrev TG:=V->St->Hp->(St->Hp->Prop)->Prop
noncomputable abbrev TGs:=List V->St->Hp->(St->Hp->Prop)->Prop
noncomputable def PG (X:Cx) (target:Expr) (t:TG):Prop :=
 ∀ (pins:List (Addr×Obj)) (s:Shared) (σ:St) (H:Hp) (v:V) (u:Value) (Q:St->Hp->Prop),Inv X pins σ H s->RelV v u->t v σ H Q ->
  wpAny (model X.prog X.w) X.A (assign target X.env u) (fun _ s'=>∃ σ' H',Inv X pins σ' H' s'/\Q σ' H') X.xe s
noncomputable def PGs (X:Cx) (ts:List Expr) (t:TGs):Prop :=
 ∀ (pins:List (Addr×Obj)) (s:Shared) (σ:St) (H:Hp) (vs:List V) (us:List Value) (Q:St->Hp->Prop),Inv X pins σ H s->Vals vs us->t vs σ H Q ->
  wpAny (model X.prog X.w) X.A (assignInOrder ((assignEach ts X.env).map (·.2)) us) (fun _ s'=>∃ σ' H',Inv X pins σ' H' s'/\Q σ' H') X.xe s
noncomputable abbrev TSet:=V->V->V->Hp->(Hp->Prop)->Prop
noncomputable def PSet (X:Cx) (t:TSet):Prop :=
 ∀ (pins:List (Addr×Obj)) (s:Shared) (σ:St) (H:Hp) (o i v:V) (ov iv u:Value) (Q:Hp->Prop),Inv X pins σ H s->RelV o ov->RelV i iv->RelV v u->t o i v H Q ->
  wpAny (model X.prog X.w) X.A (setItem ov iv u) (fun _ s'=>∃ H',Inv X pins σ H' s'/\Q H') X.xe s
section
variable {X:Cx} {pos:Pos}
noncomputable def gName (i:Nat):TG:=fun v σ H Q=>Q (σ.set i (some v)) H
theorem aFe {i:Nat} {x:Str} (hN:X.N.Nodup) (hi:X.N[i]?=some x) (hx:Loc X.env.scope x) (hf:X.fn x=true\/X.env.scope.names.lookup x=some .local:=by first | exact .inl rfl | exact .inr rfl | assumption):PG X (.Name x pos) (gName i):=by
 intro pins s σ H v u Q I r h
 exact wpAny_assign_Name (lD I hN hi hx r (fun s' I'=>⟨_,H,I',h⟩) hf)
noncomputable def gNil:TGs:=fun vs σ H Q=>vs=[]/\Q σ H
noncomputable def gCons (t:TG) (u:TGs):TGs:=fun vs σ H Q=>∃ v r,vs=v::r/\t v σ H fun σ' H'=>u r σ' H' Q
theorem aFl:PGs X [] gNil:=by
 intro pins s σ H vs us Q I r h
 obtain ⟨e,h⟩:=h
 subst e
 cases r
 exact assignInOrder_nil ⟨σ,H,I,h⟩
theorem aCd {e:Expr} {es:List Expr} {t:TG} {u:TGs} (h1:PG X e t) (h2:PGs X es u)
  (hs:(assignEach (e::es) X.env).map (·.2)=assign e X.env::(assignEach es X.env).map (·.2):=by rfl):PGs X (e::es) (gCons t u):=by
 intro pins s σ H vs us Q I r h
 obtain ⟨v,vr,e1,h⟩:=h
 subst e1
 cases r with
 | cons r rr =>
  rw [hs]
  refine assignInOrder_cons (thn (h1 pins s σ H _ _ _ I r h) fun _ s1 ⟨σ1,H1,I1,q1⟩=>?_)
  exact h2 pins s1 σ1 H1 _ _ Q I1 rr q1
noncomputable def gTup (K:PySem.W.Frag) (n:Nat) (t:TGs):TG:=fun v σ H Q=>∃ a xs,v=.ref a/\SqT K H a xs/\xs.length=n/\t xs σ H Q
theorem aHs {es:List Expr} {k:Nat} {t:TGs} {n:Nat} (hc:X.calm=true) (h:PGs X es t)
  (hn:(assignEach es X.env).length=n:=by rfl) (hst:(assignEach es X.env).findIdx? (·.1)=none:=by rfl):PG X (.Tuple es k pos) (gTup X.K n t):=by
 intro pins s σ H v u Q I r hw
 obtain ⟨a,xs,e1,hq,hl,hw⟩:=hw
 subst e1
 cases r
 obtain ⟨its,rv,ht,hz⟩:=I.tuple hq
 refine assign_Tuple_tuple (I.ok.hd hc) ht (by simp [hn,<- hl,rv.length]) hst fun h' hx=>?_
 have I1:Inv X pins σ H { s with heap:=h' }:=I.kept (t':=s.toks) fun b o e=>hx b o (Nat.ne_of_lt (Heap.lt_size e)) e
 exact h pins _ σ H xs _ Q I1 (by simpa using rv) hw
noncomputable def gSub (to ti:TE) (t:TSet):TG:=fun v σ H Q=>to σ H fun o H1=>ti σ H1 fun i H2=>t o i v H2 fun H3=>Q σ H3
theorem aHj {o i:Expr} {to ti:TE} {t:TSet} (ho:PE X o to) (hi:PE X i ti) (hs:PSet X t)
  (ha:∀ v,assign (.Subscript o i pos) X.env v=(do
   let ov <- holding [v] (eval o X.env)
   let iv <- holding [v,ov] (eval i X.env)
   standAt pos
   holding [v,ov,iv] (setItem ov iv v)
   release [v,ov,iv] []):=by intro _; rfl):PG X (.Subscript o i pos) (gSub to ti t):=by
 intro pins s σ H v u Q I r h
 rw [ha]
 refine wpAny_bind (wpAny_holding (thn (ho pins s σ H _ I h) fun ov s1 ⟨x,H1,I1,r1,q1⟩=>?_))
 refine wpAny_bind (wpAny_holding (thn (hi pins s1 σ H1 _ I1 q1) fun iv s2 ⟨y,H2,I2,r2,q2⟩=>?_))
 refine wpAny_bind (wpAny_standAt (wpAny_bind (wpAny_holding (thn (hs pins s2 σ H2 x y v ov iv u _ I2 r1 r2 r q2) fun _ s3 ⟨H3,I3,q3⟩=>?_))))
 exact wpAny_release ⟨σ,H3,I3,q3⟩
noncomputable def tAsg (te:TE) (g:TG):TS:=fun D σ H=>te σ H fun x H1=>g x σ H1 D.nx
theorem aJu {tg e:Expr} {te:TE} {g:TG} (he:PE X e te) (hg:PG X tg g) (hs:swapsWithSole [tg] e pos.line X.env=pure false:=by rfl) (hw:swappedStores [tg] e X.env=pure none:=by rfl)
  (h1:(assignEach [tg] X.env).map (·.2)=[assign tg X.env]:=by rfl):PS X (.Assign [tg] e pos) (tAsg te g):=by
 intro pins s σ H D I h
 refine wpAny_Assign_stores (thn (he pins s σ H _ I h) fun v s1 ⟨x,H1,I1,r1,q1⟩=>?_) hs hw
 rw [h1]
 exact thn (hg pins s1 σ H1 x v _ I1 r1 q1) fun _ s2 q=>q
theorem aKe {i:Nat} {x:Str} {e:Expr} {te:TE} {pos':Pos} (hN:X.N.Nodup) (hi:X.N[i]?=some x) (hx:Loc X.env.scope x) (he:PE X e te) (hs:swapsWith e (some (.Name x pos')) pos.line X.env=pure false:=by rfl) (hf:X.fn x=true\/X.env.scope.names.lookup x=some .local:=by first | exact .inl rfl | exact .inr rfl | assumption) :
  PS X (.Assign [.Name x pos'] e pos) (tAsg te (gName i)):=by
 intro pins s σ H D I h
 refine wpAny_Assign_Name (thn (he pins s σ H _ I h) fun v s1 ⟨y,H1,I1,r1,q1⟩=>?_) hs
 exact lD I1 hN hi hx r1 (fun s2 I2=>⟨_,H1,I2,q1⟩) hf
noncomputable def tPar (i j:Nat) (ta:TA):TS:=fun D σ H=>ta σ H fun vs H1=>∃ v w,vs=[v,w]/\D.nx ((σ.set i (some v)).set j (some w)) H1
theorem aGt {i j:Nat} {x y:Str} {a b:Expr} {ta:TA} {px py pt:Pos} {kt k2 pt2} (hc:X.calm=true) (hN:X.N.Nodup) (hi:X.N[i]?=some x) (hj:X.N[j]?=some y) (hij:i≠j)
  (hx:X.env.scope.names.lookup x=some .local) (hy:X.env.scope.names.lookup y=some .local) (ha:PA X [a,b] ta)
  (hw:swappedStores [.Tuple [.Name x px,.Name y py] kt pt] (.Tuple [a,b] k2 pt2) X.env=pure (some [x,y]))
  (hs:swapsWithSole [.Tuple [.Name x px,.Name y py] kt pt] (.Tuple [a,b] k2 pt2) pos.line X.env=pure false:=by rfl) :
  PS X (.Assign [.Tuple [.Name x px,.Name y py] kt pt] (.Tuple [a,b] k2 pt2) pos) (tPar i j ta):=by
 intro pins s σ H D I h
 rw [exec_Assign_arm]
 refine wpAny_bind (wpAny_standAt ?_)
 rw [hs]
 refine wpAny_bind (wpAny_pure ?_)
 rw [if_neg (by decide)]
 refine wpAny_bind (Tuple_ (thn (ha _ pins s σ H _ I h) fun us s1 ⟨vs,H1,I1,r1,q1⟩=>?_))
 obtain ⟨v,w,e1,q1⟩:=q1
 subst e1
 obtain ⟨u1,u2,rfl,rv,rw'⟩:∃ u1 u2,us=[u1,u2]/\RelV v u1/\RelV w u2:=by
  cases r1 with
  | cons p q =>
   cases q with
   | cons p' q' =>
    cases q'
    exact ⟨_,_,rfl,p,p'⟩
 refine wpAny_newObj_type ?_ (by show 2<=sizeLine; decide)
 have I2:Inv X pins σ H1 { s1 with heap:=s1.heap.push { cls:=.type "tuple",data:=.seq [u1,u2].toArray } }:=I1.kept (t':=s1.toks) fun b o e=>Heap.get?_push_of_some _ e
 rw [hw]
 refine wpAny_bind (wpAny_pure ?_)
 show wpAny (model X.prog X.w) X.A (do rule "assign.swapped-stores"; let items <- unpackItems (.ref s1.heap.objs.size) 2 none; assignInOrder [fun v=>bindName X.env y v,fun v=>bindName X.env x v] items.reverse; pure Flow.next) _ _ _
 refine wpAny_bind (wpAny_rule (wpAny_bind (unpackItems_tuple (items:=#[u1,u2]) (I.ok.hd hc) (IsTup.new s1.heap _) fun h' hx'=>?_)))
 have I3:=I2.kept (h':=h') (t':=s1.toks) fun b o e=>hx' b o (Nat.ne_of_lt (Heap.lt_size e)) e
 show wpAny _ _ (assignInOrder [fun v=>bindName X.env y v,fun v=>bindName X.env x v] [u2,u1] >>= fun _=>pure Flow.next) _ _ _
 refine wpAny_bind (assignInOrder_cons (wpAny_bindName (lD I3 hN hj (.inl hy) rw' (fun s2 I4=>?_) (.inr hy))))
 refine assignInOrder_cons (wpAny_bindName (lD I4 hN hi (.inl hx) rv (fun s3 I5=>assignInOrder_nil (wpAny_pure ?_)) (.inr hx)))
 rw [List.set_comm _ _ (Ne.symm hij)] at I5
 exact ⟨_,H1,I5,q1⟩
end
section
variable {X:Cx} {pos:Pos}
noncomputable def tWhile (c:TT) (tb:TS):TS:=fun D σ H=>∃ W:Nat->St->Hp->Prop,(∃ m,W m σ H)/\∀ m σ H,W m σ H ->
 c σ H fun b H1=>if b=true then ∃ N:St->Hp->Prop,(∀ σ' H',N σ' H'->∃ m',m' < m/\W m' σ' H')/\tb { D with nx:=N,ct:=N,bk:=D.nx } σ H1 else D.nx σ H1
theorem aAn {c:Expr} {body:List Stmt} {tc:TT} {tb:TS} (hp:PassesOwn (model X.prog X.w) X.A X.env X.xe) (hc:PT X c tc) (hb:PSs X body tb):PS X (.While c body [] pos) (tWhile tc tb):=by
 intro pins s σ H D I h
 obtain ⟨W,⟨m0,w0⟩,turn⟩:=h
 refine wpAny_While (codeAny_whileLoop (fun n s'=>∃ σ' H',Inv X pins σ' H' s'/\W n σ' H') ?_ m0 ⟨σ,H,I,w0⟩)
 rintro n s1 ⟨σ1,H1,I1,w1⟩
 refine wpAny_passesOwn hp (thn (hc pins s1 σ1 H1 _ I1 (turn n σ1 H1 w1)) fun b s2 ⟨H2,I2,q2⟩=>?_)
 cases b with
 | true =>
  obtain ⟨N,hN,q2⟩:=q2
  rw [if_pos rfl]
  refine wpAny_passesOwn hp (thn (hb pins s2 σ1 H2 _ I2 q2) fun f s3 q3=>?_)
  cases f with
  | next =>
   obtain ⟨σ3,H3,I3,n3⟩:=q3
   obtain ⟨m',hm,w3⟩:=hN σ3 H3 n3
   exact ⟨m',hm,σ3,H3,I3,w3⟩
  | cont =>
   obtain ⟨σ3,H3,I3,n3⟩:=q3
   obtain ⟨m',hm,w3⟩:=hN σ3 H3 n3
   exact ⟨m',hm,σ3,H3,I3,w3⟩
  | brk=>exact q3
  | ret v=>exact q3
 | false =>
  rw [if_neg Bool.false_ne_true]
  exact wpAny_execs_nil ⟨σ1,H2,I2,q2⟩
end
structure It where
 go:Nat->Hp->Prop
 yld:Nat->Hp->V->Hp->Prop
 stop:Nat->Hp->Prop
noncomputable def FpOk (X:Cx) (pins:List (Addr×Obj)) (H:Hp) (b:Addr):Prop :=
 H b=none/\b≠X.env.locals/\b∉X.fs/\(b∈X.ex\/X.s₀.heap.objs.size<=b)/\(∀ x c,X.env.cells.lookup x=some c->c≠b)/\∀ p∈X.pn++pins,p.1≠b
theorem Inv.fpOk {X:Cx} {pins:List (Addr×Obj)} {σ:St} {H H':Hp} {s:Shared} {b:Addr} (I:Inv X pins σ H s) (hb:s.heap.objs.size<=b) (hn:H' b=none):FpOk X pins H' b:=by
 refine ⟨hn,Nat.ne_of_gt (Nat.lt_of_lt_of_le I.lt hb),I.nofs hb,.inr (Nat.le_trans I.sz hb),fun x c e z=>?_,fun p hp z=>?_⟩
 ·obtain ⟨v,q⟩:=I.cell x c e
  exact absurd (Nat.lt_of_lt_of_le q.lt (by rw [z]; exact hb)) (Nat.lt_irrefl _)
 ·exact absurd (Nat.lt_of_lt_of_le (Heap.lt_size (I.pin p hp).1) (by rw [z]; exact hb)) (Nat.lt_irrefl _)
structure Turn (P:Program) (w:World) (K:PySem.W.Frag) (tg:Expr) (J:It) (fp:List Addr) (it:Addr) (tn:Nat->Heap->Prop):Prop where
 mem:it∈fp
 obj:∀ i h,tn i h->∀ b∈fp,∃ o,h.get? b=some o/\∀ v,o.data≠.cell v
 keep:∀ i h h',tn i h->(∀ b∈fp,∀ o,h.get? b=some o->h'.get? b=some o)->tn i h'
 item:∀ (X:Cx),X.prog=P->X.w=w->X.K=K->X.calm=true->∀ (i:Nat) (pins:List (Addr×Obj)) (s:Shared) (σ:St) (H:Hp) (E:Value->Shared->Prop),Inv X pins σ H s->(∀ b∈fp,FpOk X pins H b)->tn i s.heap->J.go i H ->
  wpAny (model P w) X.A (pyNext (.ref it)) (fun r s1=>∃ u,r=some u /\
   wpAny (model P w) X.A (letOwnedTupleGo tg (.ref it) u) (fun _ s2=>∃ x H',Inv X pins σ H' s2/\RelV x u/\J.yld i H x H'/\tn (i+1) s2.heap/\∀ b∈fp,H' b=none) E s1) E s
 done:∀ (X:Cx),X.prog=P->X.w=w->X.K=K->X.calm=true->∀ (i:Nat) (pins:List (Addr×Obj)) (s:Shared) (σ:St) (H:Hp) (E:Value->Shared->Prop),Inv X pins σ H s->(∀ b∈fp,FpOk X pins H b)->tn i s.heap->J.stop i H ->
  wpAny (model P w) X.A (pyNext (.ref it)) (fun r s1=>r=none/\Inv X pins σ H s1) E s
 self:∀ (A:Around) (i:Nat) (s:Shared) (Q:Value->Shared->Prop) (E:Value->Shared->Prop),tn i s.heap->Q (.ref it) s->wpAny (model P w) A (pyIter (.ref it)) Q E s
noncomputable abbrev TI:=St->Hp->(It->Hp->Prop)->Prop
noncomputable def PIE (X:Cx) (pins:List (Addr×Obj)) (σ:St) (tg:Expr) (R:It->Hp->Prop) (itv:Value) (s2:Shared):Prop :=
 ∃ (it:Addr) (fp:List Addr) (tn:Nat->Heap->Prop) (J:It) (H':Hp),itv=.ref it/\Inv X pins σ H' s2/\Turn X.prog X.w X.K tg J fp it tn/\tn 0 s2.heap/\(∀ b∈fp,FpOk X pins H' b)/\R J H'
noncomputable def PI (X:Cx) (tg iter:Expr) (wi:TI):Prop :=
 ∀ (pins:List (Addr×Obj)) (s:Shared) (σ:St) (H:Hp) (R:It->Hp->Prop),Inv X pins σ H s->wi σ H R ->
  wpAny (model X.prog X.w) X.A (eval iter X.env) (fun v s1=>wpAny (model X.prog X.w) X.A (pyIter v) (PIE X pins σ tg R) X.xe s1) X.xe s
theorem pJ {M:Model} {A:Around} {E:Value->Shared->Prop} {s:Shared} {tg:Expr} {it:Addr} {u:Value} {o:Obj} {n:String} {vs:Array Value} {Q:Unit->Shared->Prop} (ho:s.heap.get? it=some o) (hc:o.cls=.type n) (hd:o.data=.fields vs)
  (hn:["enumerate","zip","dict_itemiterator","dict_reverseitemiterator","odict_iterator","itertools.zip_longest","itertools.pairwise"].contains n=false) (hQ:Q () s):wpAny M A (letOwnedTupleGo tg (.ref it) u) Q E s:=by
 unfold letOwnedTupleGo
 cases tg <;> first
  | exact wpAny_pure hQ
  | (cases u <;> first
    | exact wpAny_pure hQ
    | (refine wpAny_bind (wpAny_load ho ?_)
       rw [hc,hd]
       show wpAny M A (if (["enumerate","zip","dict_itemiterator","dict_reverseitemiterator","odict_iterator","itertools.zip_longest","itertools.pairwise"].contains n&&vs[0]?==some (rawInt _))=true then _ else _) Q E s
       rw [if_neg (by intro h; rw [hn,Bool.false_and] at h; cases h)]
       exact wpAny_pure hQ))
noncomputable def Itl (K:PySem.W.Frag) (a:Addr):It :=
 ⟨fun i H=>∃ xs x,SqL K H a xs/\xs[i]?=some x,fun i H x H'=>H'=H/\∀ xs,SqL K H a xs->xs[i]?=some x,fun i H=>∃ xs,SqL K H a xs/\xs.length<=i⟩
noncomputable def Itt (K:PySem.W.Frag) (a:Addr):It :=
 ⟨fun i H=>∃ xs x,SqT K H a xs/\xs[i]?=some x,fun i H x H'=>H'=H/\∀ xs,SqT K H a xs->xs[i]?=some x,fun i H=>∃ xs,SqT K H a xs/\xs.length<=i⟩
noncomputable def Itr (lo:Int) (n:Nat):It:=⟨fun i _=>i < n,fun i H x H'=>H'=H/\x=.int (lo+i),fun i _=>n<=i⟩
theorem yV {P:Program} {w:World} {K:PySem.W.Frag} {tg:Expr} (a it:Addr):Turn P w K tg (Itl K a) [it] it (fun i h=>h.IsListIter it a i) where
 mem:=by simp
 obj:=fun i h st b hb=>by
  have e:b=it:=by simpa using hb
  subst e
  obtain ⟨o,e,c,d⟩:=st
  exact ⟨o,e,fun v z=>by rw [d] at z; cases z⟩
 keep:=fun i h h' st k=>st.at fun o e=>k it (by simp) o e
 item:=by
  intro X hP hw hK hc i pins s σ H E I hf st hg
  subst hP hw hK
  obtain ⟨xs,x,hq,hx⟩:=hg
  obtain ⟨its,rv,p,hz⟩:=I.list hq
  obtain ⟨u,hu,ru⟩:=rv.get hx
  obtain ⟨f0,f1,f2,f3,f4,f5⟩:=hf it (by simp)
  refine wpAny_pyNext_list_item st p.isList (x:=u) (by simpa using hu) fun h' st' sb=>?_
  have I1:Inv X pins σ H { s with heap:=h' }:=I.turned (t':=s.toks) (fun b o hb e=>(sb.2 b hb).trans e) f0 f1 f3 f4 f5
  obtain ⟨o,e,c,d⟩:=id st'
  exact ⟨u,rfl,pJ (s:={ s with heap:=h' }) e c d (by decide) ⟨x,H,I1,ru,⟨rfl,fun ys hy=>by rw [I.list_inj hy hq]; exact hx⟩,st',fun b hb=>(hf b hb).1⟩⟩
 done:=by
  intro X hP hw hK hc i pins s σ H E I hf st hg
  subst hP hw hK
  obtain ⟨xs,hq,hx⟩:=hg
  obtain ⟨its,rv,p,hz⟩:=I.list hq
  obtain ⟨f0,f1,f2,f3,f4,f5⟩:=hf it (by simp)
  have hl:=rv.length
  exact wpAny_pyNext_list_end (I.ok.hd hc) st p.isList (by simp; omega) fun h' eb=>⟨rfl,I.turned (t':=s.toks) (fun b o hb e=>eb b o hb e) f0 f1 f3 f4 f5⟩
 self:=fun _ _ _ _ _ st h=>wpAny_pyIter_listiter st h
theorem vX {P:Program} {w:World} {K:PySem.W.Frag} {tg:Expr} (a it:Addr):Turn P w K tg (Itt K a) [it] it (fun i h=>h.IsTupleIter it a i) where
 mem:=by simp
 obj:=fun i h st b hb=>by
  have e:b=it:=by simpa using hb
  subst e
  obtain ⟨o,e,c,d⟩:=st
  exact ⟨o,e,fun v z=>by rw [d] at z; cases z⟩
 keep:=fun i h h' st k=>st.at fun o e=>k it (by simp) o e
 item:=by
  intro X hP hw hK hc i pins s σ H E I hf st hg
  subst hP hw hK
  obtain ⟨xs,x,hq,hx⟩:=hg
  obtain ⟨its,rv,p,hz⟩:=I.tuple hq
  obtain ⟨u,hu,ru⟩:=rv.get hx
  obtain ⟨f0,f1,f2,f3,f4,f5⟩:=hf it (by simp)
  refine wpAny_pyNext_tuple_item st (show s.heap.IsTuple a its.toArray from p) (x:=u) (by simpa using hu) fun h' st' sb=>?_
  have I1:Inv X pins σ H { s with heap:=h' }:=I.turned (t':=s.toks) (fun b o hb e=>(sb.2 b hb).trans e) f0 f1 f3 f4 f5
  obtain ⟨o,e,c,d⟩:=id st'
  exact ⟨u,rfl,pJ (s:={ s with heap:=h' }) e c d (by decide) ⟨x,H,I1,ru,⟨rfl,fun ys hy=>by rw [I.tuple_inj hy hq]; exact hx⟩,st',fun b hb=>(hf b hb).1⟩⟩
 done:=by
  intro X hP hw hK hc i pins s σ H E I hf st hg
  subst hP hw hK
  obtain ⟨xs,hq,hx⟩:=hg
  obtain ⟨its,rv,p,hz⟩:=I.tuple hq
  obtain ⟨f0,f1,f2,f3,f4,f5⟩:=hf it (by simp)
  have hl:=rv.length
  exact wpAny_pyNext_tuple_end (I.ok.hd hc) st (show s.heap.IsTuple a its.toArray from p) (by simp; omega) fun h' eb=>⟨rfl,I.turned (t':=s.toks) (fun b o hb e=>eb b o hb e) f0 f1 f3 f4 f5⟩
 self:=fun _ _ _ _ _ st h=>wpAny_pyIter_tupleiter st h
theorem wL {P:Program} {w:World} {K:PySem.W.Frag} {tg:Expr} (it:Addr) (lo:Int) (n:Nat):Turn P w K tg (Itr lo n) [it] it (fun i h=>IsRangeIter h it (lo+(i:Nat)*1) ((n:Int) - (i:Nat)) 1) where
 mem:=by simp
 obj:=fun i h st b hb=>by
  have e:b=it:=by simpa using hb
  subst e
  exact ⟨_,st,fun v z=>by
   have z':Data.fields _=Data.cell v:=z
   cases z'⟩
 keep:=fun i h h' st k=>k it (by simp) _ st
 item:=by
  intro X hP hw hK hc i pins s σ H E I hf st hg
  subst hP hw hK
  obtain ⟨f0,f1,f2,f3,f4,f5⟩:=hf it (by simp)
  have W:=Walks.range (prog:=X.prog) (w:=X.w) (I.ok.hd hc) it lo 1 n
  refine W.item i s _ _ hg st fun v h' tk hv st' kk=>?_
  obtain ⟨t,rfl⟩:=hv
  have I1:Inv X pins σ H { s with heap:=h',toks:=tk }:=I.turned (fun b o hb e=>kk b o (by simpa using hb) e) f0 f1 f3 f4 f5
  refine ⟨_,rfl,pJ (s:={ s with heap:=h',toks:=tk }) (n:="range_iterator") st' rfl rfl (by decide) ⟨.int (lo+i),H,I1,⟨t,?_⟩,⟨rfl,rfl⟩,st',fun b hb=>(hf b hb).1⟩⟩
  rw [Int.mul_one]
 done:=by
  intro X hP hw hK hc i pins s σ H E I hf st hg
  subst hP hw hK
  obtain ⟨f0,f1,f2,f3,f4,f5⟩:=hf it (by simp)
  exact wpAny_pyNext_range_end (I.ok.hd hc) st (by have:n<=i:=hg; omega) fun h' eb=>⟨rfl,I.turned (t':=s.toks) (fun b o hb e=>eb b o hb e) f0 f1 f3 f4 f5⟩
 self:=fun _ _ _ _ _ st h=>wpAny_pyIter_rangeiter st h
end L2
namespace L2
open PySem PySem.Spec PyProof.Rows
section
variable {X:Cx} {tg:Expr}
theorem aCj {pins:List (Addr×Obj)} {σ:St} {H:Hp} {s:Shared} {R:It->Hp->Prop} {E:Value->Shared->Prop} {lo hi:Int} {t u v:Tok} {tk:Nat} (I:Inv X pins σ H s) (h1 : -(2 ^ 62)<=lo) (h2:lo < 2 ^ 62) (h3 : -(2 ^ 62)<=hi) (h4:hi < 2 ^ 62)
  (q:R (Itr lo (hi - lo).toNat) H):wpAny (model X.prog X.w) X.A (pyIter (.ref s.heap.objs.size)) (PIE X pins σ tg R) E { s with heap:=s.heap.push { cls:=.type "range",data:=.fields #[.int lo t,.int hi u,.int 1 v] },toks:=tk }:=by
 refine wpAny_pyIter_range (IsRange.new ..) (small_one h1 h2 h3 h4) ?_
 have I1:Inv X pins σ H { s with heap:=s.heap.push { cls:=.type "range",data:=.fields #[.int lo t,.int hi u,.int 1 v] },toks:=tk }:=I.kept fun b o e=>Heap.get?_push_of_some _ e
 refine ⟨(s.heap.push { cls:=.type "range",data:=.fields #[.int lo t,.int hi u,.int 1 v] }).objs.size,[(s.heap.push { cls:=.type "range",data:=.fields #[.int lo t,.int hi u,.int 1 v] }).objs.size],_,_,H,rfl,
  I1.kept (t':=tk) fun b o e=>Heap.get?_push_of_some _ e,wL _ lo (hi - lo).toNat,?_,fun b hb=>?_,q⟩
 ·have e1:lo+((0:Nat):Int)*1=lo:=by simp
  have e2:(((hi - lo).toNat:Nat):Int) - ((0:Nat):Int)=Builtin.Range.rangeSize lo hi 1:=by rw [rangeSize_one]; split <;> omega
  show IsRangeIter _ _ (lo+((0:Nat):Int)*1) ((((hi - lo).toNat:Nat):Int) - ((0:Nat):Int)) 1
  rw [e1,e2]
  exact Heap.get?_push_size _ rfl
 ·have e:b=(s.heap.push { cls:=.type "range",data:=.fields #[.int lo t,.int hi u,.int 1 v] }).objs.size:=by simpa using hb
  subst e
  exact I1.fpOk (Nat.le_refl _) (I1.hok.fresh (Nat.le_refl _))
noncomputable def iRng1 (ta:TA):TI:=fun σ H R=>ta σ H fun vs H1=>∃ j:Int,vs=[.int j] /\ -(2 ^ 62)<=j/\j < 2 ^ 62/\R (Itr 0 j.toNat) H1
theorem zO {a:Expr} {ta:TA} {p pos:Pos} (hg:Gl X "range") (hm:X.mg "range"=none) (ha:PA X [a] ta) (hs:starEach [a] X.env=[(false,eval a X.env)]:=by rfl):PI X tg (.Call (.Name "range" p) [a] [] pos) (iRng1 ta):=by
 intro pins s σ H R I h
 refine Call_ (gL I hg hm boot_range (PyProof.Rows.callWith_type1 (thn (ha pos pins s σ H _ I h) fun us s1 ⟨vs,H1,I1,r1,q1⟩=>?_) hs rfl))
 obtain ⟨j,e,q1,q2,q⟩:=q1
 subst e
 cases r1 with
 | cons r rr =>
  cases rr
  obtain ⟨t,rfl⟩:=r
  exact call_range_1 (aCj I1 (by omega) (by omega) q1 q2 (by simpa using q))
noncomputable def tFor (wi:TI) (g:TG) (tb:TS):TS:=fun D σ H=>wi σ H fun J H1=>∃ W:Nat->Nat->St->Hp->Prop,(∃ m,W 0 m σ H1)/\∀ i m σ H,W i m σ H ->
 (J.stop i H/\D.nx σ H)\/(J.go i H/\∃ N:St->Hp->Prop,(∀ σ' H',N σ' H'->∃ m',m' < m/\W (i+1) m' σ' H')/\∀ x H',J.yld i H x H'->g x σ H' fun σ2 H2=>tb { D with nx:=N,ct:=N,bk:=D.nx } σ2 H2)
noncomputable def pinsAt (fp:List Addr) (h:Heap):List (Addr×Obj):=fp.filterMap fun b=>(h.get? b).map fun o=>(b,o)
theorem gA {fp:List Addr} {h:Heap} {b:Addr} {o:Obj} (hb:b∈fp) (e:h.get? b=some o):(b,o)∈pinsAt fp h:=List.mem_filterMap.mpr ⟨b,hb,by rw [e]; rfl⟩
theorem yU {fp:List Addr} {h:Heap} {p:Addr×Obj} (hp:p∈pinsAt fp h):p.1∈fp/\h.get? p.1=some p.2:=by
 obtain ⟨b,hb,e⟩:=List.mem_filterMap.mp hp
 cases q:h.get? b with
 | none=>rw [q] at e; cases e
 | some o =>
  rw [q] at e
  have e':(b,o)=p:=Option.some.inj e
  subst e'
  exact ⟨hb,q⟩
theorem Inv.pinned {pins:List (Addr×Obj)} {σ:St} {H:Hp} {s:Shared} {fp:List Addr} (I:Inv X pins σ H s) (hf:∀ b∈fp,FpOk X pins H b) (ho:∀ b∈fp,∃ o,s.heap.get? b=some o/\∀ v,o.data≠.cell v):Inv X (pins++pinsAt fp s.heap) σ H s :=
 I.pins_of fun p hp=>(List.mem_append.mp hp).elim (fun z=>I.pin p (List.mem_append_right _ z)) fun z=>by
  obtain ⟨hb,e⟩:=yU z
  obtain ⟨f0,f1,f2,_⟩:=hf p.1 hb
  obtain ⟨o,e',d⟩:=ho p.1 hb
  rw [e] at e'; cases e'
  exact ⟨e,f0,f1,f2,d⟩
theorem Inv.unpinned {pins pl:List (Addr×Obj)} {σ:St} {H:Hp} {s:Shared} (I:Inv X (pins++pl) σ H s):Inv X pins σ H s:=I.pins_of fun p hp=>I.pin p (List.mem_append_right _ (List.mem_append_left _ hp))
theorem aIh {iter:Expr} {body:List Stmt} {wi:TI} {g:TG} {tb:TS} {pos:Pos} (hp:PassesOwn (model X.prog X.w) X.A X.env X.xe) (hc:X.calm=true) (hi:PI X tg iter wi) (hg:PG X tg g) (hb:PSs X body tb)
  (hs:∀ x,foldedSetIterable iter X.env x=pure x:=by intro _; rfl):PS X (.For tg iter body [] pos) (tFor wi g tb):=by
 intro pins s σ H D I h
 refine wpAny_For (thn (hi pins s σ H _ I h) fun v s1 h1=>thn h1 fun itv s2 h2=>?_) hs
 obtain ⟨it,fp,tn,J,H2,e,I2,T,st2,f2,W,⟨m0,w0⟩,turn⟩:=h2
 subst e
 -- what stays true of the iterator's objects through the loop
 have stat:∀ {H':Hp},(∀ b∈fp,H' b=none)->∀ b∈fp,FpOk X pins H' b:=fun hn b hb=>⟨hn b hb,(f2 b hb).2⟩
 refine codeAny_forLoop_any (fun n s'=>∃ i σ' H',Inv X pins σ' H' s'/\tn i s'.heap/\(∀ b∈fp,H' b=none)/\W i n σ' H') ?_ m0 ⟨0,σ,H2,I2,st2,fun b hb=>(f2 b hb).1,w0⟩
 rintro n s3 ⟨i,σ3,H3,I3,st3,fr3,w3⟩
 rcases turn i n σ3 H3 w3 with ⟨stop,qn⟩ | ⟨go,N,hN,step⟩
 ·refine wpAny_passesOwn hp (thn (T.done X rfl rfl rfl hc i pins s3 σ3 H3 X.xe I3 (stat fr3) st3 stop) fun r s4 ⟨hr,I4⟩=>?_)
  subst hr
  exact wpAny_execs_nil ⟨σ3,H3,I4,qn⟩
 ·refine wpAny_passesOwn hp (thn (T.item X rfl rfl rfl hc i pins s3 σ3 H3 X.xe I3 (stat fr3) st3 go) fun r s4 ⟨u,hr,h4⟩=>?_)
  subst hr
  refine wpAny_passesOwn hp (thn h4 fun _ s5 ⟨x,H5,I5,r5,y5,st5,fr5⟩=>?_)
  have I5':=I5.pinned (stat fr5) (T.obj _ _ st5)
  refine wpAny_passesOwn hp (thn (hg _ s5 σ3 H5 x u _ I5' r5 (step x H5 y5)) fun _ s6 ⟨σ6,H6,I6,q6⟩=>?_)
  refine wpAny_passesOwn hp (thn (hb _ s6 σ6 H6 _ I6 q6) fun f s7 q7=>?_)
  have again:∀ {σ7:St} {H7:Hp},Inv X (pins++pinsAt fp s5.heap) σ7 H7 s7->N σ7 H7->∃ m,m < n/\∃ i σ' H',Inv X pins σ' H' s7/\tn i s7.heap/\(∀ b∈fp,H' b=none)/\W i m σ' H':=fun {σ7 H7} I7 n7=>by
   obtain ⟨m',hm,w7⟩:=hN σ7 H7 n7
   refine ⟨m',hm,i+1,σ7,H7,I7.unpinned,T.keep _ _ _ st5 fun b hb o e=>(I7.pin (b,o) (List.mem_append_right _ (List.mem_append_right _ (gA hb e)))).1,fun b hb=>?_,w7⟩
   obtain ⟨o,e,d⟩:=T.obj _ _ st5 b hb
   exact (I7.pin (b,o) (List.mem_append_right _ (List.mem_append_right _ (gA hb e)))).2.1
  cases f with
  | next=>obtain ⟨σ7,H7,I7,n7⟩:=q7; exact again I7 n7
  | cont=>obtain ⟨σ7,H7,I7,n7⟩:=q7; exact again I7 n7
  | brk=>obtain ⟨σ7,H7,I7,q7⟩:=q7; exact ⟨σ7,H7,I7.unpinned,q7⟩
  | ret v=>obtain ⟨x7,σ7,H7,I7,r7,q7⟩:=q7; exact ⟨x7,σ7,H7,I7.unpinned,r7,q7⟩
end
end L2
namespace L2
open PySem PySem.Spec PyProof.Rows
noncomputable abbrev R2:=V->V->Hp->VK->Prop
noncomputable def OpR (X:Cx) (f:Value->Value->Sem Value) (r:R2):Prop :=
 ∀ (pins:List (Addr×Obj)) (s:Shared) (σ:St) (H:Hp) (x y:V) (v u:Value) (Q:VK),Inv X pins σ H s->RelV x v->RelV y u->r x y H Q ->
  wpAny (model X.prog X.w) X.A (f v u) (EP X pins σ Q) X.xe s
noncomputable def UnR (X:Cx) (f:Value->Sem Value) (r:V->Hp->VK->Prop):Prop :=
 ∀ (pins:List (Addr×Obj)) (s:Shared) (σ:St) (H:Hp) (x:V) (v:Value) (Q:VK),Inv X pins σ H s->RelV x v->r x H Q ->
  wpAny (model X.prog X.w) X.A (f v) (EP X pins σ Q) X.xe s
noncomputable def CallR (X:Cx) (f:Value) (r:List V->Hp->VK->Prop):Prop :=
 ∀ (pins:List (Addr×Obj)) (s:Shared) (σ:St) (H:Hp) (xs:List V) (us:List Value) (Q:VK),Inv X pins σ H s->Vals xs us->r xs H Q ->
  wpAny (model X.prog X.w) X.A (call f us) (EP X pins σ Q) X.xe s
noncomputable def TruR (X:Cx) (r:V->Hp->(Bool->Hp->Prop)->Prop):Prop :=
 ∀ (pins:List (Addr×Obj)) (s:Shared) (σ:St) (H:Hp) (x:V) (v:Value) (Q:Bool->Hp->Prop),Inv X pins σ H s->RelV x v->r x H Q ->
  wpAny (model X.prog X.w) X.A (truthy v) (TP X pins σ Q) X.xe s
noncomputable def tOp (r:R2) (ta tb:TE):TE:=fun σ H Q=>ta σ H fun x H1=>tb σ H1 fun y H2=>r x y H2 Q
noncomputable def tUn (r:V->Hp->VK->Prop) (ta:TE):TE:=fun σ H Q=>ta σ H fun x H1=>r x H1 Q
noncomputable def rI (C:Int->Int->Prop) (g:Int->Int->V):R2:=fun x y H Q=>∃ i j,x=.int i/\y=.int j/\C i j/\Q (g i j) H
noncomputable def rI0 (g:Int->Int->V):R2:=fun x y H Q=>∃ i j,x=.int i/\y=.int j/\Q (g i j) H
noncomputable def rU (g:Int->V):V->Hp->VK->Prop:=fun x H Q=>∃ i,x=.int i/\Q (g i) H
section
variable {X:Cx} {a b c:Expr} {ta tb tc:TE} {pos:Pos}
theorem binT (ha:PE X a ta) (hb:PE X b tb) {pins:List (Addr×Obj)} {s:Shared} {σ:St} {H:Hp} {R:V->V->Hp->Prop} (I:Inv X pins σ H s)
  (h:ta σ H fun x H1=>tb σ H1 fun y H2=>R x y H2) {Q:Value->Shared->Prop} {f:Value->Value->Sem Value}
  (hf:∀ v u s2 x y H2,Inv X pins σ H2 s2->RelV x v->RelV y u->R x y H2->wpAny (model X.prog X.w) X.A (f v u) Q X.xe s2) :
  wpAny (model X.prog X.w) X.A (eval a X.env) (fun v s₁=>wpAny (model X.prog X.w) X.A (eval b X.env) (fun u s₂=>wpAny (model X.prog X.w) X.A (f v u) Q X.xe s₂) X.xe s₁) X.xe s:=by
 refine thn (ha pins s σ H _ I h) fun v s1 ⟨x,H1,I1,r1,q1⟩=>?_
 refine thn (hb pins s1 σ H1 _ I1 q1) fun u s2 ⟨y,H2,I2,r2,q2⟩=>?_
 exact hf v u s2 x y H2 I2 r1 r2 q2
theorem aKq {op:Operator} {r:R2} (ho:OpR X (binaryOp op) r) (ha:PE X a ta) (hb:PE X b tb):PE X (.BinOp a op b pos) (tOp r ta tb):=by
 intro pins s σ H Q I h
 exact wpAny_BinOp (binT ha hb I h fun v u s2 x y H2 I2 rx ry q=>ho pins s2 σ H2 x y v u Q I2 rx ry q)
theorem aMd {op:UnaryOp} {r:V->Hp->VK->Prop} (ho:UnR X (unaryOp op) r) (ha:PE X a ta):PE X (.UnaryOp op a pos) (tUn r ta):=by
 intro pins s σ H Q I h
 exact UnaryOp_ (thn (ha pins s σ H _ I h) fun v s1 ⟨x,H1,I1,r1,q1⟩=>ho pins s1 σ H1 x v Q I1 r1 q1)
theorem opI {f:Value->Value->Sem Value} {C:Int->Int->Prop} {g:Int->Int->Int}
  (rule:∀ (i j:Int) (t u:Tok) (s:Shared) (Q:Value->Shared->Prop) (E:Value->Shared->Prop),C i j->Q (.int (g i j) s.toks) { s with toks:=s.toks+1 }->wpAny (model X.prog X.w) X.A (f (.int i t) (.int j u)) Q E s) :
  OpR X f (rI C fun i j=>.int (g i j)):=by
 intro pins s σ H x y v u Q I rx ry h
 obtain ⟨i,j,rfl,rfl,hc,q⟩:=h
 obtain ⟨t,rfl⟩:=rx
 obtain ⟨t',rfl⟩:=ry
 exact rule i j t t' s _ _ hc ⟨.int (g i j),H,I.tok _,⟨_,rfl⟩,q⟩
theorem opI0 {f:Value->Value->Sem Value} {g:Int->Int->Int}
  (rule:∀ (i j:Int) (t u:Tok) (s:Shared) (Q:Value->Shared->Prop) (E:Value->Shared->Prop),Q (.int (g i j) s.toks) { s with toks:=s.toks+1 }->wpAny (model X.prog X.w) X.A (f (.int i t) (.int j u)) Q E s) :
  OpR X f (rI0 fun i j=>.int (g i j)):=by
 intro pins s σ H x y v u Q I rx ry h
 obtain ⟨i,j,rfl,rfl,q⟩:=h
 obtain ⟨t,rfl⟩:=rx
 obtain ⟨t',rfl⟩:=ry
 exact rule i j t t' s _ _ ⟨.int (g i j),H,I.tok _,⟨_,rfl⟩,q⟩
theorem opB0 {f:Value->Value->Sem Value} {g:Int->Int->Bool}
  (rule:∀ (i j:Int) (t u:Tok) (s:Shared) (Q:Value->Shared->Prop) (E:Value->Shared->Prop),Q (.bool (g i j)) s->wpAny (model X.prog X.w) X.A (f (.int i t) (.int j u)) Q E s) :
  OpR X f (rI0 fun i j=>.bl (g i j)):=by
 intro pins s σ H x y v u Q I rx ry h
 obtain ⟨i,j,rfl,rfl,q⟩:=h
 obtain ⟨t,rfl⟩:=rx
 obtain ⟨t',rfl⟩:=ry
 exact rule i j t t' s _ _ ⟨.bl (g i j),H,I,rfl,q⟩
noncomputable def CPow (i j:Int):Prop:=0<=j/\j<=1000000/\i.natAbs < 2 ^ 64
noncomputable def CMul (i j:Int):Prop:=(-(2 ^ 64) < i/\i < 2 ^ 64)\/(-(2 ^ 64) < j/\j < 2 ^ 64)
theorem CMul.ok {i j:Int} (h:CMul i j):IntMulOk i j:=by
 rcases h with ⟨h1,h2⟩ | ⟨h1,h2⟩
 ·exact .of_left (intBits_le_64 h1 h2)
 ·exact .of_right (intBits_le_64 h1 h2)
theorem aKi:OpR X (binaryOp .Add) (rI0 fun i j=>.int (i+j)):=opI0 fun _ _ _ _ _ _ _ q=>add_int q
theorem aIj:OpR X (binaryOp .Sub) (rI0 fun i j=>.int (i - j)):=opI0 fun _ _ _ _ _ _ _ q=>sub_int q
theorem aGs:OpR X (binaryOp .Mod) (rI (fun _ j=>0 < j) fun i j=>.int (i % j)):=opI fun i j _ _ _ _ _ hc q=>by
 have h1:(0:Int) < j:=hc
 exact mod_int' (by omega) (by rw [Int.fmod_eq_emod_of_nonneg i (by omega)]; exact q)
theorem aIo:OpR X (binaryOp .Pow) (rI CPow fun i j=>.int (i ^ j.toNat)):=opI fun _ _ _ _ _ _ _ hc q=>pow_int_small hc.1 hc.2.1 hc.2.2 q
theorem unI {f:Value->Sem Value} {g:Int->Int}
  (rule:∀ (i:Int) (t:Tok) (s:Shared) (Q:Value->Shared->Prop) (E:Value->Shared->Prop),Q (.int (g i) s.toks) { s with toks:=s.toks+1 }->wpAny (model X.prog X.w) X.A (f (.int i t)) Q E s) :
  UnR X f (rU fun i=>.int (g i)):=by
 intro pins s σ H x v Q I rx h
 obtain ⟨i,rfl,q⟩:=h
 obtain ⟨t,rfl⟩:=rx
 exact rule i t s _ _ ⟨.int (g i),H,I.tok _,⟨_,rfl⟩,q⟩
theorem aJz:UnR X (unaryOp .USub) (rU fun i=>.int (-i)):=unI fun _ _ _ _ _ q=>neg_int q
end
section
variable {X:Cx} {a b c:Expr} {ta tb tc:TE} {pos:Pos}
theorem aIq {pins:List (Addr×Obj)} {σ:St} {H:Hp} {s:Shared} {Q:VK} {k k':Bool} (I:Inv X pins σ H s) (q:Q (.bl k) H) (e:k=k'):EP X pins σ Q (.bool k') s:=by
 subst e
 exact ⟨.bl k,H,I,rfl,q⟩
theorem aLr:OpR X (compareOp .Lt) (rI0 fun i j=>.bl (decide (i < j))):=opB0 fun _ _ _ _ _ _ _ q=>lt_int q
theorem aLi:OpR X (compareOp .LtE) (rI0 fun i j=>.bl (decide (i<=j))):=opB0 fun _ _ _ _ _ _ _ q=>le_int q
theorem aKz:OpR X (compareOp .Gt) (rI0 fun i j=>.bl (decide (j < i))):=opB0 fun _ _ _ _ _ _ _ q=>gt_int q
theorem aLt:OpR X (compareOp .GtE) (rI0 fun i j=>.bl (decide (j<=i))):=opB0 fun _ _ _ _ _ _ _ q=>ge_int q
theorem aKh:OpR X (compareOp .Is) (fun x y H Q=>y=.non/\Q (.bl (decide (x=.non))) H):=by
 intro pins s σ H x y v u Q I rx ry h
 obtain ⟨rfl,q⟩:=h
 cases ry
 refine is_none_gen (aIq I q ?_)
 cases x <;> first
  | (cases rx; rfl)
  | (obtain ⟨t,rfl⟩:=rx; rfl)
theorem OpR.or {f:Value->Value->Sem Value} {r r':R2} (h:OpR X f r) (h':OpR X f r'):OpR X f (fun x y H Q=>r x y H Q\/r' x y H Q):=by
 intro pins s σ H x y v u Q I rx ry q
 rcases q with q | q
 ·exact h pins s σ H x y v u Q I rx ry q
 ·exact h' pins s σ H x y v u Q I rx ry q
theorem nomark (b:Expr) {op:CmpOp} (h:op≠.In:=by decide) (h2:op≠.NotIn:=by decide):behindInMarks op b=false:=by
 have e1:(op==CmpOp.In)=false:=by cases op <;> first | rfl | exact absurd rfl h
 have e2:(op==CmpOp.NotIn)=false:=by cases op <;> first | rfl | exact absurd rfl h2
 cases b <;> simp [behindInMarks,e1,e2]
theorem aEp {op:CmpOp} {r:R2} (ho:OpR X (compareOp op) r) (ha:PE X a ta) (hb:PE X b tb) (hm:behindInMarks op b=false):PE X (.Compare a [op] [b] pos) (tOp r ta tb):=by
 intro pins s σ H Q I h
 exact wpAny_Compare1 (binT ha hb I h fun v u s2 x y H2 I2 rx ry q=>ho pins s2 σ H2 x y v u Q I2 rx ry q) hm
noncomputable def tTest (t:TE):TT:=fun σ H Q=>t σ H fun x H'=>∃ k,x=.bl k/\Q k H'
theorem aEy {op:CmpOp} {r:R2} (ho:OpR X (compareOp op) r) (ha:PE X a ta) (hb:PE X b tb) (hm:behindInMarks op b=false):PT X (.Compare a [op] [b] pos) (tTest (tOp r ta tb)):=by
 intro pins s σ H Q I h
 refine wpAny_isTrue_Compare1 (thn (ha pins s σ H _ I h) fun v s1 ⟨x,H1,I1,r1,q1⟩=>thn (hb pins s1 σ H1 _ I1 q1) fun u s2 ⟨y,H2,I2,r2,q2⟩ =>
  thn (ho pins s2 σ H2 x y v u _ I2 r1 r2 q2) fun c s3 ⟨z,H3,I3,r3,k,e,q3⟩=>?_) hm
 subst e
 cases r3
 exact wpAny_truthy_bool ⟨H3,I3,q3⟩
noncomputable def tChain (r r':R2) (ta tb tc:TE):TE:=fun σ H Q=>ta σ H fun x H1=>tb σ H1 fun y H2=>r x y H2 fun z H3=>∃ k,z=.bl k /\
 (if k=true then tc σ H3 fun w' H4=>r' y w' H4 Q else Q (.bl false) H3)
theorem aCn {op op':CmpOp} {r r':R2} (ho:OpR X (compareOp op) r) (ho':OpR X (compareOp op') r') (ha:PE X a ta) (hb:PE X b tb) (hc:PE X c tc)
  (hm:lastMarks [op,op'] [b,c]=false:=by with_unfolding_all rfl):PE X (.Compare a [op,op'] [b,c] pos) (tChain r r' ta tb tc):=by
 intro pins s σ H Q I h
 refine Compare_chain (thn (ha pins s σ H _ I h) fun v s1 ⟨x,H1,I1,r1,q1⟩=>chain_link (thn (hb pins s1 σ H1 _ I1 q1) fun u s2 ⟨y,H2,I2,r2,q2⟩ =>
  thn (ho pins s2 σ H2 x y v u _ I2 r1 r2 q2) fun d s3 ⟨z,H3,I3,r3,k,e,q3⟩=>?_)) hm
 subst e
 cases r3
 refine wpAny_truthy_bool ?_
 cases k with
 | false=>exact ite_ff ⟨.bl false,H3,I3,rfl,q3⟩
 | true=>exact ite_tt (chain_last (thn (hc pins s3 σ H3 _ I3 q3) fun w' s4 ⟨z',H4,I4,r4,q4⟩=>ho' pins s4 σ H4 y z' u w' Q I4 r2 r4 q4))
theorem aBz {op op':CmpOp} {r r':R2} (ho:OpR X (compareOp op) r) (ho':OpR X (compareOp op') r') (ha:PE X a ta) (hb:PE X b tb) (hc:PE X c tc)
  (hm:lastMarks [op,op'] [b,c]=false:=by with_unfolding_all rfl):PT X (.Compare a [op,op'] [b,c] pos) (tTest (tChain r r' ta tb tc)):=by
 intro pins s σ H Q I h
 refine isTrue_chain (thn (ha pins s σ H _ I h) fun v s1 ⟨x,H1,I1,r1,q1⟩=>test_link (thn (hb pins s1 σ H1 _ I1 q1) fun u s2 ⟨y,H2,I2,r2,q2⟩ =>
  thn (ho pins s2 σ H2 x y v u _ I2 r1 r2 q2) fun d s3 ⟨z,H3,I3,r3,k,e,q3⟩=>?_)) hm
 subst e
 cases r3
 refine wpAny_truthy_bool ?_
 cases k with
 | false =>
  obtain ⟨k',e',q'⟩:=q3
  cases e'
  exact ite_ff ⟨H3,I3,q'⟩
 | true =>
  refine ite_tt (test_last (thn (hc pins s3 σ H3 _ I3 q3) fun w' s4 ⟨z',H4,I4,r4,q4⟩=>thn (ho' pins s4 σ H4 y z' u w' _ I4 r2 r4 q4) fun d' s5 ⟨z2,H5,I5,r5,k2,e2,q5⟩=>?_))
  subst e2
  cases r5
  exact wpAny_truthy_bool ⟨H5,I5,q5⟩
noncomputable def TruV (K:PySem.W.Frag) (x:V) (H:Hp) (k:Bool):Prop :=
 match x with
 | .non=>k=false
 | .bl b=>k=b
 | .int i=>k=(i != 0)
 | .str y=>y.length<=sizeLine/\k=((y.length:Int) != 0)
 | .byt y=>y.size<=sizeLine/\k=((y.size:Int) != 0)
 | .ref p=>(∃ xs,SqL K H p xs/\k=!xs.isEmpty)\/(∃ xs,SqT K H p xs/\k=!xs.isEmpty)\/∃ kvs,H p=some (.dK kvs)/\k=!kvs.isEmpty
 | _=>False
theorem vM {κ:Type} {kvs:List (κ×V)} {vs:List (κ×Value)} (r:KV kvs vs):(!vs.isEmpty)=!kvs.isEmpty:=by
 cases r <;> rfl
theorem nY {xs:List V} {its:List Value} (r:Vals xs its):(!its.toArray.isEmpty)=!xs.isEmpty:=by
 cases r <;> simp
theorem line63:(sizeLine:Nat) < 2 ^ 63:=by rw [sizeLine_eq]; decide
theorem aIf:TruR X (fun x H Q=>∃ k,TruV X.K x H k/\Q k H):=by
 intro pins s σ H x v Q I rx h
 obtain ⟨k,e,q⟩:=h
 have hl:=line63
 have hs:sizeLine=16777216:=sizeLine_eq
 cases x with
 | non =>
  cases rx
  have e':k=false:=e
  subst e'
  exact truthy_none ⟨H,I,q⟩
 | bl b =>
  cases rx
  have e':k=b:=e
  subst e'
  exact wpAny_truthy_bool ⟨H,I,q⟩
 | int i =>
  obtain ⟨t,rfl⟩:=rx
  have e':k=(i != 0):=e
  subst e'
  exact PySem.P.truthy_int ⟨H,I,q⟩
 | str y =>
  obtain ⟨t,rfl⟩:=rx
  obtain ⟨hy,e'⟩:y.length<=sizeLine/\k=((y.length:Int) != 0):=e
  subst e'
  exact PySem.P.truthy_str (by omega) ⟨H,I.tok _,q⟩
 | byt y =>
  obtain ⟨t,rfl⟩:=rx
  obtain ⟨hy,e'⟩:y.size<=sizeLine/\k=((y.size:Int) != 0):=e
  subst e'
  exact PySem.W.truthy_bytes (by omega) ⟨H,I.tok _,q⟩
 | ref p =>
  cases rx
  have e':(∃ xs,SqL X.K H p xs/\k=!xs.isEmpty)\/(∃ xs,SqT X.K H p xs/\k=!xs.isEmpty)\/∃ kvs,H p=some (.dK kvs)/\k=!kvs.isEmpty:=e
  rcases e' with ⟨xs,hx,e'⟩ | ⟨xs,hx,e'⟩ | ⟨kvs,hx,e'⟩
  ·subst e'
   obtain ⟨its,r,pl,hz⟩:=I.list hx
   have hlen:=r.length
   exact wpAny_truthy_list pl.isList (by simp only [List.size_toArray]; omega) ⟨H,I.tok _,by rw [nY r]; exact q⟩
  ·subst e'
   obtain ⟨its,r,pl,hz⟩:=I.tuple hx
   have hlen:=r.length
   exact truthy_tuple pl (by simp only [List.size_toArray]; omega) ⟨H,I.tok _,by rw [nY r]; exact q⟩
  ·subst e'
   obtain ⟨hz,hS,vs,r,m⟩:kvs.length<=sizeLine/\(p==sysModules)=false/\∃ vs,KV kvs vs/\s.heap.DictOf (mixKind X.prog X.w) p vs:=I.hok p _ hx
   have hlen:kvs.length=vs.length:=Paired.length r
   exact wpAny_truthy_dict hS m (by omega) ⟨H,I.tok _,by rw [vM r]; exact q⟩
 | _=>exact (show False from e).elim
theorem aAj (ha:PE X a ta) (he:∀ whole,isTrue a X.env whole=(do let v <- whole; standAt a.pos; holding [v] (truthy v))) :
  PT X a (fun σ H Q=>ta σ H fun x H'=>∃ k,TruV X.K x H' k/\Q k H'):=by
 intro pins s σ H Q I h
 exact isTrue_plain (thn (ha pins s σ H _ I h) fun v s1 ⟨x,H1,I1,r1,q1⟩=>aIf pins s1 σ H1 x v Q I1 r1 q1) (he _)
theorem uY:OpR X (binaryOp .Add) (fun x y H Q=>∃ i j,x=.str i/\y=.str j/\i.length+j.length<=sizeLine/\Q (.str (i++j)) H):=by
 intro pins s σ H x y v u Q I rx ry h
 obtain ⟨i,j,rfl,rfl,hz,q⟩:=h
 obtain ⟨t,rfl⟩:=rx
 obtain ⟨t',rfl⟩:=ry
 exact add_str (fun t' tk=>⟨.str (i++j),H,I.tok _,⟨_,rfl⟩,q⟩) hz
theorem vals1 {x:V} {us:List Value} (r:Vals [x] us):∃ u,us=[u]/\RelV x u:=by
 cases r with
 | cons r1 r2=>cases r2; exact ⟨_,rfl,r1⟩
theorem vals2 {x y:V} {us:List Value} (r:Vals [x,y] us):∃ u w',us=[u,w']/\RelV x u/\RelV y w':=by
 cases r with
 | cons r1 r2 =>
  cases r2 with
  | cons r3 r4=>cases r4; exact ⟨_,_,rfl,r1,r3⟩
theorem zR (hc:X.calm=true):CallR X (.builtin "max") (fun xs H Q=>∃ i j,xs=[.int i,.int j]/\Q (.int (if j > i then j else i)) H):=by
 intro pins s σ H xs us Q I r h
 obtain ⟨i,j,rfl,q⟩:=h
 obtain ⟨u,w',rfl,⟨t,rfl⟩,⟨t',rfl⟩⟩:=vals2 r
 refine max_two_ints (I.ok.hd hc) fun h' tk k=>⟨_,H,I.kept k,?_,q⟩
 by_cases hj:j > i
 ·rw [if_pos hj,if_pos hj]; exact ⟨_,rfl⟩
 ·rw [if_neg hj,if_neg hj]; exact ⟨_,rfl⟩
theorem yR (hc:X.calm=true):CallR X (.builtin "min") (fun xs H Q=>∃ i j,xs=[.int i,.int j]/\Q (.int (if j < i then j else i)) H):=by
 intro pins s σ H xs us Q I r h
 obtain ⟨i,j,rfl,q⟩:=h
 obtain ⟨u,w',rfl,⟨t,rfl⟩,⟨t',rfl⟩⟩:=vals2 r
 refine min_two_ints (I.ok.hd hc) fun h' tk k=>⟨_,H,I.kept k,?_,q⟩
 by_cases hj:j < i
 ·rw [if_pos hj,if_pos hj]; exact ⟨_,rfl⟩
 ·rw [if_neg hj,if_neg hj]; exact ⟨_,rfl⟩
theorem yZ:CallR X (.type "int") (fun xs H Q=>(∃ i,xs=[.int i]/\Q (.int i) H)\/∃ k,xs=[.bl k]/\Q (.int (if k then 1 else 0)) H):=by
 intro pins s σ H xs us Q I r h
 rcases h with ⟨i,rfl,q⟩ | ⟨k,rfl,q⟩
 ·obtain ⟨u,rfl,t,rfl⟩:=vals1 r
  exact call_int_int ⟨.int i,H,I,⟨_,rfl⟩,q⟩
 ·obtain ⟨u,rfl,r1⟩:=vals1 r
  cases r1
  exact call_int_bool ⟨.int (if k then 1 else 0),H,I.tok _,⟨_,rfl⟩,q⟩
end
end L2
namespace L2
open PySem PySem.Spec PyProof.Rows
structure ObjM (h:Heap) (x dx C:Addr) (mA:Str->Option Value):Prop where
 obj:h.get? x=some (PySem.W.instObj C dx)
 ns:h.Ns1 dx mA
 ne:dx≠x
theorem zE {h:Heap} {dx:Addr} {mA:Str->Option Value} (n:h.Ns1 dx mA):∃ od,h.get? dx=some od/\∀ name,PySem.W.lookIn name od=some (mA name):=by
 obtain ⟨o,es,ep,ho,hd,hk,_,hm⟩:=n
 refine ⟨o,ho,fun name=>?_⟩
 have e:=hm name
 unfold nsFind findBy at e
 rw [<- Array.find?_toList] at e
 unfold PySem.W.lookIn
 rw [hd]
 dsimp only
 split
 ·rename_i y q
  rw [q] at e
  exact congrArg some e
 ·rename_i q
  rw [q] at e
  have a:es.toList.any (·.refKey)=false:=by
   rw [List.any_eq_false]
   intro y hy
   obtain ⟨z,t,hkey⟩:=hk y (Array.mem_toList_iff.mp hy)
   simp [DictEntry.refKey,hkey]
  have a':¬ es.toList.any (·.refKey)=true:=by rw [a]; exact Bool.false_ne_true
  rw [if_neg a']
  exact congrArg some e
theorem ObjM.look {h:Heap} {x dx C:Addr} {mA:Str->Option Value} (I:ObjM h x dx C mA):∃ od,PySem.W.InstAt h x (PySem.W.instObj C dx) C (some od)/\∀ name,PySem.W.lookIn name od=some (mA name) :=
 let ⟨od,ho,hl⟩:=zE I.ns
 ⟨od,⟨I.obj,rfl,rfl,ho⟩,hl⟩
section
variable {prog:Program} {w:World} {A:Around} {E:Value->Shared->Prop} {s:Shared} {K:PySem.W.Frag} {x dx C f:Addr} {mA:Str->Option Value} {name:Str} {v:Value}
end
section
variable {P:Program} {w:World} {H H':Hp} {h h':Heap} {a C dx:Addr} {fs fs':List (Str×V)}
theorem aEq (hok:HOk P w H h) (e:H a=some (.ins C dx fs)):∃ mA,ObjM h a dx C mA/\(∀ f,RelO (fs.lookup f) (mA f))/\PySem.Within mA (fs.map (·.1))/\fs.length<=1000/\H dx=some (.own a):=by
 obtain ⟨d,z,ne,ob,mA,n,r,q⟩:=(show ObjOk P w H h a (.ins C dx fs) from hok a _ e)
 exact ⟨mA,⟨ob,n,ne⟩,r,q,z,d⟩
end
structure Cls (K:PySem.W.Frag) (C:Addr):Prop where
 pg:PySem.W.plainGet K C Str.empty=true
 hd:PySem.W.hasDictIn K C=true
 po:PySem.W.plainOver K C=true
 sa:PySem.W.findIn K (.ref C) "__setattr__"=some (some (.builtin "object.__setattr__"))
theorem Cls.get {K:PySem.W.Frag} {C:Addr} (c:Cls K C) (f:Str):PySem.W.plainGet K C f=true:=c.pg
structure Con (K:PySem.W.Frag) (C:Addr) (f:Str) (v:V) (u:Value):Prop where
 at_:PySem.W.findIn K (.ref C) f=some (some u)
 rel:RelV v u
 get:PySem.W.specialIn K u "__get__"=some none
 cp:PySem.W.copiedNames.contains f=false
structure Meth (K:PySem.W.Frag) (C:Addr) (m:Str) (f:Addr):Prop where
 at_:PySem.W.findIn K (.ref C) m=some (some (.ref f))
 fn:PySem.W.isFn K (.ref f)=true
 kp:PySem.W.keepIn K (.ref f)=true
section
variable {X:Cx} {pins:List (Addr×Obj)} {σ:St} {H:Hp} {s:Shared} {a C dx:Addr} {fs:List (Str×V)} {f:Str} {v:V} {A:Around} {E:Value->Shared->Prop}
theorem Inv.made (I:Inv X pins σ H s):Inv X pins σ (upd (upd H s.heap.objs.size (.own (s.heap.objs.size+1))) (s.heap.objs.size+1) (.ins C s.heap.objs.size []))
  { s with heap:=(s.heap.push PySem.W.emptyDict).push (PySem.W.instObj C s.heap.objs.size) }:=by
 have e1:(s.heap.push PySem.W.emptyDict).get? s.heap.objs.size=some PySem.W.emptyDict:=Heap.get?_push_size s.heap rfl
 have e2:((s.heap.push PySem.W.emptyDict).push (PySem.W.instObj C s.heap.objs.size)).get? (s.heap.objs.size+1)=some (PySem.W.instObj C s.heap.objs.size):=by
  have:=Heap.get?_push_size (s.heap.push PySem.W.emptyDict) (o:=PySem.W.instObj C s.heap.objs.size) rfl
  rwa [Heap.size_push] at this
 have e3:(s.heap.push PySem.W.emptyDict).Ns s.heap.objs.size (fun _=>none):=⟨PySem.W.emptyDict,#[],_,e1,rfl,(fun e he=>absurd he (by simp)),fun _=>rfl⟩
 have I1:=I.laid (a:=s.heap.objs.size) (o:=.own (s.heap.objs.size+1)) (h':=s.heap.push PySem.W.emptyDict) (t':=s.toks) (fun b u q=>Heap.get?_push_of_some _ q) (Nat.le_refl _) ⟨_,e1⟩
 refine I1.laid (a:=s.heap.objs.size+1) (o:=.ins C s.heap.objs.size []) (t':=s.toks) (fun b u q=>Heap.get?_push_of_some _ q) (Nat.le_of_eq (Heap.size_push _ _)) ?_
 have ne:s.heap.objs.size≠s.heap.objs.size+1:=Nat.ne_of_lt (Nat.lt_succ_self _)
 refine ⟨by rw [bF ne,dX],Nat.zero_le _,ne,e2,fun _=>none,(Heap.Ns1.of_empty e3).at fun o q=>Heap.get?_push_of_some _ q,fun _=>True.intro,fun y hy=>absurd rfl hy⟩
end
section
variable {X:Cx} {o e value:Expr} {f:Str} {pos pos' tpos:Pos} {ta tv:TE}
end
section
variable {X:Cx} {pins:List (Addr×Obj)} {σ:St} {H:Hp} {s:Shared} {A:Around} {E:Value->Shared->Prop} {Q:Value->Shared->Prop} {c:Value} {b:Bool}
inductive TyOf (K:PySem.W.Frag) (H:Hp):V->Value->Prop where
 | non:TyOf K H .non (.type "NoneType")
 | bl (x:Bool):TyOf K H (.bl x) (.type "bool")
 | int (i:Int):TyOf K H (.int i) (.type "int")
 | str (x:Str):TyOf K H (.str x) (.type "str")
 | flt (x:UInt64):TyOf K H (.flt x) (.type "float")
 | lst {a:Addr} {xs:List V} (e:H a=some (.lst xs)):TyOf K H (.ref a) (.type "list")
 | frz {a:Addr} {o:Obj} {xs:List V} (e:H a=some (.frz o (.lst xs))):TyOf K H (.ref a) (.type "list")
 | tup {a:Addr} {xs:List V} (e:H a=some (.tup xs)):TyOf K H (.ref a) (.type "tuple")
 | dK {a:Addr} {kvs:List (Key×V)} (e:H a=some (.dK kvs)):TyOf K H (.ref a) (.type "dict")
 | dT {a:Addr} {kvs:List (List Key×V)} (e:H a=some (.dT kvs)):TyOf K H (.ref a) (.type "dict")
 | ins {a C dx:Addr} {fs:List (Str×V)} (e:H a=some (.ins C dx fs)) (cl:Cls K C) (ha:PySem.W.findIn K (.ref C) "__class__"=some (some (.builtin "object.__class__")))
   (hn:PySem.W.specialIn K (.builtin "object.__class__") "__get__"=some (some (.builtin "getset_descriptor.__get__"))) (htk:PySem.W.takesIn K (.builtin "object.__class__")=some true)
   (hm:PySem.W.mroIn K C (.type "object")=some true):TyOf K H (.ref a) (.ref C)
theorem yN {x:V} {u t:Value} (I:Inv X pins σ H s) (rx:RelV x u) (ty:TyOf X.K H x t) (e:PySem.W.kitOne X.K t c=some b) (h:∀ tk,Q (.bool b) { s with toks:=tk }) :
  wpAny (model X.prog X.w) A (call (.builtin "isinstance") [u,c]) Q E s:=by
 cases ty with
 | non=>cases (show u=Value.none from rx); exact PySem.W.kia_one PySem.W.kitx_none I.kIn True.intro e (fun z=>nomatch z) h
 | bl y=>cases (show u=Value.bool y from rx); exact PySem.W.kia_one PySem.W.kitx_bool I.kIn True.intro e (fun z=>nomatch z) h
 | int i=>obtain ⟨t,q⟩:=(show ∃ t,u=Value.int i t from rx); cases q; exact PySem.W.kia_one PySem.W.kitx_int I.kIn True.intro e (fun z=>nomatch z) h
 | str y=>obtain ⟨t,q⟩:=(show ∃ t,u=Value.str y t from rx); cases q; exact PySem.W.kia_one PySem.W.kitx_str I.kIn True.intro e (fun z=>nomatch z) h
 | flt y=>obtain ⟨t,q⟩:=(show ∃ t,u=Value.float y t from rx); cases q; exact PySem.W.kia_one PySem.W.kitx_float I.kIn True.intro e (fun z=>nomatch z) h
 | @lst a xs ea =>
  cases (show u=Value.ref a from rx)
  obtain ⟨_,_,n,_,h1⟩:=(show ObjOk X.prog X.w H s.heap a (.lst xs) from I.hok a _ ea)
  exact PySem.W.kia_one PySem.W.kitx_list I.kIn ⟨_,h1,rfl⟩ e (fun z=>nomatch z) h
 | @frz a ob xs ea =>
  cases (show u=Value.ref a from rx)
  obtain ⟨_,_,_,n,_,h1⟩:=(show ObjOk X.prog X.w H s.heap a (.frz ob (.lst xs)) from I.hok a _ ea)
  exact PySem.W.kia_one PySem.W.kitx_list I.kIn ⟨_,h1,rfl⟩ e (fun z=>nomatch z) h
 | @tup a xs ea =>
  cases (show u=Value.ref a from rx)
  obtain ⟨_,_,_,p⟩:=(show ObjOk X.prog X.w H s.heap a (.tup xs) from I.hok a _ ea)
  obtain ⟨o,h1,h2,_⟩:=p
  exact PySem.W.kia_one PySem.W.kitx_tuple I.kIn ⟨o,h1,h2⟩ e (fun z=>nomatch z) h
 | @dK a kvs ea =>
  cases (show u=Value.ref a from rx)
  obtain ⟨_,_,vs,_,p⟩:=(show ObjOk X.prog X.w H s.heap a (.dK kvs) from I.hok a _ ea)
  obtain ⟨o,es,ep,h1,h2,_⟩:=p
  exact PySem.W.kia_one PySem.W.kitx_dict I.kIn ⟨o,h1,h2.1⟩ e (fun z=>nomatch z) h
 | @dT a kvs ea =>
  cases (show u=Value.ref a from rx)
  obtain ⟨_,_,xs,_,o,es,ep,h1,h2,_⟩:=(show ObjOk X.prog X.w H s.heap a (.dT kvs) from I.hok a _ ea)
  exact PySem.W.kia_one PySem.W.kitx_dict I.kIn ⟨o,h1,h2.1⟩ e (fun z=>nomatch z) h
 | @ins a C dx fs ea cl ha hn htk hm =>
  cases (show u=Value.ref a from rx)
  obtain ⟨mA,O,_⟩:=aEq I.hok ea
  obtain ⟨od,J,_⟩:=O.look
  exact PySem.W.kia_one (PySem.W.kitx_own (cl.get _) cl.hd ha hn htk hm) I.kIn J e (fun z=>nomatch z) h
end
end L2
namespace L2
open PySem PySem.Spec PyProof.Rows
structure Room (k:Nat) (A:Around):Prop where
 hd:A.handled=none
 dp:A.depth+3*k+5 < recursionLimit
 un:A.units+16*k+200 < cLine
theorem Room.mono {j k:Nat} {A:Around} (r:Room k A) (h:j<=k):Room j A:=⟨r.hd,by have:=r.dp; omega,by have:=r.un; omega⟩
theorem Room.deeper {k:Nat} {A:Around} (r:Room (k+1) A) (env:Env):Room k (A.deeper env) :=
 ⟨r.hd,by have:=r.dp; show A.depth+1+3*k+5 < _; omega,by have:=r.un; show A.units+3+16*k+200 < _; omega⟩
theorem Room.in1 {k:Nat} {A:Around} (r:Room (k+1) A):Room k A.in1 :=
 ⟨r.hd,by have:=r.dp; show A.depth+3*k+5 < _; omega,by have:=r.un; show A.units+1+16*k+200 < _; omega⟩
theorem Room.depth {k:Nat} {A:Around} (r:Room k A):A.depth < recursionLimit:=by have:=r.dp; omega
theorem Room.units {k:Nat} {A:Around} (r:Room k A):A.units+64 < cLine:=by have:=r.un; omega
noncomputable def tNil:TA:=fun _ H Q=>Q [] H
noncomputable def tCons (ta:TE) (tr:TA):TA:=fun σ H Q=>ta σ H fun x H1=>tr σ H1 fun xs H2=>Q (x::xs) H2
section
variable {X:Cx} {e:Expr} {es:List Expr} {te:TE} {t:TA} {pos:Pos}
theorem fN:PA X [] tNil:=fun _ _ _ _ H Q I h=>Calls.spliced_nil ⟨[],H,I,.nil,h⟩
theorem cY (ha:PE X e te) (hr:PA X es t) (hs:starEach (e::es) X.env=(false,eval e X.env)::starEach es X.env:=by rfl):PA X (e::es) (tCons te t):=by
 intro pos pins s σ H Q I h
 rw [hs]
 show wpAny _ _ (spliced ((false,eval e X.env)::backTo pos (starEach es X.env))) _ _ s
 refine Calls.spliced_cons (thn (ha pins s σ H _ I h) fun u s1 ⟨x,H1,I1,r1,q1⟩=>?_)
 exact thn (hr pos pins s1 σ H1 _ I1 q1) fun us s2 ⟨xs,H2,I2,r2,q2⟩=>⟨x::xs,H2,I2,.cons r1 r2,q2⟩
noncomputable def tTup (t:TA):TE:=fun σ H Q=>t σ H fun xs H1=>xs.length<=sizeLine/\∀ p,H1 p=none->Q (.ref p) (upd H1 p (.tup xs))
noncomputable def tLst (t:TA):TE:=fun σ H Q=>t σ H fun xs H1=>xs.length<=sizeLine/\∀ p,H1 p=none->Q (.ref p) (upd H1 p (.lst xs))
theorem aKf {x1} (h:PA X es t):PE X (.Tuple es x1 pos) (tTup t):=by
 intro pins s σ H Q I hq
 refine wpAny_Tuple_spliced (thn (h pos pins s σ H _ I hq) fun us s1 ⟨xs,H1,I1,r,z,q⟩=>⟨by rw [<- r.length]; exact z,?_⟩)
 have hf:H1 s1.heap.objs.size=none:=I1.hok.fresh (Nat.le_refl _)
 refine ⟨.ref s1.heap.objs.size,upd H1 s1.heap.objs.size (.tup xs),I1.laid (t':=s1.toks) (fun b u e=>Heap.get?_push_of_some _ e) (Nat.le_refl _) ?_,rfl,q _ hf⟩
 exact ⟨z,us,r,⟨_,Heap.get?_push_size _ rfl,rfl,_,rfl⟩⟩
theorem uZ (h:PA X es t):PE X (.List es pos) (tLst t):=by
 intro pins s σ H Q I hq
 refine wpAny_List_spliced (thn (h pos pins s σ H _ I hq) fun us s1 ⟨xs,H1,I1,r,z,q⟩=>⟨by rw [<- r.length]; exact z,?_⟩)
 have hf:H1 s1.heap.objs.size=none:=I1.hok.fresh (Nat.le_refl _)
 refine ⟨.ref s1.heap.objs.size,upd H1 s1.heap.objs.size (.lst xs),I1.laid (t':=s1.toks) (fun b u e=>Heap.get?_push_of_some _ e) (Nat.le_refl _) ?_,rfl,q _ hf⟩
 exact ⟨z,us,0,r,Heap.get?_push_size _ rfl⟩
end
noncomputable abbrev Sp:=List V->Hp->VK->XK->Prop
noncomputable abbrev CXT:=List Env->Hp->Shared->XK->Value->Shared->Prop
structure Env0 (P:Program) (w:World) (K:PySem.W.Frag) (mg:Str->Option Value) (base:Heap) (A:Around) (outer:List Env) (s:Shared) (H:Hp):Prop where
 frames:A.frames=some outer
 mod:Mod K mg base
 bs:∀ b o,base.get? b=some o->s.heap.get? b=some o/\H b=none
 bsz:base.objs.size<=s.heap.objs.size
 funs:s.heap.FunFrames base outer
 frf:∀ b∈frs outer,H b=none
 hok:HOk P w H s.heap
 bare:AllBare s.gens
noncomputable def CE (outer:List Env) (P:Program) (w:World) (H:Hp) (s:Shared) (Q:VK) (u:Value) (s':Shared):Prop :=
 ∃ v H',s'.os=s.os/\AllBare s'.gens/\Un (frs outer) [] H H' s.heap s'.heap/\HOk P w H' s'.heap/\RelV v u/\Q v H'
noncomputable def CR (CX:CXT) (outer:List Env) (P:Program) (w:World) (H:Hp) (s:Shared) (Q:VK) (E:XK) (r:Result) (s':Shared):Prop :=
 match r with
 | .ok (.ret u)=>CE outer P w H s Q u s'
 | .ok _=>False
 | .error e=>CX outer H s E e s'
structure FnOk (P:Program) (w:World) (K:PySem.W.Frag) (mg:Str->Option Value) (base:Heap) (CX:CXT) (k:Nat) (f:Addr) (fd:FuncData) (ps:List Str) (sp:Sp):Prop where
 len:∀ vs H Q E,sp vs H Q E->vs.length=ps.length
 run:∀ (A:Around) (outer:List Env) (s:Shared) (H:Hp) (args:Args) (us:List Value) (vs:List V) (Q:VK) (E:XK),Room k A->Env0 P w K mg base A outer s H->BindsTo s fd args (ps.zip us)->Vals vs us->sp vs H Q E ->
  codeAny (model P w) A (.call (.ref f) args) (CR CX outer P w H s Q E) s
theorem FnOk.mono {P:Program} {w:World} {K:PySem.W.Frag} {mg:Str->Option Value} {base:Heap} {CX:CXT} {j k:Nat} {f:Addr} {fd:FuncData} {ps:List Str} {sp:Sp} (F:FnOk P w K mg base CX j f fd ps sp) (h:j<=k) :
  FnOk P w K mg base CX k f fd ps sp:=⟨F.len,fun A outer s H args us vs Q E hr=>F.run A outer s H args us vs Q E (hr.mono h)⟩
theorem FnOk.imp {P:Program} {w:World} {K:PySem.W.Frag} {mg:Str->Option Value} {base:Heap} {CX:CXT} {k:Nat} {f:Addr} {fd:FuncData} {ps:List Str} {sp sp':Sp} (F:FnOk P w K mg base CX k f fd ps sp)
  (h:∀ vs H Q E,sp' vs H Q E->sp vs H Q E):FnOk P w K mg base CX k f fd ps sp' :=
 ⟨fun vs H Q E q=>F.len vs H Q E (h _ _ _ _ q),fun A outer s H args us vs Q E hr he hb hv hs=>F.run A outer s H args us vs Q E hr he hb hv (h _ _ _ _ hs)⟩
theorem Env0.in1 {P:Program} {w:World} {K:PySem.W.Frag} {mg:Str->Option Value} {base:Heap} {A:Around} {outer:List Env} {s:Shared} {H:Hp} (e:Env0 P w K mg base A outer s H) :
  Env0 P w K mg base A.in1 outer s H:=⟨e.frames,e.mod,e.bs,e.bsz,e.funs,e.frf,e.hok,e.bare⟩
section
variable {X:Cx} {pins:List (Addr×Obj)} {σ:St} {H:Hp} {s s':Shared}
theorem Inv.env0 (I:Inv X pins σ H s):Env0 X.prog X.w X.K X.mg X.base X.A X.stack s H :=
 ⟨I.ok.frames,I.ok.mod,I.bs,Nat.le_trans I.ok.bsz I.sz,I.stack,I.stkFree,I.hok,I.bare⟩
theorem Inv.after {Q:VK} {u:Value} (I:Inv X pins σ H s) (h:CE X.stack X.prog X.w H s Q u s'):EP X pins σ Q u s':=by
 obtain ⟨v,H',os,bare,un,hok,r,q⟩:=h
 obtain ⟨hh,g,d,t,os'⟩:=s'
 obtain rfl:os'=s.os:=os
 exact ⟨v,H',I.call (h':=hh) (g':=g) (d':=d) (t':=t) (ch:=[]) un hok bare (fun b z=>absurd z (by simp)),r,q⟩
end
noncomputable def tCall (sp:Sp) (dvs:List V) (E:XK) (t:TA):TE:=fun σ H Q=>t σ H fun vs H1=>sp (vs++dvs) H1 Q E
noncomputable def Binds (K:PySem.W.Frag) (fd:FuncData) (ps:List Str) (ds:List Value):Prop :=
 ∀ (s:Shared) (us:List Value),K.In s.heap->(us++ds).length=ps.length->BindsTo s fd ⟨us,[]⟩ (ps.zip (us++ds))
theorem Binds.all {K:PySem.W.Frag} {fd:FuncData} {ps:List Str} (h:∀ us:List Value,us.length=ps.length->bindArgs fd ⟨us,[]⟩=pure (ps.zip us)):Binds K fd ps []:=fun s us _ hl=>by
 rw [List.append_nil] at hl ⊢
 exact .of_eq (h us hl)
noncomputable def Passes (CX:CXT) (X:Cx) (E:XK):Prop:=∀ (pins:List (Addr×Obj)) (σ:St) (H:Hp) (s:Shared) (e:Value) (s':Shared),Inv X pins σ H s->CX X.stack H s E e s'->X.xe e s'
section
variable {X:Cx} {CX:CXT} {k:Nat} {f C:Addr} {fd:FuncData} {ps:List Str} {sp:Sp} {dvs:List V} {ds:List Value} {E:XK} {x m:Str} {p pos apos:Pos} {e o:Expr} {es:List Expr} {ta:TE} {t:TA}
theorem aHy {pins:List (Addr×Obj)} {σ:St} {H:Hp} {s:Shared} {Q:VK} {us:List Value} {vs:List V} (F:FnOk X.prog X.w X.K X.mg X.base CX k f fd ps sp) (hr:Room k X.A) (hb:Binds X.K fd ps ds) (hd:Vals dvs ds) (hx:Passes CX X E)
  (I:Inv X pins σ H s) (r:Vals vs us) (h:sp (vs++dvs) H Q E):wpAny (model X.prog X.w) X.A (call (.ref f) us) (EP X pins σ Q) X.xe s:=by
 have r2:Vals (vs++dvs) (us++ds):=r.append hd
 have hl:(us++ds).length=ps.length:=by rw [<- r2.length]; exact F.len _ _ _ _ h
 refine wpAny_call (codeAny_mono (F.run X.A X.stack s H ⟨us,[]⟩ (us++ds) (vs++dvs) Q E hr I.env0 (hb s us I.kIn hl) r2 h) fun r s' hq=>?_)
 cases r with
 | error e=>exact hx pins σ H s e s' I hq
 | ok fl =>
  cases fl with
  | ret u=>exact I.after hq
  | next=>exact False.elim hq
  | brk=>exact False.elim hq
  | cont=>exact False.elim hq
theorem aFa (F:FnOk X.prog X.w X.K X.mg X.base CX k f fd ps sp) (hr:Room k X.A) (hg:Gl X x) (hm:X.mg x=some (.ref f)) (hk:PySem.W.keepIn X.K (.ref f)=true) (hb:Binds X.K fd ps ds) (hd:Vals dvs ds) (hx:Passes CX X E)
  (ha:PA X (e::es) t) (hdb:(x==("__debug__":Str))=false:=by decide) (he:starEach (e::es) X.env=(false,eval e X.env)::starEach es X.env:=by rfl) (hpl:(backTo pos (starEach es X.env)).any (·.1)=false:=by rfl) :
  PE X (.Call (.Name x p) (e::es) [] pos) (tCall sp dvs E t):=by
 intro pins s σ H Q I h
 refine wpAny_Call_Name_kw (aDz I hg hm ?_ hdb)
 refine PySem.W.callWith_K (h₀:=X.base) I.ok.mod.kin hk (thn (ha pos pins s σ H _ I h) fun us s1 ⟨vs,H1,I1,r,q⟩=>⟨I1.kIn,?_⟩) he hpl
 exact aHy F hr hb hd hx I1 r q
structure Mk (K:PySem.W.Frag) (C f:Addr):Prop where
 makes:PySem.W.makesIn K C=true
 init:PySem.W.findIn K (.ref C) "__init__"=some (some (.ref f))
 fn:PySem.W.isFn K (.ref f)=true
 kp:PySem.W.keepIn K (.ref C)=true
end
section
variable {X:Cx} {CX:CXT} {k:Nat} {f C:Addr} {fd:FuncData} {ps ks:List Str} {sp:Sp} {E:XK} {x m:Str} {p pos apos kpos:Pos} {e o:Expr} {es:List Expr} {kws:List Keyword} {te ta:TE} {t tk:TA} {nm:Option Str}
structure KBinds (K:PySem.W.Frag) (fd:FuncData) (ps ks:List Str) (g:List Value->List Value->List Value) (gV:List V->List V->List V):Prop where
 to:∀ (s:Shared) (us ws:List Value),K.In s.heap->(g us ws).length=ps.length->BindsTo s fd ⟨us,ks.zip ws⟩ (ps.zip (g us ws))
 rel:∀ {vs:List V} {us:List Value} {zs:List V} {ws:List Value},Vals vs us->Vals zs ws->Vals (gV vs zs) (g us ws)
variable {g:List Value->List Value->List Value} {gV:List V->List V->List V}
end
structure FnScope (N P:List Str) (sc:Scope):Prop where
 kind:sc.kind=.function
 co:sc.isCoroutine=false
 gen:sc.isGenerator=false
 nd:N.Nodup
 pre:N.take P.length=P
 par:∀ x∈P,sc.names.lookup x=some .local\/sc.names.lookup x=some .cell
 nofree:∀ y∈sc.names,y.2≠.free
theorem pZ {kindOf:Str->Option NameKind} {x:Str}:∀ {binds:List (Str×Value)} {m:Str->Option Value},(∀ v,(x,v)∉binds)->bindL kindOf binds m x=m x
 | [],_,_=>rfl
 | (n,v)::r,m,h=>by
  unfold bindL
  rw [pZ fun w hw=>h w (List.mem_cons_of_mem _ hw)]
  split
  ·have:x≠n:=by rintro rfl; exact h v List.mem_cons_self
   simp [this]
  ·rfl
theorem pS {kindOf:Str->Option NameKind} {x:Str}:∀ {binds:List (Str×Value)} {m:Str->Option Value},(∀ v,(x,v)∉binds)->bindC kindOf binds m x=m x
 | [],_,_=>rfl
 | (n,v)::r,m,h=>by
  unfold bindC
  rw [pS fun w hw=>h w (List.mem_cons_of_mem _ hw)]
  split
  ·rfl
  ·have:x≠n:=by rintro rfl; exact h v List.mem_cons_self
   simp [this]
theorem pU {kindOf:Str->Option NameKind} {x:Str} {v:Value}:∀ {P:List Str} {vs:List Value} {i:Nat} {m:Str->Option Value},P.Nodup->P[i]?=some x->vs[i]?=some v->kindOf x=some .local ->
  bindL kindOf (P.zip vs) m x=some v
 | [],_,_,_,_,h,_,_=>by simp at h
 | _::_,[],_,_,_,_,h,_=>by simp at h
 | p::P,w::vs,0,m,nd,h1,h2,hk=>by
  simp at h1 h2; subst h1; subst h2
  show bindL kindOf ((p,w)::P.zip vs) m p=_
  unfold bindL
  rw [pZ fun v hv=>(List.nodup_cons.mp nd).1 (List.of_mem_zip hv).1,if_pos hk]
  simp
 | p::P,w::vs,i+1,m,nd,h1,h2,hk=>by
  show bindL kindOf ((p,w)::P.zip vs) m x=_
  unfold bindL
  exact pU (i:=i) (List.nodup_cons.mp nd).2 (by simpa using h1) (by simpa using h2) hk
theorem pR {kindOf:Str->Option NameKind} {x:Str} {v:Value}:∀ {P:List Str} {vs:List Value} {i:Nat} {m:Str->Option Value},P.Nodup->P[i]?=some x->vs[i]?=some v->kindOf x≠some .local ->
  bindC kindOf (P.zip vs) m x=some v
 | [],_,_,_,_,h,_,_=>by simp at h
 | _::_,[],_,_,_,_,h,_=>by simp at h
 | p::P,w::vs,0,m,nd,h1,h2,hk=>by
  simp at h1 h2; subst h1; subst h2
  show bindC kindOf ((p,w)::P.zip vs) m p=_
  unfold bindC
  rw [pS fun v hv=>(List.nodup_cons.mp nd).1 (List.of_mem_zip hv).1,if_neg hk]
  simp
 | p::P,w::vs,i+1,m,nd,h1,h2,hk=>by
  show bindC kindOf ((p,w)::P.zip vs) m x=_
  unfold bindC
  exact pR (i:=i) (List.nodup_cons.mp nd).2 (by simpa using h1) (by simpa using h2) hk
noncomputable def start (N:List Str) (vs:List V):St:=vs.map some++List.replicate (N.length - vs.length) none
noncomputable def cxOf (CX:CXT) (P:Program) (w:World) (K:PySem.W.Frag) (mg:Str->Option Value) (base:Heap) (N:List Str) (qual:Str) (scope:Scope) (f:Addr) (cd:Value) (A:Around) (outer:List Env) (s:Shared) (H:Hp) (E:XK):Cx where
 prog:=P
 w:=w
 K:=K
 mg:=mg
 base:=base
 A:=A.deeper (envOfC qual scope s.heap.objs.size f cd)
 N:=N
 s₀:=s
 H₀:=H
 env:=envOfC qual scope s.heap.objs.size f cd
 outer:=outer
 stack:=envOfC qual scope s.heap.objs.size f cd::outer
 ex:=[]
 calm:=true
 fn:=fun _=>true
 pn:=[]
 xe:=fun e s'=>wpAny (model P w) (A.deeper (envOfC qual scope s.heap.objs.size f cd)) (leaving (envOfC qual scope s.heap.objs.size f cd) e) (fun _ s''=>CX outer H s E e s'') (fun e' s''=>CX outer H s E e' s'') s'
theorem tR {sc:Scope} {n:Nat} {x:Str} (h:sc.names.lookup x=some .cell):∃ c,(cellsFrom n sc.names []).lookup x=some c:=by
 have q:=PySem.W.cellsFrom_some sc.names n [] (.inl h)
 exact Option.isSome_iff_exists.mp q
theorem zM {CX:CXT} {P:Program} {w:World} {K:PySem.W.Frag} {mg:Str->Option Value} {base:Heap} {N ps:List Str} {qual:Str} {scope:Scope} {f:Addr} {cd:Value} {A:Around} {outer:List Env} {s s1:Shared} {H:Hp} {E:XK} {us:List Value} {vs:List V}
  (S:FnScope N ps scope) (hd:A.handled=none) (e0:Env0 P w K mg base A outer s H) (hl:vs.length=ps.length) (r:Vals vs us)
  (x:InCallC s s.heap.objs.size (bindL (envOfC qual scope s.heap.objs.size f cd).kindOf (ps.zip us) fun _=>none) (cellsFrom (s.heap.objs.size+1) scope.names []) (bindC (envOfC qual scope s.heap.objs.size f cd).kindOf (ps.zip us) fun _=>none) s1) :
  Inv (cxOf CX P w K mg base N qual scope f cd A outer s H E) [] (start N vs) H s1:=by
 have hpl:ps.length<=N.length:=by have:=congrArg List.length S.pre; rw [List.length_take] at this; omega
 obtain ⟨h1,tk,rfl,hk⟩:=x.done
 have noA:∀ b:Addr,b∉(cxOf CX P w K mg base N qual scope f cd A outer s H E).ex:=fun b z=>absurd (show b∈([]:List Addr) from z) (by simp)
 refine ⟨⟨e0.mod,S.kind,rfl,rfl,Nat.le_refl _,fun y z c h1 h2=>?_,fun y hy=>?_,fun y c _ h=>?_,fun _=>hd,Around.frames_deeper e0.frames,.inr ⟨rfl,rfl⟩,fun b z=>absurd z (noA b),e0.bs,e0.bsz,fun b _ _=>noA b,fun b z=>absurd z (noA b),e0.funs,e0.frf⟩,
  rfl,e0.bare,Un.kept hk,⟨_,x.toInCall.ns,fun i y v h1 h2 h3=>?_⟩,fun y c h=>⟨_,x.cell y c h⟩,e0.hok.fresh (Nat.le_refl _),fun y c h=>?_,fun p hp=>absurd (show p∈([]:List (Addr×Obj)) from hp) (by simp),e0.hok.kept hk,?_⟩
 ·exact name_of_addr x.apart (PySem.mem_of_lookup h1) (PySem.mem_of_lookup h2)
 ·have hy:scope.names.lookup y=some .cell\/scope.names.lookup y=some .free:=hy
  rcases hy with hy | hy
  ·exact tR hy
  ·exact absurd rfl (S.nofree _ (PySem.mem_of_lookup hy))
 ·exact Nat.le_of_lt (x.above y c (PySem.mem_of_lookup h))
 ·have hi:i < vs.length:=by
   unfold start at h2
   by_cases hi:i < vs.length
   ·exact hi
   ·rw [List.getElem?_append_right (by simpa using hi)] at h2
    rw [List.getElem?_replicate] at h2
    split at h2 <;> cases h2
  have ha:vs[i]?=some v:=by
   unfold start at h2
   rw [List.getElem?_append_left (by simpa using hi),List.getElem?_map] at h2
   cases e:vs[i]? with
   | none=>rw [e] at h2; cases h2
   | some a=>rw [e] at h2; cases h2; rfl
  obtain ⟨u,hu,rv⟩:=r.get ha
  have hp:ps[i]?=some y:=by
   rw [<- S.pre,List.getElem?_take_of_lt (by omega)]; exact h1
  have ndP:ps.Nodup:=by rw [<- S.pre]; exact S.nd.sublist (List.take_sublist _ _)
  refine ⟨u,rv,?_⟩
  rcases S.par y (List.mem_of_getElem? hp) with k | k
  ·exact .inl ⟨k,pU ndP hp hu k⟩
  ·obtain ⟨c,e⟩:=tR (n:=s.heap.objs.size+1) k
   refine .inr ⟨.inl k,c,e,?_⟩
   have q:=x.cell y c e
   rw [pR ndP hp hu (by show scope.names.lookup y≠_; rw [k]; decide)] at q
   exact q
 ·exact e0.hok.fresh (Nat.le_of_lt (x.above y c (PySem.mem_of_lookup h)))
 ·unfold start
  show _=N.length
  rw [List.length_append,List.length_map,List.length_replicate]
  omega
theorem aLs {CX:CXT} {P:Program} {w:World} {K:PySem.W.Frag} {mg:Str->Option Value} {base:Heap} {k:Nat} {f:Addr} {name qual:Str} {params:Arguments} {body:List Stmt} {scope:Scope} {dV kV doc pm cdv ct oc:Value} {an od:Option Addr}
  {osl:Array (Option Value)} {N ps:List Str} {sp:Sp} (lk:K.lookup f=some ⟨oc,od,.func (PySem.W.fnOf name qual params body scope dV kV doc pm an cdv ct),osl⟩) (hcd:PySem.W.codeIn K cdv qual=true) (S:FnScope N ps scope)
  (len:∀ vs H Q E,sp vs H Q E->vs.length=ps.length)
  (hbody:∀ (A:Around) (outer:List Env) (s:Shared) (H:Hp) (vs:List V) (Q:VK) (E:XK),Room k (A.deeper (envOfC qual scope s.heap.objs.size f cdv))->sp vs H Q E ->
   ∃ t,PSs (cxOf CX P w K mg base N qual scope f cdv A outer s H E) body t/\t { nx:=fun _ H'=>Q .non H',rt:=Q } (start N vs) H) :
  FnOk P w K mg base CX (k+1) f (PySem.W.fnOf name qual params body scope dV kV doc pm an cdv ct) ps sp:=by
 refine ⟨len,fun A outer s H args us vs Q E hr e0 hb r hsp=>?_⟩
 have hl:=len _ _ _ _ hsp
 have KX:K.In s.heap:=e0.mod.kin.keeps fun b o e=>(e0.bs b o e).1
 have lim:s.heap.NoLimit:=e0.mod.nolimit.keeps fun b o e=>(e0.bs b o e).1
 have hkind:∀ y∈ps.zip us,scope.names.lookup y.1=some .local\/(scope.names.lookup y.1=some .cell/\((cellsFrom (s.heap.objs.size+1) scope.names []).lookup y.1).isSome=true):=fun ⟨n,v⟩ hy=>by
  rcases S.par n (List.of_mem_zip hy).1 with q | q
  ·exact .inl q
  ·exact .inr ⟨q,PySem.W.cellsFrom_some _ _ _ (.inl q)⟩
 refine codeAny_call_function hr.depth (KX _ _ lk) rfl S.co S.gen rfl (PySem.W.codeRec_of KX hcd) (hb _ _ _ _ ?_)
 refine wpAny_newFunctionEnv_cells S.kind hkind fun env he s1 x=>?_
 subst he
 refine ⟨lim.keeps x.toInCall.keep,codeAny_func ?_⟩
 obtain ⟨t,ht,hq⟩:=hbody A outer s H vs Q E (hr.deeper _) hsp
 have I:Inv (cxOf CX P w K mg base N qual scope f cdv A outer s H E) [] (start N vs) H s1:=zM S hr.hd e0 hl r x
 refine wpAny_mono (ht [] s1 (start N vs) H _ I hq) (fun fl s' hs=>?_) fun e s' hs=>hs
 have fin:∀ {σ':St} {H':Hp} {v:V} {u:Value},Inv (cxOf CX P w K mg base N qual scope f cdv A outer s H E) [] σ' H' s'->RelV v u->Q v H'->CE outer P w H s Q u s' :=
  fun {σ' H' v u} J rv q=>⟨v,H',J.os,J.bare,J.base,J.hok,rv,q⟩
 cases fl with
 | ret u =>
  obtain ⟨v,σ',H',J,rv,q⟩:=hs
  exact fin J rv q
 | next =>
  obtain ⟨σ',H',J,q⟩:=hs
  exact fin (v:=V.non) (u:=Value.none) J rfl q
 | brk =>
  obtain ⟨_,_,_,q⟩:=hs
  exact False.elim q
 | cont =>
  obtain ⟨_,_,_,q⟩:=hs
  exact False.elim q
end L2
namespace L2
open PySem PySem.Spec PyProof.Rows
section
variable {X:Cx} {x:Str} {p pos:Pos} {e:Expr} {es:List Expr} {t:TA} {id T:String} {r:List V->Hp->VK->Prop}
noncomputable def tCB (r:List V->Hp->VK->Prop) (t:TA):TE:=fun σ H Q=>t σ H fun vs H1=>r vs H1 Q
theorem tI (hc:CallR X (.builtin id) r) (hg:Gl X x) (hm:X.mg x=none) (hv:bootBuiltins x=some (.builtin id)) (ha:PA X (e::es) t) (hn:x≠"__name__":=by decide) (hdb:(x==("__debug__":Str))=false:=by decide)
  (he:starEach (e::es) X.env=(false,eval e X.env)::starEach es X.env:=by rfl) (hpl:(backTo pos (starEach es X.env)).any (·.1)=false:=by rfl):PE X (.Call (.Name x p) (e::es) [] pos) (tCB r t):=by
 intro pins s σ H Q I h
 refine wpAny_Call_Name_kw (gL I hg hm hv ?_ hn hdb)
 exact PyProof.Rows.callWith_builtin1 (thn (ha pos pins s σ H _ I h) fun us s1 ⟨vs,H1,I1,r1,q1⟩=>hc pins s1 σ H1 vs us Q I1 r1 q1) he hpl
theorem yO (hc:CallR X (.type T) r) (hg:Gl X x) (hm:X.mg x=none) (hv:bootBuiltins x=some (.type T)) (ha:PA X (e::es) t) (hn:x≠"__name__":=by decide) (hdb:(x==("__debug__":Str))=false:=by decide)
  (he:starEach (e::es) X.env=(false,eval e X.env)::starEach es X.env:=by rfl) (hpl:(backTo pos (starEach es X.env)).any (·.1)=false:=by rfl):PE X (.Call (.Name x p) (e::es) [] pos) (tCB r t):=by
 intro pins s σ H Q I h
 refine wpAny_Call_Name_kw (gL I hg hm hv ?_ hn hdb)
 exact PyProof.Rows.callWith_type1 (thn (ha pos pins s σ H _ I h) fun us s1 ⟨vs,H1,I1,r1,q1⟩=>hc pins s1 σ H1 vs us Q I1 r1 q1) he hpl
end
end L2
namespace HT
open PySem PyProof.Rows
noncomputable def lexLt:List Int->List Int->Bool
 | [],[]=>false
 | [],_::_=>true
 | _::_,[]=>false
 | x::xs,y::ys=>if x=y then lexLt xs ys else decide (x < y)
theorem vN (x y:Int) (xs ys:List Int):lexLt (x::xs) (y::ys)=if x=y then lexLt xs ys else decide (x < y):=rfl
theorem oZ:lexLt [] []=false:=rfl
theorem nV (y:Int) (ys:List Int):lexLt [] (y::ys)=true:=rfl
theorem nJ (x:Int) (xs:List Int):lexLt (x::xs) []=false:=rfl
theorem aDc (A:Around) (s:Shared) (a:Int) (t:Tok) (c:Int) (u:Tok):∃ e,SeqAt.EqAt A s (.int a t) (.int c u) e/\(e=true ↔ a=c) :=
 ⟨(a==c),SeqAt.EqAt.int_int a t c u,by simp⟩
theorem rcLt_int (A:Around) (s:Shared) (a:Int) (t:Tok) (c:Int) (u:Tok) (prog:Program) (w:World) (E:Value->Shared->Prop) (Q:Value->Shared->Prop) (h:Q (.bool (decide (a < c))) s) :
  wpAny (model prog w) A (richCompare .Lt (.int a t) (.int c u)) Q E s :=
 (PyProof.Rows.lt_int h:wpAny (model prog w) A (compareOp .Lt (.int a t) (.int c u)) Q E s)
section
open PySem.SeqAt
open PySem.AutoSeq1 (wpAny_loadPart')
open PySem.MeetsSeq PySem.MeetsSeq2 PySem.MeetsSeq3
theorem pE (l b:Addr) (items items2:Array Value) (n n2:Nat) (dd dd2:Option Addr) (sl sl2:Array (Option Value)) (ns ms:List Int) (hi:IntsAre items.toList ns) (hj:IntsAre items2.toList ms) :
  Meets (Builtin.«tuple.__lt__» ⟨[.ref l,.ref b],[]⟩)
   (fun _ R s=>s.heap.get? l=some { cls:=.type "tuple",dict:=dd,data:=.seq items n,slots:=sl }/\s.heap.get? b=some { cls:=.type "tuple",dict:=dd2,data:=.seq items2 n2,slots:=sl2 } /\
    R (.ok (.ret (.bool (lexLt ns ms)))) s) :=
 .of_wp fun prog w A R s h=>by
  obtain ⟨hp,g,d,tk,os⟩:=s; obtain ⟨hl,hb,h⟩:=h
  have f2:=AutoSeq1.sub_tuple_tuple
  have z1:items.size=ns.length:=by rw [<- hi.length]; simp
  have z2:items2.size=ms.length:=by rw [<- hj.length]; simp
  wp_walk using wpAny_loadPart' hl,wpAny_loadPart' hb,wpAny_forIn_list _ (fun rest b s'=>b.1=none/\s'=⟨hp,g,d,tk,os⟩/\∃ (vs ws:List Value) (ns' ms':List Int),rest=vs.zip ws /\
   IntsAre vs ns'/\IntsAre ws ms'/\ns'.length+items2.size=ms'.length+items.size/\R (.ok (.ret (.bool (lexLt ns' ms')))) ⟨hp,g,d,tk,os⟩) _
  case turn =>
   rintro ⟨y,x⟩ rest b s' ⟨hb',rfl,vs,ws,ns',ms',hz,hvi,hwi,hlen,hR⟩
   cases hvi with
   | nil=>rw [List.zip_nil_left] at hz; cases hz
   | cons a t hvi' =>
    cases hwi with
    | nil=>rw [List.zip_nil_right] at hz; cases hz
    | cons c u hwi' =>
     rw [List.zip_cons_cons] at hz
     injection hz with hyx hrest
     injection hyx with hy hx
     subst hy hx
     rw [vN] at hR
     simp only [List.length_cons] at hlen
     obtain ⟨e,he,hiff⟩:=aDc A.in1 ⟨hp,g,d,tk,os⟩ a t c u
     refine wpAny_bind (he prog w _ _ ?_)
     cases e with
     | true =>
      rw [if_pos (hiff.mp rfl)] at hR
      wp_walk
      exact ⟨rfl,rfl,_,_,_,_,hrest,hvi',hwi',by omega,hR⟩
     | false =>
      rw [if_neg (fun q=>absurd (hiff.mpr q) Bool.false_ne_true)] at hR
      have hri:=rcLt_int A.in1 ⟨hp,g,d,tk,os⟩ a t c u prog w
      wp_walk using hri
      exact ⟨_,rfl,by simpa using hR⟩
  case fin =>
   rintro ⟨b1,b2⟩ s' ⟨hb',rfl,vs,ws,ns',ms',hz,hvi,hwi,hlen,hR⟩
   simp only at hb'
   subst hb'
   have hv:lexLt ns' ms'=decide (items.size < items2.size):=by
    cases hvi with
    | nil =>
     cases hwi with
     | nil =>
      simp only [List.length_nil] at hlen
      rw [oZ]
      exact (decide_eq_false (by omega)).symm
     | cons c u hw =>
      simp only [List.length_nil,List.length_cons] at hlen
      rw [nV]
      exact (decide_eq_true (by omega)).symm
    | cons a t hv =>
     cases hwi with
     | nil =>
      simp only [List.length_nil,List.length_cons] at hlen
      rw [nJ]
      exact (decide_eq_false (by omega)).symm
     | cons c u hw =>
      rw [List.zip_cons_cons] at hz
      cases hz
   rw [hv] at hR
   wp_walk
   exact ⟨_,rfl,by simpa [Builtin.Tuple.tupleCompareSizes] using hR⟩
  case h =>
   exact ⟨rfl,rfl,items.toList,items2.toList,ns,ms,rfl,hi,hj,by omega,h⟩
end
section
variable {prog:Program} {w:World} {A:Around} {E:Value->Shared->Prop} {s:Shared}
theorem lt_tupInts {l b:Addr} {items items2:Array Value} {ns ms:List Int} {Q:Value->Shared->Prop} (hl:IsTup s.heap l items) (hb:IsTup s.heap b items2) (hi:IntsAre items.toList ns) (hj:IntsAre items2.toList ms)
  (hu:A.units < cLine) (h:Q (.bool (lexLt ns ms)) s):wpAny (model prog w) A (compareOp .Lt (.ref l) (.ref b)) Q E s:=by
 obtain ⟨⟨cls,dd,data,sl⟩,ho,hc,n,hd⟩:=id hl
 obtain ⟨⟨cls2,dd2,data2,sl2⟩,ho2,hc2,n2,hd2⟩:=id hb
 simp only at hc hd hc2 hd2
 subst hc hd hc2 hd2
 exact richCompare_meets_room (op:=.Lt) ⟨_,ho,rfl⟩ ⟨_,ho2,rfl⟩ PySem.F.slot_tuple_lt PySem.F.entry_tuple_lt (PySem.F.args_tuple_lt_2 _ _) (pE l b items items2 n n2 dd dd2 sl sl2 ns ms hi hj)
  ⟨ho,ho2,show Value.bool (lexLt ns ms)≠Value.notImplemented/\Q (.bool (lexLt ns ms)) s from ⟨(fun x=>nomatch x),h⟩⟩ hu
theorem cat_tup {t b:Addr} {vs ws:List Value} {Q:Value->Shared->Prop} (ht:IsTup s.heap t vs.toArray) (hb:IsTup s.heap b ws.toArray) (hv:vs≠[])
  (h1:ws=[]->Q (.ref t) s) (h2:ws≠[]->Q (.ref s.heap.objs.size) { s with heap:=s.heap.push { cls:=.type "tuple",data:=.seq (vs++ws).toArray } })
  (hsz:vs.length+ws.length<=sizeLine):wpAny (model prog w) A (binaryOp .Add (.ref t) (.ref b)) Q E s:=by
 obtain ⟨⟨cls,dd,data,sl⟩,ho,hc,n,hd⟩:=id ht
 obtain ⟨⟨cls2,dd2,data2,sl2⟩,ho2,hc2,n2,hd2⟩:=id hb
 simp only at hc hd hc2 hd2
 subst hc hd hc2 hd2
 have e:vs.toArray++ws.toArray=(vs++ws).toArray:=by simp
 by_cases hw:ws=[]
 ·exact concat_meets ⟨_,ho,rfl⟩ ⟨_,ho2,rfl⟩ noFill_tuple_add seq_tuple_add PySem.F.slot_tuple_add PySem.F.entry_tuple_add (PySem.F.args_tuple_add_2 _ _)
   (tuple_addW1 t b vs.toArray ws.toArray n n2 dd dd2 sl sl2 (by simpa using hv) (by simp [hw])) ⟨ho,ho2,h1 hw⟩
 ·refine concat_meets ⟨_,ho,rfl⟩ ⟨_,ho2,rfl⟩ noFill_tuple_add seq_tuple_add PySem.F.slot_tuple_add PySem.F.entry_tuple_add (PySem.F.args_tuple_add_2 _ _)
   (tuple_addW2 t b vs.toArray ws.toArray n n2 dd dd2 sl sl2 (by simpa using hv) (by simpa using hw) (by rw [List.size_toArray,List.size_toArray]; exact hsz)) ⟨ho,ho2,?_⟩
  rw [e]
  exact h2 hw
noncomputable def sIx (n d:Nat):Option Int->Nat
 | none=>d
 | some v=>if v < 0 then (v+(n:Int)).toNat else min v.toNat n
theorem aLv (n d:Nat):sIx n d none=d:=rfl
theorem sIx_nat (n d k:Nat):sIx n d (some (k:Int))=min k n:=by
 show (if (k:Int) < 0 then ((k:Int)+(n:Int)).toNat else min (k:Int).toNat n)=min k n
 rw [if_neg (by omega),Int.toNat_natCast]
theorem aKm (n d:Nat) (hd:d<=n) (o:Option Int):sIx n d o<=n:=by
 cases o with
 | none=>exact hd
 | some v =>
  show (if v < 0 then (v+(n:Int)).toNat else min v.toNat n)<=n
  by_cases hv:v < 0
  ·rw [if_pos hv]; omega
  ·rw [if_neg hv]; exact Nat.min_le_right _ _
theorem xU (v:Int) (n d:Nat):(if v < 0 then max (v+(n:Int)) 0 else min v (n:Int))=((sIx n d (some v):Nat):Int):=by
 show (if v < 0 then max (v+(n:Int)) 0 else min v (n:Int))=(((if v < 0 then (v+(n:Int)).toNat else min v.toNat n):Nat):Int)
 by_cases hv:v < 0
 ·simp only [if_pos hv]; omega
 ·simp only [if_neg hv]; omega
theorem wH (lo hi:Option Int) (n:Nat):Builtin.Slice.sliceAdjust lo hi 1 (n:Int)=(((sIx n 0 lo:Nat):Int),((sIx n n hi:Nat):Int)):=by
 have h1:¬ ((1:Int) < 0):=by omega
 unfold Builtin.Slice.sliceAdjust
 simp only [h1,if_false]
 refine Prod.ext ?_ ?_
 ·cases lo with
  | none=>rfl
  | some v=>exact xU v n 0
 ·cases hi with
  | none=>rfl
  | some v=>exact xU v n n
theorem wT (i j:Nat):Builtin.Slice.slicePlaces (i:Int) (j:Int) 1=j - i:=by
 unfold Builtin.Slice.slicePlaces
 have h1:(1:Int) > 0:=by omega
 simp only [h1,if_true,Int.ediv_one]
 split <;> omega
theorem oK {v:Value} {o:Option Int} {Q:Option Int->Shared->Prop} (p:IsPart v o) (h:Q o s):wpAny (model prog w) A (Builtin.Slice.slicePartIndex v) Q E s:=by
 cases p with
 | none=>exact slicePart_none h
 | int i t=>exact slicePart_int h
theorem fR {sl:Addr} {vl vu:Value} {lo hi:Option Int} {n:Nat} {Q:Int×Int×Nat->Shared->Prop} (hs:s.heap.IsSliceOf sl vl vu .none) (pl:IsPart vl lo) (pu:IsPart vu hi)
  (h:Q (((sIx n 0 lo:Nat):Int),1,sIx n n hi - sIx n 0 lo) s):wpAny (model prog w) A (Builtin.Slice.sliceApplied (.ref sl) (pure (n:Int))) Q E s:=by
 obtain ⟨os,hos,hcs,hds⟩:=id hs
 unfold Builtin.Slice.sliceApplied Builtin.Slice.sliceFields
 refine wpAny_bind (wpAny_bind (wpAny_field hos hds (x:=vl) rfl (wpAny_bind (wpAny_field hos hds (x:=vu) rfl (wpAny_bind (wpAny_field hos hds (x:=.none) rfl (wpAny_pure ?_)))))))
 refine wpAny_bind (slicePart_none ?_)
 show wpAny _ _ (if ((1:Int)==0)=true then _ else _) _ _ s
 rw [if_neg (by decide)]
 refine wpAny_bind (oK pl (wpAny_bind (oK pu (wpAny_bind (wpAny_pure ?_)))))
 show wpAny _ _ (match Builtin.Slice.sliceAdjust lo hi 1 (n:Int) with | (lo,hi)=>pure (lo,(1:Int),Builtin.Slice.slicePlaces lo hi 1)) _ _ s
 rw [wH lo hi n]
 show wpAny _ _ (pure (((sIx n 0 lo:Nat):Int),(1:Int),Builtin.Slice.slicePlaces ((sIx n 0 lo:Nat):Int) ((sIx n n hi:Nat):Int) 1)) _ _ s
 rw [wT]
 exact wpAny_pure h
theorem aBt (xs:Array Value) (i k:Nat):((List.range k).filterMap fun (m:Nat)=>xs[((i:Int)+(m:Int)*1).toNat]?).toArray=((xs.toList.drop i).take k).toArray:=by
 have e:(fun (m:Nat)=>xs[((i:Int)+(m:Int)*1).toNat]?)=fun m=>xs[i+m]?:=by
  funext m
  have:((i:Int)+(m:Int)*1).toNat=i+m:=by omega
  rw [this]
 rw [e]
 have:=pick_run xs i k
 rw [List.filterMap_map] at this
 have e2:((fun x=>xs[x]?) ∘ fun x=>i+x)=fun m=>xs[i+m]?:=rfl
 rw [e2] at this
 rw [this]
theorem getItem_tuple_cut {t sl:Addr} {items:Array Value} {vl vu:Value} {lo hi:Option Int} {Q:Value->Shared->Prop} (ht:IsTup s.heap t items) (hs:s.heap.IsSliceOf sl vl vu .none) (pl:IsPart vl lo) (pu:IsPart vu hi)
  (hw:¬ (sIx items.size 0 lo=0/\sIx items.size items.size hi=items.size))
  (h:Q (.ref s.heap.objs.size) { s with heap:=s.heap.push { cls:=.type "tuple",data:=.seq ((items.toList.drop (sIx items.size 0 lo)).take (sIx items.size items.size hi - sIx items.size 0 lo)).toArray } })
  (hsz:items.size<=sizeLine):wpAny (model prog w) A (getItem (.ref t) (.ref sl)) Q E s:=by
 have htake:sizeOk (.seq ((items.toList.drop (sIx items.size 0 lo)).take (sIx items.size items.size hi - sIx items.size 0 lo)).toArray):=by
  show ((items.toList.drop (sIx items.size 0 lo)).take (sIx items.size items.size hi - sIx items.size 0 lo)).toArray.size<=sizeLine
  rw [List.size_toArray,List.length_take,List.length_drop,Array.length_toList]
  omega
 have hj:sIx items.size items.size hi<=items.size:=aKm _ _ (Nat.le_refl _) hi
 obtain ⟨os,hos,hcs,hds⟩:=id hs
 have hTs:s.TypeIs (.ref sl) "slice":=⟨os,hos,hcs⟩
 unfold getItem
 try with_reducible refine wpAny_holding ?_
 first | refine wpAny_bind (wpAny_pure ?_) | skip
 refine wpAny_bind (wpAny_sequenceKey ht.typeIs (by decide) ?_)
 refine wpAny_bind (wpAny_callSpecial?_slot (name:=Str.ofString "__getitem__") ht.typeIs PyProof.Rows.slot_tuple_getitem
  (wpAny_call_entry PyProof.Rows.slot_tuple_getitem ht.typeIs entry_tuple_getitem ?_ (args_tuple_getitem _ _)))
 show wpAny _ _ (Builtin.Tuple.tupleItemsOf (.ref t) >>= _) _ _ s
 refine wpAny_bind (tupleItemsOf_ ht ?_)
 refine wpAny_bind (wpAny_typeOf hTs ?_)
 rw [if_pos (by decide)]
 refine wpAny_bind (fR hs pl pu ?_)
 have hno:¬ ((((sIx items.size 0 lo:Nat):Int)==0&&(1:Int)==1&&(sIx items.size items.size hi - sIx items.size 0 lo)==items.size)=true):=by
  intro q
  rw [Bool.and_eq_true,Bool.and_eq_true] at q
  have q1:((sIx items.size 0 lo:Nat):Int)=0:=eq_of_beq q.1.1
  have q2:sIx items.size items.size hi - sIx items.size 0 lo=items.size:=eq_of_beq q.2
  exact hw ⟨by omega,by omega⟩
 show wpAny _ _ (if (((sIx items.size 0 lo:Nat):Int)==0&&(1:Int)==1&&(sIx items.size items.size hi - sIx items.size 0 lo)==items.size)=true then _ else _) _ _ s
 rw [if_neg hno,aBt]
 first
  | exact wpAny_bind (m:=Builtin.Tuple.tupleExact _) (wpAny_newObj_type (wpAny_pure ⟨_,rfl,wpAny_pure h⟩) htake)
  | exact wpAny_bind (m:=Builtin.Tuple.tupleExact _) (wpAny_newObj_type (wpAny_bind (wpAny_pure (wpAny_pure ⟨_,rfl,wpAny_pure h⟩))) htake)
  | exact wpAny_bind (wpAny_bind (m:=Builtin.Tuple.tupleExact _) (wpAny_newObj_type (wpAny_pure (wpAny_pure ⟨_,rfl,wpAny_pure h⟩)) htake))
  | exact wpAny_bind (wpAny_bind (m:=Builtin.Tuple.tupleExact _) (wpAny_newObj_type (wpAny_pure ⟨_,rfl,wpAny_pure h⟩) htake))
end
end HT
namespace L2
open PySem PySem.Spec PyProof.Rows
noncomputable abbrev TO:=St->Hp->(Option Int->Hp->Prop)->Prop
noncomputable def PO (X:Cx) (e:Option Expr) (t:TO):Prop :=
 ∀ (pins:List (Addr×Obj)) (s:Shared) (σ:St) (H:Hp) (Q:Option Int->Hp->Prop),Inv X pins σ H s->t σ H Q ->
  wpAny (model X.prog X.w) X.A (evalPart e X.env) (fun u s'=>∃ o H',Inv X pins σ H' s'/\IsPart u o/\Q o H') X.xe s
noncomputable def tNoPart:TO:=fun _ H Q=>Q none H
noncomputable def tPart (t:TE):TO:=fun σ H Q=>t σ H fun x H1=>∃ i,x=.int i/\Q (some i) H1
theorem gB {ns:List Int}:∀ {us:List Value},Vals (ns.map V.int) us->IntsAre us ns:=by
 induction ns with
 | nil=>intro us r; rw [List.map_nil] at r; cases r; exact .nil
 | cons n ns ih =>
  intro us r
  rw [List.map_cons] at r
  cases r with
  | cons r1 r2 =>
   obtain ⟨t,e⟩:=r1
   subst e
   exact .cons n t (ih r2)
section
variable {X:Cx} {e:Expr} {te:TE} {lo hi:Option Expr} {tl th:TO} {pos p2:Pos}
theorem aDv:PO X none tNoPart:=by
 intro pins s σ H Q I h
 rw [evalPart_none]
 exact wpAny_pure ⟨none,H,I,.none,h⟩
theorem aFy (h:PE X e te):PO X (some e) (tPart te):=by
 intro pins s σ H Q I hw
 rw [evalPart_some]
 refine thn (h pins s σ H _ I hw) fun u s1 ⟨x,H1,I1,r1,q1⟩=>?_
 obtain ⟨i,rfl,q⟩:=q1
 obtain ⟨t,rfl⟩:=r1
 exact ⟨some i,H1,I1,.int i t,q⟩
noncomputable def SlR (X:Cx) (r:V->Option Int->Option Int->Hp->VK->Prop):Prop :=
 ∀ (pins:List (Addr×Obj)) (s:Shared) (σ:St) (H:Hp) (x:V) (v vl vu:Value) (lo hi:Option Int) (sl:Addr) (Q:VK),Inv X pins σ H s->RelV x v->s.heap.IsSliceOf sl vl vu .none->IsPart vl lo->IsPart vu hi->r x lo hi H Q ->
  ∃ T id,typeLookup (.type T) "__getitem__"=pure (some (.builtin id))/\s.TypeIs v T/\wpAny (model X.prog X.w) X.A (getItem v (.ref sl)) (EP X pins σ Q) X.xe s
theorem SlR.or {r r':V->Option Int->Option Int->Hp->VK->Prop} (h:SlR X r) (h':SlR X r'):SlR X (fun x lo hi H Q=>r x lo hi H Q\/r' x lo hi H Q):=by
 intro pins s σ H x v vl vu lo hi sl Q I rx hs pl pu q
 rcases q with q | q
 ·exact h pins s σ H x v vl vu lo hi sl Q I rx hs pl pu q
 ·exact h' pins s σ H x v vl vu lo hi sl Q I rx hs pl pu q
noncomputable def tSl (r:V->Option Int->Option Int->Hp->VK->Prop) (te:TE) (tl th:TO):TE:=fun σ H Q=>te σ H fun x H1=>tl σ H1 fun l H2=>th σ H2 fun u H3=>r x l u H3 Q
theorem zZ {r:V->Option Int->Option Int->Hp->VK->Prop} (hr:SlR X r) (he:PE X e te) (hl:PO X lo tl) (hu:PO X hi th):PE X (.Subscript e (.Slice lo hi none p2) pos) (tSl r te tl th):=by
 intro pins s σ H Q I h
 refine Subscript_ (thn (he pins s σ H _ I h) fun v s1 ⟨x,H1,I1,r1,q1⟩=>?_)
 refine wpAny_Slice (thn (hl pins s1 σ H1 _ I1 q1) fun vl s2 ⟨l,H2,I2,pl,q2⟩=>thn (hu pins s2 σ H2 _ I2 q2) fun vu s3 ⟨u,H3,I3,pu,q3⟩=>?_)
 rw [evalPart_none]
 refine wpAny_pure ?_
 have I4:Inv X pins σ H3 { s3 with heap:=s3.heap.push { cls:=.type "slice",data:=.fields #[vl,vu,.none] } }:=I3.kept (t':=s3.toks) fun b ob q=>Heap.get?_push_of_some _ q
 obtain ⟨T,id,hT,ht,hg⟩:=hr pins { s3 with heap:=s3.heap.push { cls:=.type "slice",data:=.fields #[vl,vu,.none] } } σ H3 x v vl vu l u s3.heap.objs.size Q I4 r1 (Heap.IsSliceOf.new ..) pl pu q3
 show wpAny (model X.prog X.w) X.A (subscriptTail e (.Slice lo hi none p2) v (.ref s3.heap.objs.size)) (EP X pins σ Q) X.xe { s3 with heap:=s3.heap.push { cls:=.type "slice",data:=.fields #[vl,vu,.none] } }
 exact tail_any (ops:=[.ref s3.heap.objs.size,v]) ht hT hg (by with_unfolding_all rfl)
noncomputable def cutV (xs:List V) (lo hi:Option Int):List V:=(xs.drop (HT.sIx xs.length 0 lo)).take (HT.sIx xs.length xs.length hi - HT.sIx xs.length 0 lo)
theorem mQ (xs:List V) (lo hi:Option Int):(cutV xs lo hi).length<=xs.length:=by
 unfold cutV
 rw [List.length_take,List.length_drop]
 omega
noncomputable def rSlT (K:PySem.W.Frag):V->Option Int->Option Int->Hp->VK->Prop:=fun x lo hi H Q=>∃ a xs,x=.ref a/\SqT K H a xs /\
 ¬ (HT.sIx xs.length 0 lo=0/\HT.sIx xs.length xs.length hi=xs.length)/\∀ p,H p=none->Q (.ref p) (upd H p (.tup (cutV xs lo hi)))
theorem aJd:SlR X (rSlT X.K):=by
 intro pins s σ H x v vl vu lo hi sl Q I rx hs pl pu h
 obtain ⟨a,xs,rfl,hx,hw,q⟩:=h
 cases rx
 obtain ⟨its,r,ht,hz⟩:=I.tuple hx
 have hlen:its.toArray.size=xs.length:=by rw [List.size_toArray]; exact r.length.symm
 refine ⟨"tuple",_,PyProof.Rows.slot_tuple_getitem.lookup,ht.typeIs,?_⟩
 refine HT.getItem_tuple_cut ht hs pl pu (by rw [hlen]; exact hw) ?_ (by rw [hlen]; exact hz)
 rw [hlen]
 refine ⟨.ref s.heap.objs.size,_,I.laid (t':=s.toks) (o:=.tup (cutV xs lo hi)) (fun b ob q=>Heap.get?_push_of_some _ q) (Nat.le_refl _) ?_,rfl,q _ (I.hok.fresh (Nat.le_refl _))⟩
 exact ⟨Nat.le_trans (mQ xs lo hi) hz,_,(r.drop (HT.sIx xs.length 0 lo)).take (HT.sIx xs.length xs.length hi - HT.sIx xs.length 0 lo),IsTup.new _ _⟩
noncomputable def rCatT (K:PySem.W.Frag):R2:=fun x y H Q=>∃ a b xs ys,x=.ref a/\y=.ref b/\SqT K H a xs/\SqT K H b ys/\xs≠[]/\xs.length+ys.length<=sizeLine /\
 (ys=[]->Q (.ref a) H)/\(ys≠[]->∀ p,H p=none->Q (.ref p) (upd H p (.tup (xs++ys))))
theorem Vals.nil_iff {xs:List V} {us:List Value} (r:Vals xs us):us=[] ↔ xs=[]:=by
 cases r with
 | nil=>simp
 | cons _ _=>simp
theorem aDp:OpR X (binaryOp .Add) (rCatT X.K):=by
 intro pins s σ H x y v u Q I rx ry h
 obtain ⟨a,b,xs,ys,rfl,rfl,ha,hb,hx,hz,q1,q2⟩:=h
 cases rx
 cases ry
 obtain ⟨its,r1,p1,_⟩:=I.tuple ha
 obtain ⟨its2,r2,p2,_⟩:=I.tuple hb
 refine HT.cat_tup p1 p2 (fun z=>hx (r1.nil_iff.mp z)) (fun z=>⟨.ref a,H,I,rfl,q1 (r2.nil_iff.mp z)⟩) (fun z=>?_) (by rw [<- r1.length,<- r2.length]; exact hz)
 refine ⟨.ref s.heap.objs.size,_,I.laid (t':=s.toks) (o:=.tup (xs++ys)) (fun b ob q=>Heap.get?_push_of_some _ q) (Nat.le_refl _) ?_,rfl,q2 (fun w=>z (r2.nil_iff.mpr w)) _ (I.hok.fresh (Nat.le_refl _))⟩
 exact ⟨by rw [List.length_append]; exact hz,_,r1.append r2,IsTup.new _ _⟩
end
end L2
namespace L2
open PySem PySem.Spec PyProof.Rows
noncomputable def ixN (n:Nat) (i:Int):Option Nat:=if 0<=i then (if i < n then some i.toNat else none) else if -(n:Int)<=i then some (i+n).toNat else none
noncomputable def atI {α:Type} (xs:List α) (i:Int):Option α:=(ixN xs.length i).bind fun j=>xs[j]?
theorem sI {n:Nat} {i:Int} {j:Nat} (h:ixN n i=some j):seqIndex? i n=some j/\j < n /\ -(n:Int)<=i/\i < n:=by
 unfold ixN at h
 by_cases h0:0<=i
 ·rw [if_pos h0] at h
  by_cases h1:i < n
  ·rw [if_pos h1] at h
   have e:i.toNat=j:=Option.some.inj h
   exact ⟨by rw [seqIndex_of h0 h1,e],by omega,by omega,h1⟩
  ·rw [if_neg h1] at h; cases h
 ·rw [if_neg h0] at h
  by_cases h1 : -(n:Int)<=i
  ·rw [if_pos h1] at h
   have e:(i+n).toNat=j:=Option.some.inj h
   exact ⟨by rw [seqIndex_neg (by omega) h1,e],by omega,h1,by omega⟩
  ·rw [if_neg h1] at h; cases h
theorem rP {α:Type} {xs:List α} {i:Int} {v:α} (h:atI xs i=some v):∃ j,seqIndex? i xs.length=some j/\xs[j]?=some v/\j < xs.length /\ -(xs.length:Int)<=i/\i < xs.length:=by
 unfold atI at h
 cases e:ixN xs.length i with
 | none=>rw [e] at h; cases h
 | some j =>
  rw [e] at h
  obtain ⟨h1,h2,h3,h4⟩:=sI e
  exact ⟨j,h1,h,h2,h3,h4⟩
noncomputable def PlainIx (b:Expr):Prop:=∀ o i,subscripted b false o i=operate [o,i] (getItem o i)
noncomputable def IxR (X:Cx) (r:R2):Prop :=
 ∀ (value slice:Expr) (pins:List (Addr×Obj)) (s:Shared) (σ:St) (H:Hp) (x y:V) (v u:Value) (Q:VK),Inv X pins σ H s->RelV x v->RelV y u->r x y H Q ->
  subscripted slice false v u=operate [v,u] (getItem v u)->wpAny (model X.prog X.w) X.A (subscriptTail value slice v u) (EP X pins σ Q) X.xe s
noncomputable def MtR (X:Cx) (id:String) (r:V->List V->Hp->VK->Prop):Prop :=
 ∀ (pins:List (Addr×Obj)) (s:Shared) (σ:St) (H:Hp) (x:V) (xs:List V) (v:Value) (us:List Value) (Q:VK),Inv X pins σ H s->RelV x v->Vals xs us->r x xs H Q ->
  wpAny (model X.prog X.w) X.A (call (.builtin id) (v::us)) (EP X pins σ Q) X.xe s
section
variable {X:Cx} {a b:Expr} {ta tb:TE} {pos:Pos}
theorem IxR.or {r r':R2} (h:IxR X r) (h':IxR X r'):IxR X (fun x y H Q=>r x y H Q\/r' x y H Q):=by
 intro value slice pins s σ H x y v u Q I rx ry q hs
 rcases q with q | q
 ·exact h value slice pins s σ H x y v u Q I rx ry q hs
 ·exact h' value slice pins s σ H x y v u Q I rx ry q hs
theorem MtR.or {id:String} {r r':V->List V->Hp->VK->Prop} (h:MtR X id r) (h':MtR X id r'):MtR X id (fun x xs H Q=>r x xs H Q\/r' x xs H Q):=by
 intro pins s σ H x xs v us Q I rx rs q
 rcases q with q | q
 ·exact h pins s σ H x xs v us Q I rx rs q
 ·exact h' pins s σ H x xs v us Q I rx rs q
theorem aLp {r:R2} (hr:IxR X r) (ha:PE X a ta) (hb:PE X b tb) (hs:PlainIx b):PE X (.Subscript a b pos) (tOp r ta tb):=by
 intro pins s σ H Q I h
 exact Subscript_ (binT ha hb I h fun v u s2 x y H2 I2 rx ry q=>hr a b pins s2 σ H2 x y v u Q I2 rx ry q (hs _ _))
noncomputable def rIxL (K:PySem.W.Frag):R2:=fun x y H Q=>∃ p xs i v,x=.ref p/\y=.int i/\SqL K H p xs/\atI xs i=some v/\Q v H
noncomputable def rIxT (K:PySem.W.Frag):R2:=fun x y H Q=>∃ p xs i v,x=.ref p/\y=.int i/\SqT K H p xs/\atI xs i=some v/\Q v H
noncomputable def rIxS:R2:=fun x y H Q=>∃ z i c,x=.str z/\y=.int i/\z.length<=sizeLine/\atI z.cps.toList i=some c/\Q (.str ⟨#[c]⟩) H
theorem aFv:IxR X (rIxL X.K):=by
 intro value slice pins s σ H x y v u Q I rx ry h hs
 obtain ⟨p,xs,i,z,rfl,rfl,hq,he,q⟩:=h
 cases rx
 obtain ⟨t,rfl⟩:=ry
 obtain ⟨its,r,pl,hz⟩:=I.list hq
 obtain ⟨j,h1,h2,h3,h4,h5⟩:=rP he
 obtain ⟨w,ew,rw'⟩:=r.get h2
 have hl:=r.length
 have hn:=line63
 have fin:EP X pins σ Q w s:=⟨z,H,I,rw',q⟩
 by_cases h0:0<=i
 ·have hj:i.toNat=j:=by
   rw [seqIndex_of h0 h5] at h1
   exact Option.some.inj h1
  exact item_listR pl.isList h0 (by omega) (by rw [hj]; simpa using ew) fin hs
 ·have hj:(i+(its.toArray.size:Int)).toNat=j:=by
   rw [seqIndex_neg (by omega) h4] at h1
   rw [List.size_toArray,<- hl]
   exact Option.some.inj h1
  exact subscriptTail_builtinR (x:=w) pl.isList.typeIs slot_list_getitem.lookup
   (wpAny_getItem_list_neg (Q:=fun r s'=>r=w/\EP X pins σ Q r s') pl.isList (by omega) (by rw [List.size_toArray] <;> omega) (by omega) (by rw [hj]; simpa using ew) ⟨rfl,fin⟩) hs
theorem aGi:IxR X (rIxT X.K):=by
 intro value slice pins s σ H x y v u Q I rx ry h hs
 obtain ⟨p,xs,i,z,rfl,rfl,hq,he,q⟩:=h
 cases rx
 obtain ⟨t,rfl⟩:=ry
 obtain ⟨its,r,pl,hz⟩:=I.tuple hq
 obtain ⟨j,h1,h2,h3,h4,h5⟩:=rP he
 obtain ⟨w,ew,rw'⟩:=r.get h2
 have hl:=r.length
 have hn:=line63
 have fin:EP X pins σ Q w s:=⟨z,H,I,rw',q⟩
 exact subscriptTail_builtinR (x:=w) pl.typeIs slot_tuple_getitem.lookup
  (getItem_tuple (j:=j) (Q:=fun r s'=>r=w/\EP X pins σ Q r s') pl (by omega) (by omega) (by rw [List.size_toArray,<- hl]; exact h1) (by simpa using ew) ⟨rfl,fin⟩) hs
theorem aGk:IxR X rIxS:=by
 intro value slice pins s σ H x y v u Q I rx ry h hs
 obtain ⟨z,i,c,rfl,rfl,hz,he,q⟩:=h
 obtain ⟨t,rfl⟩:=rx
 obtain ⟨t',rfl⟩:=ry
 obtain ⟨j,h1,h2,h3,h4,h5⟩:=rP he
 have hl:z.cps.toList.length=z.length:=by simp [Str.length]
 rw [hl] at h1 h4 h5
 have hn:=line63
 exact tail_any (typeIs_str s z t) slot_str_getitem.lookup (getItem_str (c:=c) (by
  have e1:decide (i < -(2 ^ 63:Int))=false:=decide_eq_false (by omega)
  have e2:decide (i>=2 ^ 63)=false:=decide_eq_false (by omega)
  rw [e1,e2,Bool.or_false]) (by rw [h1]; simpa using h2) ⟨.str ⟨#[c]⟩,H,I.tok _,⟨_,rfl⟩,q⟩) hs
noncomputable def rIx (K:PySem.W.Frag):R2:=fun x y H Q=>rIxL K x y H Q\/rIxT K x y H Q\/rIxS x y H Q
theorem aGm:IxR X (rIx X.K):=aFv.or (aGi.or aGk)
theorem wA (its:List Value) (n j:Nat) (u:Value):Obj.mapSeq (·.setIfInBounds j u) { cls:=.type "list",data:=.seq its.toArray n }={ cls:=.type "list",data:=.seq (its.set j u).toArray n }:=by
 simp [Obj.mapSeq]
theorem Inv.lst {pins:List (Addr×Obj)} {σ:St} {H:Hp} {s:Shared} {p:Addr} {xs:List V} (I:Inv X pins σ H s) (h:H p=some (.lst xs)) :
  ∃ (its:List Value) (n:Nat),Vals xs its/\s.heap.get? p=some { cls:=.type "list",data:=.seq its.toArray n }/\xs.length<=sizeLine:=by
 obtain ⟨z,its,n,r,e⟩:=I.hok p _ h
 exact ⟨its,n,r,e,z⟩
theorem Inv.lstUpd {pins:List (Addr×Obj)} {σ:St} {H:Hp} {s:Shared} {p:Addr} {xs ys:List V} {its its':List Value} {n n':Nat} {f:Obj->Obj} (I:Inv X pins σ H s) (h:H p=some (.lst xs))
  (ho:s.heap.get? p=some { cls:=.type "list",data:=.seq its.toArray n }) (hf:f { cls:=.type "list",data:=.seq its.toArray n }={ cls:=.type "list",data:=.seq its'.toArray n' }) (r:Vals ys its') (hz:ys.length<=sizeLine) (t:Nat) :
  Inv X pins σ (upd H p (.lst ys)) { s with heap:=s.heap.update p f,toks:=t }:=by
 have e:(s.heap.update p f).get? p=some { cls:=.type "list",data:=.seq its'.toArray n' }:=by
  rw [Heap.get?_update_self f ho (by rw [hf] <;> rfl),hf]
 refine I.write (x:=p) (e:=p) (by rw [h]; trivial) (.inl rfl) (fun b u hb q=>(Heap.get?_update_other _ _ (Ne.symm hb)).trans q) ⟨_,e⟩ ?_
 exact ⟨hz,its',n',r,e⟩
noncomputable def rSetL:V->V->V->Hp->(Hp->Prop)->Prop:=fun o i v H Q=>∃ p xs k j,o=.ref p/\i=.int k/\H p=some (.lst xs)/\ixN xs.length k=some j/\Q (upd H p (.lst (xs.set j v)))
theorem aBn:PSet X rSetL:=by
 intro pins s σ H o i v ov iv u Q I ro ri rv h
 obtain ⟨p,xs,k,j,rfl,rfl,hp,hj,q⟩:=h
 cases ro
 obtain ⟨t,rfl⟩:=ri
 obtain ⟨its,n,r,ho,hz⟩:=I.lst hp
 obtain ⟨h1,h2,h3,h4⟩:=sI hj
 have hl:=r.length
 have hn:=line63
 have I':Inv X pins σ (upd H p (.lst (xs.set j v))) { s with heap:=s.heap.update p (Obj.mapSeq (·.setIfInBounds j u)) } :=
  I.lstUpd hp ho (wA its n j u) (r.set rv j) (by rw [List.length_set]; exact hz) s.toks
 by_cases h0:0<=k
 ·have hk:k.toNat=j:=by
   rw [seqIndex_of h0 h4] at h1
   exact Option.some.inj h1
  exact PySem.W.ki_setAt ho h0 (by omega) (by rw [List.size_toArray,<- hl]; exact h4) (by rw [hk]; exact ⟨_,I',q⟩)
 ·have hk:(k+(its.toArray.size:Int)).toNat=j:=by
   rw [seqIndex_neg (by omega) h3] at h1
   rw [List.size_toArray,<- hl]
   exact Option.some.inj h1
  exact PySem.W.ki_setBack ho (by omega) (by rw [List.size_toArray,<- hl]; exact h3) (by omega) (by rw [hk]; exact ⟨_,I',q⟩)
theorem gO (lo hi:Option Int) (n:Nat):(sliceBounds lo hi none n).1=((HT.sIx n 0 lo:Nat):Int)/\(sliceBounds lo hi none n).2.1=((HT.sIx n n hi:Nat):Int)/\(sliceBounds lo hi none n).2.2=1:=by
 refine ⟨?_,?_,rfl⟩
 ·cases lo with
  | none=>simp [sliceBounds,HT.sIx]
  | some i =>
   simp only [sliceBounds,HT.sIx,Option.getD_none,show (1:Int) > 0 by decide,if_true]
   by_cases h:i < 0
   ·simp only [h,if_true] <;> omega
   ·simp only [h,if_false] <;> omega
 ·cases hi with
  | none=>simp [sliceBounds,HT.sIx]
  | some i =>
   simp only [sliceBounds,HT.sIx,Option.getD_none,show (1:Int) > 0 by decide,if_true]
   by_cases h:i < 0
   ·simp only [h,if_true] <;> omega
   ·simp only [h,if_false] <;> omega
theorem pB (its:List Value) (lo hi:Option Int):slicePick its.toArray lo hi none=((its.drop (HT.sIx its.length 0 lo)).take (HT.sIx its.length its.length hi - HT.sIx its.length 0 lo)).toArray:=by
 obtain ⟨h1,h2,h3⟩:=gO lo hi its.toArray.size
 unfold slicePick
 rw [h1,h2,h3]
 simp only [sliceRange_one,pick_run,List.size_toArray] <;> rfl
noncomputable def rSlL (K:PySem.W.Frag):V->Option Int->Option Int->Hp->VK->Prop:=fun x lo hi H Q=>∃ a xs,x=.ref a/\SqL K H a xs/\∀ p,H p=none->Q (.ref p) (upd H p (.lst (cutV xs lo hi)))
theorem aFi:SlR X (rSlL X.K):=by
 intro pins s σ H x v vl vu lo hi sl Q I rx hs pl pu h
 obtain ⟨a,xs,rfl,hx,q⟩:=h
 cases rx
 obtain ⟨its,r,ht,hz⟩:=I.list hx
 have hlen:=r.length
 refine ⟨"list",_,slot_list_getitem.lookup,ht.isList.typeIs,?_⟩
 refine wpAny_getItem_list_slice ht.isList hs pl pu .none (by simp) ?_ (by rw [List.size_toArray] <;> omega)
 rw [pB,<- hlen]
 refine ⟨.ref s.heap.objs.size,_,I.laid (t':=s.toks) (o:=.lst (cutV xs lo hi)) (fun b ob q=>Heap.get?_push_of_some _ q) (Nat.le_refl _) ?_,rfl,q _ (I.hok.fresh (Nat.le_refl _))⟩
 exact ⟨Nat.le_trans (mQ xs lo hi) hz,_,0,(r.drop (HT.sIx xs.length 0 lo)).take (HT.sIx xs.length xs.length hi - HT.sIx xs.length 0 lo),Heap.get?_push_size _ rfl⟩
noncomputable def flatV:V->Bool
 | .non=>true
 | .bl _=>true
 | .int _=>true
 | .str _=>true
 | _=>false
noncomputable def eqV:V->V->Bool
 | .non,.non=>true
 | .bl a,.bl b=>a==b
 | .bl a,.int b=>(if a then 1 else 0)==b
 | .int a,.bl b=>a==(if b then 1 else 0)
 | .int a,.int b=>a==b
 | .str a,.str b=>a==b
 | _,_=>false
theorem aCq {A:Around} {s:Shared} {y x:V} {u v:Value} (ry:RelV y u) (rx:RelV x v) (fy:flatV y=true) (fx:flatV x=true):SeqAt.EqAt A s u v (eqV y x):=by
 cases y with
 | non =>
  cases ry
  cases x with
  | non=>cases rx; exact SeqAt.EqAt.same _
  | bl b=>cases rx; exact SeqAt.EqAt.none_bool b
  | int b=>obtain ⟨t,rfl⟩:=rx; exact SeqAt.EqAt.none_int b t
  | str b=>obtain ⟨t,rfl⟩:=rx; exact SeqAt.EqAt.none_str b t
  | _=>exact absurd (show false=true from fx) Bool.false_ne_true
 | bl a =>
  cases ry
  cases x with
  | non=>cases rx; exact SeqAt.EqAt.bool_none a
  | bl b=>cases rx; exact SeqAt.EqAt.bool_bool a b
  | int b=>obtain ⟨t,rfl⟩:=rx; exact SeqAt.EqAt.bool_int a b t
  | str b=>obtain ⟨t,rfl⟩:=rx; exact SeqAt.EqAt.bool_str a b t
  | _=>exact absurd (show false=true from fx) Bool.false_ne_true
 | int a =>
  obtain ⟨t',rfl⟩:=ry
  cases x with
  | non=>cases rx; exact SeqAt.EqAt.int_none a t'
  | bl b=>cases rx; exact SeqAt.EqAt.int_bool a t' b
  | int b=>obtain ⟨t,rfl⟩:=rx; exact SeqAt.EqAt.int_int a t' b t
  | str b=>obtain ⟨t,rfl⟩:=rx; exact SeqAt.EqAt.int_str a t' b t
  | _=>exact absurd (show false=true from fx) Bool.false_ne_true
 | str a =>
  obtain ⟨t',rfl⟩:=ry
  cases x with
  | non=>cases rx; exact SeqAt.EqAt.str_none a t'
  | bl b=>cases rx; exact SeqAt.EqAt.str_bool a t' b
  | int b=>obtain ⟨t,rfl⟩:=rx; exact SeqAt.EqAt.str_int a t' b t
  | str b=>obtain ⟨t,rfl⟩:=rx; exact SeqAt.EqAt.str_str a t' b t
  | _=>exact absurd (show false=true from fx) Bool.false_ne_true
 | _=>exact absurd (show false=true from fy) Bool.false_ne_true
noncomputable def eqU (x:V) (u:Value):Bool:=match u with
 | .none=>eqV .non x
 | .bool b=>eqV (.bl b) x
 | .int i _=>eqV (.int i) x
 | .str z _=>eqV (.str z) x
 | _=>false
theorem aAw {x y:V} {u:Value} (r:RelV y u) (f:flatV y=true):eqU x u=eqV y x:=by
 cases y with
 | non=>cases r; rfl
 | bl b=>cases r; rfl
 | int i=>obtain ⟨t,rfl⟩:=r; rfl
 | str z=>obtain ⟨t,rfl⟩:=r; rfl
 | _=>exact absurd (show false=true from f) Bool.false_ne_true
theorem kR {x:V}:∀ {xs:List V} {us:List Value},Vals xs us->xs.all flatV=true->us.any (eqU x)=xs.any fun y=>eqV y x
 | _,_,.nil,_=>rfl
 | y::xs,u::us,.cons r t,f=>by
  rw [List.all_cons,Bool.and_eq_true] at f
  rw [List.any_cons,List.any_cons,aAw r f.1,kR t f.2]
theorem hZ {A:Around} {s:Shared} {x:V} {v:Value} (rx:RelV x v) (fx:flatV x=true):∀ {xs:List V} {us:List Value},Vals xs us->xs.all flatV=true->∀ u∈us,SeqAt.EqAt A s u v (eqU x u)
 | _,_,.nil,_=>fun u hu=>by cases hu
 | y::xs,u::us,.cons r t,f=>fun u' hu=>by
  rw [List.all_cons,Bool.and_eq_true] at f
  rcases List.mem_cons.mp hu with rfl | hu
  ·rw [aAw r f.1]; exact aCq r rx f.1 fx
  ·exact hZ rx fx t f.2 u' hu
noncomputable def inV (x:V) (xs:List V):Bool:=xs.any fun y=>eqV y x
noncomputable def rIn (K:PySem.W.Frag) (neg:Bool):R2:=fun x y H Q=>∃ p xs,y=.ref p/\(SqL K H p xs\/SqT K H p xs)/\flatV x=true/\xs.all flatV=true/\Q (.bl (if neg then !inV x xs else inV x xs)) H
theorem yI:OpR X (compareOp .In) (rIn X.K false):=by
 intro pins s σ H x y v u Q I rx ry h
 obtain ⟨p,xs,rfl,hq,fx,fs,q⟩:=h
 cases ry
 rcases hq with hq | hq
 ·obtain ⟨its,r,pl,hz⟩:=I.list hq
  refine SeqAt.in_listAt (eqU x) pl.isList (fun w hw=>hZ rx fx r fs w (by simpa using hw)) ⟨.bl _,H,I,rfl,?_⟩
  rw [show its.toArray.any (eqU x)=its.any (eqU x) by simp,kR r fs]
  exact q
 ·obtain ⟨its,r,pl,hz⟩:=I.tuple hq
  refine SeqAt.in_tupleAt (eqU x) pl (fun w hw=>hZ rx fx r fs w (by simpa using hw)) ⟨.bl _,H,I,rfl,?_⟩
  rw [show its.toArray.any (eqU x)=its.any (eqU x) by simp,kR r fs]
  exact q
theorem qZ:OpR X (compareOp .NotIn) (rIn X.K true):=by
 intro pins s σ H x y v u Q I rx ry h
 obtain ⟨p,xs,rfl,hq,fx,fs,q⟩:=h
 cases ry
 rcases hq with hq | hq
 ·obtain ⟨its,r,pl,hz⟩:=I.list hq
  refine SeqAt.notIn_listAt (eqU x) pl.isList (fun w hw=>hZ rx fx r fs w (by simpa using hw)) ⟨.bl _,H,I,rfl,?_⟩
  rw [show its.toArray.any (eqU x)=its.any (eqU x) by simp,kR r fs]
  exact q
 ·obtain ⟨its,r,pl,hz⟩:=I.tuple hq
  refine SeqAt.notIn_tupleAt (eqU x) pl (fun w hw=>hZ rx fx r fs w (by simpa using hw)) ⟨.bl _,H,I,rfl,?_⟩
  rw [show its.toArray.any (eqU x)=its.any (eqU x) by simp,kR r fs]
  exact q
theorem qM:CallR X (.builtin "len") (fun xs H Q=>∃ p ys,xs=[.ref p]/\(SqL X.K H p ys\/SqT X.K H p ys)/\Q (.int ys.length) H):=by
 intro pins s σ H xs us Q I r h
 obtain ⟨p,ys,rfl,hq,q⟩:=h
 obtain ⟨u,rfl,rx⟩:=vals1 r
 cases rx
 have hn:=line63
 rcases hq with hq | hq
 ·obtain ⟨its,r',pl,hz⟩:=I.list hq
  have hlen:=r'.length
  exact Calls.call_len_list pl.isList (by simp only [List.size_toArray] <;> omega) ⟨.int ys.length,H,I.tok _,⟨s.toks+1,by rw [List.size_toArray,hlen]⟩,q⟩
 ·obtain ⟨its,r',pl,hz⟩:=I.tuple hq
  have hlen:=r'.length
  exact len_tuple pl (by simp only [List.size_toArray] <;> omega) ⟨.int ys.length,H,I.tok _,⟨s.toks+1,by rw [List.size_toArray,hlen]⟩,q⟩
theorem rQ:CallR X (.builtin "len") (fun xs H Q=>∃ z,xs=[.str z]/\z.length<=sizeLine/\Q (.int z.length) H):=by
 intro pins s σ H xs us Q I r h
 obtain ⟨z,rfl,hz,q⟩:=h
 obtain ⟨u,rfl,t,rfl⟩:=vals1 r
 have hn:=line63
 exact len_str (by omega) ⟨.int z.length,H,I.tok _,⟨_,rfl⟩,q⟩
theorem CallR.or {f:Value} {r r':List V->Hp->VK->Prop} (h:CallR X f r) (h':CallR X f r'):CallR X f (fun xs H Q=>r xs H Q\/r' xs H Q):=by
 intro pins s σ H xs us Q I rs q
 rcases q with q | q
 ·exact h pins s σ H xs us Q I rs q
 ·exact h' pins s σ H xs us Q I rs q
theorem qS:CallR X (.type "list") (fun xs H Q=>∃ p ys,xs=[.ref p]/\(SqL X.K H p ys\/SqT X.K H p ys)/\∀ l,H l=none->Q (.ref l) (upd H l (.lst ys))):=by
 intro pins s σ H xs us Q I r h
 obtain ⟨p,ys,rfl,hq,q⟩:=h
 obtain ⟨u,rfl,rx⟩:=vals1 r
 cases rx
 have fin:∀ (its:List Value),Vals ys its->ys.length<=sizeLine->∀ (h':Heap) (c':Nat),(∀ b o',s.heap.get? b=some o'->h'.get? b=some o') ->
   h'.get? s.heap.objs.size=some { cls:=.type "list",dict:=none,data:=.seq its.toArray c',slots:=#[] }->EP X pins σ Q (.ref s.heap.objs.size) { s with heap:=h' }:=fun its r' hz h' c' kp e =>
  ⟨.ref s.heap.objs.size,_,I.laid (t':=s.toks) kp (Nat.le_refl _) (show ObjOk X.prog X.w _ h' _ (.lst ys) from ⟨hz,its,c',r',e⟩),rfl,q _ (I.hok.fresh (Nat.le_refl _))⟩
 rcases hq with hq | hq
 ·obtain ⟨its,r',pl,hz⟩:=I.list hq
  have hlen:=r'.length
  obtain ⟨o,ho,hc,n,hd⟩:=pl.isList
  exact call_list_seq p (.inl rfl) ho hc hd (fun h' c' kp e=>fin its r' hz h' c' kp e) (by simp only [List.size_toArray] <;> omega)
 ·obtain ⟨its,r',pl,hz⟩:=I.tuple hq
  have hlen:=r'.length
  obtain ⟨o,ho,hc,n,hd⟩:=pl
  exact call_list_seq p (.inr rfl) ho hc hd (fun h' c' kp e=>fin its r' hz h' c' kp e) (by simp only [List.size_toArray] <;> omega)
theorem oU:CallR X (.type "tuple") (fun xs H Q=>∃ p ys,xs=[.ref p]/\((SqL X.K H p ys/\∀ l,H l=none->Q (.ref l) (upd H l (.tup ys)))\/(SqT X.K H p ys/\Q (.ref p) H))):=by
 intro pins s σ H xs us Q I r h
 obtain ⟨p,ys,rfl,h⟩:=h
 obtain ⟨u,rfl,rx⟩:=vals1 r
 cases rx
 rcases h with ⟨hq,q⟩ | ⟨hq,q⟩
 ·obtain ⟨its,r',pl,hz⟩:=I.list hq
  have hlen:=r'.length
  refine call_tuple_list pl.isList (fun h' kp=>?_) (by simp only [List.size_toArray] <;> omega)
  have I1:Inv X pins σ H { s with heap:=h' }:=I.kept (t':=s.toks) kp
  have I2:Inv X pins σ (upd H h'.objs.size (.tup ys)) { s with heap:=h'.push { cls:=.type "tuple",data:=.seq its.toArray } } :=
   I1.laid (t':=s.toks) (fun b o e=>Heap.get?_push_of_some _ e) (Nat.le_refl _) (show ObjOk X.prog X.w _ _ _ (.tup ys) from ⟨hz,its,r',IsTup.new _ _⟩)
  exact ⟨.ref h'.objs.size,_,I2,rfl,q _ (I1.hok.fresh (Nat.le_refl _))⟩
 ·obtain ⟨its,r',pl,hz⟩:=I.tuple hq
  exact call_tuple_same pl ⟨.ref p,H,I,rfl,q⟩
noncomputable def tyV (K:PySem.W.Frag) (T:String) (x:V) (H:Hp):Prop:=match x with
 | .str _=>T="str"
 | .int _=>T="int"
 | .ref p=>(T="list"/\∃ xs,SqL K H p xs)\/(T="tuple"/\∃ o,K.lookup p=some o/\o.cls=.type "tuple"/\o.dict=none) \/
   (T="dict"/\((∃ kvs,H p=some (.dK kvs))\/∃ kvs,H p=some (.dT kvs)))\/(T="set"/\∃ S n,H p=some (.set S n))
 | _=>False
theorem aAa {pins:List (Addr×Obj)} {σ:St} {H:Hp} {s:Shared} {T:String} {x:V} {v:Value} (I:Inv X pins σ H s) (r:RelV x v) (ty:tyV X.K T x H) :
  s.TypeIs v T/\∀ a,v=.ref a->∃ ob,s.heap.get? a=some ob/\ob.dict=none:=by
 cases x with
 | str z =>
  obtain ⟨t,rfl⟩:=r
  cases (show T="str" from ty)
  exact ⟨typeIs_str s z t,fun _ e=>nomatch e⟩
 | int i =>
  obtain ⟨t,rfl⟩:=r
  cases (show T="int" from ty)
  exact ⟨typeIs_int s i t,fun _ e=>nomatch e⟩
 | ref p =>
  cases r
  rcases ty with ⟨rfl,xs,hq⟩ | ⟨rfl,o,hk,hc,hd⟩ | ⟨rfl,hk⟩ | ⟨rfl,S,n,hk⟩
  ·obtain ⟨its,_,pl,_⟩:=I.list hq
   refine ⟨pl.isList.typeIs,fun a e=>?_⟩
   cases e
   obtain ⟨o,n,e,c,hd,_⟩:=pl
   exact ⟨o,e,hd⟩
  ·refine ⟨⟨o,I.kIn p o hk,hc⟩,fun a e=>?_⟩
   cases e
   exact ⟨o,I.kIn _ o hk,hd⟩
  ·have z:∃ o,s.heap.get? p=some o/\o.ExactDict:=by
    rcases hk with ⟨kvs,hk⟩ | ⟨kvs,hk⟩
    ·obtain ⟨_,_,_,_,o,_,_,e,ex,_⟩:=I.hok p _ hk
     exact ⟨o,e,ex⟩
    ·obtain ⟨_,_,_,_,o,_,_,e,ex,_⟩:=I.hok p _ hk
     exact ⟨o,e,ex⟩
   obtain ⟨o,e,ex⟩:=z
   refine ⟨⟨o,e,ex.1⟩,fun a e2=>?_⟩
   cases e2
   exact ⟨o,e,ex.2.1⟩
  ·obtain ⟨o,_,_,_,e,ex,_⟩:=I.hok p _ hk
   refine ⟨⟨o,e,ex.1⟩,fun a e2=>?_⟩
   cases e2
   exact ⟨o,e,ex.2.1⟩
 | _=>exact False.elim ty
noncomputable def tBM0 (K:PySem.W.Frag) (T:String) (r:V->List V->Hp->VK->Prop) (to:TE):TE:=fun σ H Q=>to σ H fun x H1=>tyV K T x H1/\r x [] H1 Q
noncomputable def tBM (K:PySem.W.Frag) (T:String) (r:V->List V->Hp->VK->Prop) (to:TE) (t:TA):TE:=fun σ H Q=>to σ H fun x H1=>tyV K T x H1/\t σ H1 fun xs H2=>r x xs H2 Q
variable {o e:Expr} {es:List Expr} {to:TE} {t:TA} {name:Str} {apos cpos:Pos} {T id:String} {r:V->List V->Hp->VK->Prop}
theorem aHh (pa:PlainAttrs T) (slot:Slot T name id) (hty:typeOf (.builtin id)=pure (.type "method_descriptor")) (hm:MtR X id r) (ho:PE X o to)
  (hbase:attributeBase o name X.env (eval o X.env)=eval o X.env:=by rfl) (hline:(apos.endLine==cpos.line)=true:=by rfl):PE X (.Call (.Attribute o name apos) [] [] cpos) (tBM0 X.K T r to):=by
 intro pins s σ H Q I h
 refine wpAny_Call_method0_late hbase hline (thn (ho pins s σ H _ I h) fun v s1 ⟨x,H1,I1,r1,ty,q1⟩=>?_)
 obtain ⟨h1,h2⟩:=aAa I1 r1 ty
 exact ⟨T,id,pa,slot,hty,h1,h2,Calls.callWith_builtin rfl (PySem.evalArgs_none (hm pins s1 σ H1 x [] v [] Q I1 r1 .nil q1))⟩
theorem aGd (pa:PlainAttrs T) (slot:Slot T name id) (hty:typeOf (.builtin id)=pure (.type "method_descriptor")) (hm:MtR X id r) (ho:PE X o to) (ha:PA X (e::es) t)
  (hbase:attributeBase o name X.env (eval o X.env)=eval o X.env:=by rfl)
  (hfew:((backTo cpos (starEach (e::es) X.env)).all (fun x=>!x.1)&&(backToKw cpos (keywordEach [] X.env)).all (fun x=>x.1.isSome)
   && decide ((e::es).length+([]:List Keyword).length+(if ([]:List Keyword).isEmpty then 0 else 1) < 30))=true:=by rfl)
  (hline:(apos.endLine==cpos.line)=true:=by rfl) (hs:starEach (e::es) X.env=(false,eval e X.env)::starEach es X.env:=by rfl) (hplain:(backTo cpos (starEach es X.env)).any (·.1)=false:=by rfl) :
  PE X (.Call (.Attribute o name apos) (e::es) [] cpos) (tBM X.K T r to t):=by
 intro pins s σ H Q I h
 refine wpAny_Call_method_late hbase hfew hline rfl (thn (ho pins s σ H _ I h) fun v s1 ⟨x,H1,I1,r1,ty,q1⟩=>?_)
 obtain ⟨h1,h2⟩:=aAa I1 r1 ty
 refine ⟨T,id,pa,slot,hty,h1,h2,?_⟩
 have hA:=ha cpos pins s1 σ H1 _ I1 q1
 rw [hs] at hA ⊢
 refine Calls.callWith_builtin (by show (false || (backTo cpos (starEach es X.env)).any (·.1))=false; rw [hplain] <;> rfl) (Calls.evalArgs_plain ?_)
 exact thn hA fun us s2 ⟨vs,H2,I2,r2,q2⟩=>hm pins s2 σ H2 x vs v us Q I2 r1 r2 q2
/- xs.append(e),list.index on a module's tuple .. are MtR facts of 06m -/
end
end L2
namespace L2
open PySem PySem.Spec PyProof.Rows
noncomputable def MtM (X:Cx) (id:String) (r:V->List V->Hp->VK->Prop):Prop :=
 ∀ (pins:List (Addr×Obj)) (s:Shared) (σ:St) (H:Hp) (x:V) (xs:List V) (v:Value) (us:List Value) (Q:VK),Inv X pins σ H s->RelV x v->Vals xs us->r x xs H Q ->
  wpAny (model X.prog X.w) X.A (call (.builtin id) (v::us)) (EP X pins σ Q) X.xe s
theorem Vals.one:∀ {x:V} {us:List Value},Vals [x] us->∃ u,us=[u]/\RelV x u
 | _,_,.cons r .nil=>⟨_,rfl,r⟩
theorem Vals.two:∀ {x y:V} {us:List Value},Vals [x,y] us->∃ u v,us=[u,v]/\RelV x u/\RelV y v
 | _,_,_,.cons r (.cons q .nil)=>⟨_,_,rfl,r,q⟩
theorem Vals.zero:∀ {us:List Value},Vals [] us->us=[]
 | _,.nil=>rfl
theorem Vals.dropLast {xs:List V} {us:List Value} (h:Vals xs us):Vals xs.dropLast us.dropLast:=by
 induction h with
 | nil=>exact .nil
 | cons r t ih =>
  cases t with
  | nil=>exact .nil
  | cons q t'=>exact .cons r ih
theorem Vals.eraseIdx:∀ {xs:List V} {us:List Value} (i:Nat),Vals xs us->Vals (xs.eraseIdx i) (us.eraseIdx i)
 | _,_,_,.nil=>.nil
 | _,_,0,.cons _ t=>t
 | _,_,i+1,.cons r t=>.cons r (Vals.eraseIdx i t)
theorem Vals.reverse {xs:List V} {us:List Value} (h:Vals xs us):Vals xs.reverse us.reverse:=by
 induction h with
 | nil=>exact .nil
 | cons r t ih=>rw [List.reverse_cons,List.reverse_cons]; exact Vals.append ih (.cons r .nil)
theorem Vals.rep {xs:List V} {us:List Value} (h:Vals xs us):∀ k:Nat,Vals (List.replicate k xs).flatten (List.replicate k us).flatten
 | 0=>.nil
 | k+1=>by
  rw [List.replicate_succ,List.replicate_succ,List.flatten_cons,List.flatten_cons]
  exact Vals.append h (Vals.rep h k)
theorem wK {α:Type} (l:List α):l.eraseIdx (l.length - 1)=l.dropLast:=by
 induction l with
 | nil=>rfl
 | cons a r ih =>
  cases r with
  | nil=>rfl
  | cons b r =>
   have e:(a::b::r).length - 1=((b::r).length - 1)+1:=by
    have h1:(a::b::r).length=r.length+2:=rfl
    have h2:(b::r).length=r.length+1:=rfl
    omega
   rw [e,List.eraseIdx_cons_succ,ih]
   all_goals rfl
theorem lS (its:List Value):∀ (k:Nat) (acc:List Value),
  List.foldl (fun x1 x2=>x1++x2) acc.toArray (List.replicate k its.toArray)=(acc++(List.replicate k its).flatten).toArray
 | 0,acc=>by simp
 | k+1,acc=>by
  have e:acc.toArray++its.toArray=(acc++its).toArray:=by simp
  have e2:(acc++its)++(List.replicate k its).flatten=acc++(List.replicate (k+1) its).flatten:=by
   rw [List.replicate_succ,List.flatten_cons,List.append_assoc]
  rw [<- e2,<- lS its k (acc++its),<- e,List.replicate_succ,List.foldl_cons]
section
variable {X:Cx} {pins:List (Addr×Obj)} {σ:St} {H:Hp} {s:Shared} {l b:Addr} {xs ys zs:List V}
theorem Inv.lset {its its':List Value} {n:Nat} {f:Array Value->Array Value} {t':Nat} (I:Inv X pins σ H s) (hH:H l=some (.lst xs))
  (e:s.heap.get? l=some { cls:=.type "list",data:=.seq its.toArray n }) (hf:f its.toArray=its'.toArray) (hv:Vals ys its') (hz:ys.length<=sizeLine) :
  Inv X pins σ (upd H l (.lst ys)) { s with heap:=s.heap.update l (Obj.mapSeq f),toks:=t' }:=by
 have q:=PySem.IsL.update e f
 rw [hf] at q
 refine I.write (x:=l) (e:=l) (by rw [hH]; exact trivial) (.inl rfl) (fun b' u hb hu=>(Heap.get?_update_other s.heap (Obj.mapSeq f) (Ne.symm hb)).trans hu) ⟨_,q⟩ ?_
 exact ⟨hz,its',_,hv,q⟩
theorem Inv.lnew {its:List Value} {t':Nat} (I:Inv X pins σ H s) (hv:Vals ys its) (hz:ys.length<=sizeLine) :
  Inv X pins σ (upd H s.heap.objs.size (.lst ys)) { s with heap:=s.heap.push { cls:=.type "list",data:=.seq its.toArray },toks:=t' } :=
 I.laid (fun _ _ q=>Heap.get?_push_of_some _ q) (Nat.le_refl _) ⟨hz,its,0,hv,Heap.get?_push_size _ rfl⟩
theorem Inv.fresh (I:Inv X pins σ H s):H s.heap.objs.size=none:=I.hok.fresh (Nat.le_refl _)
theorem Inv.lstM (I:Inv X pins σ H s) (hH:H l=some (.lst xs)):xs.length<=sizeLine/\∃ (its:List Value) (n:Nat),Vals xs its/\xs.length=its.length/\s.heap.get? l=some { cls:=.type "list",data:=.seq its.toArray n }:=by
 obtain ⟨z,its,n,r,e⟩:=I.hok l _ hH
 exact ⟨z,its,n,r,r.length,e⟩
theorem notLongL {n:Nat} (h:n<=sizeLine):Builtin.List.listTooLong n=false:=by
 unfold Builtin.List.listTooLong
 exact decide_eq_false (by omega)
end
section
variable {X:Cx}
noncomputable def rAppend:V->List V->Hp->VK->Prop:=fun x vs H Q=>∃ l xs y,x=.ref l/\vs=[y]/\H l=some (.lst xs)/\xs.length < sizeLine/\Q .non (upd H l (.lst (xs++[y])))
theorem qC:MtM X "list.append" rAppend:=by
 intro pins s σ H x vs v us Q I rx rv h
 obtain ⟨l,xs,y,rfl,rfl,hH,hz,q⟩:=h
 cases rx
 obtain ⟨u,rfl,ru⟩:=rv.one
 obtain ⟨z,its,n,r,hl,e⟩:=I.lstM hH
 refine call_meets F.slot_list_append ⟨_,e,rfl⟩ F.entry_list_append (F.args_list_append_2 _ _) (PySem.list_append l its.toArray n u (by rw [List.size_toArray]; omega)) ⟨e,?_⟩
 refine ⟨.non,_,I.lset (its':=its++[u]) hH e (by simp) (r.append (.cons ru .nil)) ?_,rfl,q⟩
 rw [List.length_append,List.length_singleton]
 omega
noncomputable def rExtend:V->List V->Hp->VK->Prop:=fun x vs H Q=>∃ l b xs zs,x=.ref l/\vs=[.ref b]/\H l=some (.lst xs)/\H b=some (.lst zs)/\xs.length+zs.length<=sizeLine/\Q .non (upd H l (.lst (xs++zs)))
theorem yY:MtM X "list.extend" rExtend:=by
 intro pins s σ H x vs v us Q I rx rv h
 obtain ⟨l,b,xs,zs,rfl,rfl,hH,hB,hz,q⟩:=h
 cases rx
 obtain ⟨u,rfl,ru⟩:=rv.one
 cases ru
 obtain ⟨z,its,n,r,hl,e⟩:=I.lstM hH
 obtain ⟨z2,its2,n2,r2,hl2,e2⟩:=I.lstM hB
 have hsz:its.toArray.size+its2.toArray.size<=sizeLine:=by rw [List.size_toArray,List.size_toArray]; omega
 have hlong:¬ (!its.toArray.isEmpty&&Builtin.List.listTooLong (its.toArray.size+its2.toArray.size))=true:=by
  rw [notLongL hsz,Bool.and_false]
  exact Bool.false_ne_true
 refine call_meets F.slot_list_extend ⟨_,e,rfl⟩ F.entry_list_extend (F.args_list_extend_2 _ _)
  (AutoSeq1.list_extend_list_list_0 l its.toArray n b its2.toArray n2 hlong (by rw [List.size_toArray]; omega) (by omega)) ⟨e,e2,?_⟩
 refine ⟨.non,_,I.lset (its':=its++its2) hH e (by simp) (r.append r2) ?_,rfl,q⟩
 rw [List.length_append]
 omega
noncomputable def rPop:V->List V->Hp->VK->Prop:=fun x vs H Q=>∃ l xs y,x=.ref l/\vs=[]/\H l=some (.lst xs)/\xs[xs.length - 1]?=some y/\Q y (upd H l (.lst xs.dropLast))
theorem aGy:MtM X "list.pop" rPop:=by
 intro pins s σ H x vs v us Q I rx rv h
 obtain ⟨l,xs,y,rfl,rfl,hH,hy,q⟩:=h
 cases rx
 have hus:=rv.zero
 subst hus
 obtain ⟨z,its,n,r,hl,e⟩:=I.lstM hH
 obtain ⟨u,hu,ru⟩:=r.get hy
 have hy':its.toArray[its.toArray.size - 1]?=some u:=by
  show its.toArray[its.length - 1]?=some u
  rw [<- Array.getElem?_toList,<- hl]
  exact hu
 refine call_meets F.slot_list_pop ⟨_,e,rfl⟩ F.entry_list_pop (F.args_list_pop_1 _) (MeetsSeq.list_pop_last l its.toArray n u hy' (by rw [List.size_toArray]; omega)) ⟨e,?_⟩
 refine ⟨y,_,I.lset (its':=its.dropLast) hH e ?_ r.dropLast ?_,ru,q⟩
 ·show its.toArray.eraseIdxIfInBounds (its.toArray.size - 1)=its.dropLast.toArray
  rw [List.size_toArray,List.eraseIdxIfInBounds_toArray,wK]
 ·rw [List.length_dropLast]
  omega
noncomputable def rCat:R2:=fun x y H Q=>∃ l b xs zs,x=.ref l/\y=.ref b/\H l=some (.lst xs)/\H b=some (.lst zs)/\xs.length+zs.length<=sizeLine/\∀ p,H p=none->Q (.ref p) (upd H p (.lst (xs++zs)))
theorem aIz:OpR X (binaryOp .Add) rCat:=by
 intro pins s σ H x y v u Q I rx ry h
 obtain ⟨l,b,xs,zs,rfl,rfl,hH,hB,hz,q⟩:=h
 cases rx
 cases ry
 obtain ⟨z,its,n,r,hl,e⟩:=I.lstM hH
 obtain ⟨z2,its2,n2,r2,hl2,e2⟩:=I.lstM hB
 refine PySem.P.add_list e e2 ?_ (by rw [List.size_toArray,List.size_toArray]; omega)
 have ea:its.toArray++its2.toArray=(its++its2).toArray:=by simp
 rw [ea]
 exact ⟨.ref _,_,I.lnew (t':=s.toks) (r.append r2) (by rw [List.length_append]; omega),rfl,q _ I.fresh⟩
noncomputable def rRep:R2:=fun x y H Q=>∃ l k xs,x=.ref l/\y=.int k/\H l=some (.lst xs) /\ -(2 ^ 63)<=k/\k < 2 ^ 63/\xs.length*k.toNat<=sizeLine /\
 ∀ p,H p=none->Q (.ref p) (upd H p (.lst (List.replicate k.toNat xs).flatten))
theorem rT {α:Type} (xs:List α) (k:Nat):(List.replicate k xs).flatten.length=k*xs.length:=by
 induction k with
 | zero=>simp
 | succ k ih=>rw [List.replicate_succ,List.flatten_cons,List.length_append,ih,Nat.succ_mul,Nat.add_comm]
theorem aJi:OpR X (binaryOp .Mult) rRep:=by
 intro pins s σ H x y v u Q I rx ry h
 obtain ⟨l,k,xs,rfl,rfl,hH,h1,h2,hz,q⟩:=h
 cases rx
 obtain ⟨t,rfl⟩:=ry
 obtain ⟨z,its,n,r,hl,e⟩:=I.lstM hH
 have hlen:its.toArray.size*k.toNat<=sizeLine:=by rw [List.size_toArray,<- hl]; exact hz
 have hcap:¬ its.toArray.size*k.toNat > (2 ^ 63 - 1) / 8:=by
  have:(sizeLine:Nat)<=(2 ^ 63 - 1) / 8:=by decide
  omega
 have hfit:¬ (!Builtin.List.listFitsIndex k)=true:=by
  rw [fitsIndex_both h1 h2]
  exact Bool.false_ne_true
 have hlong:¬ Builtin.List.listTooLong (its.toArray.size*k.toNat)=true:=by
  rw [notLongL hlen]
  exact Bool.false_ne_true
 have hnew:List.foldl (fun x1 x2=>x1++x2) #[] (List.replicate (if its.toArray.isEmpty=true then 0 else k.toNat) its.toArray)=(List.replicate k.toNat its).flatten.toArray:=by
  have f0:∀ m:Nat,List.foldl (fun x1 x2=>x1++x2) #[] (List.replicate m its.toArray)=(List.replicate m its).flatten.toArray:=fun m=>by
   have:=lS its m []
   rw [List.nil_append] at this
   exact this
  rw [f0]
  cases its with
  | nil=>simp
  | cons a r'=>rw [if_neg (by simp)]
 refine wpAny_binaryOp_repeat_ref (T:="list") (U:="int") (by decide) ⟨_,e,rfl⟩ (fun s'=>typeIs_int s' k t) noFill_list_mul F.fills_int_mul F.slot_int_rmul repeat_list F.slot_int_index.lookup
  (call_meets F.slot_int_rmul (typeIs_int s k t) F.entry_int_rmul (F.args_int_rmul_2 _ _) (int___rmul___int_list k t l its.toArray n)
   ⟨e,rfl,⟨_,e,rfl⟩,call_meets F.slot_list_mul ⟨_,e,rfl⟩ F.entry_list_mul (F.args_list_mul_2 _ _) (AutoListH.list___mul___list_int_3 l its.toArray n k t hfit hcap hlong) ⟨e,?_⟩⟩)
 rw [hnew]
 exact ⟨.ref _,_,I.lnew (t':=s.toks) (r.rep k.toNat) (by rw [rT,Nat.mul_comm]; exact hz),rfl,q _ I.fresh⟩
end
section
variable {prog:Program} {w:World} {A:Around} {E:Value->Shared->Prop} {s:Shared}
set_option maxRecDepth 100000 in
end
section
variable {X:Cx}
end
end L2
namespace Att
open PySem PySem.W PySem.Calls PyProof.Rows
theorem mS {P:Params} {h:Heap}:∀ (ns:List Int) (vs:List Value),WellAll P h vs (ns.map WData.int)->IntsAre vs ns:=by
 intro ns
 induction ns with
 | nil =>
  intro vs w
  rw [List.map_nil] at w
  cases w
  exact .nil
 | cons n ns ih =>
  intro vs w
  rw [List.map_cons] at w
  cases w with
  | cons a b =>
   cases a
   exact .cons _ _ (ih _ b)
theorem zK {l:OpenLaw} {n:Nat} (hn:l.most=some n) {P:Params} {h:Heap} {args:List WData} {vals:List Value}
  (hpre:l.row.toRowW.claim.pre args=true) (hwl:WellAll P h vals args) :
  ∃ a vs ns,vals=[Value.ref a]/\args=[WData.list (ns.map WData.int)]/\h.get? a=some { cls:=.type "list",data:=.seq vs.toArray }/\IntsAre vs ns/\ns.length<=n:=by
 have hsh:WShape.hasAll [] args [.list .int]=true:=(pre_splitW hpre).1
 have hc:l.pre.holds [] { args:=args }=true:=(pre_splitW hpre).2
 obtain ⟨d,r,rfl,h1,h2⟩:=hasAllW_cons hsh
 obtain rfl:=hasAllW_nil h2
 obtain ⟨xs,rfl,h3⟩:=hasW_list h1
 obtain ⟨ns,rfl⟩:=items_int h3
 have hlen:ns.length<=n:=by
  unfold OpenLaw.pre at hc
  have h4:(WTm.not (.lt (.lit (.int (n:Int))) (.len (.arg 0)))).holds [] { args:=[.list (ns.map .int)] }=true:=by
   have h4:=(holds_andW hc).1
   rw [hn] at h4
   exact h4
  have h5:=condW_of h4 (w_not (w_lt w_lit (w_len_list (w_arg rfl))))
  rw [List.length_map] at h5
  refine Nat.le_of_not_lt fun q=>?_
  have q':(n:Int) < ((ns.length:Nat):Int):=by omega
  first
   | (rw [decide_eq_true q'] at h5; exact absurd h5 (by decide))
   | (simp at h5; omega)
 cases hwl with
 | cons w1 w2 =>
  cases w2
  cases w1 with
  | list ho hall=>exact ⟨_,_,ns,rfl,rfl,ho,mS ns _ hall,hlen⟩
theorem zD (l:OpenLaw) (args:List WData):l.row.toRowW.claim.post args (.bool true) args=true :=
 postW_of (r:=l.row.toRowW) (X:=(true==true))
  (show WShape.has [] (.bool true) .bool=true by first | rfl | decide | simp [WShape.has,WShape.arms,WShape.armsAll])
  (show (WTm.eq .res (.lit (.bool true))).value [] { args:=args,res:=some (.bool true),after:=args }=some (.bool (true==true)) from w_eq_bool (w_res rfl) w_lit) rfl
theorem attach_call {l:OpenLaw} {n:Nat} {q:Program} {loose:List Str} {XP:(Str->Option Value)->Heap->Prop} {YP:World->Heap->Prop} {d:DefRec}
  (hn:l.most=some n) (hdf:d.params.defaults=[])
  (call:∀ (w:World) (s₀ s₁:Shared) (mg mb:Str->Option Value) (fa:Addr) (o:Obj) (pm cd doc:Value) (a:Addr) (vs:List Value) (ns:List Int),
   Ground q loose [] XP w s₀ mg mb s₁.heap->YP w s₁.heap ->
   s₁.heap.get? fa=some o->o.data=.func (docDef d.name d.params d.body d.scope pm cd doc)->s₁.heap.CodeRec cd d.name->mg d.name=some (.ref fa) ->
   s₁.heap.get? a=some { cls:=.type "list",data:=.seq vs.toArray }->IntsAre vs ns->ns.length<=n->s₁.gens=#[] ->
   codeAny (model l.prog w) callerA (.call (.ref fa) ⟨[.ref a],[]⟩) (fun r s'=>r=.ok (.ret (.bool true))/\OldK s₁.heap s'.heap/\s'.os=s₁.os/\AllBare s'.gens) s₁) :
  WalkO q loose XP YP l.row.toRowW d [] (fun f vs=>PySem.call f vs):=by
 intro w s₀ s₁ mg mb G Y fa o pm cd doc dV kV ho hd hcd hD hmg hg args vals as hpre hlay hrd hwl hlo
 obtain rfl:dV=.none:=Dflts.none hD hdf
 obtain rfl:kV=.none:=Dflts.noKw hD
 obtain ⟨a,vs,ns,rfl,rfl,hobj,hints,hlen⟩:=zK hn hpre hwl
 refine enter_call (codeAny_mono (call w s₀ s₁ mg mb fa o pm cd doc a vs ns G Y ho (fd_plain hd) hcd hmg hobj hints hlen hg) fun r s' hq=>?_)
 obtain ⟨rfl,h2,h3,h4⟩:=hq
 exact ⟨.inl ⟨.bool true,.bool true,[],rfl,fun _=>rfl,.bool true,zD l _,fun _=>⟨List.Pairwise.nil,fun _ hm=>(nomatch hm)⟩⟩,h2,h3,h4⟩
section
variable {prog:Program} {w:World} {A:Around} {E:Value->Shared->Prop} {s:Shared} {K:Frag}
noncomputable def ledger (h:Heap) (L d:Addr):List (Addr×Obj):=(List.range h.objs.size).filterMap fun a=>if a=L\/a=d then none else (h.get? a).map fun o=>(a,o)
end
end Att
namespace L2
open PySem PySem.Spec PyProof.Rows
theorem lQ:∀ {vs:List Value} {ns:List Int},IntsAre vs ns->Vals (ns.map V.int) vs
 | _,_,.nil=>.nil
 | _,_,.cons n t h=>.cons ⟨t,rfl⟩ (lQ h)
noncomputable def Only (H:Hp):Prop:=∀ b,H b=none\/∃ o xs,H b=some (.frz o (.lst xs))
theorem aAp {P:Program} {w:World} {K:PySem.W.Frag} {mg mb:Str->Option Value} {CX:CXT} {k:Nat} {fa a:Addr} {fd:FuncData} {x:Str} {sp:Sp} {s₁:Shared} {vs:List Value} {ns:List Int}
  (KX:K.In s₁.heap) (hns:s₁.heap.Ns mainGlobals mg) (hb:s₁.heap.Ns builtinsNs mb) (hbb:∀ x:Str,x≠"__name__"->mb x=bootBuiltins x) (hlim:s₁.heap.NoLimit) (hg:s₁.gens=#[])
  (ha:s₁.heap.get? a=some { cls:=.type "list",data:=.seq vs.toArray }) (hi:IntsAre vs ns) (hl:ns.length<=sizeLine) (hr:Room k callerA)
  (F:∀ base:Heap,K.In base->base.Ns mainGlobals mg->FnOk P w K mg base CX k fa fd [x] sp) (hbind:∀ (s:Shared) (u:Value),BindsTo s fd ⟨[u],[]⟩ [(x,u)])
  (hsp:∀ H:Hp,Only H->SqL K H a (ns.map V.int)->sp [.ref a] H (fun v _=>v=.bl true) fun _ _ _=>False)
  (hCX:∀ H e s',CX [] H s₁ (fun _ _ _=>False) e s'->False) :
  codeAny (model P w) callerA (.call (.ref fa) ⟨[.ref a],[]⟩) (fun r s'=>r=.ok (.ret (.bool true))/\OldK s₁.heap s'.heap/\s'.os=s₁.os/\AllBare s'.gens) s₁:=by
 have rv:=lQ hi
 have lenV:=hi.length
 -- from an abstract heap in which nothing but the script may be tracked
 have core:∀ H:Hp,Only H->SqL K H a (ns.map V.int)->HOk P w H s₁.heap->(∀ b,H b≠none->b=a)->(H a≠none->K.lookup a=none) ->
   codeAny (model P w) callerA (.call (.ref fa) ⟨[.ref a],[]⟩) (fun r s'=>r=.ok (.ret (.bool true))/\OldK s₁.heap s'.heap/\s'.os=s₁.os/\AllBare s'.gens) s₁:=by
  intro H hO hS hok hA hK
  have base_of:∀ {b:Addr} {o:Obj},s₁.heap.get? b=some o->H b=none->(hidT s₁.heap H).get? b=some o:=fun e n=>aCp e n
  have noA:∀ {b:Addr} {o:Obj} {es:Array DictEntry} {ep:Nat},s₁.heap.get? b=some o->o.data=.dict es ep->H b=none:=fun {b o es ep} e d=>by
   cases q:H b with
   | none=>rfl
   | some u =>
    have e':b=a:=hA b (by rw [q]; simp)
    subst e'
    rw [ha] at e; cases e
    have d':Data.seq vs.toArray _=Data.dict es ep:=d
    cases d'
  have nsK:∀ {b:Addr} {m:Str->Option Value},s₁.heap.Ns b m->(hidT s₁.heap H).Ns b m:=fun {b m} ⟨o,es,ep,e,d,r⟩=>⟨o,es,ep,base_of e (noA e d),d,r⟩
  have hKb:K.In (hidT s₁.heap H):=fun b o e=>base_of (KX b o e) (by
   cases q:H b with
   | none=>rfl
   | some u =>
    have e':b=a:=hA b (by rw [q]; simp)
    subst e'
    rw [hK (by rw [q]; simp)] at e; cases e)
  have hM:Mod K mg (hidT s₁.heap H):=⟨hKb,nsK hns,⟨mb,nsK hb,hbb⟩,let ⟨mc,h1,h2⟩:=hlim; ⟨mc,nsK h1,h2⟩⟩
  have e0:Env0 P w K mg (hidT s₁.heap H) callerA [] s₁ H:=⟨rfl,hM,fun b o e=>aEv e,Nat.le_of_eq (zG _ _),trivial,fun b hb=>absurd (show b∈([]:List Addr) from hb) (by simp),hok,.of_eq hg⟩
  refine codeAny_mono ((F _ hKb (nsK hns)).run callerA [] s₁ H ⟨[.ref a],[]⟩ [.ref a] [.ref a] _ _ hr e0 (hbind s₁ (.ref a)) (.cons rfl .nil) (hsp H hO hS)) fun r s' h=>?_
  cases r with
  | error e=>exact (hCX H e s' h).elim
  | ok fl =>
   cases fl with
   | next=>exact False.elim h
   | brk=>exact False.elim h
   | cont=>exact False.elim h
   | ret u =>
    obtain ⟨v,H',os,bare,un,hok',r',q⟩:=h
    have q':v=.bl true:=q
    subst q'
    obtain rfl:u=Value.bool true:=r'
    refine ⟨rfl,OldK.of_keep fun b o e=>?_,os,bare⟩
    cases q:H b with
    | none=>exact un.keep b o e q (by intro z; exact absurd (show b∈([]:List Addr) from z) (by simp)) (by simp)
    | some u =>
     rcases hO b with z | ⟨ob,xs,z⟩
     ·rw [q] at z; cases z
     ·have z2:=un.frzs b ob _ z
      obtain ⟨e1,_⟩:=hok b _ z
      obtain ⟨e2,_⟩:=hok' b _ z2
      rw [e] at e1; cases e1
      exact e2
 cases hk:K.lookup a with
 | some o =>
  -- the script is one of the module's own objects
  have e:=KX a o hk
  rw [ha] at e
  cases e
  refine core (fun _=>none) (fun _=>.inl rfl) (.inr ⟨_,vs.toArray,_,hk,rfl,rfl,rfl,by rw [List.size_toArray,lenV]; exact hl,by simpa using rv⟩) (fun b u z=>by have z':(none:Option HO)=some u:=z; cases z') (fun b z=>absurd rfl z) fun z=>absurd rfl z
 | none =>
  refine core (fun b=>if b=a then some (.frz { cls:=.type "list",data:=.seq vs.toArray } (.lst (ns.map V.int))) else none) (fun b=>?_) (.inl (.inr ⟨{ cls:=.type "list",data:=.seq vs.toArray },if_pos rfl⟩)) (fun b u z=>?_) (fun b z=>?_) fun _=>hk
  ·by_cases hb:b=a
   ·exact .inr ⟨_,_,if_pos hb⟩
   ·exact .inl (if_neg hb)
  ·by_cases hb:b=a
   ·have z':=(if_pos hb).symm.trans z
    cases z'
    subst hb
    exact ⟨ha,by rw [List.length_map]; exact hl,vs,_,rv,ha⟩
   ·have z':=(if_neg hb).symm.trans z
    cases z'
  ·by_cases hb:b=a
   ·exact hb
   ·exact absurd (if_neg hb) z
end L2
namespace L2
open PySem PySem.Spec PyProof.Rows
noncomputable abbrev KOf {K:PySem.W.Frag} {h:Heap} (_:K.In h):PySem.W.Frag:=K
theorem xV {l:PySem.W.OpenLaw} {n k:Nat} {q:Program} {loose:List Str} {XP:(Str->Option Value)->Heap->Prop} {YP:World->Heap->Prop} {d:DefRec} {K:Params->PySem.W.Frag} {CX:World->CXT} {sp:World->Sp} {x:Str}
  (hn:l.most=some n) (hn2:n<=sizeLine) (hdf:d.params.defaults=[]) (hr:Room k callerA)
  (hY:∀ (w:World) (h:Heap),YP w h->(K w.params).In h)
  (F:∀ (w:World) (mg:Str->Option Value) (fa:Addr) (h:Heap),(K w.params).In h->h.Ns mainGlobals mg->mg d.name=some (.ref fa) ->
   ∃ fd:FuncData,(∀ (s:Shared) (u:Value),BindsTo s fd ⟨[u],[]⟩ [(x,u)]) /\
    ∀ base:Heap,(K w.params).In base->base.Ns mainGlobals mg->FnOk l.prog w (K w.params) mg base (CX w) k fa fd [x] (sp w))
  (hsp:∀ (w:World) (H:Hp) (a:Addr) (ns:List Int),ns.length<=n->Only H->SqL (K w.params) H a (ns.map V.int)->sp w [.ref a] H (fun v _=>v=.bl true) fun _ _ _=>False)
  (hCX:∀ (w:World) (H:Hp) (s:Shared) (e:Value) (s':Shared),CX w [] H s (fun _ _ _=>False) e s'->False) :
  PySem.W.WalkO q loose XP YP l.row.toRowW d [] (fun f vs=>PySem.call f vs):=by
 refine Att.attach_call hn hdf fun w s₀ s₁ mg mb fa o pm cd doc a vs ns G Y ho hd hcd hmg hobj hints hlen hg=>?_
 have KX:=hY w _ Y
 obtain ⟨fd,hb,hF⟩:=F w mg fa _ KX G.T.g hmg
 exact aAp KX G.T.g G.T.b G.T.builtins G.T.nolimit hg hobj hints (Nat.le_trans hlen hn2) hr hF hb (fun H hO hS=>hsp w H a ns hlen hO hS) fun H e s'=>hCX w H s₁ e s'
end L2
/- THE LAST THEOREM (shape; LID,My.* are yours):
  My.Adr: a structure of the addresses that your layer names (classes,functions); My.Txt K t: a structure (Prop) of the equations over K;
  My.txt_mk:{K} {implicit addresses ..} (e1:nsIn K mainGlobals "law"=some (some (.ref f))) (e2:K.lookup f=some ⟨oc,od,.func (fnOf "law" "law" params body scope dV kV doc pm an cdv ct),sl⟩) (e3:codeIn K cdv "law"=true) ..:∃ t,My.Txt K t
set_option maxRecDepth 100000 in
set_option maxHeartbeats 0 in
theorem PySem.Challenge.cw_LID_holds : PySem.Challenge.rw_LID.Holds := by
 w_on; o_law; k_head; (case hw=>w_witness2)
 k_fill
 refine L2.xV (l:=PySem.Challenge.rw_LID) (n:=63) (k:=40) (x:="script") (CX:=fun w=>..) (sp:=fun _=>My.sp_law) rfl (by decide) rfl ⟨rfl,by decide,by decide⟩ (fun w h Y=>PySem.W.kIn_of Y) ?F ?S ?C
 case F =>
  intro w mg fa h KX G hmg
  have T:∃ t,My.Txt (L2.KOf KX) t:=by
   dsimp only [L2.KOf]                          -- K must stand as «<heap const> w.params» for k_is
   refine' My.txt_mk ?e1 ?e2 ?e3 ..
   (case e1=>PySem.W.k_is)                    -- in the order: a name->its address->its object->its parts
   (case e2=>PySem.W.k_is)
   ..
  obtain ⟨t,T⟩:=T
  have e0:=hmg.symm.trans (PySem.W.mg_of KX G T.law)
  cases e0                                       -- fa is the law's own address
  exact ⟨_,fun s u=>.of_eq rfl,fun base kb nb=>My.law_fn T kb nb⟩     -- if «.of_eq rfl» comes too early: refine' ⟨_,?b,fun base kb nb=>My.law_fn T kb nb⟩; exact fun s u=>.of_eq rfl
 case S=>exact fun w H a ns hl hO hS=>..
 case C=>exact ..
(the tactic k_is has no namespace: write k_is) -/
namespace L2
open PySem PySem.Spec PyProof.Rows
noncomputable def defArgs (s:Stmt):Arguments:=match s with
 | .FunctionDef _ a _ _ _ _ _ _ _ _=>a
 | _=>{ posonlyargs:=[],args:=[],vararg:=none,kwonlyargs:=[],kw_defaults:=[],kwarg:=none,defaults:=[] }
noncomputable def defBody (s:Stmt):List Stmt:=match s with
 | .FunctionDef _ _ b _ _ _ _ _ _ _=>b
 | _=>[]
noncomputable def defScope (s:Stmt):Scope:=match s with
 | .FunctionDef _ _ _ _ _ _ sc _ _ _=>sc
 | _=>{ kind:=.function,names:=[],isGenerator:=false,isCoroutine:=false }
noncomputable abbrev CX0:CXT:=fun _ _ _ _ _ _=>False
noncomputable abbrev E0:XK:=fun _ _ _=>False
theorem pass0 {X:Cx}:Passes CX0 X E0:=fun _ _ _ _ _ _ _ h=>h.elim
structure Fun (K:PySem.W.Frag) (x qual:Str) (st:Stmt) (f:Addr) (fd:FuncData):Prop where
 ex:∃ (oc:Value) (od:Option Addr) (kV doc pm:Value) (an:Option Addr) (cdv ct:Value) (osl:Array (Option Value)),
  fd=PySem.W.fnOf x qual (defArgs st) (defBody st) (defScope st) .none kV doc pm an cdv ct/\K.lookup f=some ⟨oc,od,.func fd,osl⟩/\PySem.W.codeIn K cdv qual=true
 kp:PySem.W.keepIn K (.ref f)=true
section
variable {P:Program} {w:World} {K:PySem.W.Frag} {mg:Str->Option Value} {base:Heap}
theorem Fun.ok {x qual:Str} {st:Stmt} {f:Addr} {fd:FuncData} {N ps:List Str} {k:Nat} {sp:Sp} (F:Fun K x qual st f fd) (S:FnScope N ps (defScope st)) (len:∀ vs H Q E,sp vs H Q E->vs.length=ps.length)
  (hbody:∀ (cdv:Value) (A:Around) (outer:List Env) (s:Shared) (H:Hp) (vs:List V) (Q:VK) (E:XK),Room k (A.deeper (envOfC qual (defScope st) s.heap.objs.size f cdv))->sp vs H Q E ->
   ∃ t,PSs (cxOf CX0 P w K mg base N qual (defScope st) f cdv A outer s H E).nox (defBody st) t/\t { nx:=fun _ H'=>Q .non H',rt:=Q } (start N vs) H):FnOk P w K mg base CX0 (k+1) f fd ps sp:=by
 obtain ⟨oc,od,kV,doc,pm,an,cdv,ct,osl,rfl,lk,hcd⟩:=F.ex
 refine aLs lk hcd S len fun A outer s H vs Q E hr hsp=>?_
 obtain ⟨t,h,q⟩:=hbody cdv A outer s H vs Q E hr hsp
 exact ⟨t,h.nox,q⟩
theorem Fun.binds {x qual:Str} {st:Stmt} {f:Addr} {fd:FuncData} {ps:List Str} (F:Fun K x qual st f fd)
  (h:∀ (kV doc pm:Value) (an:Option Addr) (cdv ct:Value) (us:List Value),us.length=ps.length->bindArgs (PySem.W.fnOf x qual (defArgs st) (defBody st) (defScope st) .none kV doc pm an cdv ct) ⟨us,[]⟩=pure (ps.zip us)):Binds K fd ps []:=by
 obtain ⟨oc,od,kV,doc,pm,an,cdv,ct,osl,rfl,lk,hcd⟩:=F.ex
 exact .all (h kV doc pm an cdv ct)
theorem aJ {x qual:Str} {st:Stmt} {f:Addr} {oc:Value} {od an:Option Addr} {osl:Array (Option Value)} {kV doc pm cdv ct:Value} (l:K.lookup f=some ⟨oc,od,.func (PySem.W.fnOf x qual (defArgs st) (defBody st) (defScope st) .none kV doc pm an cdv ct),osl⟩)
  (c:PySem.W.codeIn K cdv qual=true) (k:PySem.W.keepIn K (.ref f)=true):Fun K x qual st f (PySem.W.fnOf x qual (defArgs st) (defBody st) (defScope st) .none kV doc pm an cdv ct):=⟨⟨oc,od,kV,doc,pm,an,cdv,ct,osl,rfl,l,c⟩,k⟩
end
theorem small1000 {n:Nat} (h:n<=1000):n < sizeLine:=Nat.lt_of_le_of_lt h (by decide)
section
variable {X:Cx}
end
noncomputable def Same (H H':Hp):Prop:=∀ b o,H b=some o->H' b=some o
theorem Same.refl (H:Hp):Same H H:=fun _ _ h=>h
theorem Same.trans {H H1 H2:Hp} (a:Same H H1) (b:Same H1 H2):Same H H2:=fun c o h=>b c o (a c o h)
theorem Same.free {H H':Hp} (e:Same H H') {l:Addr} (h:H' l=Option.none):H l=Option.none:=by
 cases q:H l with
 | none=>rfl
 | some o =>
  rw [e l o q] at h
  cases h
theorem Same.seq {K:PySem.W.Frag} {H H':Hp} {a:Addr} {xs:List V} (e:Same H H') (h:SqL K H a xs):SqL K H' a xs:=by
 rcases h with (h | ⟨o,h⟩) | h
 ·exact .inl (.inl (e _ _ h))
 ·exact .inl (.inr ⟨o,e _ _ h⟩)
 ·exact .inr h
end L2
set_option maxHeartbeats 4000000
namespace L2
open PySem PySem.Spec PyProof.Rows
section
variable {X:Cx} {tg:Expr}
noncomputable def CDivW (_ j:Int):Prop:=0 < j/\j < 18446744073709551616
theorem zH {n:Nat} (h:n < 18446744073709551616):n.log2 < 9000:=by
 by_cases h0:n=0
 ·subst h0; decide
 ·have:n.log2 < 64:=(Nat.log2_lt h0).2 (by simpa using h)
  omega
theorem aCt:OpR X (binaryOp .FloorDiv) (rI CDivW fun i j=>.int (i / j)):=opI fun i j _ _ _ _ _ hc q=>by
 have h1:(0:Int) < j:=hc.1
 have h2:j < 18446744073709551616:=hc.2
 exact floordiv_int (by omega) (by rw [Int.fdiv_eq_ediv_of_nonneg i (by omega)]; exact q) (.inl (PyProof.noPylong_of_log2 (zH (by omega))))
noncomputable def rIsT (K:PySem.W.Frag):List V->Hp->VK->Prop:=fun xs H Q=>∃ x T t b,xs=[x,.ty T]/\TyOf K H x t/\PySem.W.kitOne K t (.type T)=some b/\Q (.bl b) H
theorem tQ:CallR X (.builtin "isinstance") (rIsT X.K):=by
 intro pins s σ H xs us Q I r h
 obtain ⟨x,T,t,b,e,ty,ek,q⟩:=h
 subst e
 obtain ⟨u,w',rfl,r1,r2⟩:=vals2 r
 obtain rfl:w'=Value.type T:=r2
 exact yN I r1 ty ek fun tk=>⟨.bl b,H,I.tok tk,rfl,q⟩
noncomputable def Itv (K:PySem.W.Frag) (a:Addr) (xs:List V):It :=
 ⟨fun i H=>SqL K H a xs/\i < xs.length,fun i H x H'=>H'=H/\xs[xs.length - 1 - i]?=some x,fun i _=>xs.length<=i⟩
theorem aAb {P:Program} {w:World} {K:PySem.W.Frag} {tg:Expr} (a it:Addr) (xs:List V):Turn P w K tg (Itv K a xs) [it] it (fun i h=>i<=xs.length/\h.IsRevIter it a ((xs.length:Int) - 1 - (i:Int))) where
 mem:=by simp
 obj:=fun i h st b hb=>by
  have e:b=it:=by simpa using hb
  subst e
  obtain ⟨o,e,c,d⟩:=st.2
  exact ⟨o,e,fun v z=>by rw [d] at z; cases z⟩
 keep:=fun i h h' st k=>⟨st.1,st.2.at fun o e=>k it (by simp) o e⟩
 item:=by
  intro X hP hw hK hc i pins s σ H E I hf st hg
  subst hP hw hK
  obtain ⟨hq,hx⟩:=hg
  obtain ⟨its,rv,p,hz⟩:=I.list hq
  have hlt:xs.length - 1 - i < xs.length:=by omega
  have hx':xs[xs.length - 1 - i]?=some xs[xs.length - 1 - i]:=List.getElem?_eq_getElem hlt
  obtain ⟨u,hu,ru⟩:=rv.get hx'
  obtain ⟨f0,f1,f2,f3,f4,f5⟩:=hf it (by simp)
  have st2:=st.2
  have e1:(xs.length:Int) - 1 - (i:Int)=((xs.length - 1 - i:Nat):Int):=by omega
  rw [e1] at st2
  refine wpAny_pyNext_rev_item st2 p.isList (x:=u) (by simpa using hu) fun h' st' sb=>?_
  have I1:Inv X pins σ H { s with heap:=h' }:=I.turned (t':=s.toks) (fun b o hb e=>(sb.2 b hb).trans e) f0 f1 f3 f4 f5
  have e2:((xs.length - 1 - i:Nat):Int) - 1=(xs.length:Int) - 1 - ((i+1:Nat):Int):=by omega
  rw [e2] at st'
  obtain ⟨o,e,c,d⟩:=id st'
  exact ⟨u,rfl,pJ (s:={ s with heap:=h' }) e c d (by decide) ⟨_,H,I1,ru,⟨rfl,hx'⟩,⟨hx,st'⟩,fun b hb=>(hf b hb).1⟩⟩
 done:=by
  intro X hP hw hK hc i pins s σ H E I hf st hg
  subst hP hw hK
  have hx:xs.length<=i:=hg
  obtain ⟨f0,f1,f2,f3,f4,f5⟩:=hf it (by simp)
  have st2:=st.2
  have h1:=st.1
  have e1:(xs.length:Int) - 1 - (i:Int) = -1:=by omega
  rw [e1] at st2
  exact wpAny_pyNext_rev_end (I.ok.hd hc) st2 fun h' eb=>⟨rfl,I.turned (t':=s.toks) (fun b o hb e=>eb b o hb e) f0 f1 f3 f4 f5⟩
 self:=fun _ _ _ _ _ st h=>wpAny_pyIter_revIter st.2 h
theorem aAf:bootBuiltins "reversed"=some (.type "reversed"):=by first | rfl | kernel_rfl
inductive IntsE:List Expr->List Int->Prop where
 | nil:IntsE [] []
 | cons {i:Int} {j:Nat} {p:Pos} {r:List Expr} {ns:List Int} (h:IntsE r ns):IntsE (.Constant (.int i) j p::r) (i::ns)
theorem aFk {es:List Expr} {ns:List Int} (h:IntsE es ns):PA X es (fun _ H Q=>Q (ns.map V.int) H):=by
 induction h with
 | nil=>exact fN
 | cons h ih=>exact cY aAt ih
structure JE (X:Cx) (e:Expr) (t:TE):Prop where
 h:PE X e t
structure JS (X:Cx) (st:Stmt) (t:TS):Prop where
 h:PS X st t
structure JSs (X:Cx) (sts:List Stmt) (t:TS):Prop where
 h:PSs X sts t
end
end L2
namespace L2
open PySem PySem.Spec PyProof.Rows
theorem iA {env:Env} {f:Str×NameKind->List (Str×Addr)->Sem (ForInStep (List (Str×Addr)))}
  (hf:∀ y acc c,y.2=NameKind.free->env.cells.lookup y.1=some c->f y acc=pure (.yield ((y.1,c)::acc))) (hf':∀ y acc,y.2≠NameKind.free->f y acc=pure (.yield acc)) :
  ∀ (names:List (Str×NameKind)) (acc:List (Str×Addr)),(∀ y∈names,y.2=NameKind.free->∃ c,env.cells.lookup y.1=some c)->(∀ x c,acc.lookup x=some c->env.cells.lookup x=some c) ->
   ∃ cl,forIn names acc f=(pure cl:Sem (List (Str×Addr)))/\(∀ x c,cl.lookup x=some c->env.cells.lookup x=some c)/\(∀ y∈names,y.2=NameKind.free->∃ c,cl.lookup y.1=some c)/\(∀ x c,acc.lookup x=some c->∃ c',cl.lookup x=some c')
 | [],acc,_,ha=>⟨acc,rfl,ha,(fun _ h=>nomatch h),fun x c h=>⟨c,h⟩⟩
 | y::r,acc,hn,ha=>by
  by_cases hy:y.2=NameKind.free
  ·obtain ⟨c,hc⟩:=hn y List.mem_cons_self hy
   have ha':∀ x d,((y.1,c)::acc).lookup x=some d->env.cells.lookup x=some d:=fun x d h=>by
    rw [List.lookup_cons] at h
    cases e:x==y.1 with
    | true =>
     rw [e] at h
     have:x=y.1:=by simpa using e
     subst this
     cases h
     exact hc
    | false=>rw [e] at h; exact ha x d h
   obtain ⟨cl,h1,h2,h3,h4⟩:=iA hf hf' r _ (fun z hz=>hn z (List.mem_cons_of_mem _ hz)) ha'
   have hyl:∃ c',cl.lookup y.1=some c':=h4 y.1 c (by rw [List.lookup_cons]; simp)
   refine ⟨cl,?_,h2,fun z hz hzf=>?_,fun x d hx=>?_⟩
   ·rw [List.forIn_cons,hf y acc c hy hc]
    exact h1
   ·rcases List.mem_cons.mp hz with rfl | hz
    ·exact hyl
    ·exact h3 z hz hzf
   ·by_cases e:x=y.1
    ·rw [e]; exact hyl
    ·have e':(x==y.1)=false:=by simpa using e
     exact h4 x d (by rw [List.lookup_cons,e']; exact hx)
  ·obtain ⟨cl,h1,h2,h3,h4⟩:=iA hf hf' r acc (fun z hz=>hn z (List.mem_cons_of_mem _ hz)) ha
   refine ⟨cl,?_,h2,fun z hz hzf=>?_,h4⟩
   ·rw [List.forIn_cons,hf' y acc hy]
    exact h1
   ·rcases List.mem_cons.mp hz with rfl | hz
    ·exact absurd hzf hy
    ·exact h3 z hz hzf
theorem oX {scope:Scope} {env:Env} (h:∀ y∈scope.names,y.2=NameKind.free->∃ c,env.cells.lookup y.1=some c) :
  ∃ cl,closureFor scope env=pure cl/\(∀ x c,cl.lookup x=some c->env.cells.lookup x=some c)/\(∀ y∈scope.names,y.2=NameKind.free->∃ c,cl.lookup y.1=some c):=by
 obtain ⟨cl,h1,h2,h3,_⟩:=iA (env:=env) (f:=fun x cs=>match x with
   | (name,kind)=>if (kind==NameKind.free)=true then do
      let a <- cellOf env name
      pure (ForInStep.yield ((name,a)::cs))
     else pure (ForInStep.yield cs)) (fun y acc c hy hc=>by
    obtain ⟨n,k⟩:=y
    simp only at hy hc
    subst hy
    simp only [beq_self_eq_true,if_true,cellOf,hc]
    rfl) (fun y acc hy=>by
    obtain ⟨n,k⟩:=y
    simp only at hy
    have:(k==NameKind.free)=false:=by simpa using hy
    simp only [this,Bool.false_eq_true,if_false]) scope.names [] h (fun _ _ z=>by simp at z)
 refine ⟨cl,?_,h2,h3⟩
 show (forIn scope.names [] _ >>= fun cs=>pure cs)=pure cl
 exact (congrArg (· >>= fun cs=>(pure cs:Sem (List (Str×Addr)))) h1).trans rfl
theorem eU {env:Env} (hk:env.scope.kind=.function):∀ {names:List (Str×NameKind)} {x:Str},names.lookup x=some .free->env.kindOf x=some .cell ->
  (names.map fun (n,k)=>if (k==NameKind.free&&env.scope.kind==.function&&env.kindOf n==some .cell) then (n,NameKind.cell) else (n,k)).lookup x=some .cell
 | [],_,h,_=>by simp at h
 | (n,k)::r,x,h,hx=>by
  rw [List.map_cons]
  rw [List.lookup_cons] at h
  cases e:x==n with
  | true =>
   rw [e] at h
   have:x=n:=by simpa using e
   subst this
   cases h
   simp [hk,hx,List.lookup_cons]
  | false =>
   rw [e] at h
   have ih:=eU hk h hx
   simp only
   split <;> (rw [List.lookup_cons,e]; exact ih)
theorem dZ {env:Env}:∀ {names:List (Str×NameKind)} {x:Str} {k':NameKind},
  (names.map fun (n,k)=>if (k==NameKind.free&&env.scope.kind==.function&&env.kindOf n==some .cell) then (n,NameKind.cell) else (n,k)).lookup x=some k'->k'=.cell\/k'=.free ->
  ∃ k,(x,k)∈names/\(k=.cell\/k=.free)
 | [],_,_,h,_=>by simp at h
 | (n,k)::r,x,k',h,hk=>by
  rw [List.map_cons] at h
  simp only at h
  cases e:x==n with
  | true =>
   have:x=n:=by simpa using e
   subst this
   refine ⟨k,List.mem_cons_self,?_⟩
   split at h
   ·rename_i hc
    simp only [Bool.and_eq_true] at hc
    exact .inr (by simpa using hc.1.1)
   ·rw [List.lookup_cons,e] at h
    cases h
    exact hk
  | false =>
   have h':(r.map fun (n,k)=>if (k==NameKind.free&&env.scope.kind==.function&&env.kindOf n==some .cell) then (n,NameKind.cell) else (n,k)).lookup x=some k':=by
    split at h <;> (rw [List.lookup_cons,e] at h; exact h)
   obtain ⟨k1,h1,h2⟩:=dZ h' hk
   exact ⟨k1,List.mem_cons_of_mem _ h1,h2⟩
noncomputable def compCx (X:Cx) (Nc:List Str) (scope:Scope) (cl:List (Str×Addr)) (C:Addr) (fp:List Addr) (pins:List (Addr×Obj)) (s₂:Shared) (H₂:Hp):Cx where
 prog:=X.prog
 w:=X.w
 K:=X.K
 mg:=X.mg
 base:=X.base
 A:=X.A
 N:=Nc
 s₀:=s₂
 H₀:=H₂
 env:=compEnvC scope cl C X.env
 outer:=X.stack
 stack:=X.stack
 ex:=fp
 fn:=fun _=>false
 calm:=true
 pn:=X.pn++pins
 xe:=fun _ _=>False
structure CompOk (N0:List Str) (sc0:Scope) (scope:Scope) (Nc:List Str) (js:List (Option Nat)):Prop where
 kind:scope.kind=.function
 nocell:∀ y∈scope.names,y.2≠.cell
 names:∀ y∈scope.names,y.2=.local->scope.names.lookup y.1=some .local
 free:∀ y∈scope.names,y.2=.free->sc0.names.lookup y.1=some .cell
 len:js.length=Nc.length
 slots:∀ p∈Nc.zip js,∀ j∈p.2,N0[j]?=some p.1/\scope.names.lookup p.1=some .free/\sc0.names.lookup p.1=some .cell
noncomputable def outσ (js:List (Option Nat)) (σ:St):St:=js.map fun o=>o.bind fun j=>(σ[j]?).join
section
variable {X:Cx} {pins:List (Addr×Obj)} {σ:St} {H₂:Hp} {s₂:Shared} {fp:List Addr} {Nc:List Str} {scope:Scope} {js:List (Option Nat)} {cl:List (Str×Addr)} {C:Addr}
theorem aFd (I:Inv X pins σ H₂ s₂) (hc:X.calm=true) (T:CompOk X.N X.env.scope scope Nc js) (hcl:∀ x c,cl.lookup x=some c->X.env.cells.lookup x=some c) (hfr:∀ y∈scope.names,y.2=.free->∃ c,cl.lookup y.1=some c)
  (hC:s₂.heap.objs.size<=C) (hf:∀ b∈fp,FpOk X pins H₂ b) (ho:∀ b∈fp,∃ o,s₂.heap.get? b=some o):(compCx X Nc scope cl C fp pins s₂ H₂).Ok where
 mod:=I.ok.mod
 kind:=T.kind
 glob:=I.ok.glob
 blt:=I.ok.blt
 above:=hC
 inj:=fun x y c h1 h2=>I.ok.inj x y c (hcl x c h1) (hcl y c h2)
 has:=fun x hx=>by
  have hx':∃ k',(relabel scope X.env).names.lookup x=some k'/\(k'=.cell\/k'=.free):=by
   rcases hx with h | h
   ·exact ⟨_,h,.inl rfl⟩
   ·exact ⟨_,h,.inr rfl⟩
  obtain ⟨k',h1,h2⟩:=hx'
  obtain ⟨k,h3,h4⟩:=dZ h1 h2
  rcases h4 with rfl | rfl
  ·exact absurd rfl (T.nocell _ h3)
  ·exact hfr _ h3 rfl
 cab:=fun x c h=>by cases h
 hd:=fun _=>I.ok.hd hc
 frames:=I.ok.frames
 stk:=.inl rfl
 exf:=fun b hb=>by
  obtain ⟨f0,f1,f2,f3,f4,f5⟩:=hf b hb
  obtain ⟨o,e⟩:=ho b hb
  exact ⟨Nat.ne_of_lt (Nat.lt_of_lt_of_le (Heap.lt_size e) hC),fun x c h=>f4 x c (hcl x c h)⟩
 bs:=fun b o e=>I.bs b o e
 bsz:=Nat.le_trans I.ok.bsz I.sz
 noex:=fun b o e hb=>by
  obtain ⟨f0,f1,f2,f3,f4,f5⟩:=hf b hb
  rcases f3 with z | z
  ·exact I.ok.noex b o e z
  ·exact absurd (Nat.lt_of_lt_of_le (Heap.lt_size (I.ok.bs b o e).1) z) (Nat.lt_irrefl _)
 exfs:=fun b hb z=>by
  obtain ⟨f0,f1,f2,f3,f4,f5⟩:=hf b hb
  rcases List.mem_cons.mp (I.stkSub b z) with q | q
  ·exact f1 q
  ·exact f2 q
 funs:=I.stack
 frf:=I.stkFree
theorem uW (I:Inv X pins σ H₂ s₂) (hc:X.calm=true) (T:CompOk X.N X.env.scope scope Nc js) (hcl:∀ x c,cl.lookup x=some c->X.env.cells.lookup x=some c) (hfr:∀ y∈scope.names,y.2=.free->∃ c,cl.lookup y.1=some c)
  (hf:∀ b∈fp,FpOk X pins H₂ b) (ho:∀ b∈fp,∃ o,s₂.heap.get? b=some o) {h₁:Heap} {m:Str->Option Value} {tk:Nat} {n:Nat} (hC:C=s₂.heap.objs.size+1) (old:∀ b u,s₂.heap.get? b=some u->h₁.get? b=some u)
  (hns:h₁.Ns C m) (hD:h₁.get? s₂.heap.objs.size=some { cls:=.type "list",data:=.seq #[] n }) :
  Inv (compCx X Nc scope cl C fp pins s₂ H₂) [] (outσ js σ) (upd H₂ s₂.heap.objs.size (.lst [])) { s₂ with heap:=h₁,toks:=tk }:=by
 have lt:∀ b o,s₂.heap.get? b=some o->b < s₂.heap.objs.size:=fun b o e=>Heap.lt_size e
 have hle:s₂.heap.objs.size<=C:=by rw [hC]; exact Nat.le_succ _
 have cellc:∀ x c,cl.lookup x=some c->c < s₂.heap.objs.size:=fun x c h=>by
  obtain ⟨v,o,e,_⟩:=I.cell x c (hcl x c h)
  exact lt c o e
 have new:ObjOk X.prog X.w (upd H₂ s₂.heap.objs.size (.lst [])) h₁ s₂.heap.objs.size (.lst []):=⟨Nat.zero_le _,[],n,.nil,hD⟩
 refine ⟨aFd I hc T hcl hfr hle hf ho,rfl,I.bare,?_,⟨m,hns,fun i x v e1 e2 e3=>?_⟩,fun x c h=>?_,?_,fun x c h=>?_,fun p hp=>?_,I.hok.laid old (Nat.le_refl _) new,?_⟩
 ·exact Un.laid old (Nat.le_refl _) (I.hok.fresh (Nat.le_refl _))
 ·have e1:Nc[i]?=some x:=e1
  have e2':∃ j,js[i]?=some (some j)/\σ[j]?=some (some v):=by
   unfold outσ at e2
   rw [List.getElem?_map] at e2
   cases hj:js[i]? with
   | none=>rw [hj] at e2; cases e2
   | some o =>
    rw [hj] at e2
    cases o with
    | none=>cases e2
    | some j =>
     refine ⟨j,rfl,?_⟩
     have e2:(σ[j]?).join=some v:=Option.some.inj e2
     cases hq:σ[j]? with
     | none=>rw [hq] at e2; cases e2
     | some o=>rw [hq] at e2; exact congrArg some e2
  obtain ⟨j,hj,hv⟩:=e2'
  have hz:(x,some j)∈Nc.zip js:=by
   refine List.mem_of_getElem? (i:=i) ?_
   rw [List.getElem?_zip_eq_some]
   exact ⟨e1,hj⟩
  obtain ⟨t1,t2,t3⟩:=T.slots _ hz j rfl
  obtain ⟨m0,hn0,hl0⟩:=I.loc
  obtain ⟨u,ru,lk⟩:=hl0 j x v t1 hv (.inr (.inl t3))
  refine ⟨u,ru,.inr ⟨.inl (eU I.ok.kind t2 t3),?_⟩⟩
  rcases lk with ⟨k,_⟩ | ⟨_,c,hcc,hcell⟩
  ·have k:X.env.scope.names.lookup x=some .local:=k
   rw [t3] at k; cases k
  ·have hm:(x,NameKind.free)∈scope.names:=by
    have:∀ (l:List (Str×NameKind)),l.lookup x=some .free->(x,NameKind.free)∈l:=fun l=>by
     induction l with
     | nil=>intro h; simp at h
     | cons y r ih =>
      obtain ⟨n',k'⟩:=y
      intro h
      rw [List.lookup_cons] at h
      cases e:x==n' with
      | true =>
       rw [e] at h
       have:x=n':=by simpa using e
       subst this
       cases h
       exact List.mem_cons_self
      | false=>rw [e] at h; exact List.mem_cons_of_mem _ (ih h)
    exact this _ t2
   obtain ⟨c',hc'⟩:=hfr _ hm rfl
   have hc'':=hcl x c' hc'
   rw [hcc] at hc''
   cases hc''
   obtain ⟨o,ho,hd⟩:=hcell
   exact ⟨c,hc',o,old c o ho,hd⟩
 ·obtain ⟨v,o,e,d⟩:=I.cell x c (hcl x c h)
  exact ⟨v,o,old c o e,d⟩
 ·show upd H₂ _ _ C=none
  rw [bF (by rw [hC]; exact Nat.ne_of_gt (Nat.lt_succ_self _))]
  exact I.hok.fresh hle
 ·show upd H₂ _ _ c=none
  rw [bF (Nat.ne_of_lt (cellc x c h))]
  exact I.freeC x c (hcl x c h)
 ·have hp:p∈X.pn++pins:=by
   have hp:p∈(X.pn++pins)++[]:=hp
   rwa [List.append_nil] at hp
  obtain ⟨e,n0,ne,nf,d⟩:=I.pin p hp
  have hlt:=lt _ _ e
  refine ⟨old _ _ e,?_,?_,fun z=>?_,d⟩
  ·show upd H₂ _ _ p.1=none
   rw [bF (Nat.ne_of_lt hlt)]; exact n0
  ·show p.1≠C
   exact Nat.ne_of_lt (Nat.lt_of_lt_of_le hlt hle)
  ·rcases List.mem_cons.mp (I.stkSub _ z) with q | q
   ·exact ne q
   ·exact nf q
 ·show (outσ js σ).length=Nc.length
  unfold outσ
  rw [List.length_map]
  exact T.len
end
end L2
namespace L2
open PySem PySem.Spec PyProof.Rows
noncomputable def tTurns (J:It) (g:TG) (ti:TT) (te:TE) (D:Addr) (σ0:St) (H0:Hp) (Q:Hp->Prop):Prop :=
 ∃ W:Nat->Nat->St->Hp->Prop,(∃ m,W 0 m σ0 H0)/\∀ i m σ' H',W i m σ' H' ->
  (J.stop i H'/\Q H')\/(J.go i H'/\∃ Nn:St->Hp->Prop,(∀ σ'' H'',Nn σ'' H''->∃ m',m' < m/\W (i+1) m' σ'' H'') /\
   ∀ x H'',J.yld i H' x H''->g x σ' H'' fun σ2 H2=>ti σ2 H2 fun ok H3=>if ok=true then te σ2 H3 fun y H4=>∃ ys,H4 D=some (.lst ys)/\ys.length < sizeLine/\Nn σ2 (upd H4 D (.lst (ys++[y]))) else Nn σ2 H3)
noncomputable def tComp (js:List (Option Nat)) (wi:TI) (g:TG) (ti:TT) (te:TE):TE:=fun σ H Q=>wi σ H fun J H1=>∀ D,H1 D=none->tTurns J g ti te D (outσ js σ) (upd H1 D (.lst [])) fun H'=>Q (.ref D) H'
noncomputable def PIf (X:Cx) (ifs:List Expr) (ti:TT):Prop :=
 ∀ (pins:List (Addr×Obj)) (s:Shared) (σ:St) (H:Hp) (Q:Bool->Hp->Prop),Inv X pins σ H s->ti σ H Q ->
  wpAny (model X.prog X.w) X.A (forIn ifs true fun c r=>if r=true then do let ok <- isTrue c X.env (eval c X.env); pure (ForInStep.yield ok) else pure (ForInStep.yield r)) (TP X pins σ Q) X.xe s
noncomputable def tYes:TT:=fun _ H Q=>Q true H
theorem aFp {X:Cx}:PIf X [] tYes:=fun _ _ _ H _ I h=>wpAny_tests_nil ⟨H,I,h⟩
theorem aEx {X:Cx} {c:Expr} {tc:TT} (h:PT X c tc):PIf X [c] tc:=fun pins s σ H Q I hq=>wpAny_tests_one (h pins s σ H Q I hq)
theorem thnE {α:Type} {t:Sem α} {Q Q':α->Shared->Prop} {M:Model} {A:Around} {E0 E:Value->Shared->Prop} {s:Shared} (hE:∀ e s,¬ E0 e s) (h:wpAny M A t Q E0 s) (hQ:∀ a s,Q a s->Q' a s):wpAny M A t Q' E s:=wpAny_mono h hQ fun e s z=>(hE e s z).elim
theorem yK {Y:Cx} {tg iter elt:Expr} {ifs:List Expr} {scope:Scope} {pos:Pos} {J:It} {fp:List Addr} {it:Addr} {tn:Nat->Heap->Prop} {g:TG} {ti:TT} {te:TE} {D:Addr} {R:Result->Shared->Prop} {σ0:St} {H0:Hp} {s:Shared} {Q:Hp->Prop}
  (hc:Y.calm=true) (hx:∀ e s,¬ Y.xe e s) (T:Turn Y.prog Y.w Y.K tg J fp it tn) (hg:PG Y tg g) (hi:PIf Y ifs ti) (he:PE Y elt te)
  (stat:∀ H',(∀ b∈fp,H' b=none)->∀ b∈fp,FpOk Y [] H' b) (I0:Inv Y [] σ0 H0 s) (st0:tn 0 s.heap) (fr0:∀ b∈fp,H0 b=none) (h:tTurns J g ti te D σ0 H0 Q)
  (hR:∀ σ' H' s',Inv Y [] σ' H' s'->Q H'->R (.ok .next) s') :
  codeAny (model Y.prog Y.w) Y.A (.compLoop (.ListComp elt [⟨tg,iter,ifs,0⟩] scope pos) 0 (.ref it) (.ref D) Y.env) R s:=by
 obtain ⟨W,⟨m0,w0⟩,turn⟩:=h
 refine codeAny_loop rfl (fun n s'=>∃ i σ' H',Inv Y [] σ' H' s'/\tn i s'.heap/\(∀ b∈fp,H' b=none)/\W i n σ' H') (fun n s' hI=>?_) m0 ⟨0,σ0,H0,I0,st0,fr0,w0⟩
 show wpAny _ Y.A ((compTurn (.ListComp elt [⟨tg,iter,ifs,0⟩] scope pos) 0 (.ref it) (.ref D) Y.env).onRaise (fun x=>do noteFrame x Y.env; theTreesLotGoes x)) _ _ s'
 refine wpAny_noted ?_
 rw [compTurn_list]
 obtain ⟨i,σ3,H3,I3,st3,fr3,w3⟩:=hI
 refine wpAny_bind (wpAny_standAt (wpAny_bind ?_))
 rcases turn i n σ3 H3 w3 with ⟨stop,qn⟩ | ⟨go,Nn,hN,step⟩
 ·refine wpAny_mono (T.done Y rfl rfl rfl hc i [] s' σ3 H3 _ I3 (stat H3 fr3) st3 stop) (fun r s4 ⟨hr,I4⟩=>?_) (fun _ _ h=>h)
  subst hr
  exact wpAny_pure (hR σ3 H3 s4 I4 qn)
 ·refine wpAny_mono (T.item Y rfl rfl rfl hc i [] s' σ3 H3 _ I3 (stat H3 fr3) st3 go) (fun r s4 ⟨u,hr,h4⟩=>?_) (fun _ _ h=>h)
  subst hr
  refine wpAny_bind (wpAny_mono h4 (fun _ s5 ⟨x,H5,I5,r5,y5,st5,fr5⟩=>?_) fun _ _ h=>h)
  have I5':=I5.pinned (stat H5 fr5) (T.obj _ _ st5)
  refine wpAny_bind (thnE hx (hg _ s5 σ3 H5 x u _ I5' r5 (step x H5 y5)) fun _ s6 ⟨σ6,H6,I6,q6⟩=>?_)
  refine wpAny_bind (thnE hx (hi _ s6 σ6 H6 _ I6 q6) fun ok s7 ⟨H7,I7,q7⟩=>?_)
  have again:∀ {σ7:St} {H7:Hp} {s7:Shared},Inv Y ([]++pinsAt fp s5.heap) σ7 H7 s7->Nn σ7 H7->∃ m,m < n/\∃ i σ' H',Inv Y [] σ' H' s7/\tn i s7.heap/\(∀ b∈fp,H' b=none)/\W i m σ' H':=fun {σ7 H7 s7} I7 n7=>by
   obtain ⟨m',hm,w7⟩:=hN σ7 H7 n7
   refine ⟨m',hm,i+1,σ7,H7,I7.unpinned,T.keep _ _ _ st5 fun b hb o e=>(I7.pin (b,o) (List.mem_append_right _ (List.mem_append_right _ (gA hb e)))).1,fun b hb=>?_,w7⟩
   obtain ⟨o,e,d⟩:=T.obj _ _ st5 b hb
   exact (I7.pin (b,o) (List.mem_append_right _ (List.mem_append_right _ (gA hb e)))).2.1
  cases ok with
  | false=>exact wpAny_pure ⟨rfl,again I7 q7⟩
  | true =>
   refine wpAny_bind (wpAny_bind (thnE hx (he _ s7 σ6 H7 _ I7 q7) fun y s8 ⟨yv,H8,I8,r8,ys,hD,hz,n8⟩=>wpAny_bind ?_))
   refine thnE hx (qC _ s8 σ6 H8 (.ref D) [yv] (.ref D) [y] (fun _ H9=>Nn σ6 H9) I8 rfl (.cons r8 .nil) ⟨D,ys,yv,rfl,rfl,hD,hz,n8⟩) fun _ s9 ⟨_,H9,I9,_,q9⟩=>?_
   exact wpAny_pure (wpAny_pure ⟨rfl,again I9 q9⟩)
section
variable {X:Cx} {tg iter elt:Expr} {ifs:List Expr} {scope:Scope} {pos:Pos} {Nc:List Str} {js:List (Option Nat)} {g:TG} {ti:TT} {te:TE} {wi:TI}
structure CompEnd (X:Cx) (pins:List (Addr×Obj)) (σ:St) (H':Hp) (C:Addr) (s':Shared):Prop where
 inv:Inv X pins σ H' s'
 ns:∃ m,s'.heap.Ns C m
 no:H' C=none
 ne:C≠X.env.locals
 ge:X.s₀.heap.objs.size<=C
 nc:∀ x c,X.env.cells.lookup x=some c->c≠C
 np:∀ p∈X.pn++pins,p.1≠C
theorem CompEnd.go {X:Cx} {pins:List (Addr×Obj)} {σ σ':St} {H':Hp} {C:Addr} {s' t:Shared} (e:CompEnd X pins σ H' C s') (I:Inv X pins σ' H' t) {h':Heap} (hs:Heap.SameBut C t.heap h'):Inv X pins σ' H' { t with heap:=h' } :=
 I.turned (t':=t.toks) (it:=C) (fun b o hb q=>(hs.2 b hb).trans q) e.no e.ne (.inr e.ge) e.nc e.np
theorem wU {pins:List (Addr×Obj)} {σ:St} {H₂:Hp} {s₂:Shared} {fp:List Addr} {it:Addr} {J:It} {tn:Nat->Heap->Prop} {cl:List (Str×Addr)} {E:Value->Shared->Prop} {RR:Value->Addr->Result->Shared->Prop} {Q':Addr->Hp->Prop}
  (hc:X.calm=true) (T:CompOk X.N X.env.scope scope Nc js) (hcl:∀ x c,cl.lookup x=some c->X.env.cells.lookup x=some c) (hfr:∀ y∈scope.names,y.2=.free->∃ c,cl.lookup y.1=some c)
  (hg:∀ cl C fp pins s₂ H₂,PG (compCx X Nc scope cl C fp pins s₂ H₂) tg g) (hi:∀ cl C fp pins s₂ H₂,PIf (compCx X Nc scope cl C fp pins s₂ H₂) ifs ti) (he:∀ cl C fp pins s₂ H₂,PE (compCx X Nc scope cl C fp pins s₂ H₂) elt te)
  (I2:Inv X pins σ H₂ s₂) (Tn:Turn X.prog X.w X.K tg J fp it tn) (st2:tn 0 s₂.heap) (f2:∀ b∈fp,FpOk X pins H₂ b)
  (q:∀ D,H₂ D=none->tTurns J g ti te D (outσ js σ) (upd H₂ D (.lst [])) (Q' D))
  (hRR:∀ D C H' s',CompEnd X pins σ H' C s'->Q' D H'->RR (.ref D) C (.ok .next) s') :
  wpAny (model X.prog X.w) X.A (newList []) (fun acc s₃=>wpAny (model X.prog X.w) X.A (newFunctionEnv scope X.env.globals cl [] X.env.qual none .none (some X.env)) (fun cenv s₄ =>
   codeAny (model X.prog X.w) X.A (.compStart (.ListComp elt [⟨tg,iter,ifs,0⟩] scope pos) 0 (.ref it) acc { cenv with scope:=relabel scope X.env }) (RR acc cenv.locals) s₄) E s₃) E s₂:=by
 refine wpAny_newObj_type (wpAny_newFunctionEnv T.nocell (by intro y hy; simp at hy) (fun h₁ hns₁ hsb₁=>?_) T.kind)
 dsimp only at hns₁ hsb₁ ⊢
 generalize hH2:s₂.heap.push { cls:=.type "list",dict:=none,data:=.seq ([]:List Value).toArray }=Hx at hns₁ hsb₁ ⊢
 have hC:Hx.objs.size=s₂.heap.objs.size+1:=by rw [<- hH2,Heap.size_push]
 have below:∀ b,b < s₂.heap.objs.size->b≠Hx.objs.size:=fun b hb=>by rw [hC]; exact Nat.ne_of_lt (Nat.lt_succ_of_lt hb)
 have old:∀ b o,s₂.heap.get? b=some o->h₁.get? b=some o:=fun b o e=>hsb₁.extBut b o (below b (Heap.lt_size e)) (Heap.get?_push_of_some _ (hH2▸Heap.get?_push_of_some _ e))
 have hD:h₁.get? s₂.heap.objs.size=some { cls:=.type "list",data:=.seq #[] }:=hsb₁.extBut _ _ (by rw [hC]; exact Nat.ne_of_lt (Nat.lt_succ_self _)) (Heap.get?_push_of_some _ (hH2▸Heap.get?_push_size _ rfl))
 have ho:∀ b∈fp,∃ o,s₂.heap.get? b=some o:=fun b hb=>let ⟨o,e,_⟩:=Tn.obj _ _ st2 b hb; ⟨o,e⟩
 have hDn:H₂ s₂.heap.objs.size=none:=I2.hok.fresh (Nat.le_refl _)
 have hle:s₂.heap.objs.size<=Hx.objs.size:=by rw [hC]; exact Nat.le_succ _
 have st1:tn 0 h₁:=Tn.keep _ _ _ st2 fun b _ o e=>old b o e
 have fr1:∀ b∈fp,upd H₂ s₂.heap.objs.size (.lst []) b=none:=fun b hb=>by
  obtain ⟨o,e⟩:=ho b hb
  rw [bF (Nat.ne_of_lt (Heap.lt_size e))]
  exact (f2 b hb).1
 have stat:∀ H',(∀ b∈fp,H' b=none)->∀ b∈fp,FpOk (compCx X Nc scope cl Hx.objs.size fp pins s₂ H₂) [] H' b:=fun H' hn b hb=>by
  obtain ⟨g0,g1,g2,g3,g4,g5⟩:=f2 b hb
  obtain ⟨o,e⟩:=ho b hb
  refine ⟨hn b hb,below b (Heap.lt_size e),fun z=>?_,.inl hb,fun x c h=>g4 x c (hcl x c h),fun p hp=>g5 p ?_⟩
  ·rcases List.mem_cons.mp (I2.stkSub b z) with y | y
   ·exact g1 y
   ·exact g2 y
  ·have hp:p∈(X.pn++pins)++[]:=hp
   rwa [List.append_nil] at hp
 have loop:∀ tk,codeAny (model X.prog X.w) X.A (.compLoop (.ListComp elt [⟨tg,iter,ifs,0⟩] scope pos) 0 (.ref it) (.ref s₂.heap.objs.size) (compEnvC scope cl Hx.objs.size X.env)) (RR (.ref s₂.heap.objs.size) Hx.objs.size) { s₂ with heap:=h₁,toks:=tk }:=fun tk=>by
  refine yK (Y:=compCx X Nc scope cl Hx.objs.size fp pins s₂ H₂) rfl (fun _ _ z=>z) Tn (hg _ _ _ _ _ _) (hi _ _ _ _ _ _) (he _ _ _ _ _ _) stat
   (uW (tk:=tk) I2 hc T hcl hfr f2 ho hC old hns₁ hD) st1 fr1 (q _ hDn) fun σ' H' s' I' qQ=>?_
  obtain ⟨m,hm,_⟩:=I'.loc
  refine hRR _ _ H' s' ⟨?_,⟨m,hm⟩,I'.free,Nat.ne_of_gt (Nat.lt_of_lt_of_le I2.lt hle),Nat.le_trans I2.sz hle,fun x c h=>?_,fun p hp=>?_⟩ qQ
  ·exact I2.call' (ch:=fp) I'.os I'.base I'.hok I'.bare fun b hb=>let ⟨g0,g1,g2,g3,g4,g5⟩:=f2 b hb; ⟨g3,g1,g4,g5⟩
  ·obtain ⟨v,o,e,_⟩:=I2.cell x c h
   exact below c (Heap.lt_size e)
  ·exact below _ (Heap.lt_size (I2.pin p hp).1)
 exact codeAny_compStart_list (loop _) (Tn.self _ _ _ _ _ st1 (loop _))
theorem aFj (hc:X.calm=true) (T:CompOk X.N X.env.scope scope Nc js) (hit:PI X tg iter wi)
  (hg:∀ cl C fp pins s₂ H₂,PG (compCx X Nc scope cl C fp pins s₂ H₂) tg g) (hi:∀ cl C fp pins s₂ H₂,PIf (compCx X Nc scope cl C fp pins s₂ H₂) ifs ti) (he:∀ cl C fp pins s₂ H₂,PE (compCx X Nc scope cl C fp pins s₂ H₂) elt te)
  (hs:∀ x,foldedSetIterable iter X.env x=pure x:=by intro _; rfl):PE X (.ListComp elt [⟨tg,iter,ifs,0⟩] scope pos) (tComp js wi g ti te):=by
 intro pins s σ H Q I h
 rw [eval_ListComp]
 obtain ⟨cl,hcl0,hcl,hfr⟩:=oX (scope:=scope) (env:=X.env) (fun y hy hf=>I.ok.has y.1 (.inl (T.free y hy hf)))
 refine wpAny_comprehension_free (use:=none) rfl hs hcl0 T.kind T.names (thn (hit pins s σ H _ I h) fun xv s1 h1=>thn h1 fun itv s2 h2=>?_)
 obtain ⟨it,fp,tn,J,H2,e,I2,Tn,st2,f2,q⟩:=h2
 subst e
 refine wU (RR:=fun acc C=>compPost (model X.prog X.w) X.A X.xe none (EP X pins σ Q) acc C) hc T hcl hfr hg hi he I2 Tn st2 f2 q fun D C H' s' ce qD=>?_
 obtain ⟨m,hm⟩:=ce.ns
 exact ⟨m,hm,fun h' hs'=>⟨.ref D,H',ce.go ce.inv hs',rfl,qD⟩⟩
end
end L2
namespace L2
open PySem PySem.Spec PyProof.Rows
noncomputable def compOkB (N0:List Str) (sc0 scope:Scope) (Nc:List Str) (js:List (Option Nat)):Bool :=
 decide (scope.kind=.function)&&scope.names.all (fun y=>y.2 != .cell)&&scope.names.all (fun y=>y.2 != .local || scope.names.lookup y.1==some .local)&&scope.names.all (fun y=>y.2 != .free || sc0.names.lookup y.1==some .cell) &&
  (js.length==Nc.length)&&(Nc.zip js).all (fun p=>match p.2 with | none=>true | some j=>N0[j]?==some p.1&&scope.names.lookup p.1==some .free&&sc0.names.lookup p.1==some .cell)
theorem CompOk.of {N0:List Str} {sc0 scope:Scope} {Nc:List Str} {js:List (Option Nat)} (h:compOkB N0 sc0 scope Nc js=true):CompOk N0 sc0 scope Nc js:=by
 unfold compOkB at h
 simp only [Bool.and_eq_true,List.all_eq_true,beq_iff_eq,decide_eq_true_eq] at h
 obtain ⟨⟨⟨⟨⟨h1,h2⟩,h3⟩,h4⟩,h5⟩,h6⟩:=h
 refine ⟨h1,fun y hy=>by simpa using h2 y hy,fun y hy e=>?_,fun y hy e=>?_,h5,fun p hp j hj=>?_⟩
 ·have:=h3 y hy
  simpa [e] using this
 ·have:=h4 y hy
  simpa [e] using this
 ·have:=h6 p hp
  have hj:p.2=some j:=hj
  rw [hj] at this
  simpa [and_assoc] using this
section
variable {g:TG} {ti:TT} {te:TE} {D:Addr} {σ0:St} {H0:Hp} {Q:Hp->Prop}
end
section
variable {X:Cx} {a b:Expr} {rest:List Expr} {ta tb:TE} {pos:Pos} {tg:Expr}
end
end L2
namespace L2
open PySem PySem.Spec PyProof.Rows
section
variable {prog:Program} {w:World} {A:Around} {E:Value->Shared->Prop} {s:Shared}
theorem fits62 {a:Int} (h1 : -(2 ^ 62)<=a) (h2:a < 2 ^ 62):Builtin.Range.rangeFitsLong a=true:=by
 unfold Builtin.Range.rangeFitsLong
 simp only [Bool.and_eq_true,decide_eq_true_eq]
 omega
end
section
variable {X:Cx} {tg:Expr}
end
end L2
namespace L2
open PySem PySem.Spec PyProof.Rows
section
variable {X:Cx} {st:Stmt} {rest:List Stmt} {t u:TS}
end
theorem eQ:bootBuiltins "int"=some (.type "int"):=by decide +kernel
theorem xE:bootBuiltins "bool"=some (.type "bool"):=by decide +kernel
theorem pD:bootBuiltins "isinstance"=some (.builtin "isinstance"):=by decide +kernel
theorem aHw:bootBuiltins "max"=some (.builtin "max"):=by decide +kernel
theorem aJn:bootBuiltins "min"=some (.builtin "min"):=by decide +kernel
theorem dO:bootBuiltins "tuple"=some (.type "tuple"):=by decide +kernel
theorem rE:bootBuiltins "list"=some (.type "list"):=by decide +kernel
theorem aHo:bootBuiltins "zip"=some (.type "zip"):=by decide +kernel
theorem rV:bootBuiltins "enumerate"=some (.type "enumerate"):=by decide +kernel
theorem qG:bootBuiltins "sorted"=some (.builtin "sorted"):=by decide +kernel
end L2
namespace L2
open PySem
noncomputable def Scr (K:PySem.W.Frag) (H:Hp) (a:Addr) (xs:List V):Prop:=(∃ o,H a=some (.frz o (.lst xs)))\/∀ H',SqL K H' a xs
theorem Scr.sq {K:PySem.W.Frag} {H:Hp} {a:Addr} {xs:List V} (h:Scr K H a xs):SqL K H a xs:=by
 rcases h with ⟨o,h⟩ | h
 ·exact .inl (.inr ⟨o,h⟩)
 ·exact h H
theorem Scr.of {K:PySem.W.Frag} {H:Hp} {a:Addr} {xs:List V} (hO:Only H) (h:SqL K H a xs):Scr K H a xs:=by
 rcases h with (h | ⟨o,h⟩) | h
 ·rcases hO a with z | ⟨o,ys,z⟩
  ·rw [h] at z; cases z
  ·rw [h] at z; cases z
 ·exact .inl ⟨o,h⟩
 ·exact .inr fun _=>.inr h
noncomputable def SB (l:Addr) (H H':Hp):Prop:=∀ x o,x≠l->H x=some o->H' x=some o
theorem Scr.sb {K:PySem.W.Frag} {H H':Hp} {a l:Addr} {xs ys:List V} (h:Scr K H a xs) (hl:H l=some (.lst ys)) (s:SB l H H'):Scr K H' a xs:=by
 rcases h with ⟨o,h⟩ | h
 ·exact .inl ⟨o,s _ _ (aKw h hl (by intro z; cases z)) h⟩
 ·exact .inr h
theorem Scr.same {K:PySem.W.Frag} {H H':Hp} {a:Addr} {xs:List V} (h:Scr K H a xs) (s:Same H H'):Scr K H' a xs:=by
 rcases h with ⟨o,h⟩ | h
 ·exact .inl ⟨o,s _ _ h⟩
 ·exact .inr h
theorem SB.trans {l:Addr} {H H1 H2:Hp} (s:SB l H H1) (t:SB l H1 H2):SB l H H2:=fun x u n e=>t x u n (s x u n e)
open PySem.Spec PyProof.Rows
section
variable {X:Cx}
end
end L2
namespace Com
open PySem L2
structure IW (n k high low past now:Int):Prop where
 h0:0<=high
 hb:high<=1000000
 l0:0<=low
 lb:low<=1000000
 g:Int.gcd high low=Int.gcd n (k % n)
 d1:n ∣ k*past - high
 d2:n ∣ k*now - low
structure PV (n k e told square left:Int):Prop where
 t0:0<=told
 t1:told < n
 s0:0<=square
 s1:square < n
 l0:0<=left
 eq:told*square ^ left.toNat % n=k ^ e.toNat % n
noncomputable def bitsN:List Int->Nat
 | []=>0
 | b::r=>b.toNat+2*bitsN r
structure DG (e0 e:Int) (ds:List Int):Prop where
 nn:0<=e
 bit:∀ d∈ds,d=0\/d=1
 len:∃ m:Nat,e.toNat < 2 ^ m/\ds.length+m=62
 val:∀ r,bitsN r=e.toNat->bitsN (ds++r)=e0.toNat
noncomputable def BoxAt (H:Hp) (b:Addr):Prop:=∃ c s t:Int,H b=some (.lst [.int c,.int s,.int t])
noncomputable def Keep (b:Addr) (H H':Hp):Prop:=(∀ a o,a≠b->H a=some o->H' a=some o)/\BoxAt H' b
theorem Keep.trans {b:Addr} {H H1 H2:Hp} (x:Keep b H H1) (y:Keep b H1 H2):Keep b H H2:=⟨fun a o n e=>y.1 a o n (x.1 a o n e),y.2⟩
theorem Keep.same {b:Addr} {H H1 H2:Hp} (x:Keep b H H1) (y:Same H1 H2):Keep b H H2:=⟨fun a o n e=>y a o (x.1 a o n e),by obtain ⟨c,s,t,h⟩:=x.2; exact ⟨c,s,t,y _ _ h⟩⟩
theorem small {n:Nat} (h:n<=1000):n<=sizeLine:=Nat.le_of_lt (small1000 h)
end Com
namespace L2
open PySem PySem.Spec PyProof.Rows
section
variable {X:Cx} {K:PySem.W.Frag}
end
end L2
namespace L2
open PySem PySem.Spec PyProof.Rows
section
variable {P:Program} {W:World} {Ar:Around} {Ex:Value->Shared->Prop} {hp:Heap} {gn:Array GenState} {dr:Drawn} {tk:Nat} {oz:OsState}
variable {nm qn:Str} {C N:Addr} {bs bm bmB:List Value} {hdct:Bool} {sn:List Str} {sub:List Value} {ab:Bool} {col:Option Bool} {dd:Option Addr} {k0 k1 k2 k3 k5:Option Value} {B newId initId:String}
end
end L2
namespace L2
open PySem PySem.Spec PyProof.Rows
noncomputable def XRec (P:Addr->Prop) (H:Hp) (h:Heap) (e C:Addr) (d:Option Addr):Prop :=
 ∃ vs sl,h.get? e=some ⟨.ref C,d,.fields vs,sl⟩/\1 < vs.size /\
  (vs[1]?=some .none\/∃ T cT dT ts sT,vs[1]?=some (.ref T)/\P T/\H T=none/\h.get? T=some ⟨cT,dT,.fields ts,sT⟩/\3 < ts.size)
theorem XRec.imp {P P':Addr->Prop} {H:Hp} {h:Heap} {e C:Addr} {d:Option Addr} (x:XRec P H h e C d) (i:∀ T,P T->P' T):XRec P' H h e C d:=by
 obtain ⟨vs,sl,h1,h2,h3 | ⟨T,cT,dT,ts,sT,a1,a2,a3⟩⟩:=x
 ·exact ⟨vs,sl,h1,h2,.inl h3⟩
 ·exact ⟨vs,sl,h1,h2,.inr ⟨T,cT,dT,ts,sT,a1,i T a2,a3⟩⟩
section
variable {M:Model} {A A':Around} {E:Value->Shared->Prop} {s:Shared} {env:Env} {outer:List Env} {base:Heap} {L e C:Addr} {d:Option Addr} {H:Hp} {P:Addr->Prop} {Q:Unit->Shared->Prop}
theorem gM {h:Heap} {a:Addr} {c:Value} {d:Option Addr} {vs:Array Value} {sl:Array (Option Value)} {i:Nat} {x:Value} (ha:h.get? a=some ⟨c,d,.fields vs,sl⟩) :
  (h.update a (Obj.mapFields (·.setIfInBounds i x))).get? a=some ⟨c,d,.fields (vs.setIfInBounds i x),sl⟩:=Heap.get?_update_self _ ha rfl
theorem cZ {h:Heap} {a b:Addr} {f:Obj->Obj} (n:b≠a):(h.update a f).get? b=h.get? b:=Heap.get?_update_other _ _ (Ne.symm n)
theorem vW (x:XRec P H s.heap e C d) (he:H e≠none) 
  (hQ:∀ (h':Heap) (ch:List Addr),(∀ b∈ch,P b/\H b=none)->(∀ b o,b∉ch->s.heap.get? b=some o->h'.get? b=some o)->(∀ b o,s.heap.get? b=some o->∃ o',h'.get? b=some o')->XRec P H h' e C d->Q () { s with heap:=h' }) :
  wpAny M A (setFlight (.ref e) none) Q E s:=by
 obtain ⟨vs,sl,h1,h2,h3 | ⟨T,cT,dT,ts,sT,a1,a2,a3,a4,a5⟩⟩:=x
 ·unfold setFlight
  refine wpAny_bind (wpAny_field h1 rfl h3 ?_)
  rw [if_neg (by decide)]
  exact wpAny_pure (hQ s.heap [] (fun _ z=>nomatch z) (fun _ _ _ q=>q) (fun b o q=>⟨o,q⟩) ⟨vs,sl,h1,h2,.inl h3⟩)
 ·have ne:e≠T:=fun z=>he (z▸a3)
  have hz3:=a5
  unfold setFlight
  refine wpAny_bind (wpAny_field h1 rfl a1 ?_)
  rw [if_pos (show (Value.ref T != Value.none)=true by simp)]
  refine wpAny_setField a4 rfl hz3 (hQ _ [T] (fun b hb=>?_) (fun b o nb q=>(cZ fun z=>nb (by simp [z])).trans q) (fun b o q=>?_) ⟨vs,sl,(cZ ne).trans h1,h2,.inr ⟨T,cT,dT,_,sT,a1,a2,a3,gM a4,?_⟩⟩)
  ·rw [List.mem_singleton] at hb; subst hb; exact ⟨a2,a3⟩
  ·by_cases z:b=T
   ·subst z; exact ⟨_,gM a4⟩
   ·exact ⟨o,(cZ z).trans q⟩
  ·simp [hz3]
end
end L2
namespace L2
open PySem PySem.Spec PyProof.Rows
noncomputable def XO (e C:Addr) (d:Option Addr):HO:=.ext fun h=>∃ vs sl,h.get? e=some ⟨.ref C,d,.fields vs,sl⟩
theorem XO.ok {P:Program} {w:World} {H:Hp} {h:Heap} {e C:Addr} {d:Option Addr} {vs:Array Value} {sl:Array (Option Value)} (q:h.get? e=some ⟨.ref C,d,.fields vs,sl⟩):ObjOk P w H h e (XO e C d) :=
 ⟨⟨vs,sl,q⟩,⟨_,q⟩,fun h1 h2 ⟨vs,sl,z⟩ k=>⟨vs,sl,k _ z⟩⟩
theorem XO.at {P:Program} {w:World} {H:Hp} {h:Heap} {e C:Addr} {d:Option Addr} (x:HOk P w H h) (q:H e=some (XO e C d)):∃ vs sl,h.get? e=some ⟨.ref C,d,.fields vs,sl⟩:=(x e _ q).1
noncomputable def Free (X:Cx) (pins:List (Addr×Obj)) (T:Addr):Prop:=X.s₀.heap.objs.size<=T/\T≠X.env.locals/\(∀ x c,X.env.cells.lookup x=some c->c≠T)/\∀ p∈X.pn++pins,p.1≠T
section
variable {X:Cx} {pins:List (Addr×Obj)} {σ:List (Option V)} {H H':Hp} {s s':Shared} {e C:Addr} {d:Option Addr} {M:Model} {A A':Around} {E:Value->Shared->Prop} {Q:Unit->Shared->Prop}
theorem Inv.freeNew (I:Inv X pins σ H s) {T:Addr} (h:s.heap.objs.size<=T):Free X pins T:=by
 refine ⟨Nat.le_trans I.sz h,Nat.ne_of_gt (Nat.lt_of_lt_of_le I.lt h),fun x c q=>?_,fun p hp=>?_⟩
 ·obtain ⟨v,o,ho,_⟩:=I.cell x c q
  exact Nat.ne_of_lt (Nat.lt_of_lt_of_le (Heap.lt_size ho) h)
 ·exact Nat.ne_of_lt (Nat.lt_of_lt_of_le (Heap.lt_size (I.pin p hp).1) h)
theorem Inv.moved {h':Heap} {ch:List Addr} (I:Inv X pins σ H s) (he:H e=some (XO e C d)) (hst:X.stack=X.env::X.outer) (hfm:X.env.frame=some X.env.locals)
  (hc:∀ b∈ch,Free X pins b/\H b=none) (k1:∀ b o,b≠e->b∉frs (X.env::X.outer)->b∉ch->s.heap.get? b=some o->h'.get? b=some o)
  (k2:∀ b o,b∈frs (X.env::X.outer)->s.heap.get? b=some o->∃ sl,h'.get? b=some { o with slots:=sl }) (k3:∀ b o,s.heap.get? b=some o->∃ o',h'.get? b=some o')
  {vs:Array Value} {sl:Array (Option Value)} (new:h'.get? e=some ⟨.ref C,d,.fields vs,sl⟩):Inv X pins σ H { s with heap:=h' }:=by
 have hfr:∀ b,b∈frs (X.env::X.outer) ↔ b=X.env.locals\/b∈X.fs:=fun b=>by
  unfold frs; rw [List.filterMap_cons,hfm]; exact List.mem_cons
 have ne:∀ b,H b=none->b≠e:=fun b n z=>by subst z; rw [he] at n; cases n
 have hsf:=I.stkFree
 rw [hst] at hsf
 refine I.step (g':=s.gens) (d':=s.drawn) (t':=s.toks) (ch:=ch) (fun b hb=>⟨.inr (hc b hb).1.1,(hc b hb).1.2⟩) (fun b o nL nf nc q n=>k1 b o (ne b n) (fun z=>((hfr b).mp z).elim nL nf) nc q)
  (fun b o nL bf nc q n=>k2 b o ((hfr b).mpr (.inr bf)) q) (fun _ _ _ _ n=>n) (fun b o _ q=>k3 b o q) (fun _ _ q=>q) (fun _ _ _ q=>q) (fun b ps q=>⟨#[],by rw [q]; simp⟩) (fun m hm=>?_) (fun a o q=>?_) I.bare
 ·obtain ⟨o,es,ep,ho,r⟩:=hm
  obtain ⟨sl,q⟩:=k2 _ o ((hfr _).mpr (.inl rfl)) ho
  exact ⟨_,es,ep,q,r⟩
 ·by_cases ha:a=e
  ·subst ha; rw [he] at q; cases q; exact XO.ok new
  ·refine (I.hok a o q).stay (fun b u hb q'=>k1 b u ?_ ?_ ?_ q') (fun _ z=>z) fun _ _ z=>z
   ·rcases hb with rfl | hb
    ·exact ha
    ·rintro rfl; rw [he] at hb; cases hb
   ·intro z
    have n:=hsf b z
    rcases hb with rfl | hb
    ·rw [q] at n; cases n
    ·rw [hb] at n; cases n
   ·intro z
    have n:=(hc b z).2
    rcases hb with rfl | hb
    ·rw [q] at n; cases n
    ·rw [hb] at n; cases n
theorem Inv.again (I:Inv X pins σ H s) (hst:X.stack=X.env::X.outer) (hfm:X.env.frame=some X.env.locals) (x:XRec (Free X pins) H s.heap e C d) (he:H e=some (XO e C d))
  (hQ:∀ h',Inv X pins σ H { s with heap:=h' }->XRec (Free X pins) H h' e C d->Q () { s with heap:=h' }) :
  wpAny M A (setFlight (.ref e) none) Q E s:=by
 refine vW x (by rw [he]; simp) fun h' ch hc k1 k3 r=>?_
 obtain ⟨vs,sl,q,_⟩:=id r
 have k2:∀ b o,b∈frs (X.env::X.outer)->s.heap.get? b=some o->∃ sl,h'.get? b=some { o with slots:=sl }:=fun b o hb q=>by
  refine ⟨o.slots,k1 b o (fun z=>?_) q⟩
  have hl:=I.stack
  rw [hst] at hl
  rcases List.mem_cons.mp (show b∈X.env.locals::X.fs by unfold frs at hb; rw [List.filterMap_cons,hfm] at hb; exact hb) with rfl | hb'
  ·exact (hc _ z).1.2.1 rfl
  ·obtain ⟨_,o',ho',_⟩:=I.ok.funs.mem hb'
   exact absurd (Heap.lt_size ho') (Nat.not_lt.mpr (hc b z).1.1)
 exact hQ h' (I.moved he hst hfm hc (fun b o _ _ nc q=>k1 b o nc q) k2 k3 q) r
end
noncomputable def CX1 (P:Program) (w:World):CXT:=fun outer H s E ev s'=>∃ a H' C d,ev=.ref a/\s'.os=s.os/\AllBare s'.gens/\Un (frs outer) [] H H' s.heap s'.heap/\HOk P w H' s'.heap /\
 XRec (fun T=>s.heap.objs.size<=T) H' s'.heap a C d/\H' a=some (XO a C d)/\E (.ref a) none H'
noncomputable def XE (X:Cx) (pins:List (Addr×Obj)) (σ:List (Option V)) (R:Addr->Hp->Prop) (ev:Value) (s':Shared):Prop :=
 ∃ a H' C d,ev=.ref a/\Inv X pins σ H' s'/\XRec (Free X pins) H' s'.heap a C d/\H' a=some (XO a C d)/\R a H'
structure Xz (X:Cx) (R:Addr->Hp->Prop):Prop where
 go:∀ pins σ ev s',XE X pins σ R ev s'->X.xe ev s'
theorem XE.imp {X:Cx} {pins:List (Addr×Obj)} {σ:List (Option V)} {R R':Addr->Hp->Prop} {ev:Value} {s':Shared} (x:XE X pins σ R ev s') (h:∀ a H,R a H->R' a H):XE X pins σ R' ev s' :=
 let ⟨a,H',C,d,x1,x2,x3,x4,x5⟩:=x
 ⟨a,H',C,d,x1,x2,x3,x4,h _ _ x5⟩
theorem XE.call {X:Cx} {pins:List (Addr×Obj)} {σ:List (Option V)} {H:Hp} {s:Shared} {E:XK} {ev:Value} {s':Shared} (I:Inv X pins σ H s) (h:CX1 X.prog X.w X.stack H s E ev s'):XE X pins σ (fun a H'=>E (.ref a) none H') ev s':=by
 obtain ⟨a,H',C,d,rfl,os,ba,un,hok,x,he,q⟩:=h
 exact ⟨a,H',C,d,rfl,I.call' os un hok ba (fun b z=>nomatch z),x.imp fun T hT=>I.freeNew hT,he,q⟩
end L2
namespace L2
open PySem PySem.Spec PySem.W PySem.Calls PyProof.Rows Builtin Builtin.ObjectAttr
noncomputable abbrev vb:List Value:=[.type "ValueError",.type "Exception",.type "BaseException",.type "object"]
section
variable {prog:Program} {w:World} {A:Around} {E:Value->Shared->Prop} {s:Shared} {K:Frag} {x C LE:Addr} {vs:Array Value} {sl:Array (Option Value)} {cd:ClassData} {name:Str} {v:Value}
end
end L2
namespace L2
open PySem PySem.Spec PySem.W PySem.Calls PyProof.Rows Builtin Builtin.ObjectAttr
section
variable {prog:Program} {w:World} {A:Around} {E:Value->Shared->Prop} {s:Shared} {K:Frag} {x C LE dx:Addr} {vs:Array Value} {sl:Array (Option Value)} {cd:ClassData} {name:Str} {v:Value} {mA:Str->Option Value}
end
end L2
namespace L2
open PySem PySem.Spec PySem.W PySem.Calls PyProof.Rows Builtin Builtin.ObjectAttr
noncomputable def xcB (K:Frag) (C:Addr) (bm0:List Value) (ini:Option Value):Bool:=match K.lookup C with
 | some ⟨.type "type",_,.cls cd,sl⟩=>(match cd.mro,sl.toList with
  | .ref C'::bm,[_,_,_,_,some (.builtin n),_]=>C'==C&&bm==bm0&&n=="ValueError.__new__"&&!cd.hasDel&&nsOkIn K cd.ns&&nsIn K cd.ns "__init__"==some ini
  | _,_=>false)
 | _=>false
structure Xc (K:Frag) (c:Str) (C LE:Addr):Prop where
 nm:nsIn K mainGlobals c=some (some (.ref C))
 cd:∃ cd,clsIn K C=some cd/\cd.name=c/\cd.mro=.ref C::.ref LE::vb
 le:∃ cl,clsIn K LE=some cl/\cl.name="LentError"
 leN:nsIn K mainGlobals "LentError"=some (some (.ref LE))
 ne:c≠"LentError"
 hd:hasDictIn K C=true
 ga:findIn K (.ref C) "__getattribute__"=some (some (.builtin "BaseException.__getattribute__"))
 gh:findIn K (.ref C) "__getattr__"=some none
 cl:findIn K (.ref C) "__class__"=some (some (.builtin "object.__class__"))
 ob:∃ ini,xcB K C (.ref LE::vb) ini=true
 leO:xcB K LE vb none=true
structure XcO (h:Heap) (C:Addr) (bm:List Value) (ini:Option Value):Prop where
 ex:∃ nm q N bs hdct sn sub ab col dd k0 k1 k2 k3 k5,h.get? C=some (excClassObj nm q C N bs bm hdct sn sub ab col dd k0 k1 k2 k3 k5 "ValueError.__new__")/\∃ mN,h.Ns N mN/\mN "__init__"=ini
section
variable {M:Model} {A:Around} {E:Value->Shared->Prop} {s:Shared} {env:Env} {C:Addr} {bm:List Value} {ini:Option Value} {Q:Flow->Shared->Prop}
end
end L2
namespace L2
open PySem PySem.Spec PySem.W PySem.Calls PyProof.Rows Builtin Builtin.ObjectAttr
noncomputable def XN (e C:Addr) (d:Option Addr):HO:=.ext fun h=>∃ vs sl t0,h.get? e=some ⟨.ref C,d,.fields vs,sl⟩/\vs[1]?=some .none/\vs[0]?=some (.ref t0)
section
variable {P:Program} {w:World} {H:Hp} {h h':Heap} {e C a:Addr} {d:Option Addr} {o:HO}
theorem XN.ok {vs:Array Value} {sl:Array (Option Value)} {t0:Addr} (q:h.get? e=some ⟨.ref C,d,.fields vs,sl⟩) (q1:vs[1]?=some .none) (q0:vs[0]?=some (.ref t0)):ObjOk P w H h e (XN e C d) :=
 ⟨⟨vs,sl,t0,q,q1,q0⟩,⟨_,q⟩,fun h1 h2 ⟨vs,sl,t0,z,z'⟩ k=>⟨vs,sl,t0,k _ z,z'⟩⟩
theorem XN.at (x:HOk P w H h) (q:H e=some (XN e C d)):∃ vs sl t0,h.get? e=some ⟨.ref C,d,.fields vs,sl⟩/\vs[1]?=some .none/\vs[0]?=some (.ref t0):=(x e _ q).1
theorem ObjOk.here (x:ObjOk P w H h a o):∃ u,h.get? a=some u:=by
 cases o with
 | lst xs=>obtain ⟨_,_,_,_,e⟩:=x; exact ⟨_,e⟩
 | tup xs=>obtain ⟨_,_,_,p⟩:=x; obtain ⟨u,e,_⟩:=p; exact ⟨_,e⟩
 | dK kvs=>obtain ⟨_,_,_,_,o,_,_,e,_⟩:=x; exact ⟨_,e⟩
 | dT kvs=>obtain ⟨_,_,_,_,o,_,_,e,_⟩:=x; exact ⟨_,e⟩
 | set S n=>obtain ⟨o,_,_,_,e,_⟩:=x; exact ⟨_,e⟩
 | ins C dx fs=>obtain ⟨_,_,_,e,_⟩:=x; exact ⟨_,e⟩
 | own y=>exact x
 | xd fs=>obtain ⟨_,⟨_,_,_,e,_⟩,_⟩:=x; exact ⟨_,e⟩
 | rng lo hi=>obtain ⟨_,_,_,e⟩:=x; exact ⟨_,e⟩
 | frz ob u=>obtain ⟨e,_⟩:=x; exact ⟨_,e⟩
 | tbl ps=>exact ⟨_,(show h.get? a=some _ from x)⟩
 | met f y=>exact ⟨_,(show h.get? a=some _ from x)⟩
 | ext φ=>exact x.2.1
end
section
variable {X:Cx} {pins:List (Addr×Obj)} {σ:List (Option V)} {H:Hp} {s:Shared} {h':Heap} {e C a:Addr} {d:Option Addr} {o:HO}
end
structure LeF (K:Frag) (LE:Addr):Prop where
 rd:readsIn K LE (.type "type")=true
 ga:specialIn K (.ref LE) "__getattribute__"=some (some (.builtin "type.__getattribute__"))
 ini:findCls K (.ref LE) (.type "type") "__init__"=some (.val (.builtin "ValueError.__init__"))
 tl:tailIn K vb (.ref LE::vb)=true
section
variable {X:Cx} {C LE fI:Addr} {e1 e2 o v:Expr} {t:TA} {to tv:TE} {p1 ap cp pos pos':Pos} {f:Str}
end
end L2
namespace L2
open PySem PySem.Spec PySem.W PySem.Calls PyProof.Rows Builtin Builtin.ObjectAttr
section
variable {X:Cx} {CX:CXT} {k:Nat} {C LE fI:Addr} {fd:FuncData} {ps:List Str} {E:XK} {f x:Str} {p pos:Pos} {e:Expr} {es:List Expr} {t:TA} {pins:List (Addr×Obj)} {σ:St} {H:Hp} {s:Shared} {Q:VK} {us:List Value} {vs:List V}
end
end L2
namespace L2
open PySem PySem.Spec PySem.W PySem.Calls PyProof.Rows Builtin Builtin.ObjectAttr
section
variable {M:Model} {A:Around} {E:Value->Shared->Prop} {h:Heap} {g:Array GenState} {dr:Drawn} {t:Nat} {os:OsState} {C D e:Addr} {oe:Obj} {bm bmD:List Value} {ini iniD:Option Value} {Q:Bool->Shared->Prop}
end
noncomputable def PEx (X:Cx) (e:Expr) (t:St->Hp->VK->(Addr->Hp->Prop)->Prop):Prop :=
 ∀ (pins:List (Addr×Obj)) (s:Shared) (σ:St) (H:Hp) (Q:VK) (R:Addr->Hp->Prop),Inv X pins σ H s->t σ H Q R->wpAny (model X.prog X.w) X.A (eval e X.env) (EP X pins σ Q) (XE X pins σ R) s
noncomputable def PBx (X:Cx) (b:List Stmt) (t:Ends->(Addr->Hp->Prop)->St->Hp->Prop):Prop :=
 ∀ (pins:List (Addr×Obj)) (s:Shared) (σ:St) (H:Hp) (D:Ends) (R:Addr->Hp->Prop),Inv X pins σ H s->t D R σ H->wpAny (model X.prog X.w) X.A (execs b X.env) (SP X pins D) (XE X pins σ R) s
section
variable {X:Cx} {pins:List (Addr×Obj)} {σ:St} {H:Hp} {s:Shared} {e:Addr}
end
structure XM (K:Frag) (C D:Addr):Prop where
 c:∃ bm ini,xcB K C bm ini=true/\(Value.ref C::bm).contains (.ref D)=true
 d:∃ bm ini,xcB K D bm ini=true/\bm.contains (.type "BaseException")=true
section
variable {X:Cx} {body:List Stmt} {b₀:Stmt} {suite:List Stmt} {cn:Str} {Dc:Addr} {np pos hpos:Pos} {tb:Ends->(Addr->Hp->Prop)->St->Hp->Prop} {ts:TS}
end
end L2
namespace L2
open PySem PySem.Spec PySem.W PySem.Calls PyProof.Rows Builtin Builtin.ObjectAttr
section
variable {prog:Program} {w:World} {A:Around} {E:Value->Shared->Prop} {s:Shared} {K:Frag} {x C LE:Addr} {c name:Str}
theorem Xc.mro (F:Xc K c C LE) (b:Value):mroIn K C b=some ((Value.ref C::.ref LE::vb).contains b):=by
 obtain ⟨cd,h1,_,h2⟩:=F.cd
 unfold mroIn
 rw [h1,Option.bind_some,h2]
 rfl
end
noncomputable def clV:V->Option Value
 | .ref a=>some (.ref a)
 | .ty n=>some (.type n)
 | _=>none
section
variable {X:Cx} {pins:List (Addr×Obj)} {σ:List (Option V)} {H:Hp} {s:Shared}
end
end L2
namespace EV
open PySem PySem.Spec PyProof.Rows L2
noncomputable abbrev St:=L2.St
inductive D where
 | non | bl (b:Bool) | int (i:Int) | str (x:Str) | tup (xs:List D) | lst (xs:List D) | fz (xs:List D)
 | exn (c f:Str) (xs:List D)
inductive W where
 | d (x:D) | ref (i:Nat)
noncomputable abbrev Lc:=List (Option W)
noncomputable abbrev Mm:=List (List D)
noncomputable abbrev Exn:=D
inductive Oc (α:Type) where
 | ok (a:α) (M:Mm) | ex (x:Exn) (M:Mm) | bad
noncomputable def Oc.bind {α β:Type} (o:Oc α) (k:α->Mm->Oc β):Oc β:=match o with
 | .ok a M=>k a M
 | .ex x M=>.ex x M
 | .bad=>.bad
@[simp] theorem fG {α β:Type} (a:α) (M:Mm) (k:α->Mm->Oc β):(Oc.ok a M).bind k=k a M:=rfl
@[simp] theorem aMf {α β:Type} (x:Exn) (M:Mm) (k:α->Mm->Oc β):(Oc.ex x M:Oc α).bind k=.ex x M:=rfl
@[simp] theorem aLf {α β:Type} (k:α->Mm->Oc β):(Oc.bad:Oc α).bind k=.bad:=rfl
section
variable (K:PySem.W.Frag) (μ:List Addr) (H:Hp)
noncomputable def FzL (a:Addr) (vs:List V):Prop:=(∃ o,H a=some (.frz o (.lst vs))) \/
 ∃ (o:Obj) (its:Array Value) (n:Nat),K.lookup a=some o/\o.cls=.type "list"/\o.dict=none/\o.data=.seq its n/\its.size<=sizeLine/\Vals vs its.toList
noncomputable def XFl (C:Addr) (f:Str) (d:Option Addr) (vs:List V):Prop:=(d=none/\vs=[])\/∃ dx u,d=some dx/\vs=[u]/\H dx=some (.xd [(f,u)])/\PySem.W.findIn K (.ref C) f=some none
mutual
noncomputable def Rp:D->V->Prop
 | .non,v=>v=.non
 | .bl b,v=>v=.bl b
 | .int i,v=>v=.int i
 | .str x,v=>v=.str x
 | .tup ds,v=>∃ a vs,v=.ref a/\H a=some (.tup vs)/\Rps ds vs
 | .lst ds,v=>∃ a vs,v=.ref a/\H a=some (.lst vs)/\a∉μ/\Rps ds vs
 | .fz ds,v=>∃ a vs,v=.ref a/\FzL K H a vs/\Rps ds vs
 | .exn c f ds,v=>∃ a vs C LE d,v=.ref a/\H a=some (XO a C d)/\Xc K c C LE/\XFl K H C f d vs/\Rps ds vs
noncomputable def Rps:List D->List V->Prop
 | [],vs=>vs=[]
 | d::ds,vs=>∃ v r,vs=v::r/\Rp d v/\Rps ds r
end
noncomputable def Rw:W->V->Prop
 | .d x,v=>Rp K μ H x v
 | .ref i,v=>∃ a,μ[i]?=some a/\v=.ref a
noncomputable def Rws:List W->List V->Prop
 | [],vs=>vs=[]
 | d::ds,vs=>∃ v r,vs=v::r/\Rw K μ H d v/\Rws ds r
structure HR (M:Mm):Prop where
 len:μ.length=M.length
 nd:μ.Nodup
 ent:∀ (i:Nat) (a:Addr) (ds:List D),μ[i]?=some a->M[i]?=some ds->∃ vs,H a=some (.lst vs)/\Rps K μ H ds vs
structure LR (L:Lc) (σ:St):Prop where
 len:L.length=σ.length
 ent:∀ (i:Nat) (w:W),L[i]?=some (some w)->∃ v,σ[i]?=some (some v)/\Rw K μ H w v
end
structure Ext (μ:List Addr) (H:Hp) (μ':List Addr) (H':Hp):Prop where
 keep:∀ a o,a∉μ->H a=some o->H' a=some o
 new:∀ a,a∈μ'->a∈μ\/H a=none
 pre:∀ (i:Nat) (a:Addr),μ[i]?=some a->μ'[i]?=some a
section
variable {K:PySem.W.Frag} {μ μ1 μ2:List Addr} {H H1 H2:Hp} {M:Mm}
theorem FzL.sq {a:Addr} {vs:List V} (h:FzL K H a vs):SqL K H a vs:=by
 rcases h with ⟨o,h⟩ | h
 ·exact .inl (.inr ⟨o,h⟩)
 ·exact .inr h
theorem Ext.refl:Ext μ H μ H:=⟨fun _ _ _ h=>h,fun _ h=>.inl h,fun _ _ h=>h⟩
theorem Ext.out (e:Ext μ H μ1 H1) {a:Addr} {o:HO} (h:H a=some o) (n:a∉μ):a∉μ1:=fun z=>by
 rcases e.new a z with z | z
 ·exact n z
 ·rw [h] at z; cases z
theorem Ext.trans (e:Ext μ H μ1 H1) (f:Ext μ1 H1 μ2 H2):Ext μ H μ2 H2 where
 keep:=fun a o n h=>f.keep a o (e.out h n) (e.keep a o n h)
 new:=fun a h=>by
  rcases f.new a h with h | h
  ·exact e.new a h
  ·by_cases n:a∈μ
   ·exact .inl n
   ·cases q:H a with
    | none=>exact .inr rfl
    | some o=>rw [e.keep a o n q] at h; cases h
 pre:=fun i a h=>f.pre i a (e.pre i a h)
noncomputable def Lsts (μ:List Addr) (H:Hp):Prop:=∀ a∈μ,∃ vs,H a=some (.lst vs)
theorem HR.lsts (h:HR K μ H M):Lsts μ H:=fun a ha=>by
 obtain ⟨i,hi,e⟩:=List.mem_iff_getElem.mp ha
 have hM:i < M.length:=h.len▸hi
 obtain ⟨vs,q,_⟩:=h.ent i a M[i] (by rw [List.getElem?_eq_getElem hi,e]) (by simp [hM])
 exact ⟨vs,q⟩
theorem Rd.ext {a:Addr} {u:HO} (hu:∀ vs,u≠.lst vs) (l:Lsts μ H) (e:Ext μ H μ1 H1) (h:Rd H a u):Rd H1 a u:=by
 rcases h with h | ⟨o,h⟩
 ·exact .inl (e.keep a _ (fun z=>by obtain ⟨vs,q⟩:=l a z; rw [h] at q; cases q; exact hu _ rfl) h)
 ·exact .inr ⟨o,e.keep a _ (fun z=>by obtain ⟨vs,q⟩:=l a z; rw [h] at q; cases q) h⟩
theorem SqT.ext {a:Addr} {vs:List V} (l:Lsts μ H) (e:Ext μ H μ1 H1) (h:SqT K H a vs):SqT K H1 a vs:=by
 rcases h with h | h
 ·exact .inl (Rd.ext (fun _ z=>by cases z) l e h)
 ·exact .inr h
theorem FzL.ext {a:Addr} {vs:List V} (l:Lsts μ H) (e:Ext μ H μ1 H1) (h:FzL K H a vs):FzL K H1 a vs:=by
 rcases h with ⟨o,h⟩ | h
 ·exact .inl ⟨o,e.keep a _ (fun z=>by obtain ⟨vs,q⟩:=l a z; rw [h] at q; cases q) h⟩
 ·exact .inr h
theorem XFl.ext {C:Addr} {f:Str} {d:Option Addr} {vs:List V} (l:Lsts μ H) (e:Ext μ H μ1 H1) (h:XFl K H C f d vs):XFl K H1 C f d vs:=by
 rcases h with h | ⟨dx,u,h1,h2,h3,h4⟩
 ·exact .inl h
 ·exact .inr ⟨dx,u,h1,h2,e.keep dx _ (fun z=>by obtain ⟨vs,q⟩:=l dx z; rw [h3] at q; cases q) h3,h4⟩
mutual
theorem Rp.ext (l:Lsts μ H) (e:Ext μ H μ1 H1):∀ (d:D) (v:V),Rp K μ H d v->Rp K μ1 H1 d v
 | .non,v,h=>by simpa [Rp] using h
 | .bl b,v,h=>by simpa [Rp] using h
 | .int b,v,h=>by simpa [Rp] using h
 | .str b,v,h=>by simpa [Rp] using h
 | .tup ds,v,h=>by
  simp only [Rp] at h ⊢
  obtain ⟨a,vs,e1,e2,e3⟩:=h
  exact ⟨a,vs,e1,e.keep _ _ (fun z=>by obtain ⟨us,q⟩:=l a z; rw [e2] at q; cases q) e2,Rps.ext l e ds vs e3⟩
 | .lst ds,v,h=>by
  simp only [Rp] at h ⊢
  obtain ⟨a,vs,e1,e2,n,e3⟩:=h
  exact ⟨a,vs,e1,e.keep _ _ n e2,e.out e2 n,Rps.ext l e ds vs e3⟩
 | .fz ds,v,h=>by
  simp only [Rp] at h ⊢
  obtain ⟨a,vs,e1,e2,e3⟩:=h
  exact ⟨a,vs,e1,FzL.ext l e e2,Rps.ext l e ds vs e3⟩
 | .exn c f ds,v,h=>by
  simp only [Rp] at h ⊢
  obtain ⟨a,vs,C,LE,d,e1,e2,e3,e4,e5⟩:=h
  exact ⟨a,vs,C,LE,d,e1,e.keep _ _ (fun z=>by obtain ⟨us,q⟩:=l a z; rw [e2] at q; cases q) e2,e3,XFl.ext l e e4,Rps.ext l e ds vs e5⟩
theorem Rps.ext (l:Lsts μ H) (e:Ext μ H μ1 H1):∀ (ds:List D) (vs:List V),Rps K μ H ds vs->Rps K μ1 H1 ds vs
 | [],vs,h=>by simpa [Rps] using h
 | d::ds,vs,h=>by
  simp only [Rps] at h ⊢
  obtain ⟨v,r,e1,e2,e3⟩:=h
  exact ⟨v,r,e1,Rp.ext l e d v e2,Rps.ext l e ds r e3⟩
end
theorem Rw.ext (l:Lsts μ H) (e:Ext μ H μ1 H1) {w:W} {v:V} (h:Rw K μ H w v):Rw K μ1 H1 w v:=by
 cases w with
 | d x=>exact Rp.ext l e x v h
 | ref i=>obtain ⟨a,h1,h2⟩:=h; exact ⟨a,e.pre i a h1,h2⟩
theorem Rws.ext (l:Lsts μ H) (e:Ext μ H μ1 H1):∀ {ws:List W} {vs:List V},Rws K μ H ws vs->Rws K μ1 H1 ws vs
 | [],_,h=>h
 | _::_,_,⟨v,r,e1,e2,e3⟩=>⟨v,r,e1,Rw.ext l e e2,Rws.ext l e e3⟩
theorem LR.ext (l:Lsts μ H) (e:Ext μ H μ1 H1) {L:Lc} {σ:St} (h:LR K μ H L σ):LR K μ1 H1 L σ :=
 ⟨h.len,fun i w q=>let ⟨v,q1,q2⟩:=h.ent i w q; ⟨v,q1,Rw.ext l e q2⟩⟩
theorem Rps.length:∀ {ds:List D} {vs:List V},Rps K μ H ds vs->ds.length=vs.length
 | [],_,h=>by simp only [Rps] at h; subst h; rfl
 | _::_,_,h=>by simp only [Rps] at h; obtain ⟨v,r,e1,_,e3⟩:=h; subst e1; simp [Rps.length e3]
theorem Rps.get:∀ {ds:List D} {vs:List V} {i:Nat} {d:D},Rps K μ H ds vs->ds[i]?=some d->∃ v,vs[i]?=some v/\Rp K μ H d v
 | [],_,_,_,_,q=>by simp at q
 | _::_,_,0,_,h,q=>by simp only [Rps] at h; obtain ⟨v,r,e1,e2,e3⟩:=h; simp at q; subst q e1; exact ⟨v,rfl,e2⟩
 | _::_,_,i+1,_,h,q=>by
  simp only [Rps] at h; obtain ⟨v,r,e1,e2,e3⟩:=h; subst e1
  obtain ⟨u,q1,q2⟩:=Rps.get (i:=i) e3 (by simpa using q)
  exact ⟨u,by simpa using q1,q2⟩
theorem Rps.nil:Rps K μ H [] []:=by simp [Rps]
theorem Rps.cons {d:D} {v:V} {ds:List D} {vs:List V} (h:Rp K μ H d v) (t:Rps K μ H ds vs):Rps K μ H (d::ds) (v::vs):=by simp only [Rps]; exact ⟨v,vs,rfl,h,t⟩
theorem Rps.append:∀ {ds es:List D} {vs us:List V},Rps K μ H ds vs->Rps K μ H es us->Rps K μ H (ds++es) (vs++us)
 | [],_,_,_,h,t=>by simp only [Rps] at h; subst h; exact t
 | _::_,_,_,_,h,t=>by simp only [Rps] at h; obtain ⟨v,r,e1,e2,e3⟩:=h; subst e1; exact .cons e2 (Rps.append e3 t)
theorem Rps.drop:∀ {ds:List D} {vs:List V} (n:Nat),Rps K μ H ds vs->Rps K μ H (ds.drop n) (vs.drop n)
 | _,_,0,h=>by simpa using h
 | [],_,n+1,h=>by simp only [Rps] at h; subst h; exact .nil
 | _::_,_,n+1,h=>by simp only [Rps] at h; obtain ⟨v,r,e1,e2,e3⟩:=h; subst e1; simpa using Rps.drop n e3
theorem Rps.take:∀ {ds:List D} {vs:List V} (n:Nat),Rps K μ H ds vs->Rps K μ H (ds.take n) (vs.take n)
 | _,_,0,h=>by simpa using Rps.nil
 | [],_,n+1,h=>by simp only [Rps] at h; subst h; exact .nil
 | _::_,_,n+1,h=>by simp only [Rps] at h; obtain ⟨v,r,e1,e2,e3⟩:=h; subst e1; simpa using Rps.cons e2 (Rps.take n e3)
theorem Rps.set {d:D} {v:V} (q:Rp K μ H d v):∀ {ds:List D} {vs:List V} (n:Nat),Rps K μ H ds vs->Rps K μ H (ds.set n d) (vs.set n v)
 | [],_,n,h=>by simp only [Rps] at h; subst h; simpa using Rps.nil
 | _::_,_,0,h=>by simp only [Rps] at h; obtain ⟨u,r,e1,e2,e3⟩:=h; subst e1; simpa using Rps.cons q e3
 | _::_,_,n+1,h=>by simp only [Rps] at h; obtain ⟨u,r,e1,e2,e3⟩:=h; subst e1; simpa using Rps.cons e2 (Rps.set q n e3)
theorem Rps.dropLast {ds:List D} {vs:List V} (h:Rps K μ H ds vs):Rps K μ H ds.dropLast vs.dropLast:=by
 rw [List.dropLast_eq_take,List.dropLast_eq_take,<- h.length]; exact h.take _
theorem Rps.eraseIdx:∀ {ds:List D} {vs:List V} (n:Nat),Rps K μ H ds vs->Rps K μ H (ds.eraseIdx n) (vs.eraseIdx n)
 | [],_,n,h=>by simp only [Rps] at h; subst h; simpa using Rps.nil
 | _::_,_,0,h=>by simp only [Rps] at h; obtain ⟨u,r,e1,e2,e3⟩:=h; subst e1; simpa using e3
 | _::_,_,n+1,h=>by simp only [Rps] at h; obtain ⟨u,r,e1,e2,e3⟩:=h; subst e1; simpa using Rps.cons e2 (Rps.eraseIdx n e3)
theorem Rps.reverse {ds:List D}:∀ {vs:List V},Rps K μ H ds vs->Rps K μ H ds.reverse vs.reverse:=by
 induction ds with
 | nil=>intro vs h; simp only [Rps] at h; subst h; exact .nil
 | cons d ds ih=>intro vs h; simp only [Rps] at h; obtain ⟨u,r,e1,e2,e3⟩:=h; subst e1; simpa using (ih e3).append (.cons e2 .nil)
theorem Rps.rep {ds:List D} {vs:List V} (h:Rps K μ H ds vs):∀ k:Nat,Rps K μ H (List.replicate k ds).flatten (List.replicate k vs).flatten
 | 0=>by simpa using Rps.nil
 | k+1=>by simpa [List.replicate_succ] using h.append (h.rep k)
theorem Rps.ints {ns:List Int}:Rps K μ H (ns.map D.int) (ns.map V.int):=by
 induction ns with
 | nil=>exact .nil
 | cons n r ih=>exact .cons (by simp [Rp]) ih
theorem Rws.length:∀ {ws:List W} {vs:List V},Rws K μ H ws vs->ws.length=vs.length
 | [],_,h=>by cases h; rfl
 | _::_,_,⟨v,r,e1,_,e3⟩=>by subst e1; simp [Rws.length e3]
theorem Rws.get:∀ {ws:List W} {vs:List V} {i:Nat} {w:W},Rws K μ H ws vs->ws[i]?=some w->∃ v,vs[i]?=some v/\Rw K μ H w v
 | [],_,_,_,_,q=>by simp at q
 | _::_,_,0,_,⟨v,r,e1,e2,e3⟩,q=>by simp at q; subst q e1; exact ⟨v,rfl,e2⟩
 | _::_,_,i+1,_,⟨v,r,e1,e2,e3⟩,q=>by
  subst e1
  obtain ⟨u,q1,q2⟩:=Rws.get (i:=i) e3 (by simpa using q)
  exact ⟨u,by simpa using q1,q2⟩
theorem HR.out (h:HR K μ H M) {p:Addr} (hp:H p=none):p∉μ:=fun z=>by
 obtain ⟨vs,q⟩:=h.lsts p z
 rw [hp] at q; cases q
theorem iQ (h:HR K μ H M) {p:Addr} {o:HO} (hp:H p=none):Ext μ H μ (upd H p o) :=
 ⟨fun a u n q=>by rw [bF (cK q hp)]; exact q,fun a q=>.inl q,fun _ _ q=>q⟩
theorem HR.lay (h:HR K μ H M) {p:Addr} {o:HO} (hp:H p=none):HR K μ (upd H p o) M where
 len:=h.len
 nd:=h.nd
 ent:=fun i a ds q1 q2=>by
  obtain ⟨vs,q3,q4⟩:=h.ent i a ds q1 q2
  exact ⟨vs,by rw [bF (cK q3 hp)]; exact q3,Rps.ext h.lsts (iQ h hp) _ _ q4⟩
theorem sG (h:HR K μ H M) {p:Addr} {vs:List V} (hp:H p=none):Ext μ H (μ++[p]) (upd H p (.lst vs)) where
 keep:=fun a u n q=>by rw [bF (cK q hp)]; exact q
 new:=fun a q=>by
  rcases List.mem_append.mp q with q | q
  ·exact .inl q
  ·rw [List.mem_singleton] at q; subst q; exact .inr hp
 pre:=fun i a q=>by
  rw [List.getElem?_append_left (List.getElem?_eq_some_iff.mp q).1]; exact q
theorem HR.new (h:HR K μ H M) {p:Addr} {ds:List D} {vs:List V} (hp:H p=none) (r:Rps K μ H ds vs):HR K (μ++[p]) (upd H p (.lst vs)) (M++[ds]) where
 len:=by simp [h.len]
 nd:=List.nodup_append.mpr ⟨h.nd,by simp,fun a ha b hb=>by rw [List.mem_singleton] at hb; subst hb; rintro rfl; exact h.out hp ha⟩
 ent:=fun i a es q1 q2=>by
  have x:=sG (vs:=vs) h hp
  by_cases hi:i < μ.length
  ·rw [List.getElem?_append_left hi] at q1
   rw [List.getElem?_append_left (by rw [<- h.len]; exact hi)] at q2
   obtain ⟨us,q3,q4⟩:=h.ent i a es q1 q2
   exact ⟨us,by rw [bF (cK q3 hp)]; exact q3,Rps.ext h.lsts x _ _ q4⟩
  ·have:i=μ.length:=by
    have:=(List.getElem?_eq_some_iff.mp q1).1
    simp at this; omega
   subst this
   rw [List.getElem?_append_right (Nat.le_refl _)] at q1
   rw [h.len,List.getElem?_append_right (Nat.le_refl _)] at q2
   simp at q1 q2
   subst q1 q2
   exact ⟨vs,dX,Rps.ext h.lsts x _ _ r⟩
theorem bV {i:Nat} {a:Addr} {o:HO} (q:μ[i]?=some a):Ext μ H μ (upd H a o) :=
 ⟨fun b u n q'=>by rw [bF (fun z=>n (by subst z; exact List.mem_of_getElem? q))]; exact q',fun a q=>.inl q,fun _ _ q=>q⟩
theorem HR.set (h:HR K μ H M) {i:Nat} {a:Addr} {ds:List D} {vs:List V} (q:μ[i]?=some a) (r:Rps K μ H ds vs):HR K μ (upd H a (.lst vs)) (M.set i ds) where
 len:=by simp [h.len]
 nd:=h.nd
 ent:=fun j b es q1 q2=>by
  have x:=bV (H:=H) (o:=.lst vs) q
  by_cases hj:i=j
  ·subst hj
   rw [q] at q1; cases q1
   have hlt:i < M.length:=by rw [<- h.len]; exact (List.getElem?_eq_some_iff.mp q).1
   rw [List.getElem?_set_self hlt] at q2; cases q2
   exact ⟨vs,dX,Rps.ext h.lsts x _ _ r⟩
  ·rw [List.getElem?_set_ne hj] at q2
   obtain ⟨us,q3,q4⟩:=h.ent j b es q1 q2
   have hb:b≠a:=by
    rintro rfl
    have h1:=(List.getElem?_eq_some_iff.mp q).1
    have h2:=(List.getElem?_eq_some_iff.mp q1).1
    have e1:=(List.getElem?_eq_some_iff.mp q).2
    have e2:=(List.getElem?_eq_some_iff.mp q1).2
    have pw:=List.pairwise_iff_getElem.mp h.nd
    rcases Nat.lt_or_gt_of_ne hj with l | l
    ·exact pw i j h1 h2 l (e1.trans e2.symm)
    ·exact pw j i h2 h1 l (e2.trans e1.symm)
   exact ⟨us,by rw [bF hb]; exact q3,Rps.ext h.lsts x _ _ q4⟩
theorem HR.at (h:HR K μ H M) {i:Nat} {ds:List D} (q:M[i]?=some ds):∃ a vs,μ[i]?=some a/\H a=some (.lst vs)/\Rps K μ H ds vs:=by
 have hlt:i < μ.length:=by rw [h.len]; exact (List.getElem?_eq_some_iff.mp q).1
 obtain ⟨vs,q1,q2⟩:=h.ent i μ[i] ds (by simp [hlt]) q
 exact ⟨μ[i],vs,by simp [hlt],q1,q2⟩
end
structure Zt where
 z:Exn->Mm->List Addr->Hp->Prop
 mono:∀ {x M μ H μ' H'},Ext μ H μ' H'->z x M μ H->z x M μ' H'
noncomputable def Z0:Zt:=⟨fun _ _ _ _=>False,fun _ h=>h⟩
noncomputable def Pst {α:Type} (K:PySem.W.Frag) (Z:Zt) (μ:List Addr) (H:Hp) (o:Oc α) (Q:List Addr->Hp->Mm->α->Prop):Prop:=match o with
 | .ok a M'=>∀ μ' H',Ext μ H μ' H'->HR K μ' H' M'->Q μ' H' M' a
 | .ex x M'=>Z.z x M' μ H
 | .bad=>False
section
variable {α β:Type} {K:PySem.W.Frag} {Z:Zt} {μ μ1:List Addr} {H H1:Hp} {o:Oc α} {Q Q':List Addr->Hp->Mm->α->Prop}
theorem Pst.mono (e:Ext μ H μ1 H1) (h:Pst K Z μ H o Q):Pst K Z μ1 H1 o Q:=by
 cases o with
 | ok a M=>exact fun μ' H' e' hr=>h μ' H' (e.trans e') hr
 | ex x M=>exact Z.mono e h
 | bad=>exact h
theorem Pst.imp (h:Pst K Z μ H o Q) (f:∀ μ' H' M' a,Ext μ H μ' H'->HR K μ' H' M'->o=.ok a M'->Q μ' H' M' a->Q' μ' H' M' a):Pst K Z μ H o Q':=by
 cases o with
 | ok a M=>exact fun μ' H' e' hr=>f μ' H' M a e' hr rfl (h μ' H' e' hr)
 | ex x M=>exact h
 | bad=>exact h
theorem Pst.bind {k:α->Mm->Oc β} {R:List Addr->Hp->Mm->β->Prop} (h:Pst K Z μ H (o.bind k) R):Pst K Z μ H o (fun μ' H' M' a=>Pst K Z μ' H' (k a M') R):=by
 cases o with
 | ok a M=>exact fun μ' H' e' hr=>Pst.mono e' h
 | ex x M=>exact h
 | bad=>exact h
end
noncomputable abbrev FE:=Lc->Mm->Oc W
noncomputable abbrev FT:=Lc->Mm->Oc Bool
noncomputable abbrev FA:=Lc->Mm->Oc (List W)
inductive Out where
 | nx (L:Lc) | bk (L:Lc) | ct (L:Lc) | rt (w:W)
noncomputable abbrev FS:=Lc->Mm->Oc Out
noncomputable abbrev FG:=W->Lc->Mm->Oc Lc
noncomputable abbrev FGs:=List D->Lc->Mm->Oc Lc
noncomputable abbrev Fn:=List W->Mm->Oc W
section
variable (K:PySem.W.Frag) (Z:Zt)
noncomputable def lift (f:FE):TE:=fun σ H Q=>∃ μ M L,HR K μ H M/\LR K μ H L σ/\Pst K Z μ H (f L M) fun μ' H' _ w=>∀ v,Rw K μ' H' w v->Q v H'
noncomputable def liftT (f:FT):TT:=fun σ H Q=>∃ μ M L,HR K μ H M/\LR K μ H L σ/\Pst K Z μ H (f L M) fun μ' H' M' b=>Q b H'
noncomputable def liftA (f:FA):TA:=fun σ H Q=>∃ μ M L,HR K μ H M/\LR K μ H L σ/\Pst K Z μ H (f L M) fun μ' H' _ ws=>∀ vs,Rws K μ' H' ws vs->Q vs H'
end
end EV
namespace EV
open PySem PySem.Spec PyProof.Rows L2
section
variable (X:Cx) (K:PySem.W.Frag) (Z:Zt)
noncomputable abbrev Sk (K:PySem.W.Frag) (E:Ends) (μ':List Addr) (H':Hp) (_:Mm) (o:Out):Prop:=match o with
 | .nx L'=>∀ σ',LR K μ' H' L' σ'->E.nx σ' H'
 | .bk L'=>∀ σ',LR K μ' H' L' σ'->E.bk σ' H'
 | .ct L'=>∀ σ',LR K μ' H' L' σ'->E.ct σ' H'
 | .rt w=>∀ v,Rw K μ' H' w v->E.rt v H'
noncomputable def liftS (F:FS):TS:=fun E σ H=>∃ μ M L,HR K μ H M/\LR K μ H L σ/\Pst K Z μ H (F L M) (Sk K E)
noncomputable def liftG (g:FG):TG:=fun v σ H Q=>∃ μ M L w,HR K μ H M/\LR K μ H L σ/\Rw K μ H w v/\Pst K Z μ H (g w L M) fun μ' H' _ L'=>∀ σ',LR K μ' H' L' σ'->Q σ' H'
noncomputable def liftGs (g:FGs):TGs:=fun vs σ H Q=>∃ μ M L ds,HR K μ H M/\LR K μ H L σ/\Rps K μ H ds vs/\Pst K Z μ H (g ds L M) fun μ' H' _ L'=>∀ σ',LR K μ' H' L' σ'->Q σ' H'
structure Ev (e:Expr) (f:FE):Prop where
 k:X.K=K
 h:PE X e (lift K Z f)
structure Et (e:Expr) (f:FT):Prop where
 k:X.K=K
 h:PT X e (liftT K Z f)
structure Ew (e:Expr) (f:FT):Prop where
 k:X.K=K
 h:PW X e (liftT K Z f)
structure Ea (es:List Expr) (f:FA):Prop where
 k:X.K=K
 h:PA X es (liftA K Z f)
structure Es (st:Stmt) (F:FS):Prop where
 k:X.K=K
 h:PS X st (liftS K Z F)
structure Ess (st:List Stmt) (F:FS):Prop where
 k:X.K=K
 h:PSs X st (liftS K Z F)
structure Eg (tg:Expr) (g:FG):Prop where
 k:X.K=K
 h:PG X tg (liftG K Z g)
structure Egs (tg:List Expr) (g:FGs):Prop where
 k:X.K=K
 h:PGs X tg (liftGs K Z g)
end
section
variable {X:Cx} {K:PySem.W.Frag} {Z:Zt} {e a b:Expr} {es:List Expr} {pos:Pos} {f fa fb fc:FE} {t ta tb:FT} {fs:FA}
theorem cqE {t t':TE} (h:PE X e t) (i:∀ σ H Q,t' σ H Q->t σ H Q):PE X e t':=fun pins s σ H Q I q=>h pins s σ H Q I (i _ _ _ q)
theorem cqT {t t':TT} (h:PT X e t) (i:∀ σ H Q,t' σ H Q->t σ H Q):PT X e t':=fun pins s σ H Q I q=>h pins s σ H Q I (i _ _ _ q)
theorem cqW {t t':TT} (h:PW X e t) (i:∀ σ H Q,t' σ H Q->t σ H Q):PW X e t':=fun wh pins s σ H Q I q=>h wh pins s σ H Q I (i _ _ _ q)
theorem cqA {t t':TA} (h:PA X es t) (i:∀ σ H Q,t' σ H Q->t σ H Q):PA X es t':=fun p pins s σ H Q I q=>h p pins s σ H Q I (i _ _ _ q)
theorem cqS {st:Stmt} {t t':TS} (h:PS X st t) (i:∀ E σ H,t' E σ H->t E σ H):PS X st t':=fun pins s σ H E I q=>h pins s σ H E I (i _ _ _ q)
theorem cqSs {st:List Stmt} {t t':TS} (h:PSs X st t) (i:∀ E σ H,t' E σ H->t E σ H):PSs X st t':=fun pins s σ H E I q=>h pins s σ H E I (i _ _ _ q)
theorem cqG {t t':TG} (h:PG X e t) (i:∀ v σ H Q,t' v σ H Q->t v σ H Q):PG X e t':=fun pins s σ H v u Q I r q=>h pins s σ H v u Q I r (i _ _ _ _ q)
theorem cqGs {t t':TGs} (h:PGs X es t) (i:∀ v σ H Q,t' v σ H Q->t v σ H Q):PGs X es t':=fun pins s σ H v u Q I r q=>h pins s σ H v u Q I r (i _ _ _ _ q)
noncomputable def eV (i:Nat):FE:=fun L M=>match L[i]? with
 | some (some w)=>.ok w M
 | _=>.bad
noncomputable def eC (d:D):FE:=fun _ M=>.ok (.d d) M
theorem aA (i:Nat) {x:Str} (hN:X.N[i]?=some x:=by rfl) (hk:X.K=K:=by rfl) (hv:Vis X.env.scope x:=by first | exact Or.inl rfl | exact Or.inr (Or.inl rfl) | exact Or.inr (Or.inr rfl))
  (hd:(x==("__debug__":Str))=false:=by decide) (hcd:(x==("__classdict__":Str))=false:=by decide):Ev X K Z (.Name x pos) (eV i) :=
 ⟨hk,cqE (aKg hN hv hd hcd) fun σ H Q ⟨μ,M,L,hr,lr,p⟩=>by
  unfold eV at p
  cases q:L[i]? with
  | none=>rw [q] at p; exact p.elim
  | some o =>
   cases o with
   | none=>rw [q] at p; exact p.elim
   | some w =>
    rw [q] at p
    obtain ⟨v,q1,q2⟩:=lr.ent i w q
    exact ⟨v,q1,p μ H .refl hr v q2⟩⟩
theorem aEz {d:D} {v:V} (hd:∀ K μ H,Rp K μ H d v) (hk:X.K=K) (h:PE X e (tC v)):Ev X K Z e (eC d) :=
 ⟨hk,cqE h fun σ H Q ⟨μ,M,L,hr,lr,p⟩=>p μ H .refl hr v (hd K μ H)⟩
theorem aC {i:Int} {j:Nat} (hk:X.K=K:=by rfl):Ev X K Z (.Constant (.int i) j pos) (eC (.int i)):=aEz (fun _ _ _=>by simp [Rp]) hk aAt
theorem gR {i:Bool} {j:Nat} (hk:X.K=K:=by rfl):Ev X K Z (.Constant (.bool i) j pos) (eC (.bl i)):=aEz (fun _ _ _=>by simp [Rp]) hk aKy
theorem iC {j:Nat} (hk:X.K=K:=by rfl):Ev X K Z (.Constant .none j pos) (eC .non):=aEz (fun _ _ _=>by simp [Rp]) hk aHx
theorem aW {x:Str} {j:Nat} (hk:X.K=K:=by rfl):Ev X K Z (.Constant (.str x) j pos) (eC (.str x)):=aEz (fun _ _ _=>by simp [Rp]) hk aIm
noncomputable def e1 (g:W->Mm->Oc W) (f:FE):FE:=fun L M=>(f L M).bind g
noncomputable def e2 (g:W->W->Mm->Oc W) (f1 f2:FE):FE:=fun L M=>(f1 L M).bind fun x M1=>(f2 L M1).bind fun y M2=>g x y M2
noncomputable abbrev Wk (K:PySem.W.Frag) (Q:VK):List Addr->Hp->Mm->W->Prop:=fun μ' H' _ w=>∀ v,Rw K μ' H' w v->Q v H'
noncomputable def Op2 (K:PySem.W.Frag) (Z:Zt) (r:R2) (g:W->W->Mm->Oc W):Prop :=
 ∀ (μ:List Addr) (H:Hp) (M:Mm) (x y:W) (v u:V) (Q:VK),HR K μ H M->Rw K μ H x v->Rw K μ H y u->Pst K Z μ H (g x y M) (Wk K Q)->r v u H Q
noncomputable def OpG (X:Cx) (K:PySem.W.Frag) (Z:Zt) (f:Value->Value->Sem Value) (g:W->W->Mm->Oc W):Prop:=X.K=K->∃ r,OpR X f r/\Op2 K Z r g
theorem lift2 {r:R2} {g:W->W->Mm->Oc W} (hg:Op2 K Z r g):∀ σ H Q,lift K Z (e2 g fa fb) σ H Q->tOp r (lift K Z fa) (lift K Z fb) σ H Q:=by
 rintro σ H Q ⟨μ,M,L,hr,lr,p⟩
 refine ⟨μ,M,L,hr,lr,p.bind.imp fun μ1 H1 M1 x e1 hr1 _ p1 v rx=>?_⟩
 refine ⟨μ1,M1,L,hr1,lr.ext hr.lsts e1,p1.bind.imp fun μ2 H2 M2 y e2 hr2 _ p2 u ry=>?_⟩
 exact hg μ2 H2 M2 x y v u Q hr2 (rx.ext hr1.lsts e2) ry p2
theorem aI {op:Operator} {g:W->W->Mm->Oc W} (ho:OpG X K Z (binaryOp op) g) (ha:Ev X K Z a fa) (hb:Ev X K Z b fb):Ev X K Z (.BinOp a op b pos) (e2 g fa fb):=by
 obtain ⟨r,h1,h2⟩:=ho ha.k
 exact ⟨ha.k,cqE (aKq h1 ha.h hb.h) (lift2 h2)⟩
theorem dD {op:CmpOp} {g:W->W->Mm->Oc W} (ho:OpG X K Z (compareOp op) g) (ha:Ev X K Z a fa) (hb:Ev X K Z b fb) (hm:behindInMarks op b=false):Ev X K Z (.Compare a [op] [b] pos) (e2 g fa fb):=by
 obtain ⟨r,h1,h2⟩:=ho ha.k
 exact ⟨ha.k,cqE (aEp h1 ha.h hb.h hm) (lift2 h2)⟩
noncomputable def tB (f:FE):FT:=fun L M=>(f L M).bind fun w M1=>match w with
 | .d (.bl b)=>.ok b M1
 | _=>.bad
theorem aQ {op:CmpOp} {g:W->W->Mm->Oc W} (ho:OpG X K Z (compareOp op) g) (ha:Ev X K Z a fa) (hb:Ev X K Z b fb) (hm:behindInMarks op b=false):Et X K Z (.Compare a [op] [b] pos) (tB (e2 g fa fb)):=by
 obtain ⟨r,h1,h2⟩:=ho ha.k
 refine ⟨ha.k,cqT (aEy h1 ha.h hb.h hm) ?_⟩
 rintro σ H Q ⟨μ,M,L,hr,lr,p⟩
 refine lift2 h2 σ H _ ⟨μ,M,L,hr,lr,p.bind.imp fun μ1 H1 M1 x e1 hr1 _ p1 v rx=>?_⟩
 cases x with
 | d y=>cases y with
  | bl c=>exact ⟨c,by simpa [Rw,Rp] using rx,p1 μ1 H1 .refl hr1⟩
  | _=>exact p1.elim
 | ref i=>exact p1.elim
noncomputable def e3c (g g':W->W->Mm->Oc W) (f1 f2 f3:FE):FE:=fun L M=>(f1 L M).bind fun x M1=>(f2 L M1).bind fun y M2=>(g x y M2).bind fun w M3=>match w with
 | .d (.bl true)=>(f3 L M3).bind fun z M4=>g' y z M4
 | .d (.bl false)=>.ok (.d (.bl false)) M3
 | _=>.bad
noncomputable def tru (M:Mm):W->Option Bool
 | .d .non=>some false
 | .d (.bl b)=>some b
 | .d (.int i)=>some (i != 0)
 | .d (.str x)=>if x.length<=16777216 then some (x.length != 0) else none
 | .d (.tup xs)=>some (!xs.isEmpty)
 | .d (.lst xs)=>some (!xs.isEmpty)
 | .d (.fz xs)=>some (!xs.isEmpty)
 | .d (.exn _ _ _)=>none
 | .ref i=>(M[i]?).map fun xs=>!xs.isEmpty
noncomputable def tV (f:FE):FT:=fun L M=>(f L M).bind fun w M1=>match tru M1 w with
 | some b=>.ok b M1
 | none=>.bad
theorem emp {μ:List Addr} {H:Hp} {ds:List D} {vs:List V} (r:Rps K μ H ds vs):(!ds.isEmpty)=!vs.isEmpty:=by
 have:=r.length
 cases ds <;> cases vs <;> simp_all
theorem aLq {μ:List Addr} {H:Hp} {M:Mm} {w:W} {v:V} {b:Bool} (hr:HR K μ H M) (r:Rw K μ H w v) (h:tru M w=some b):TruV K v H b:=by
 cases w with
 | ref i =>
  obtain ⟨a,q,rfl⟩:=r
  simp only [tru,Option.map_eq_some_iff] at h
  obtain ⟨xs,h1,rfl⟩:=h
  obtain ⟨a',vs,q1,q2,q3⟩:=hr.at h1
  rw [q] at q1; cases q1
  exact .inl ⟨vs,SqL.of q2,emp q3⟩
 | d x =>
  cases x with
  | non=>simp only [Rw,Rp] at r; subst r; simp only [tru,Option.some.injEq] at h; exact h.symm
  | bl c=>simp only [Rw,Rp] at r; subst r; simp only [tru,Option.some.injEq] at h; exact h.symm
  | int i=>simp only [Rw,Rp] at r; subst r; simp only [tru,Option.some.injEq] at h; exact h.symm
  | str z =>
   simp only [Rw,Rp] at r; subst r
   simp only [tru] at h
   split at h
   ·rename_i hz
    cases h
    refine ⟨by rw [sizeLine_eq]; exact hz,?_⟩
    rw [Bool.eq_iff_iff]; simp
   ·cases h
  | tup xs=>simp only [Rw,Rp] at r; obtain ⟨a,vs,rfl,q1,q2⟩:=r; simp only [tru,Option.some.injEq] at h; subst h; exact .inr (.inl ⟨vs,SqT.of q1,emp q2⟩)
  | lst xs=>simp only [Rw,Rp] at r; obtain ⟨a,vs,rfl,q1,_,q2⟩:=r; simp only [tru,Option.some.injEq] at h; subst h; exact .inl ⟨vs,SqL.of q1,emp q2⟩
  | fz xs=>simp only [Rw,Rp] at r; obtain ⟨a,vs,rfl,q1,q2⟩:=r; simp only [tru,Option.some.injEq] at h; subst h; exact .inl ⟨vs,q1.sq,emp q2⟩
  | exn c f xs=>simp [tru] at h
theorem gU (ha:Ev X K Z a f) (he:∀ whole,isTrue a X.env whole=(do let v <- whole; standAt a.pos; holding [v] (truthy v)):=by intro _; rfl):Et X K Z a (tV f):=by
 refine ⟨ha.k,cqT (aAj ha.h he) ?_⟩
 rintro σ H Q ⟨μ,M,L,hr,lr,p⟩
 refine ⟨μ,M,L,hr,lr,p.bind.imp fun μ1 H1 M1 x e1 hr1 _ p1 v rx=>?_⟩
 cases q:tru M1 x with
 | none=>rw [q] at p1; exact p1.elim
 | some k=>rw [q] at p1; exact ⟨k,by rw [ha.k]; exact aLq hr1 rx q,p1 μ1 H1 .refl hr1⟩
noncomputable def tNot (t:FT):FT:=fun L M=>(t L M).bind fun b M1=>.ok (!b) M1
noncomputable def tAnd (t u:FT):FT:=fun L M=>(t L M).bind fun b M1=>if b=true then u L M1 else .ok false M1
noncomputable def tOr (t u:FT):FT:=fun L M=>(t L M).bind fun b M1=>if b=true then .ok true M1 else u L M1
theorem oM (ha:Et X K Z a ta):Et X K Z (.UnaryOp .Not a pos) (tNot ta):=by
 refine ⟨ha.k,cqT (aGo ha.h) ?_⟩
 rintro σ H Q ⟨μ,M,L,hr,lr,p⟩
 exact ⟨μ,M,L,hr,lr,p.bind.imp fun μ1 H1 M1 x e1 hr1 _ p1=>p1 μ1 H1 .refl hr1⟩
variable {rest:List Expr}
theorem iK (ha:Et X K Z a ta):Ew X K Z (.BoolOp .And [a] pos) ta:=⟨ha.k,aEg ha.h⟩
theorem rB (ha:Et X K Z a ta):Ew X K Z (.BoolOp .Or [a] pos) ta:=⟨ha.k,aHe ha.h⟩
theorem mB (ha:Et X K Z a ta) (hb:Ew X K Z (.BoolOp .And (b::rest) pos) tb):Ew X K Z (.BoolOp .And (a::b::rest) pos) (tAnd ta tb):=by
 refine ⟨ha.k,cqW (aHk ha.h hb.h) ?_⟩
 rintro σ H Q ⟨μ,M,L,hr,lr,p⟩
 refine ⟨μ,M,L,hr,lr,p.bind.imp fun μ1 H1 M1 x e1 hr1 _ p1=>?_⟩
 cases x with
 | true=>exact ⟨μ1,M1,L,hr1,lr.ext hr.lsts e1,p1⟩
 | false=>exact p1 μ1 H1 .refl hr1
theorem sQ (ha:Et X K Z a ta) (hb:Ew X K Z (.BoolOp .Or (b::rest) pos) tb):Ew X K Z (.BoolOp .Or (a::b::rest) pos) (tOr ta tb):=by
 refine ⟨ha.k,cqW (aLl ha.h hb.h) ?_⟩
 rintro σ H Q ⟨μ,M,L,hr,lr,p⟩
 refine ⟨μ,M,L,hr,lr,p.bind.imp fun μ1 H1 M1 x e1 hr1 _ p1=>?_⟩
 cases x with
 | true=>exact p1 μ1 H1 .refl hr1
 | false=>exact ⟨μ1,M1,L,hr1,lr.ext hr.lsts e1,p1⟩
theorem pG (h:Ew X K Z a ta):Et X K Z a ta:=⟨h.k,h.h.pt⟩
theorem zV {op op':CmpOp} {c:Expr} {g g':W->W->Mm->Oc W} (ho:OpG X K Z (compareOp op) g) (ho':OpG X K Z (compareOp op') g') (ha:Ev X K Z a fa) (hb:Ev X K Z b fb) (hc:Ev X K Z c fc)
  (hm:lastMarks [op,op'] [b,c]=false:=by with_unfolding_all rfl):Et X K Z (.Compare a [op,op'] [b,c] pos) (tB (e3c g g' fa fb fc)):=by
 obtain ⟨r,h1,h2⟩:=ho ha.k
 obtain ⟨r',h1',h2'⟩:=ho' ha.k
 refine ⟨ha.k,cqT (aBz h1 h1' ha.h hb.h hc.h hm) ?_⟩
 rintro σ H Q ⟨μ,M,L,hr,lr,p⟩
 have p:=p.bind.bind
 refine ⟨μ,M,L,hr,lr,p.imp fun μ1 H1 M1 x e1 hr1 _ p1 v rx=>?_⟩
 refine ⟨μ1,M1,L,hr1,lr.ext hr.lsts e1,p1.bind.imp fun μ2 H2 M2 y e2 hr2 _ p2 u ry=>?_⟩
 refine h2 μ2 H2 M2 x y v u _ hr2 (rx.ext hr1.lsts e2) ry (p2.bind.imp fun μ3 H3 M3 w e3 hr3 _ p3 vw rw'=>?_)
 cases w with
 | ref i=>exact p3.elim
 | d z=>cases z with
  | bl k =>
   refine ⟨k,by simpa [Rw,Rp] using rw',?_⟩
   cases k with
   | false=>exact ⟨false,rfl,p3 μ3 H3 .refl hr3 μ3 H3 .refl hr3⟩
   | true =>
    refine ⟨μ3,M3,L,hr3,lr.ext hr.lsts ((e1.trans e2).trans e3),p3.bind.imp fun μ4 H4 M4 z e4 hr4 _ p4 v4 rz=>?_⟩
    refine h2' μ4 H4 M4 y z u v4 _ hr4 (ry.ext hr2.lsts (e3.trans e4)) rz (p4.imp fun μ5 H5 M5 q e5 hr5 _ p5 v5 rq=>?_)
    cases q with
    | ref i=>exact p5.elim
    | d z=>cases z with
     | bl c=>exact ⟨c,by simpa [Rw,Rp] using rq,p5 μ5 H5 .refl hr5⟩
     | _=>exact p5.elim
  | _=>exact p3.elim
end
end EV
namespace EV
open PySem PySem.Spec PyProof.Rows L2
noncomputable def lv (M:Mm):W->Option (List D)
 | .d (.lst xs)=>some xs
 | .ref i=>M[i]?
 | _=>none
noncomputable def lr (M:Mm):W->Option (List D)
 | .d (.fz xs)=>some xs
 | w=>lv M w
noncomputable def sv (M:Mm):W->Option (List D)
 | .d (.tup xs)=>some xs
 | w=>lr M w
noncomputable def okD (d:D) (M:Mm):Oc W:=.ok (.d d) M
@[simp] theorem aMi (d:D) (M:Mm):okD d M=.ok (.d d) M:=rfl
section
variable {X:Cx} {K:PySem.W.Frag} {Z:Zt} {μ:List Addr} {H:Hp} {M:Mm} {e a b:Expr} {es:List Expr} {pos:Pos} {f fa fb:FE} {fs:FA}
theorem OpR.or {F:Value->Value->Sem Value} {r r':R2} (h:OpR X F r) (h':OpR X F r'):OpR X F (fun x y H Q=>r x y H Q\/r' x y H Q):=by
 intro pins s σ H x y v u Q I rx ry q
 rcases q with q | q
 ·exact h pins s σ H x y v u Q I rx ry q
 ·exact h' pins s σ H x y v u Q I rx ry q
theorem tL {w:W} {v:V} {ds:List D} (hr:HR K μ H M) (r:Rw K μ H w v) (h:lv M w=some ds):∃ a vs,v=.ref a/\H a=some (.lst vs)/\Rps K μ H ds vs:=by
 cases w with
 | ref i =>
  obtain ⟨a,q,rfl⟩:=r
  obtain ⟨a',vs,q1,q2,q3⟩:=hr.at h
  rw [q] at q1; cases q1
  exact ⟨a,vs,rfl,q2,q3⟩
 | d x =>
  cases x with
  | lst xs=>simp only [lv,Option.some.injEq] at h; subst h; simp only [Rw,Rp] at r; obtain ⟨a,vs,e,q1,_,q2⟩:=r; exact ⟨a,vs,e,q1,q2⟩
  | _=>simp [lv] at h
theorem xB {w:W} {v:V} {ds:List D} (hr:HR K μ H M) (r:Rw K μ H w v) (h:lr M w=some ds):∃ a vs,v=.ref a/\SqL K H a vs/\Rps K μ H ds vs:=by
 by_cases hf:∃ xs,w=.d (.fz xs)
 ·obtain ⟨xs,rfl⟩:=hf
  simp only [lr,Option.some.injEq] at h; subst h
  simp only [Rw,Rp] at r; obtain ⟨a,vs,e,q1,q2⟩:=r
  exact ⟨a,vs,e,q1.sq,q2⟩
 ·have:lr M w=lv M w:=by
   cases w with
   | ref i=>rfl
   | d x=>cases x <;> first | rfl | exact (hf ⟨_,rfl⟩).elim
  rw [this] at h
  obtain ⟨a,vs,e,q1,q2⟩:=tL hr r h
  exact ⟨a,vs,e,SqL.of q1,q2⟩
theorem pH {w:W} {v:V} {ds:List D} (hr:HR K μ H M) (r:Rw K μ H w v) (h:sv M w=some ds):∃ a vs,v=.ref a/\(SqL K H a vs\/SqT K H a vs)/\Rps K μ H ds vs:=by
 by_cases hf:∃ xs,w=.d (.tup xs)
 ·obtain ⟨xs,rfl⟩:=hf
  simp only [sv,Option.some.injEq] at h; subst h
  simp only [Rw,Rp] at r; obtain ⟨a,vs,e,q1,q2⟩:=r
  exact ⟨a,vs,e,.inr (SqT.of q1),q2⟩
 ·have:sv M w=lr M w:=by
   cases w with
   | ref i=>rfl
   | d x=>cases x <;> first | rfl | exact (hf ⟨_,rfl⟩).elim
  rw [this] at h
  obtain ⟨a,vs,e,q1,q2⟩:=xB hr r h
  exact ⟨a,vs,e,.inl q1,q2⟩
theorem kT {Q:VK} {ds:List D} {vs:List V} (hr:HR K μ H M) (r:Rps K μ H ds vs) (p:Pst K Z μ H (okD (.tup ds) M) (Wk K Q)):∀ q,H q=none->Q (.ref q) (upd H q (.tup vs)):=fun q hq =>
 p μ _ (iQ hr hq) (hr.lay hq) (.ref q) (by simp only [Rw,Rp]; exact ⟨q,vs,rfl,dX,Rps.ext hr.lsts (iQ hr hq) _ _ r⟩)
theorem iL {Q:VK} {ds:List D} {vs:List V} (hr:HR K μ H M) (r:Rps K μ H ds vs) (p:Pst K Z μ H (okD (.lst ds) M) (Wk K Q)):∀ q,H q=none->Q (.ref q) (upd H q (.lst vs)):=fun q hq =>
 p μ _ (iQ hr hq) (hr.lay hq) (.ref q) (by simp only [Rw,Rp]; exact ⟨q,vs,rfl,dX,hr.out hq,Rps.ext hr.lsts (iQ hr hq) _ _ r⟩)
theorem xF {Q:VK} {ds:List D} {vs:List V} (hr:HR K μ H M) (r:Rps K μ H ds vs) (p:Pst K Z μ H (.ok (.ref M.length) (M++[ds])) (Wk K Q)):∀ q,H q=none->Q (.ref q) (upd H q (.lst vs)):=fun q hq =>
 p _ _ (sG hr hq) (hr.new hq r) (.ref q) ⟨q,by rw [<- hr.len]; simp,rfl⟩
noncomputable def rCatA (K:PySem.W.Frag):R2:=fun x y H Q=>∃ a b xs ys,x=.ref a/\y=.ref b/\SqT K H a xs/\SqT K H b ys/\xs.length+ys.length<=sizeLine /\
 (xs=[]->Q (.ref b) H)/\(ys=[]->Q (.ref a) H)/\(∀ p,H p=none->Q (.ref p) (upd H p (.tup (xs++ys))))
theorem aEi:OpR X (binaryOp .Add) (rCatA X.K):=by
 intro pins s σ H x y v u Q I rx ry h
 obtain ⟨a,b,xs,ys,rfl,rfl,ha,hb,hz,q0,q1,q2⟩:=h
 by_cases hx:xs=[]
 ·subst hx
  cases rx
  cases ry
  obtain ⟨its,r1,p1,_⟩:=I.tuple ha
  obtain ⟨its2,r2,p2,_⟩:=I.tuple hb
  have hv:its=[]:=r1.nil_iff.mpr rfl
  subst hv
  obtain ⟨⟨cls,dd,data,sl⟩,ho,hc,n,hd⟩:=id p1
  obtain ⟨⟨cls2,dd2,data2,sl2⟩,ho2,hc2,n2,hd2⟩:=id p2
  simp only at hc hd hc2 hd2
  subst hc hd hc2 hd2
  exact concat_meets ⟨_,ho,rfl⟩ ⟨_,ho2,rfl⟩ noFill_tuple_add seq_tuple_add PySem.F.slot_tuple_add PySem.F.entry_tuple_add (PySem.F.args_tuple_add_2 _ _)
   (tuple_addW0 a b _ its2.toArray n n2 dd dd2 sl sl2 (by simp)) ⟨ho,ho2,⟨.ref b,H,I,rfl,q0 rfl⟩⟩
 ·exact aDp pins s σ H _ _ v u Q I rx ry ⟨a,b,xs,ys,rfl,rfl,ha,hb,hx,hz,q1,fun _=>q2⟩
noncomputable def pAdd (x y:W) (M:Mm):Oc W:=match x,y with
 | .d (.int i),.d (.int j)=>.ok (.d (.int (i+j))) M
 | .d (.tup xs),.d (.tup ys)=>if xs.length+ys.length<=16777216 then .ok (.d (.tup (xs++ys))) M else .bad
 | .d (.str i),.d (.str j)=>if i.length+j.length<=16777216 then .ok (.d (.str (i++j))) M else .bad
 | x,y=>match lv M x,lv M y with
  | some xs,some ys=>if xs.length+ys.length<=16777216 then .ok (.d (.lst (xs++ys))) M else .bad
  | _,_=>.bad
theorem wG {x y:W} {v u:V} {Q:VK} (hr:HR K μ H M) (rx:Rw K μ H x v) (ry:Rw K μ H y u) (p:Pst K Z μ H (match lv M x,lv M y with
  | some xs,some ys=>if xs.length+ys.length<=16777216 then .ok (.d (.lst (xs++ys))) M else .bad
  | _,_=>.bad) (Wk K Q)):rCat v u H Q:=by
 cases q1:lv M x with
 | none=>rw [q1] at p; exact p.elim
 | some xs =>
  cases q2:lv M y with
  | none=>rw [q1,q2] at p; exact p.elim
  | some ys =>
   rw [q1,q2] at p
   simp only at p
   split at p
   ·rename_i hz
    obtain ⟨a,vs,rfl,h1,r1⟩:=tL hr rx q1
    obtain ⟨b,us,rfl,h2,r2⟩:=tL hr ry q2
    exact ⟨a,b,vs,us,rfl,rfl,h1,h2,by rw [<- r1.length,<- r2.length,sizeLine_eq]; exact hz,iL hr (r1.append r2) p⟩
   ·exact p.elim
theorem opAdd:OpG X K Z (binaryOp .Add) pAdd:=fun hk=>by
 refine ⟨_,OpR.or (OpR.or aKi (hk▸aEi)) (OpR.or aIz uY),?_⟩
 intro μ H M x y v u Q hr rx ry p
 have gen:=fun p=>wG (Q:=Q) (K:=K) (Z:=Z) hr rx ry p
 cases x with
 | ref i=>exact .inr (.inl (gen p))
 | d x =>
  cases y with
  | ref j=>exact .inr (.inl (gen (by cases x <;> exact p)))
  | d y =>
   cases x <;> cases y <;> first
    | exact .inr (.inl (gen p))
    | skip
   ·simp only [Rw,Rp] at rx ry; exact .inl (.inl ⟨_,_,rx,ry,p μ H .refl hr _ (by simp [Rw,Rp])⟩)
   ·simp only [Rw,Rp] at rx ry
    simp only [pAdd] at p
    split at p
    ·rename_i hz
     exact .inr (.inr ⟨_,_,rx,ry,by rw [sizeLine_eq]; exact hz,p μ H .refl hr _ (by simp [Rw,Rp])⟩)
    ·exact p.elim
   ·rename_i xs ys
    have rx':=rx
    have ry':=ry
    simp only [Rw,Rp] at rx ry
    obtain ⟨a,vs,rfl,h1,r1⟩:=rx
    obtain ⟨b,us,rfl,h2,r2⟩:=ry
    simp only [pAdd] at p
    split at p
    ·rename_i hz
     refine .inl (.inr ⟨a,b,vs,us,rfl,rfl,SqT.of h1,SqT.of h2,by rw [<- r1.length,<- r2.length,sizeLine_eq]; exact hz,fun e=>?_,fun e=>?_,kT hr (r1.append r2) p⟩)
     ·subst e
      have:xs=[]:=by have:=r1.length; simpa using this
      subst this
      exact p μ H .refl hr _ (by simpa using ry')
     ·subst e
      have:ys=[]:=by have:=r2.length; simpa using this
      subst this
      exact p μ H .refl hr _ (by simpa using rx')
    ·exact p.elim
noncomputable def pI (c:Int->Int->Bool) (g:Int->Int->D) (x y:W) (M:Mm):Oc W:=match x,y with
 | .d (.int i),.d (.int j)=>if c i j=true then .ok (.d (g i j)) M else .bad
 | _,_=>.bad
theorem opI {F:Value->Value->Sem Value} {C:Int->Int->Prop} {c:Int->Int->Bool} {g:Int->Int->D} {gv:Int->Int->V} (h:OpR X F (rI C gv)) (hc:∀ i j,c i j=true->C i j) (hg:∀ K μ H i j,Rp K μ H (g i j) (gv i j)) :
  OpG X K Z F (pI c g):=fun hk=>⟨_,h,by
 intro μ H M x y v u Q hr rx ry p
 cases x with
 | ref i=>exact p.elim
 | d x=>cases y with
  | ref j=>cases x <;> exact p.elim
  | d y=>cases x <;> cases y <;> first
   | exact p.elim
   | (simp only [Rw,Rp] at rx ry
      simp only [pI] at p
      split at p
      ·rename_i hz; exact ⟨_,_,rx,ry,hc _ _ hz,p μ H .refl hr _ (hg K μ H _ _)⟩
      ·exact p.elim)⟩
theorem opI0 {F:Value->Value->Sem Value} {g:Int->Int->D} {gv:Int->Int->V} (h:OpR X F (rI0 gv)) (hg:∀ K μ H i j,Rp K μ H (g i j) (gv i j)):OpG X K Z F (pI (fun _ _=>true) g):=fun hk=>⟨_,h,by
 intro μ H M x y v u Q hr rx ry p
 cases x with
 | ref i=>exact p.elim
 | d x=>cases y with
  | ref j=>cases x <;> exact p.elim
  | d y=>cases x <;> cases y <;> first
   | exact p.elim
   | (simp only [Rw,Rp] at rx ry
      exact ⟨_,_,rx,ry,p μ H .refl hr _ (hg K μ H _ _)⟩)⟩
noncomputable abbrev pSub:=pI (fun _ _=>true) fun i j=>.int (i - j)
noncomputable abbrev pLt:=pI (fun _ _=>true) fun i j=>.bl (decide (i < j))
noncomputable abbrev pLe:=pI (fun _ _=>true) fun i j=>.bl (decide (i<=j))
noncomputable abbrev pGt:=pI (fun _ _=>true) fun i j=>.bl (decide (j < i))
noncomputable abbrev pGe:=pI (fun _ _=>true) fun i j=>.bl (decide (j<=i))
noncomputable abbrev pMod:=pI (fun _ j=>decide (0 < j)) fun i j=>.int (i % j)
noncomputable abbrev pDiv:=pI (fun _ j=>decide (0 < j/\j < 18446744073709551616)) fun i j=>.int (i / j)
noncomputable abbrev pPow:=pI (fun i j=>decide (0<=j/\j<=1000000/\i.natAbs < 18446744073709551616)) fun i j=>.int (i ^ j.toNat)
theorem opSub:OpG X K Z (binaryOp .Sub) pSub:=opI0 aIj fun _ _ _ _ _=>by simp [Rp]
theorem opLt:OpG X K Z (compareOp .Lt) pLt:=opI0 aLr fun _ _ _ _ _=>by simp [Rp]
theorem opLe:OpG X K Z (compareOp .LtE) pLe:=opI0 aLi fun _ _ _ _ _=>by simp [Rp]
theorem opGt:OpG X K Z (compareOp .Gt) pGt:=opI0 aKz fun _ _ _ _ _=>by simp [Rp]
theorem opGe:OpG X K Z (compareOp .GtE) pGe:=opI0 aLt fun _ _ _ _ _=>by simp [Rp]
theorem opMod:OpG X K Z (binaryOp .Mod) pMod:=opI aGs (fun _ _ h=>of_decide_eq_true h) fun _ _ _ _ _=>by simp [Rp]
theorem opDiv:OpG X K Z (binaryOp .FloorDiv) pDiv:=opI aCt (fun _ _ h=>by simp only [decide_eq_true_eq] at h; exact h) fun _ _ _ _ _=>by simp [Rp]
theorem opPow:OpG X K Z (binaryOp .Pow) pPow:=opI aIo (fun _ _ h=>by simp only [decide_eq_true_eq] at h; exact h) fun _ _ _ _ _=>by simp [Rp]
noncomputable def isN:W->Bool
 | .d .non=>true
 | _=>false
noncomputable def pIs (x y:W) (M:Mm):Oc W:=match y with
 | .d .non=>.ok (.d (.bl (isN x))) M
 | _=>.bad
theorem aLu {x:W} {v:V} (r:Rw K μ H x v):decide (v=.non)=isN x:=by
 cases x with
 | ref i=>obtain ⟨a,_,rfl⟩:=r; simp [isN]
 | d x=>cases x with
  | non=>simp only [Rw,Rp] at r; subst r; simp [isN]
  | bl b=>simp only [Rw,Rp] at r; subst r; simp [isN]
  | int b=>simp only [Rw,Rp] at r; subst r; simp [isN]
  | str b=>simp only [Rw,Rp] at r; subst r; simp [isN]
  | tup b=>simp only [Rw,Rp] at r; obtain ⟨a,vs,rfl,_⟩:=r; simp [isN]
  | lst b=>simp only [Rw,Rp] at r; obtain ⟨a,vs,rfl,_⟩:=r; simp [isN]
  | fz b=>simp only [Rw,Rp] at r; obtain ⟨a,vs,rfl,_⟩:=r; simp [isN]
  | exn c f b=>simp only [Rw,Rp] at r; obtain ⟨a,vs,_,_,_,rfl,_⟩:=r; simp [isN]
theorem opIs:OpG X K Z (compareOp .Is) pIs:=fun hk=>⟨_,aKh,by
 intro μ H M x y v u Q hr rx ry p
 cases y with
 | ref j=>exact p.elim
 | d y=>cases y with
  | non=>simp only [Rw,Rp] at ry; exact ⟨ry,p μ H .refl hr _ (by simp only [Rw,Rp]; rw [aLu rx])⟩
  | _=>exact p.elim⟩
end
end EV
namespace EV
open PySem PySem.Spec PyProof.Rows L2
section
variable {X:Cx} {K:PySem.W.Frag} {Z:Zt} {μ:List Addr} {H:Hp} {M:Mm} {e a b:Expr} {es:List Expr} {pos:Pos} {f fa fb:FE} {fs:FA}
mutual
noncomputable def eqD:D->D->Bool
 | .non,.non=>true
 | .bl a,.bl b=>a==b
 | .bl a,.int b=>(if a then 1 else 0)==b
 | .int a,.bl b=>a==(if b then 1 else 0)
 | .int a,.int b=>a==b
 | .str a,.str b=>a==b
 | .tup xs,.tup ys=>eqDs xs ys
 | .lst xs,.lst ys=>eqDs xs ys
 | .lst xs,.fz ys=>eqDs xs ys
 | .fz xs,.lst ys=>eqDs xs ys
 | .fz xs,.fz ys=>eqDs xs ys
 | .exn c f xs,.exn c' f' ys=>c==c'&&f==f'&&eqDs xs ys
 | _,_=>false
noncomputable def eqDs:List D->List D->Bool
 | [],[]=>true
 | x::xs,y::ys=>eqD x y&&eqDs xs ys
 | _,_=>false
end
mutual
noncomputable def dep:D->Nat
 | .tup xs=>deps xs+1
 | .lst xs=>deps xs+1
 | .fz xs=>deps xs+1
 | .exn _ _ _=>1000
 | _=>0
noncomputable def deps:List D->Nat
 | []=>0
 | x::xs=>max (dep x) (deps xs)
end
theorem tG:∀ {xs:List D} {i:Nat} {x:D},xs[i]?=some x->dep x<=deps xs
 | [],_,_,h=>by simp at h
 | y::xs,0,x,h=>by simp at h; subst h; simp only [deps]; omega
 | y::xs,i+1,x,h=>by
  have:=tG (xs:=xs) (i:=i) (x:=x) (by simpa using h)
  simp only [deps]; omega
theorem jZ:∀ (xs ys:List D),eqDs xs ys=((List.range (min xs.length ys.length)).all (fun i=>eqD (xs.getD i .non) (ys.getD i .non))&&xs.length==ys.length)
 | [],[]=>rfl
 | [],y::ys=>by simp [eqDs]
 | x::xs,[]=>by simp [eqDs]
 | x::xs,y::ys=>by
  simp only [eqDs]
  rw [jZ xs ys]
  have:min (x::xs).length (y::ys).length=min xs.length ys.length+1:=by simp
  rw [this,List.range_succ_eq_map,List.all_cons]
  simp only [List.getD_cons_zero,List.all_map,Bool.and_assoc,List.length_cons]
  congr 1
  congr 1
  rw [Bool.eq_iff_iff]; simp
variable {pins:List (Addr×Obj)} {σ:L2.St} {s:Shared}
theorem xD {i:Nat} {ds:List D} {vs:List V} {its:List Value} (r:Rps K μ H ds vs) (rv:Vals vs its) (h:i < its.toArray.size):∃ d v,ds[i]?=some d/\Rp K μ H d v/\RelV v its.toArray[i]:=by
 have h1:i < its.length:=by simpa using h
 have h2:i < vs.length:=by rw [rv.length]; exact h1
 have h3:i < ds.length:=by rw [r.length]; exact h2
 obtain ⟨v,q1,q2⟩:=r.get (i:=i) (d:=ds[i]) (by simp [h3])
 obtain ⟨u,q3,q4⟩:=rv.get q1
 refine ⟨ds[i],v,by simp [h3],q2,?_⟩
 rw [List.getElem?_eq_getElem h1] at q3
 cases q3
 simpa using q4
theorem xA {ds:List D} {i:Nat} {d:D} (h:ds[i]?=some d):ds.getD i .non=d:=by rw [List.getD_eq_getElem?_getD,h]; rfl
noncomputable abbrev Eqs (K:PySem.W.Frag) (μ:List Addr) (H:Hp) (s:Shared) (A:Around) (xs:List D):Prop :=
 ∀ (j:Nat) (d:D),xs[j]?=some d->∀ (d2:D) (v1 v2:V) (u1 u2:Value),dep d2<=100->Rp K μ H d v1->Rp K μ H d2 v2->RelV v1 u1->RelV v2 u2->SeqAt.EqAt A s u1 u2 (eqD d d2)
theorem kI {A:Around} {xs ys:List D} {vs us:List V} {its its2:List Value} (r1:Rps K μ H xs vs) (r2:Rps K μ H ys us) (q1:Vals vs its) (q2:Vals us its2) (n2:deps ys<=100) (ih:Eqs K μ H s A xs) :
  ∀ j (h1:j < its.toArray.size) (h2:j < its2.toArray.size),SeqAt.EqAt A s its.toArray[j] its2.toArray[j] ((fun i=>eqD (xs.getD i .non) (ys.getD i .non)) j):=by
 intro j h1 h2
 obtain ⟨d,v,e1,e2,e3⟩:=xD r1 q1 h1
 obtain ⟨d',v',e1',e2',e3'⟩:=xD r2 q2 h2
 simp only [xA e1,xA e1']
 exact ih j d e1 d' v v' _ _ (Nat.le_trans (tG e1') n2) e2 e2' e3 e3'
theorem jX {xs ys:List D} {vs us:List V} {its its2:List Value} (r1:Rps K μ H xs vs) (r2:Rps K μ H ys us) (q1:Vals vs its) (q2:Vals us its2):its.toArray.size=xs.length/\its2.toArray.size=ys.length:=by
 simp [r1.length,r2.length,q1.length,q2.length]
theorem aIb {A:Around} {xs ys:List D} {vs us:List V} {a b:Addr} (I:Inv X pins σ H s) (h1:SqT X.K H a vs) (h2:SqT X.K H b us) (r1:Rps K μ H xs vs) (r2:Rps K μ H ys us) (hu:A.units < cLine) (n2:deps ys<=100) (ih:Eqs K μ H s A.in1 xs) :
  SeqAt.RcAt A s (.ref a) (.ref b) (eqDs xs ys):=by
 obtain ⟨its,q1,p1,_⟩:=I.tuple h1
 obtain ⟨its2,q2,p2,_⟩:=I.tuple h2
 have:=SeqAt.RcAt.tuples p1 p2 hu (kI r1 r2 q1 q2 n2 ih)
 obtain ⟨e1,e2⟩:=jX r1 r2 q1 q2
 rw [e1,e2] at this
 rw [jZ]; exact this
theorem aAl {A:Around} {xs ys:List D} {vs us:List V} {a b:Addr} (I:Inv X pins σ H s) (h1:SqT X.K H a vs) (h2:SqT X.K H b us) (r1:Rps K μ H xs vs) (r2:Rps K μ H ys us) (hu:A.units < cLine) (n2:deps ys<=100) (ih:Eqs K μ H s A.in1 xs) :
  SeqAt.RcNeAt A s (.ref a) (.ref b) (!eqDs xs ys):=by
 obtain ⟨its,q1,p1,_⟩:=I.tuple h1
 obtain ⟨its2,q2,p2,_⟩:=I.tuple h2
 have:=SeqAt.RcNeAt.tuples p1 p2 hu (kI r1 r2 q1 q2 n2 ih)
 obtain ⟨e1,e2⟩:=jX r1 r2 q1 q2
 rw [e1,e2] at this
 rw [jZ]; exact this
theorem sW {xs ys:List D} (h:xs.length≠ys.length):eqDs xs ys=false:=by
 rw [jZ]
 have:(xs.length==ys.length)=false:=by simpa using h
 rw [this,Bool.and_false]
theorem pV {xs ys:List D} (h:xs.length=ys.length):eqDs xs ys=(List.range xs.length).all (fun i=>eqD (xs.getD i .non) (ys.getD i .non)):=by
 rw [jZ,<- h]; simp
theorem sD {A:Around} {xs ys:List D} {vs us:List V} {a b:Addr} (I:Inv X pins σ H s) (h1:SqL X.K H a vs) (h2:SqL X.K H b us) (r1:Rps K μ H xs vs) (r2:Rps K μ H ys us) (hu:A.units < cLine) (n2:deps ys<=100) (ih:Eqs K μ H s A.in1 xs) :
  SeqAt.RcAt A s (.ref a) (.ref b) (eqDs xs ys):=by
 obtain ⟨its,q1,p1,_⟩:=I.list h1
 obtain ⟨its2,q2,p2,_⟩:=I.list h2
 obtain ⟨e1,e2⟩:=jX r1 r2 q1 q2
 by_cases hl:xs.length=ys.length
 ·have:=SeqAt.RcAt.lists p1.isList p2.isList (by rw [e1,e2,hl]) hu (kI r1 r2 q1 q2 n2 ih)
  rw [e1] at this
  rw [pV hl]; exact this
 ·rw [sW hl]
  exact SeqAt.RcAt.lists_lengths p1.isList p2.isList (by rw [e1,e2]; simpa using hl) hu
theorem kZ {A:Around} {xs ys:List D} {vs us:List V} {a b:Addr} (I:Inv X pins σ H s) (h1:SqL X.K H a vs) (h2:SqL X.K H b us) (r1:Rps K μ H xs vs) (r2:Rps K μ H ys us) (hu:A.units < cLine) (n2:deps ys<=100) (ih:Eqs K μ H s A.in1 xs) :
  SeqAt.RcNeAt A s (.ref a) (.ref b) (!eqDs xs ys):=by
 obtain ⟨its,q1,p1,_⟩:=I.list h1
 obtain ⟨its2,q2,p2,_⟩:=I.list h2
 obtain ⟨e1,e2⟩:=jX r1 r2 q1 q2
 by_cases hl:xs.length=ys.length
 ·have:=SeqAt.RcNeAt.lists p1.isList p2.isList (by rw [e1,e2,hl]) hu (kI r1 r2 q1 q2 n2 ih)
  rw [e1] at this
  rw [pV hl]; exact this
 ·rw [sW hl]
  exact SeqAt.RcNeAt.lists_lengths p1.isList p2.isList (by rw [e1,e2]; simpa using hl) hu
noncomputable def fv:D->Option V
 | .non=>some .non
 | .bl b=>some (.bl b)
 | .int i=>some (.int i)
 | .str x=>some (.str x)
 | _=>none
theorem qJ {d:D} {v u:V} (h:fv d=some u) (r:Rp K μ H d v):v=u/\flatV u=true:=by
 cases d <;> simp only [fv,Option.some.injEq,reduceCtorEq] at h <;> (simp only [Rp] at r; subst h; exact ⟨r,rfl⟩)
theorem aAg {d e:D} {u w:V} (h:fv d=some u) (h':fv e=some w):eqV u w=eqD d e:=by
 cases d <;> simp only [fv,Option.some.injEq,reduceCtorEq] at h <;> (cases e <;> simp only [fv,Option.some.injEq,reduceCtorEq] at h' <;> (subst h; subst h'; simp [eqV,eqD]))
theorem aLz {d:D} {v:V} (r:Rp K μ H d v) (h:flatV v=true):fv d=some v:=by
 cases d with
 | non=>simp only [Rp] at r; subst r; rfl
 | bl b=>simp only [Rp] at r; subst r; rfl
 | int b=>simp only [Rp] at r; subst r; rfl
 | str b=>simp only [Rp] at r; subst r; rfl
 | tup b=>simp only [Rp] at r; obtain ⟨a,vs,rfl,_⟩:=r; cases h
 | lst b=>simp only [Rp] at r; obtain ⟨a,vs,rfl,_⟩:=r; cases h
 | fz b=>simp only [Rp] at r; obtain ⟨a,vs,rfl,_⟩:=r; cases h
 | exn c f b=>simp only [Rp] at r; obtain ⟨a,vs,_,_,_,rfl,_⟩:=r; cases h
theorem aCu {v:V} (h:flatV v=true):eqV v v=true:=by cases v <;> first | (cases h; done) | rfl | (simp [eqV]; done)
theorem kC {d d':D} {v:V} {u:V} (hf:fv d=some u) (h:Rp K μ H d v) (h':Rp K μ H d' v):eqD d d'=true:=by
 obtain ⟨rfl,fl⟩:=qJ hf h
 rw [<- aAg hf (aLz h' fl)]
 exact aCu fl
inductive At (K:PySem.W.Frag) (μ:List Addr) (H:Hp):D->Addr->List D->Bool->Prop where
 | tup {a vs ds}:SqT K H a vs->Rps K μ H ds vs->At K μ H (.tup ds) a ds true
 | lst {a vs ds}:SqL K H a vs->Rps K μ H ds vs->At K μ H (.lst ds) a ds false
 | fz {a vs ds}:SqL K H a vs->Rps K μ H ds vs->At K μ H (.fz ds) a ds false
theorem nA {a:Addr} {vs us:List V} (I:Inv X pins σ H s) (h1:SqT X.K H a vs) (h2:SqL X.K H a us):False:=by
 obtain ⟨its,q1,p1,_⟩:=I.tuple h1
 obtain ⟨its2,q2,p2,_⟩:=I.list h2
 exact SeqAt.ne_of_list_tuple p2.isList p1 rfl
mutual
theorem aBq (I:Inv X pins σ H s) (hk:X.K=K):∀ (d d':D) (v:V),dep d<=100->dep d'<=100->Rp K μ H d v->Rp K μ H d' v->eqD d d'=true
 | .non,d',v,n,n',h,h'=>kC rfl h h'
 | .bl x,d',v,n,n',h,h'=>kC rfl h h'
 | .int x,d',v,n,n',h,h'=>kC rfl h h'
 | .str x,d',v,n,n',h,h'=>kC rfl h h'
 | .tup xs,d',v,n,n',h,h'=>by
  simp only [Rp] at h
  obtain ⟨a,vs,rfl,h1,r1⟩:=h
  cases d' with
  | tup ys =>
   simp only [Rp] at h'
   obtain ⟨b,us,e,h2,r2⟩:=h'
   cases e
   cases I.tuple_inj (SqT.of (K:=X.K) h1) (SqT.of h2)
   simp only [eqD]
   exact iS I hk xs ys vs (by simp only [dep] at n; omega) (by simp only [dep] at n'; omega) r1 r2
  | lst ys=>simp only [Rp] at h'; obtain ⟨b,us,e,h2,_,r2⟩:=h'; cases e; exact (nA I (SqT.of h1) (SqL.of h2)).elim
  | fz ys=>simp only [Rp] at h'; obtain ⟨b,us,e,h2,r2⟩:=h'; cases e; exact (nA I (SqT.of h1) (hk▸h2.sq)).elim
  | exn c f ys=>simp [dep] at n'
  | _=>simp only [Rp] at h'; cases h'
 | .lst xs,d',v,n,n',h,h'=>by
  simp only [Rp] at h
  obtain ⟨a,vs,rfl,h1,_,r1⟩:=h
  cases d' with
  | tup ys=>simp only [Rp] at h'; obtain ⟨b,us,e,h2,r2⟩:=h'; cases e; exact (nA I (SqT.of h2) (SqL.of h1)).elim
  | lst ys =>
   simp only [Rp] at h'; obtain ⟨b,us,e,h2,_,r2⟩:=h'; cases e
   cases I.list_inj (SqL.of h1) (SqL.of h2)
   simp only [eqD]
   exact iS I hk xs ys vs (by simp only [dep] at n; omega) (by simp only [dep] at n'; omega) r1 r2
  | fz ys =>
   simp only [Rp] at h'; obtain ⟨b,us,e,h2,r2⟩:=h'; cases e
   cases I.list_inj (SqL.of h1) (hk▸h2.sq)
   simp only [eqD]
   exact iS I hk xs ys vs (by simp only [dep] at n; omega) (by simp only [dep] at n'; omega) r1 r2
  | exn c f ys=>simp [dep] at n'
  | _=>simp only [Rp] at h'; cases h'
 | .fz xs,d',v,n,n',h,h'=>by
  simp only [Rp] at h
  obtain ⟨a,vs,rfl,h1,r1⟩:=h
  cases d' with
  | tup ys=>simp only [Rp] at h'; obtain ⟨b,us,e,h2,r2⟩:=h'; cases e; exact (nA I (SqT.of h2) (hk▸h1.sq)).elim
  | lst ys =>
   simp only [Rp] at h'; obtain ⟨b,us,e,h2,_,r2⟩:=h'; cases e
   cases I.list_inj (hk▸h1.sq) (SqL.of h2)
   simp only [eqD]
   exact iS I hk xs ys vs (by simp only [dep] at n; omega) (by simp only [dep] at n'; omega) r1 r2
  | fz ys =>
   simp only [Rp] at h'; obtain ⟨b,us,e,h2,r2⟩:=h'; cases e
   cases I.list_inj (hk▸h1.sq) (hk▸h2.sq)
   simp only [eqD]
   exact iS I hk xs ys vs (by simp only [dep] at n; omega) (by simp only [dep] at n'; omega) r1 r2
  | exn c f ys=>simp [dep] at n'
  | _=>simp only [Rp] at h'; cases h'
 | .exn c f xs,d',v,n,n',h,h'=>by simp [dep] at n
theorem iS (I:Inv X pins σ H s) (hk:X.K=K):∀ (xs ys:List D) (vs:List V),deps xs<=100->deps ys<=100->Rps K μ H xs vs->Rps K μ H ys vs->eqDs xs ys=true
 | [],ys,vs,n,n',h,h'=>by simp only [Rps] at h; subst h; cases ys with | nil=>rfl | cons y ys=>simp only [Rps] at h'; obtain ⟨_,_,e,_⟩:=h'; cases e
 | x::xs,ys,vs,n,n',h,h'=>by
  simp only [Rps] at h
  obtain ⟨v,r,rfl,e2,e3⟩:=h
  cases ys with
  | nil=>simp only [Rps] at h'; cases h'
  | cons y ys =>
   simp only [Rps] at h'
   obtain ⟨v',r',e,e2',e3'⟩:=h'
   cases e
   simp only [deps] at n n'
   simp only [eqDs,aBq I hk x y v (by omega) (by omega) e2 e2',iS I hk xs ys r (by omega) (by omega) e3 e3',Bool.and_self]
end
theorem kF {d:D} {v:V} (h:fv d=none) (n:dep d<=100) (r:Rp K μ H d v):∃ a ds k,v=.ref a/\At K μ H d a ds k:=by
 cases d with
 | tup xs=>simp only [Rp] at r; obtain ⟨a,vs,e,q1,q2⟩:=r; exact ⟨a,xs,true,e,.tup (SqT.of q1) q2⟩
 | lst xs=>simp only [Rp] at r; obtain ⟨a,vs,e,q1,_,q2⟩:=r; exact ⟨a,xs,false,e,.lst (SqL.of q1) q2⟩
 | fz xs=>simp only [Rp] at r; obtain ⟨a,vs,e,q1,q2⟩:=r; exact ⟨a,xs,false,e,.fz q1.sq q2⟩
 | exn c f xs=>simp [dep] at n
 | _=>simp [fv] at h
theorem aFw {A:Around} {d d2:D} {v1 v2 w w2:V} {u1 u2:Value} (n1:fv d=some w) (n2:fv d2=some w2) (h1:Rp K μ H d v1) (h2:Rp K μ H d2 v2) (q1:RelV v1 u1) (q2:RelV v2 u2) :
  (SeqAt.RcAt A s u1 u2 (eqD d d2)/\SeqAt.RcNeAt A s u1 u2 (!eqD d d2)):=by
 cases d with
 | non =>
  simp only [Rp] at h1; subst h1; cases q1
  cases d2 with
  | non=>simp only [Rp] at h2; subst h2; cases q2; simp only [eqD]; exact ⟨SeqAt.RcAt.none_none,SeqAt.RcNeAt.none_none⟩
  | bl y=>simp only [Rp] at h2; subst h2; cases q2; simp only [eqD]; exact ⟨SeqAt.RcAt.none_bool y,SeqAt.RcNeAt.none_bool y⟩
  | int y=>simp only [Rp] at h2; subst h2; obtain ⟨t2,rfl⟩:=q2; simp only [eqD]; exact ⟨SeqAt.RcAt.none_int y t2,SeqAt.RcNeAt.none_int y t2⟩
  | str y=>simp only [Rp] at h2; subst h2; obtain ⟨t2,rfl⟩:=q2; simp only [eqD]; exact ⟨SeqAt.RcAt.none_str y t2,SeqAt.RcNeAt.none_str y t2⟩
  | _=>simp [fv] at n2
 | bl x =>
  simp only [Rp] at h1; subst h1; cases q1
  cases d2 with
  | non=>simp only [Rp] at h2; subst h2; cases q2; simp only [eqD]; exact ⟨SeqAt.RcAt.bool_none x,SeqAt.RcNeAt.bool_none x⟩
  | bl y=>simp only [Rp] at h2; subst h2; cases q2; simp only [eqD]; exact ⟨SeqAt.RcAt.bool_bool x y,SeqAt.RcNeAt.bool_bool x y⟩
  | int y=>simp only [Rp] at h2; subst h2; obtain ⟨t2,rfl⟩:=q2; simp only [eqD]; exact ⟨SeqAt.RcAt.bool_int x y t2,SeqAt.RcNeAt.bool_int x y t2⟩
  | str y=>simp only [Rp] at h2; subst h2; obtain ⟨t2,rfl⟩:=q2; simp only [eqD]; exact ⟨SeqAt.RcAt.bool_str x y t2,SeqAt.RcNeAt.bool_str x y t2⟩
  | _=>simp [fv] at n2
 | int x =>
  simp only [Rp] at h1; subst h1; obtain ⟨t,rfl⟩:=q1
  cases d2 with
  | non=>simp only [Rp] at h2; subst h2; cases q2; simp only [eqD]; exact ⟨SeqAt.RcAt.int_none x t,SeqAt.RcNeAt.int_none x t⟩
  | bl y=>simp only [Rp] at h2; subst h2; cases q2; simp only [eqD]; exact ⟨SeqAt.RcAt.int_bool x t y,SeqAt.RcNeAt.int_bool x t y⟩
  | int y=>simp only [Rp] at h2; subst h2; obtain ⟨t2,rfl⟩:=q2; simp only [eqD]; exact ⟨SeqAt.RcAt.int_int x t y t2,SeqAt.RcNeAt.int_int x t y t2⟩
  | str y=>simp only [Rp] at h2; subst h2; obtain ⟨t2,rfl⟩:=q2; simp only [eqD]; exact ⟨SeqAt.RcAt.int_str x t y t2,SeqAt.RcNeAt.int_str x t y t2⟩
  | _=>simp [fv] at n2
 | str x =>
  simp only [Rp] at h1; subst h1; obtain ⟨t,rfl⟩:=q1
  cases d2 with
  | non=>simp only [Rp] at h2; subst h2; cases q2; simp only [eqD]; exact ⟨SeqAt.RcAt.str_none x t,SeqAt.RcNeAt.str_none x t⟩
  | bl y=>simp only [Rp] at h2; subst h2; cases q2; simp only [eqD]; exact ⟨SeqAt.RcAt.str_bool x t y,SeqAt.RcNeAt.str_bool x t y⟩
  | int y=>simp only [Rp] at h2; subst h2; obtain ⟨t2,rfl⟩:=q2; simp only [eqD]; exact ⟨SeqAt.RcAt.str_int x t y t2,SeqAt.RcNeAt.str_int x t y t2⟩
  | str y=>simp only [Rp] at h2; subst h2; obtain ⟨t2,rfl⟩:=q2; simp only [eqD]; exact ⟨SeqAt.RcAt.str_str x t y t2,SeqAt.RcNeAt.str_str x t y t2⟩
  | _=>simp [fv] at n2
 | _=>simp [fv] at n1
theorem vF {A:Around} {d2:D} {a:Addr} {its:Array Value} {v2 w2:V} {u2:Value} (pl:s.heap.IsTuple a its) (hu:A.units < cLine) (n2:fv d2=some w2) (h2:Rp K μ H d2 v2) (q2:RelV v2 u2) :
  SeqAt.EqAt A s (.ref a) u2 false/\SeqAt.EqAt A s u2 (.ref a) false/\SeqAt.RcAt A s (.ref a) u2 false/\SeqAt.RcNeAt A s (.ref a) u2 true/\SeqAt.RcAt A s u2 (.ref a) false/\SeqAt.RcNeAt A s u2 (.ref a) true:=by
 cases d2 with
 | non=>simp only [Rp] at h2; subst h2; cases q2; exact ⟨SeqAt.EqAt.tuple_none pl hu,SeqAt.EqAt.none_tuple pl hu,SeqAt.RcAt.tuple_none pl hu,SeqAt.RcNeAt.tuple_none pl hu,SeqAt.RcAt.none_tuple pl hu,SeqAt.RcNeAt.none_tuple pl hu⟩
 | bl y=>simp only [Rp] at h2; subst h2; cases q2; exact ⟨SeqAt.EqAt.tuple_bool y pl hu,SeqAt.EqAt.bool_tuple y pl hu,SeqAt.RcAt.tuple_bool y pl hu,SeqAt.RcNeAt.tuple_bool y pl hu,SeqAt.RcAt.bool_tuple y pl hu,SeqAt.RcNeAt.bool_tuple y pl hu⟩
 | int y=>simp only [Rp] at h2; subst h2; obtain ⟨t2,rfl⟩:=q2; exact ⟨SeqAt.EqAt.tuple_int y t2 pl hu,SeqAt.EqAt.int_tuple y t2 pl hu,SeqAt.RcAt.tuple_int y t2 pl hu,SeqAt.RcNeAt.tuple_int y t2 pl hu,SeqAt.RcAt.int_tuple y t2 pl hu,SeqAt.RcNeAt.int_tuple y t2 pl hu⟩
 | str y=>simp only [Rp] at h2; subst h2; obtain ⟨t2,rfl⟩:=q2; exact ⟨SeqAt.EqAt.tuple_str y t2 pl hu,SeqAt.EqAt.str_tuple y t2 pl hu,SeqAt.RcAt.tuple_str y t2 pl hu,SeqAt.RcNeAt.tuple_str y t2 pl hu,SeqAt.RcAt.str_tuple y t2 pl hu,SeqAt.RcNeAt.str_tuple y t2 pl hu⟩
 | _=>simp [fv] at n2
theorem pK {A:Around} {d2:D} {a:Addr} {its:Array Value} {v2 w2:V} {u2:Value} (pl:s.heap.IsList a its) (hu:A.units < cLine) (n2:fv d2=some w2) (h2:Rp K μ H d2 v2) (q2:RelV v2 u2) :
  SeqAt.EqAt A s (.ref a) u2 false/\SeqAt.EqAt A s u2 (.ref a) false/\SeqAt.RcAt A s (.ref a) u2 false/\SeqAt.RcNeAt A s (.ref a) u2 true/\SeqAt.RcAt A s u2 (.ref a) false/\SeqAt.RcNeAt A s u2 (.ref a) true:=by
 cases d2 with
 | non=>simp only [Rp] at h2; subst h2; cases q2; exact ⟨SeqAt.EqAt.list_none pl hu,SeqAt.EqAt.none_list pl hu,SeqAt.RcAt.list_none pl hu,SeqAt.RcNeAt.list_none pl hu,SeqAt.RcAt.none_list pl hu,SeqAt.RcNeAt.none_list pl hu⟩
 | bl y=>simp only [Rp] at h2; subst h2; cases q2; exact ⟨SeqAt.EqAt.list_bool y pl hu,SeqAt.EqAt.bool_list y pl hu,SeqAt.RcAt.list_bool y pl hu,SeqAt.RcNeAt.list_bool y pl hu,SeqAt.RcAt.bool_list y pl hu,SeqAt.RcNeAt.bool_list y pl hu⟩
 | int y=>simp only [Rp] at h2; subst h2; obtain ⟨t2,rfl⟩:=q2; exact ⟨SeqAt.EqAt.list_int y t2 pl hu,SeqAt.EqAt.int_list y t2 pl hu,SeqAt.RcAt.list_int y t2 pl hu,SeqAt.RcNeAt.list_int y t2 pl hu,SeqAt.RcAt.int_list y t2 pl hu,SeqAt.RcNeAt.int_list y t2 pl hu⟩
 | str y=>simp only [Rp] at h2; subst h2; obtain ⟨t2,rfl⟩:=q2; exact ⟨SeqAt.EqAt.list_str y t2 pl hu,SeqAt.EqAt.str_list y t2 pl hu,SeqAt.RcAt.list_str y t2 pl hu,SeqAt.RcNeAt.list_str y t2 pl hu,SeqAt.RcAt.str_list y t2 pl hu,SeqAt.RcNeAt.str_list y t2 pl hu⟩
 | _=>simp [fv] at n2
theorem nD {A:Around} {d d2:D} {a:Addr} {xs:List D} {k:Bool} {v2 w2:V} {u2:Value} (I:Inv X pins σ H s) (hk:X.K=K) (hu:A.units < cLine) (h1:At K μ H d a xs k) (n2:fv d2=some w2) (h2:Rp K μ H d2 v2) (q2:RelV v2 u2) :
  SeqAt.EqAt A s (.ref a) u2 false/\SeqAt.EqAt A s u2 (.ref a) false/\SeqAt.RcAt A s (.ref a) u2 false/\SeqAt.RcNeAt A s (.ref a) u2 true/\SeqAt.RcAt A s u2 (.ref a) false/\SeqAt.RcNeAt A s u2 (.ref a) true:=by
 cases h1 with
 | tup h r=>obtain ⟨its,r',pl,_⟩:=I.tuple (hk▸h); exact vF pl hu n2 h2 q2
 | lst h r=>obtain ⟨its,r',pl,_⟩:=I.list (hk▸h); exact pK pl.isList hu n2 h2 q2
 | fz h r=>obtain ⟨its,r',pl,_⟩:=I.list (hk▸h); exact pK pl.isList hu n2 h2 q2
theorem gP {d d2:D} {w:V} (n1:fv d=none) (n2:fv d2=some w):eqD d d2=false/\eqD d2 d=false:=by
 cases d <;> simp only [fv,reduceCtorEq] at n1 <;> (cases d2 <;> simp only [fv,reduceCtorEq] at n2 <;> exact ⟨rfl,rfl⟩)
theorem aGg {A:Around} {d d2:D} {a b:Addr} {xs ys:List D} {k k2:Bool} (I:Inv X pins σ H s) (hk:X.K=K) (hu:A.units < cLine) (h1:At K μ H d a xs k) (h2:At K μ H d2 b ys k2) (n2:dep d2<=100) (ih:Eqs K μ H s A.in1 xs) :
  SeqAt.RcAt A s (.ref a) (.ref b) (eqD d d2)/\SeqAt.RcNeAt A s (.ref a) (.ref b) (!eqD d d2):=by
 cases h1 with
 | tup h r=>cases h2 with
  | tup h' r'=>exact ⟨aIb I (hk▸h) (hk▸h') r r' hu (by simp only [dep] at n2; omega) ih,aAl I (hk▸h) (hk▸h') r r' hu (by simp only [dep] at n2; omega) ih⟩
  | lst h' r' =>
   obtain ⟨_,_,pl,_⟩:=I.tuple (hk▸h); obtain ⟨_,_,pl',_⟩:=I.list (hk▸h')
   exact ⟨.tuple_list pl pl'.isList hu,.tuple_list pl pl'.isList hu⟩
  | fz h' r' =>
   obtain ⟨_,_,pl,_⟩:=I.tuple (hk▸h); obtain ⟨_,_,pl',_⟩:=I.list (hk▸h')
   exact ⟨.tuple_list pl pl'.isList hu,.tuple_list pl pl'.isList hu⟩
 | lst h r=>cases h2 with
  | tup h' r' =>
   obtain ⟨_,_,pl,_⟩:=I.list (hk▸h); obtain ⟨_,_,pl',_⟩:=I.tuple (hk▸h')
   exact ⟨.list_tuple pl.isList pl' hu,.list_tuple pl.isList pl' hu⟩
  | lst h' r'=>exact ⟨sD I (hk▸h) (hk▸h') r r' hu (by simp only [dep] at n2; omega) ih,kZ I (hk▸h) (hk▸h') r r' hu (by simp only [dep] at n2; omega) ih⟩
  | fz h' r'=>exact ⟨sD I (hk▸h) (hk▸h') r r' hu (by simp only [dep] at n2; omega) ih,kZ I (hk▸h) (hk▸h') r r' hu (by simp only [dep] at n2; omega) ih⟩
 | fz h r=>cases h2 with
  | tup h' r' =>
   obtain ⟨_,_,pl,_⟩:=I.list (hk▸h); obtain ⟨_,_,pl',_⟩:=I.tuple (hk▸h')
   exact ⟨.list_tuple pl.isList pl' hu,.list_tuple pl.isList pl' hu⟩
  | lst h' r'=>exact ⟨sD I (hk▸h) (hk▸h') r r' hu (by simp only [dep] at n2; omega) ih,kZ I (hk▸h) (hk▸h') r r' hu (by simp only [dep] at n2; omega) ih⟩
  | fz h' r'=>exact ⟨sD I (hk▸h) (hk▸h') r r' hu (by simp only [dep] at n2; omega) ih,kZ I (hk▸h) (hk▸h') r r' hu (by simp only [dep] at n2; omega) ih⟩
theorem gK {A:Around} {d d2:D} {v1 v2:V} {u1 u2:Value} (I:Inv X pins σ H s) (hk:X.K=K) (hu:A.units < cLine) (h1:Rp K μ H d v1) (h2:Rp K μ H d2 v2) (q1:RelV v1 u1) (q2:RelV v2 u2) (m1:dep d<=100) (m2:dep d2<=100)
  (ih:∀ a xs k,At K μ H d a xs k->Eqs K μ H s A.in1 xs):SeqAt.EqAt A s u1 u2 (eqD d d2):=by
 cases n1:fv d with
 | some w =>
  cases n2:fv d2 with
  | some w2 =>
   obtain ⟨rfl,f1⟩:=qJ n1 h1
   obtain ⟨rfl,f2⟩:=qJ n2 h2
   rw [<- aAg n1 n2]
   exact aCq q1 q2 f1 f2
  | none =>
   obtain ⟨a,ds,k,rfl,at2⟩:=kF n2 m2 h2
   cases q2
   rw [(gP n2 n1).2]
   exact (nD I hk hu at2 n1 h1 q1).2.1
 | none =>
  cases n2:fv d2 with
  | some w2 =>
   obtain ⟨a,ds,k,rfl,at1⟩:=kF n1 m1 h1
   cases q1
   rw [(gP n1 n2).1]
   exact (nD I hk hu at1 n2 h2 q2).1
  | none =>
   obtain ⟨a,xs,k,rfl,at1⟩:=kF n1 m1 h1
   obtain ⟨b,ys,k2,rfl,at2⟩:=kF n2 m2 h2
   cases q1
   cases q2
   by_cases hab:a=b
   ·subst hab
    rw [aBq I hk d d2 _ m1 m2 h1 h2]
    exact .same _
   ·exact .of_refs hab (aGg I hk hu at1 at2 m2 (ih a xs k at1)).1
mutual
theorem aBc (I:Inv X pins σ H s) (hk:X.K=K):∀ (d:D) (A:Around) (d2:D) (v1 v2:V) (u1 u2:Value),A.units+dep d < cLine->dep d<=100->dep d2<=100->Rp K μ H d v1->Rp K μ H d2 v2->RelV v1 u1->RelV v2 u2->SeqAt.EqAt A s u1 u2 (eqD d d2)
 | .non,A,d2,v1,v2,u1,u2,hu,m1,m2,h1,h2,q1,q2=>gK I hk (by omega) h1 h2 q1 q2 m1 m2 fun a xs k z=>nomatch z
 | .bl x,A,d2,v1,v2,u1,u2,hu,m1,m2,h1,h2,q1,q2=>gK I hk (by omega) h1 h2 q1 q2 m1 m2 fun a xs k z=>nomatch z
 | .int x,A,d2,v1,v2,u1,u2,hu,m1,m2,h1,h2,q1,q2=>gK I hk (by omega) h1 h2 q1 q2 m1 m2 fun a xs k z=>nomatch z
 | .str x,A,d2,v1,v2,u1,u2,hu,m1,m2,h1,h2,q1,q2=>gK I hk (by omega) h1 h2 q1 q2 m1 m2 fun a xs k z=>nomatch z
 | .tup xs,A,d2,v1,v2,u1,u2,hu,m1,m2,h1,h2,q1,q2=>gK I hk (by omega) h1 h2 q1 q2 m1 m2 fun a ys k z=>by
  have e:xs=ys:=by cases z; rfl
  subst e
  exact kK I hk xs A.in1 (by simp only [dep] at hu; show A.units+1+deps xs < cLine; omega) (by simp only [dep] at m1; omega)
 | .lst xs,A,d2,v1,v2,u1,u2,hu,m1,m2,h1,h2,q1,q2=>gK I hk (by omega) h1 h2 q1 q2 m1 m2 fun a ys k z=>by
  have e:xs=ys:=by cases z; rfl
  subst e
  exact kK I hk xs A.in1 (by simp only [dep] at hu; show A.units+1+deps xs < cLine; omega) (by simp only [dep] at m1; omega)
 | .fz xs,A,d2,v1,v2,u1,u2,hu,m1,m2,h1,h2,q1,q2=>gK I hk (by omega) h1 h2 q1 q2 m1 m2 fun a ys k z=>by
  have e:xs=ys:=by cases z; rfl
  subst e
  exact kK I hk xs A.in1 (by simp only [dep] at hu; show A.units+1+deps xs < cLine; omega) (by simp only [dep] at m1; omega)
 | .exn c f xs,A,d2,v1,v2,u1,u2,hu,m1,m2,h1,h2,q1,q2=>by simp [dep] at m1
theorem kK (I:Inv X pins σ H s) (hk:X.K=K):∀ (xs:List D) (A:Around),A.units+deps xs < cLine->deps xs<=100->Eqs K μ H s A xs
 | [],A,hu,m=>fun j d h=>by simp at h
 | x::xs,A,hu,m=>fun j d h=>match j,h with
  | 0,h=>fun d2 v1 v2 u1 u2 m2 r1 r2 q1 q2=>by
   have e:d=x:=by simpa using h.symm
   rw [e] at r1 ⊢
   exact aBc I hk x A d2 v1 v2 u1 u2 (by simp only [deps] at hu; omega) (by simp only [deps] at m; omega) m2 r1 r2 q1 q2
  | j+1,h=>fun d2 v1 v2 u1 u2 m2 r1 r2 q1 q2=>kK I hk xs A (by simp only [deps] at hu; omega) (by simp only [deps] at m; omega) j d (by simpa using h) d2 v1 v2 u1 u2 m2 r1 r2 q1 q2
end
noncomputable def wd (M:Mm):W->Option D
 | .d x=>some x
 | .ref i=>(M[i]?).map D.lst
noncomputable def Rq (K:PySem.W.Frag) (μ:List Addr) (H:Hp) (d:D) (v:V):Prop:=Rp K μ H d v\/∃ a ds vs,d=.lst ds/\v=.ref a/\H a=some (.lst vs)/\Rps K μ H ds vs
theorem xR {w:W} {v:V} {d:D} (hr:HR K μ H M) (r:Rw K μ H w v) (h:wd M w=some d):Rq K μ H d v:=by
 cases w with
 | d x=>simp only [wd,Option.some.injEq] at h; subst h; exact .inl r
 | ref i =>
  simp only [wd,Option.map_eq_some_iff] at h
  obtain ⟨ds,h1,rfl⟩:=h
  obtain ⟨a,q,rfl⟩:=r
  obtain ⟨a',vs,q1,q2,q3⟩:=hr.at h1
  rw [q] at q1; cases q1
  exact .inr ⟨a,ds,vs,rfl,rfl,q2,q3⟩
theorem rY {d:D} {v:V} (n:fv d=none) (m:dep d<=100) (h:Rq K μ H d v):∃ a ds k,v=.ref a/\At K μ H d a ds k:=by
 rcases h with h | ⟨a,ds,vs,rfl,rfl,q1,q2⟩
 ·exact kF n m h
 ·exact ⟨a,ds,false,rfl,.lst (SqL.of q1) q2⟩
theorem aAr {d:D} {v w:V} (n:fv d=some w) (h:Rq K μ H d v):Rp K μ H d v:=by
 rcases h with h | ⟨a,ds,vs,rfl,rfl,q1,q2⟩
 ·exact h
 ·cases n
theorem aJj {d:D} {a:Addr} {xs:List D} {k:Bool} (h:At K μ H d a xs k):dep d=deps xs+1:=by cases h <;> rfl
noncomputable def pEq (x y:W) (M:Mm):Oc W:=match wd M x,wd M y with
 | some d,some e=>if dep d<=100/\dep e<=100 then .ok (.d (.bl (eqD d e))) M else .bad
 | _,_=>.bad
noncomputable def pNe (x y:W) (M:Mm):Oc W:=match wd M x,wd M y with
 | some d,some e=>if dep d<=100/\dep e<=100 then .ok (.d (.bl (!eqD d e))) M else .bad
 | _,_=>.bad
noncomputable def rEqD (K:PySem.W.Frag) (neg:Bool):R2:=fun v u H Q=>∃ μ d e,Rq K μ H d v/\Rq K μ H e u/\(dep d<=100/\dep e<=100)/\Q (.bl (if neg=true then !eqD d e else eqD d e)) H
theorem aKp (I:Inv X pins σ H s) (hk:X.K=K) {A:Around} {d d2:D} {v1 v2:V} {u1 u2:Value} (hu:A.units+dep d+1 < cLine) (m1:dep d<=100) (m2:dep d2<=100) (h1:Rq K μ H d v1) (h2:Rq K μ H d2 v2) (q1:RelV v1 u1) (q2:RelV v2 u2) :
  (SeqAt.RcAt A s u1 u2 (eqD d d2)/\SeqAt.RcNeAt A s u1 u2 (!eqD d d2)):=by
 have hu0:A.units < cLine:=by omega
 cases n1:fv d with
 | some w =>
  have h1:=aAr n1 h1
  cases n2:fv d2 with
  | some w2=>exact aFw n1 n2 h1 (aAr n2 h2) q1 q2
  | none =>
   obtain ⟨b,ys,k2,rfl,at2⟩:=rY n2 m2 h2
   cases q2
   rw [(gP n2 n1).2]
   obtain ⟨_,_,_,_,x,y⟩:=nD I hk hu0 at2 n1 h1 q1
   exact ⟨x,y⟩
 | none =>
  obtain ⟨a,xs,k,rfl,at1⟩:=rY n1 m1 h1
  cases q1
  cases n2:fv d2 with
  | some w2 =>
   rw [(gP n1 n2).1]
   obtain ⟨_,_,x,y,_⟩:=nD I hk hu0 at1 n2 (aAr n2 h2) q2
   exact ⟨x,y⟩
  | none =>
   obtain ⟨b,ys,k2,rfl,at2⟩:=rY n2 m2 h2
   cases q2
   have:=aJj at1
   exact aGg I hk hu0 at1 at2 m2 (kK I hk xs A.in1 (by show A.units+1+deps xs < cLine; omega) (by omega))
theorem aIi (hu:X.A.units+101 < cLine):OpR X (compareOp .Eq) (rEqD X.K false):=by
 intro pins s σ H x y v u Q I rx ry h
 obtain ⟨μ,d,e,h1,h2,h3,q⟩:=h
 exact (aKp I rfl (A:=X.A) (by omega) h3.1 h3.2 h1 h2 rx ry).1 _ _ _ _ ⟨.bl _,H,I,rfl,q⟩
theorem aHg (hu:X.A.units+101 < cLine):OpR X (compareOp .NotEq) (rEqD X.K true):=by
 intro pins s σ H x y v u Q I rx ry h
 obtain ⟨μ,d,e,h1,h2,h3,q⟩:=h
 exact (aKp I rfl (A:=X.A) (by omega) h3.1 h3.2 h1 h2 rx ry).2 _ _ _ _ ⟨.bl _,H,I,rfl,q⟩
theorem opEq (hu:X.A.units+101 < cLine):OpG X K Z (compareOp .Eq) pEq:=fun hk=>⟨_,hk▸aIi hu,by
 intro μ H M x y v u Q hr rx ry p
 unfold pEq at p
 cases q1:wd M x with
 | none=>rw [q1] at p; exact p.elim
 | some d=>cases q2:wd M y with
  | none=>rw [q1,q2] at p; exact p.elim
  | some e =>
   rw [q1,q2] at p
   simp only at p
   split at p
   ·exact ⟨μ,d,e,xR hr rx q1,xR hr ry q2,by assumption,p μ H .refl hr _ (by simp [Rw,Rp])⟩
   ·exact p.elim⟩
theorem opNe (hu:X.A.units+101 < cLine):OpG X K Z (compareOp .NotEq) pNe:=fun hk=>⟨_,hk▸aHg hu,by
 intro μ H M x y v u Q hr rx ry p
 unfold pNe at p
 cases q1:wd M x with
 | none=>rw [q1] at p; exact p.elim
 | some d=>cases q2:wd M y with
  | none=>rw [q1,q2] at p; exact p.elim
  | some e =>
   rw [q1,q2] at p
   simp only at p
   split at p
   ·exact ⟨μ,d,e,xR hr rx q1,xR hr ry q2,by assumption,p μ H .refl hr _ (by simp [Rw,Rp])⟩
   ·exact p.elim⟩
end
end EV
namespace EV
open PySem PySem.Spec PyProof.Rows L2
section
variable {X:Cx} {K:PySem.W.Frag} {Z:Zt} {μ:List Addr} {H:Hp} {M:Mm} {e a b o:Expr} {es:List Expr} {pos:Pos} {f fa fb fo:FE} {fs:FA}
@[irreducible] noncomputable def lid:Nat:=2 ^ 4096
theorem uF {i:Int} (h:i.natAbs < lid):Builtin.Int.intBits i<=4096:=by unfold lid at h; exact intBits_le_iff.mpr h
theorem aJa {i:Int} {m:Nat} (h:i.natAbs < 2 ^ m) (hm:m<=4096):i.natAbs < lid:=by unfold lid; exact Nat.lt_of_lt_of_le h (Nat.pow_le_pow_right (by omega) hm)
noncomputable def mulOk (i j:Int):Bool:=decide ((-18446744073709551616 < i/\i < 18446744073709551616)\/(-18446744073709551616 < j/\j < 18446744073709551616)\/(i.natAbs < lid/\j.natAbs < lid))
theorem aFu:OpR X (binaryOp .Mult) (rI (fun i j=>CMul i j\/(i.natAbs < lid/\j.natAbs < lid)) fun i j=>.int (i*j)):=L2.opI fun _ _ _ _ _ _ _ hc q=>mul_int q (by
 rcases hc with hc | ⟨h1,h2⟩
 ·exact hc.ok
 ·exact mulOk_of_bits (uF h1) (uF h2) (by omega))
noncomputable def pMul (x y:W) (M:Mm):Oc W:=match x,y with
 | .d (.int i),.d (.int j)=>if mulOk i j=true then .ok (.d (.int (i*j))) M else .bad
 | x,.d (.int k)=>match lv M x with
  | some xs=>if xs.length*k.toNat<=16777216/\k < 9223372036854775808 /\ -9223372036854775808<=k then .ok (.d (.lst (List.replicate k.toNat xs).flatten)) M else .bad
  | none=>.bad
 | _,_=>.bad
theorem sZ {x:W} {v:V} {k:Int} {Q:VK} (hr:HR K μ H M) (rx:Rw K μ H x v) (p:Pst K Z μ H (match lv M x with
  | some xs=>if xs.length*k.toNat<=16777216/\k < 9223372036854775808 /\ -9223372036854775808<=k then .ok (.d (.lst (List.replicate k.toNat xs).flatten)) M else .bad
  | none=>.bad) (Wk K Q)):rRep v (.int k) H Q:=by
 cases q1:lv M x with
 | none=>rw [q1] at p; exact p.elim
 | some xs =>
  rw [q1] at p
  simp only at p
  split at p
  ·rename_i hz
   obtain ⟨a,vs,rfl,h1,r1⟩:=tL hr rx q1
   exact ⟨a,k,vs,rfl,rfl,h1,hz.2.2,hz.2.1,by rw [<- r1.length,sizeLine_eq]; exact hz.1,iL hr (r1.rep k.toNat) p⟩
  ·exact p.elim
theorem opMul:OpG X K Z (binaryOp .Mult) pMul:=fun hk=>by
 refine ⟨_,OpR.or aFu aJi,?_⟩
 intro μ H M x y v u Q hr rx ry p
 cases y with
 | ref j=>cases x with
  | ref i=>exact p.elim
  | d x=>cases x <;> exact p.elim
 | d y=>cases y with
  | int k =>
   have ry':u=.int k:=by simpa only [Rw,Rp] using ry
   subst ry'
   cases x with
   | ref i=>exact .inr (sZ hr rx p)
   | d x=>cases x with
    | int i =>
     simp only [pMul] at p
     simp only [Rw,Rp] at rx
     split at p
     ·rename_i hz
      refine .inl ⟨i,k,rx,rfl,?_,p μ H .refl hr _ (by simp [Rw,Rp])⟩
      simp only [mulOk,decide_eq_true_eq] at hz
      rcases hz with hz | hz | hz
      ·exact .inl (.inl hz)
      ·exact .inl (.inr hz)
      ·exact .inr hz
     ·exact p.elim
    | _=>exact .inr (sZ hr rx p)
  | _=>cases x with
   | ref i=>exact p.elim
   | d x=>cases x <;> exact p.elim
noncomputable def pNeg (x:W) (M:Mm):Oc W:=match x with
 | .d (.int i)=>.ok (.d (.int (-i))) M
 | _=>.bad
theorem sA (ha:Ev X K Z a fa):Ev X K Z (.UnaryOp .USub a pos) (e1 pNeg fa):=by
 refine ⟨ha.k,cqE (aMd aJz ha.h) ?_⟩
 rintro σ H Q ⟨μ,M,L,hr,lr,p⟩
 refine ⟨μ,M,L,hr,lr,p.bind.imp fun μ1 H1 M1 x e1 hr1 _ p1 v rx=>?_⟩
 cases x with
 | ref i=>exact p1.elim
 | d x=>cases x with
  | int i=>simp only [Rw,Rp] at rx; exact ⟨i,rx,p1 μ1 H1 .refl hr1 _ (by simp [Rw,Rp])⟩
  | _=>exact p1.elim
noncomputable def pNot (x:W) (M:Mm):Oc W:=match x with
 | .d (.bl b)=>.ok (.d (.bl (!b))) M
 | _=>.bad
theorem aBx (ha:Ev X K Z a fa):Ev X K Z (.UnaryOp .Not a pos) (e1 pNot fa):=by
 refine ⟨ha.k,cqE (aJt ha.h) ?_⟩
 rintro σ H Q ⟨μ,M,L,hr,lr,p⟩
 refine ⟨μ,M,L,hr,lr,p.bind.imp fun μ1 H1 M1 x e1 hr1 _ p1 v rx=>?_⟩
 cases x with
 | ref i=>exact p1.elim
 | d x=>cases x with
  | bl i=>simp only [Rw,Rp] at rx; exact ⟨i,rx,p1 μ1 H1 .refl hr1 _ (by simp [Rw,Rp])⟩
  | _=>exact p1.elim
noncomputable def eAnd (f g:FE):FE:=fun L M=>(f L M).bind fun x M1=>match x with
 | .d (.bl true)=>g L M1
 | .d (.bl false)=>.ok (.d (.bl false)) M1
 | _=>.bad
variable {rest:List Expr}
theorem wY {op} (ha:Ev X K Z a fa):Ev X K Z (.BoolOp op [a] pos) fa:=⟨ha.k,aHt ha.h⟩
theorem vO (ha:Ev X K Z a fa) (hb:Ev X K Z (.BoolOp .And (b::rest) pos) fb):Ev X K Z (.BoolOp .And (a::b::rest) pos) (eAnd fa fb):=by
 refine ⟨ha.k,cqE (aIl ha.h hb.h) ?_⟩
 rintro σ H Q ⟨μ,M,L,hr,lr,p⟩
 refine ⟨μ,M,L,hr,lr,p.bind.imp fun μ1 H1 M1 x e1 hr1 _ p1 v rx=>?_⟩
 cases x with
 | ref i=>exact p1.elim
 | d x=>cases x with
  | bl i =>
   simp only [Rw,Rp] at rx
   refine ⟨i,rx,?_⟩
   cases i with
   | true=>exact ⟨μ1,M1,L,hr1,lr.ext hr.lsts e1,p1⟩
   | false=>exact p1 μ1 H1 .refl hr1 _ (by simp [Rw,Rp])
  | _=>exact p1.elim
noncomputable def eIf (t:FT) (f g:FE):FE:=fun L M=>(t L M).bind fun c M1=>if c=true then f L M1 else g L M1
theorem aKt {c:Expr} {t:FT} (hc:Et X K Z c t) (ha:Ev X K Z a fa) (hb:Ev X K Z b fb):Ev X K Z (.IfExp c a b pos) (eIf t fa fb):=by
 refine ⟨ha.k,cqE (aCc hc.h ha.h hb.h) ?_⟩
 rintro σ H Q ⟨μ,M,L,hr,lr,p⟩
 refine ⟨μ,M,L,hr,lr,p.bind.imp fun μ1 H1 M1 x e1 hr1 _ p1=>?_⟩
 cases x with
 | true=>exact ⟨μ1,M1,L,hr1,lr.ext hr.lsts e1,p1⟩
 | false=>exact ⟨μ1,M1,L,hr1,lr.ext hr.lsts e1,p1⟩
noncomputable def pIx (x y:W) (M:Mm):Oc W:=match y with
 | .d (.int i)=>match x with
  | .d (.str z)=>match atI z.cps.toList i with
   | some c=>if z.length<=16777216 then .ok (.d (.str ⟨#[c]⟩)) M else .bad
   | none=>.bad
  | x=>match sv M x with
   | some xs=>match atI xs i with
    | some d=>.ok (.d d) M
    | none=>.bad
   | none=>.bad
 | _=>.bad
theorem aHa {ds:List D} {vs:List V} {i:Int} {d:D} (r:Rps K μ H ds vs) (h:atI ds i=some d):∃ v,atI vs i=some v/\Rp K μ H d v:=by
 unfold atI at h ⊢
 rw [r.length] at h
 cases q:ixN vs.length i with
 | none=>rw [q] at h; cases h
 | some j=>rw [q] at h; exact r.get h
theorem yB {x:W} {v:V} {i:Int} {Q:VK} (hr:HR K μ H M) (rx:Rw K μ H x v) (p:Pst K Z μ H (match sv M x with
   | some xs=>match atI xs i with
    | some d=>Oc.ok (.d d) M
    | none=>.bad
   | none=>.bad) (Wk K Q)):rIx K v (.int i) H Q:=by
 cases q1:sv M x with
 | none=>rw [q1] at p; exact p.elim
 | some xs =>
  rw [q1] at p
  cases q2:atI xs i with
  | none=>simp only [q2] at p; exact p.elim
  | some d =>
   simp only [q2] at p
   obtain ⟨a,vs,rfl,h1,r1⟩:=pH hr rx q1
   obtain ⟨v,h2,r2⟩:=aHa r1 q2
   have q:=p μ H .refl hr v r2
   rcases h1 with h1 | h1
   ·exact .inl ⟨a,vs,i,v,rfl,rfl,h1,h2,q⟩
   ·exact .inr (.inl ⟨a,vs,i,v,rfl,rfl,h1,h2,q⟩)
theorem aJw:Op2 K Z (rIx K) pIx:=by
 intro μ H M x y v u Q hr rx ry p
 cases y with
 | ref j=>exact p.elim
 | d y=>cases y with
  | int i =>
   have:u=.int i:=by simpa only [Rw,Rp] using ry
   subst this
   cases x with
   | ref j=>exact yB hr rx p
   | d x=>cases x with
    | str z =>
     simp only [Rw,Rp] at rx
     simp only [pIx] at p
     cases q:atI z.cps.toList i with
     | none=>simp only [q] at p; exact p.elim
     | some c =>
      simp only [q] at p
      split at p
      ·exact .inr (.inr ⟨z,i,c,rx,rfl,by rw [sizeLine_eq]; assumption,q,p μ H .refl hr _ (by simp [Rw,Rp])⟩)
      ·exact p.elim
    | _=>exact yB hr rx p
  | _=>exact p.elim
theorem aH (ha:Ev X K Z a fa) (hb:Ev X K Z b fb) (hs:PlainIx b:=by intro _ _; rfl):Ev X K Z (.Subscript a b pos) (e2 pIx fa fb):=by
 have h:=aLp (pos:=pos) (aGm (X:=X)) ha.h hb.h hs
 rw [ha.k] at h
 exact ⟨ha.k,cqE h (lift2 aJw)⟩
noncomputable def aNil:FA:=fun _ M=>.ok [] M
noncomputable def aCons (f:FE) (g:FA):FA:=fun L M=>(f L M).bind fun w M1=>(g L M1).bind fun ws M2=>.ok (w::ws) M2
theorem aD (hk:X.K=K:=by rfl):Ea X K Z [] aNil:=⟨hk,cqA fN fun σ H Q ⟨μ,M,L,hr,lr,p⟩=>p μ H .refl hr [] rfl⟩
theorem aB (ha:Ev X K Z e fa) (hr:Ea X K Z es fs) (hs:starEach (e::es) X.env=(false,eval e X.env)::starEach es X.env:=by rfl):Ea X K Z (e::es) (aCons fa fs):=by
 refine ⟨ha.k,cqA (cY ha.h hr.h hs) ?_⟩
 rintro σ H Q ⟨μ,M,L,hr,lr,p⟩
 refine ⟨μ,M,L,hr,lr,p.bind.imp fun μ1 H1 M1 x e1 hr1 _ p1 v rx=>?_⟩
 refine ⟨μ1,M1,L,hr1,lr.ext hr.lsts e1,p1.bind.imp fun μ2 H2 M2 y e2 hr2 _ p2 us ry=>?_⟩
 exact p2 μ2 H2 .refl hr2 (v::us) ⟨v,us,rfl,rx.ext hr1.lsts e2,ry⟩
noncomputable def allD:List W->Option (List D)
 | []=>some []
 | .d x::ws=>(allD ws).map (x::·)
 | .ref _::_=>none
theorem jY:∀ {ws:List W} {vs:List V} {ds:List D},Rws K μ H ws vs->allD ws=some ds->Rps K μ H ds vs
 | [],_,_,h,q=>by cases h; simp only [allD,Option.some.injEq] at q; subst q; exact .nil
 | .d x::ws,_,_,⟨v,r,e1,e2,e3⟩,q=>by
  simp only [allD,Option.map_eq_some_iff] at q
  obtain ⟨ds,q1,rfl⟩:=q
  subst e1
  exact .cons e2 (jY e3 q1)
 | .ref i::ws,_,_,_,q=>by simp [allD] at q
noncomputable def mkT (ws:List W) (M:Mm):Oc W:=match allD ws with
 | some ds=>if ds.length<=16777216 then okD (.tup ds) M else .bad
 | none=>.bad
noncomputable def mkL (ws:List W) (M:Mm):Oc W:=match allD ws with
 | some ds=>if ds.length<=16777216 then okD (.lst ds) M else .bad
 | none=>.bad
noncomputable def mkR (ws:List W) (M:Mm):Oc W:=match allD ws with
 | some ds=>if ds.length<=16777216 then .ok (.ref M.length) (M++[ds]) else .bad
 | none=>.bad
noncomputable def eA (g:List W->Mm->Oc W) (fs:FA):FE:=fun L M=>(fs L M).bind g
theorem aY {x1} (h:Ea X K Z es fs):Ev X K Z (.Tuple es x1 pos) (eA mkT fs):=by
 refine ⟨h.k,cqE (aKf h.h) ?_⟩
 rintro σ H Q ⟨μ,M,L,hr,lr,p⟩
 refine ⟨μ,M,L,hr,lr,p.bind.imp fun μ1 H1 M1 ws e1 hr1 _ p1 vs rx=>?_⟩
 unfold mkT at p1
 cases q:allD ws with
 | none=>rw [q] at p1; exact p1.elim
 | some ds =>
  rw [q] at p1
  simp only at p1
  split at p1
  ·have r:=jY rx q
   exact ⟨by rw [<- r.length,sizeLine_eq]; assumption,kT hr1 r p1⟩
  ·exact p1.elim
theorem cW (h:Ea X K Z es fs):Ev X K Z (.List es pos) (eA mkL fs):=by
 refine ⟨h.k,cqE (uZ h.h) ?_⟩
 rintro σ H Q ⟨μ,M,L,hr,lr,p⟩
 refine ⟨μ,M,L,hr,lr,p.bind.imp fun μ1 H1 M1 ws e1 hr1 _ p1 vs rx=>?_⟩
 unfold mkL at p1
 cases q:allD ws with
 | none=>rw [q] at p1; exact p1.elim
 | some ds =>
  rw [q] at p1
  simp only at p1
  split at p1
  ·have r:=jY rx q
   exact ⟨by rw [<- r.length,sizeLine_eq]; assumption,iL hr1 r p1⟩
  ·exact p1.elim
theorem iH (h:Ea X K Z es fs):Ev X K Z (.List es pos) (eA mkR fs):=by
 refine ⟨h.k,cqE (uZ h.h) ?_⟩
 rintro σ H Q ⟨μ,M,L,hr,lr,p⟩
 refine ⟨μ,M,L,hr,lr,p.bind.imp fun μ1 H1 M1 ws e1 hr1 _ p1 vs rx=>?_⟩
 unfold mkR at p1
 cases q:allD ws with
 | none=>rw [q] at p1; exact p1.elim
 | some ds =>
  rw [q] at p1
  simp only at p1
  split at p1
  ·have r:=jY rx q
   exact ⟨by rw [<- r.length,sizeLine_eq]; assumption,xF hr1 r p1⟩
  ·exact p1.elim
noncomputable def eInts (ns:List Int):FE:=fun _ M=>.ok (.d (.lst (ns.map D.int))) M
theorem aFm {ns:List Int} (h:IntsE es ns) (hn:ns.length<=16777216:=by decide) (hk:X.K=K:=by rfl):Ev X K Z (.List es pos) (eInts ns):=by
 refine ⟨hk,cqE (uZ (aFk h)) ?_⟩
 rintro σ H Q ⟨μ,M,L,hr,lr,p⟩
 exact ⟨by rw [List.length_map,sizeLine_eq]; exact hn,iL hr Rps.ints p⟩
noncomputable def Cl (K:PySem.W.Frag) (Z:Zt) (r:List V->Hp->VK->Prop) (g:List W->Mm->Oc W):Prop :=
 ∀ (μ:List Addr) (H:Hp) (M:Mm) (ws:List W) (vs:List V) (Q:VK),HR K μ H M->Rws K μ H ws vs->Pst K Z μ H (g ws M) (Wk K Q)->r vs H Q
noncomputable def ClG (X:Cx) (K:PySem.W.Frag) (Z:Zt) (f:Value) (g:List W->Mm->Oc W):Prop:=X.K=K->∃ r,CallR X f r/\Cl K Z r g
theorem liftC {r:List V->Hp->VK->Prop} {g:List W->Mm->Oc W} (h:Cl K Z r g):∀ σ H Q,lift K Z (eA g fs) σ H Q->tCB r (liftA K Z fs) σ H Q:=by
 rintro σ H Q ⟨μ,M,L,hr,lr,p⟩
 exact ⟨μ,M,L,hr,lr,p.bind.imp fun μ1 H1 M1 ws e1 hr1 _ p1 vs rx=>h μ1 H1 M1 ws vs Q hr1 rx p1⟩
theorem bE {x:Str} {p:Pos} {id:String} {g:List W->Mm->Oc W} (hc:ClG X K Z (.builtin id) g) (hg:Gl X x) (hm:X.mg x=none) (hv:bootBuiltins x=some (.builtin id)) (ha:Ea X K Z (e::es) fs)
  (hn:x≠"__name__":=by decide) (hdb:(x==("__debug__":Str))=false:=by decide) (he:starEach (e::es) X.env=(false,eval e X.env)::starEach es X.env:=by rfl)
  (hpl:(backTo pos (starEach es X.env)).any (·.1)=false:=by rfl):Ev X K Z (.Call (.Name x p) (e::es) [] pos) (eA g fs):=by
 obtain ⟨r,h1,h2⟩:=hc ha.k
 exact ⟨ha.k,cqE (tI h1 hg hm hv ha.h hn hdb he hpl) (liftC h2)⟩
theorem bM {x:Str} {p:Pos} {T:String} {g:List W->Mm->Oc W} (hc:ClG X K Z (.type T) g) (hg:Gl X x) (hm:X.mg x=none) (hv:bootBuiltins x=some (.type T)) (ha:Ea X K Z (e::es) fs)
  (hn:x≠"__name__":=by decide) (hdb:(x==("__debug__":Str))=false:=by decide) (he:starEach (e::es) X.env=(false,eval e X.env)::starEach es X.env:=by rfl)
  (hpl:(backTo pos (starEach es X.env)).any (·.1)=false:=by rfl):Ev X K Z (.Call (.Name x p) (e::es) [] pos) (eA g fs):=by
 obtain ⟨r,h1,h2⟩:=hc ha.k
 exact ⟨ha.k,cqE (yO h1 hg hm hv ha.h hn hdb he hpl) (liftC h2)⟩
noncomputable def cLen (ws:List W) (M:Mm):Oc W:=match ws with
 | [.d (.str z)]=>if z.length<=16777216 then .ok (.d (.int z.length)) M else .bad
 | [w]=>match sv M w with
  | some xs=>.ok (.d (.int xs.length)) M
  | none=>.bad
 | _=>.bad
theorem sY {w:W} {v:V} {Q:VK} (hr:HR K μ H M) (rx:Rw K μ H w v) (p:Pst K Z μ H (match sv M w with
  | some xs=>Oc.ok (.d (.int xs.length)) M
  | none=>.bad) (Wk K Q)):∃ p ys,[v]=[V.ref p]/\(SqL K H p ys\/SqT K H p ys)/\Q (.int ys.length) H:=by
 cases q1:sv M w with
 | none=>rw [q1] at p; exact p.elim
 | some xs =>
  rw [q1] at p
  obtain ⟨a,vs,rfl,h1,r1⟩:=pH hr rx q1
  exact ⟨a,vs,rfl,h1,p μ H .refl hr _ (by simp [Rw,Rp,r1.length])⟩
theorem callLen:ClG X K Z (.builtin "len") cLen:=fun hk=>by
 refine ⟨_,CallR.or (hk▸qM) rQ,?_⟩
 intro μ H M ws vs Q hr rx p
 match ws,rx,p with
 | [],_,p=>exact p.elim
 | .ref i::[],⟨v,r,e1,e2,e3⟩,p=>cases e3; subst e1; exact .inl (sY hr e2 p)
 | .d x::[],⟨v,r,e1,e2,e3⟩,p =>
  cases e3; subst e1
  cases x with
  | str z =>
   simp only [cLen] at p
   simp only [Rw,Rp] at e2
   subst e2
   split at p
   ·exact .inr ⟨z,rfl,by rw [sizeLine_eq]; assumption,p μ H .refl hr _ (by simp [Rw,Rp])⟩
   ·exact p.elim
  | _=>exact .inl (sY hr e2 p)
 | .ref i::_::_,_,p=>exact p.elim
 | .d x::_::_,_,p=>cases x <;> exact p.elim
noncomputable def cInt (ws:List W) (M:Mm):Oc W:=match ws with
 | [.d (.int i)]=>.ok (.d (.int i)) M
 | [.d (.bl k)]=>.ok (.d (.int (if k=true then 1 else 0))) M
 | _=>.bad
theorem callInt:ClG X K Z (.type "int") cInt:=fun hk=>by
 refine ⟨_,yZ,?_⟩
 intro μ H M ws vs Q hr rx p
 match ws,rx,p with
 | [],_,p=>exact p.elim
 | .ref i::_,_,p=>exact p.elim
 | .d x::[],⟨v,r,e1,e2,e3⟩,p =>
  cases e3; subst e1
  cases x with
  | int i=>simp only [Rw,Rp] at e2; subst e2; exact .inl ⟨i,rfl,p μ H .refl hr _ (by simp [Rw,Rp])⟩
  | bl k=>simp only [Rw,Rp] at e2; subst e2; exact .inr ⟨k,rfl,p μ H .refl hr _ (by simp [Rw,Rp])⟩
  | _=>exact p.elim
 | .d x::_::_,_,p=>cases x <;> exact p.elim
noncomputable def cMax2 (ws:List W) (M:Mm):Oc W:=match ws with
 | [.d (.int i),.d (.int j)]=>.ok (.d (.int (if j > i then j else i))) M
 | _=>.bad
noncomputable def cMin2 (ws:List W) (M:Mm):Oc W:=match ws with
 | [.d (.int i),.d (.int j)]=>.ok (.d (.int (if j < i then j else i))) M
 | _=>.bad
theorem callMax2 (hc:X.calm=true):ClG X K Z (.builtin "max") cMax2:=fun hk=>by
 refine ⟨_,zR hc,?_⟩
 intro μ H M ws vs Q hr rx p
 unfold cMax2 at p
 split at p
 ·obtain ⟨v,r,e1,e2,v',r',e1',e2',e3⟩:=rx
  simp only [Rw,Rp] at e2 e2'
  cases e3; subst e1' e1 e2 e2'
  exact ⟨_,_,rfl,p μ H .refl hr _ (by simp [Rw,Rp])⟩
 ·exact p.elim
theorem callMin2 (hc:X.calm=true):ClG X K Z (.builtin "min") cMin2:=fun hk=>by
 refine ⟨_,yR hc,?_⟩
 intro μ H M ws vs Q hr rx p
 unfold cMin2 at p
 split at p
 ·obtain ⟨v,r,e1,e2,v',r',e1',e2',e3⟩:=rx
  simp only [Rw,Rp] at e2 e2'
  cases e3; subst e1' e1 e2 e2'
  exact ⟨_,_,rfl,p μ H .refl hr _ (by simp [Rw,Rp])⟩
 ·exact p.elim
noncomputable def cListR (ws:List W) (M:Mm):Oc W:=match ws with
 | [w]=>match sv M w with
  | some xs=>.ok (.ref M.length) (M++[xs])
  | none=>.bad
 | _=>.bad
noncomputable def cTup (ws:List W) (M:Mm):Oc W:=match ws with
 | [w]=>match sv M w with
  | some xs=>okD (.tup xs) M
  | none=>.bad
 | _=>.bad
theorem xC {g:List D->Oc W} {ws:List W} {vs:List V} {Q:List Addr->Hp->Mm->W->Prop} (hr:HR K μ H M) (rx:Rws K μ H ws vs) (p:Pst K Z μ H (match ws with
 | [w]=>match sv M w with
  | some xs=>g xs
  | none=>.bad
 | _=>.bad) Q):∃ w a us xs,ws=[w]/\vs=[.ref a]/\sv M w=some xs/\Rw K μ H w (.ref a)/\(SqL K H a us\/SqT K H a us)/\Rps K μ H xs us/\Pst K Z μ H (g xs) Q:=by
 match ws,rx,p with
 | [],_,p=>exact p.elim
 | [w],⟨v,r,e1,e2,e3⟩,p =>
  cases e3; subst e1
  simp only at p
  cases q:sv M w with
  | none=>rw [q] at p; exact p.elim
  | some xs =>
   rw [q] at p
   obtain ⟨a,us,rfl,h1,r1⟩:=pH hr e2 q
   exact ⟨w,a,us,xs,rfl,rfl,q,e2,h1,r1,p⟩
 | _::_::_,_,p=>exact p.elim
theorem callListR:ClG X K Z (.type "list") cListR:=fun hk=>by
 refine ⟨_,hk▸qS,?_⟩
 intro μ H M ws vs Q hr rx p
 obtain ⟨w,a,us,xs,rfl,rfl,q,e2,h1,r1,p⟩:=xC hr rx p
 exact ⟨a,us,rfl,h1,xF hr r1 p⟩
theorem callTup:ClG X K Z (.type "tuple") cTup:=fun hk=>by
 refine ⟨_,hk▸oU,?_⟩
 intro μ H M ws vs Q hr rx p
 obtain ⟨w,a,us,xs,rfl,rfl,q,e2,h1,r1,p⟩:=xC hr rx p
 by_cases hw:∃ ys,w=.d (.tup ys)
 ·obtain ⟨ys,rfl⟩:=hw
  simp only [sv,Option.some.injEq] at q
  subst q
  have e2':=e2
  simp only [Rw,Rp] at e2
  obtain ⟨a',vs',ea,h1',r1'⟩:=e2
  cases ea
  exact ⟨a,vs',rfl,.inr ⟨SqT.of h1',p μ H .refl hr _ e2'⟩⟩
 ·have hl:lr M w=some xs:=by
   cases w with
   | ref i=>exact q
   | d x=>cases x <;> first | exact q | exact (hw ⟨_,rfl⟩).elim
  obtain ⟨a',vs',ea,h1',r1'⟩:=xB hr e2 hl
  cases ea
  exact ⟨a,vs',rfl,.inl ⟨h1',kT hr r1' p⟩⟩
end
end EV
namespace EV
open PySem PySem.Spec PyProof.Rows L2
section
variable {X:Cx} {K:PySem.W.Frag} {Z:Zt} {μ:List Addr} {H:Hp} {M:Mm} {e a b o:Expr} {es:List Expr} {pos:Pos} {f fa fb fo:FE} {fs:FA}
variable {st:Stmt} {rest:List Stmt} {F G:FS}
noncomputable def sNil:FS:=fun L M=>.ok (.nx L) M
noncomputable def sSeq (F G:FS):FS:=fun L M=>(F L M).bind fun o M1=>match o with
 | .nx L1=>G L1 M1
 | .bk L1=>.ok (.bk L1) M1
 | .ct L1=>.ok (.ct L1) M1
 | .rt w=>.ok (.rt w) M1
theorem aV (hk:X.K=K:=by rfl):Ess X K Z [] sNil:=⟨hk,cqSs aFq fun E σ H ⟨μ,M,L,hr,lr,p⟩=>p μ H .refl hr σ lr⟩
theorem aE (h1:Es X K Z st F) (h2:Ess X K Z rest G):Ess X K Z (st::rest) (sSeq F G):=by
 refine ⟨h1.k,cqSs (aAm h1.h h2.h) ?_⟩
 rintro E σ H ⟨μ,M,L,hr,lr,p⟩
 refine ⟨μ,M,L,hr,lr,p.bind.imp fun μ1 H1 M1 o e1 hr1 _ p1=>?_⟩
 cases o with
 | nx L1=>exact fun σ' lr'=>⟨μ1,M1,L1,hr1,lr',p1⟩
 | bk L1=>exact p1 μ1 H1 .refl hr1
 | ct L1=>exact p1 μ1 H1 .refl hr1
 | rt w=>exact p1 μ1 H1 .refl hr1
theorem aF (h1:Es X K Z st F):Ess X K Z [st] F:=⟨h1.k,aEj h1.h⟩
noncomputable def sEx (f:FE):FS:=fun L M=>(f L M).bind fun _ M1=>.ok (.nx L) M1
theorem cX (h:Ev X K Z e f) (hs:swapsWith e none pos.line X.env=pure false:=by rfl):Es X K Z (.Expr e pos) (sEx f):=by
 refine ⟨h.k,cqS (aEn h.h hs) ?_⟩
 rintro E σ H ⟨μ,M,L,hr,lr,p⟩
 exact ⟨μ,M,L,hr,lr,p.bind.imp fun μ1 H1 M1 x e1 hr1 _ p1 v rx=>p1 μ1 H1 .refl hr1 σ (lr.ext hr.lsts e1)⟩
noncomputable def sRt (f:FE):FS:=fun L M=>(f L M).bind fun w M1=>.ok (.rt w) M1
theorem aK (h:Ev X K Z e f):Es X K Z (.Return (some e) pos) (sRt f):=by
 refine ⟨h.k,cqS (aHm h.h) ?_⟩
 rintro E σ H ⟨μ,M,L,hr,lr,p⟩
 exact ⟨μ,M,L,hr,lr,p.bind.imp fun μ1 H1 M1 x e1 hr1 _ p1 v rx=>p1 μ1 H1 .refl hr1 v rx⟩
noncomputable def sIf (t:FT) (F G:FS):FS:=fun L M=>(t L M).bind fun b M1=>if b=true then F L M1 else G L M1
theorem bC {c:Expr} {p q:List Stmt} {t:FT} (hc:Et X K Z c t) (ha:Ess X K Z p F) (hb:Ess X K Z q G):Es X K Z (.If c p q pos) (sIf t F G):=by
 refine ⟨hc.k,cqS (aMb hc.h ha.h hb.h) ?_⟩
 rintro E σ H ⟨μ,M,L,hr,lr,p⟩
 refine ⟨μ,M,L,hr,lr,p.bind.imp fun μ1 H1 M1 x e1 hr1 _ p1=>?_⟩
 cases x with
 | true=>exact ⟨μ1,M1,L,hr1,lr.ext hr.lsts e1,p1⟩
 | false=>exact ⟨μ1,M1,L,hr1,lr.ext hr.lsts e1,p1⟩
noncomputable def gN (i:Nat):FG:=fun w L M=>.ok (L.set i (some w)) M
theorem LR.set {L:Lc} {σ:St} {i:Nat} {w:W} {v:V} (h:LR K μ H L σ) (r:Rw K μ H w v):LR K μ H (L.set i (some w)) (σ.set i (some v)) where
 len:=by simp [h.len]
 ent:=fun j u q=>by
  by_cases hj:i=j
  ·subst hj
   have hl:i < L.length:=by
    by_cases hl:i < L.length
    ·exact hl
    ·rw [List.set_eq_of_length_le (by omega)] at q
     rw [List.getElem?_eq_none (by omega)] at q; cases q
   rw [List.getElem?_set_self hl] at q
   cases q
   exact ⟨v,by rw [List.getElem?_set_self (by rw [<- h.len]; exact hl)],r⟩
  ·rw [List.getElem?_set_ne hj] at q
   obtain ⟨x,q1,q2⟩:=h.ent j u q
   exact ⟨x,by rw [List.getElem?_set_ne hj]; exact q1,q2⟩
theorem aR {i:Nat} {x:Str} (hN:X.N.Nodup) (hi:X.N[i]?=some x:=by rfl) (hx:Loc X.env.scope x:=by first | exact Or.inl rfl | exact Or.inr rfl) (hk:X.K=K:=by rfl) (hf:X.fn x=true\/X.env.scope.names.lookup x=some .local:=by first | exact .inl rfl | exact .inr rfl | assumption) :
  Eg X K Z (.Name x pos) (gN i):=⟨hk,cqG (aFe hN hi hx hf) fun v σ H Q ⟨μ,M,L,w,hr,lr,rx,p⟩=>p μ H .refl hr _ (lr.set rx)⟩
noncomputable def gsNil:FGs:=fun ds L M=>match ds with
 | []=>.ok L M
 | _=>.bad
noncomputable def gsCons (g:FG) (gs:FGs):FGs:=fun ds L M=>match ds with
 | d::r=>(g (.d d) L M).bind fun L1 M1=>gs r L1 M1
 | []=>.bad
theorem dP (hk:X.K=K:=by rfl):Egs X K Z [] gsNil:=⟨hk,cqGs aFl fun vs σ H Q ⟨μ,M,L,ds,hr,lr,rx,p⟩=>by
 cases ds with
 | nil=>simp only [Rps] at rx; exact ⟨rx,p μ H .refl hr σ lr⟩
 | cons d r=>exact p.elim⟩
theorem aZ {g:FG} {gs:FGs} (h1:Eg X K Z e g) (h2:Egs X K Z es gs) (hs:(assignEach (e::es) X.env).map (·.2)=assign e X.env::(assignEach es X.env).map (·.2):=by rfl):Egs X K Z (e::es) (gsCons g gs) :=
 ⟨h1.k,cqGs (aCd h1.h h2.h hs) fun vs σ H Q ⟨μ,M,L,ds,hr,lr,rx,p⟩=>by
  cases ds with
  | nil=>exact p.elim
  | cons d r =>
   simp only [Rps] at rx
   obtain ⟨v,vr,e1,rd,rr⟩:=rx
   refine ⟨v,vr,e1,μ,M,L,.d d,hr,lr,rd,p.bind.imp fun μ1 H1 M1 L1 e1 hr1 _ p1 σ1 lr1=>?_⟩
   exact ⟨μ1,M1,L1,r,hr1,lr1,Rps.ext hr.lsts e1 _ _ rr,p1⟩⟩
noncomputable def gT (n:Nat) (gs:FGs):FG:=fun w L M=>match w with
 | .d (.tup xs)=>if xs.length=n then gs xs L M else .bad
 | _=>.bad
theorem eO {k n:Nat} {gs:FGs} (hc:X.calm=true) (h:Egs X K Z es gs) (hn:(assignEach es X.env).length=n:=by rfl) (hst:(assignEach es X.env).findIdx? (·.1)=none:=by rfl):Eg X K Z (.Tuple es k pos) (gT n gs):=by
 have h':=aHs (k:=k) (pos:=pos) hc h.h hn hst
 rw [h.k] at h'
 refine ⟨h.k,cqG h' fun v σ H Q ⟨μ,M,L,w,hr,lr,rx,p⟩=>?_⟩
 cases w with
 | ref i=>exact p.elim
 | d x=>cases x with
  | tup xs =>
   simp only [gT] at p
   split at p
   ·simp only [Rw,Rp] at rx
    obtain ⟨a,vs,e1,q1,r1⟩:=rx
    exact ⟨a,vs,e1,SqT.of q1,by rw [<- r1.length]; assumption,μ,M,L,xs,hr,lr,r1,p⟩
   ·exact p.elim
  | _=>exact p.elim
noncomputable def gS (fo fi:FE):FG:=fun w L M=>(fo L M).bind fun o M1=>(fi L M1).bind fun i M2=>match o,i,w with
 | .ref k,.d (.int j),.d x=>match M2[k]? with
  | some xs=>match ixN xs.length j with
   | some t=>.ok L (M2.set k (xs.set t x))
   | none=>.bad
  | none=>.bad
 | _,_,_=>.bad
theorem lV {i:Expr} {fi:FE} (ho:Ev X K Z o fo) (hi:Ev X K Z i fi) (ha:∀ v,assign (.Subscript o i pos) X.env v=(do
   let ov <- holding [v] (eval o X.env)
   let iv <- holding [v,ov] (eval i X.env)
   standAt pos
   holding [v,ov,iv] (setItem ov iv v)
   release [v,ov,iv] []):=by intro _; rfl):Eg X K Z (.Subscript o i pos) (gS fo fi):=by
 refine ⟨ho.k,cqG (aHj ho.h hi.h aBn ha) fun v σ H Q ⟨μ,M,L,w,hr,lr,rx,p⟩=>?_⟩
 refine ⟨μ,M,L,hr,lr,p.bind.imp fun μ1 H1 M1 x e1 hr1 _ p1 vo ro=>?_⟩
 refine ⟨μ1,M1,L,hr1,lr.ext hr.lsts e1,p1.bind.imp fun μ2 H2 M2 y e2 hr2 _ p2 vi ri=>?_⟩
 cases x with
 | d x=>exact p2.elim
 | ref k=>cases y with
  | ref j=>exact p2.elim
  | d y=>cases y with
   | int j=>cases w with
    | ref q=>exact p2.elim
    | d z =>
     simp only at p2
     cases q1:M2[k]? with
     | none=>simp only [q1] at p2; exact p2.elim
     | some xs =>
      simp only [q1] at p2
      cases q2:ixN xs.length j with
      | none=>simp only [q2] at p2; exact p2.elim
      | some t =>
       simp only [q2] at p2
       have ro:=ro.ext hr1.lsts e2
       obtain ⟨a,qa,rfl⟩:=ro
       obtain ⟨a',vs,qa',h1,r1⟩:=hr2.at q1
       rw [qa] at qa'; cases qa'
       simp only [Rw,Rp] at ri
       subst ri
       have rz:=Rw.ext hr1.lsts e2 (Rw.ext hr.lsts e1 rx)
       refine ⟨a,vs,j,t,rfl,rfl,h1,by rw [<- r1.length]; exact q2,?_⟩
       exact p2 μ2 _ (bV qa) (hr2.set qa (Rps.set rz t r1)) σ ((lr.ext hr.lsts (e1.trans e2)).ext hr2.lsts (bV qa))
   | _=>exact p2.elim
noncomputable def sAs (f:FE) (g:FG):FS:=fun L M=>(f L M).bind fun w M1=>(g w L M1).bind fun L1 M2=>.ok (.nx L1) M2
theorem dF {tg:Expr} {g:FG} (he:Ev X K Z e f) (hg:Eg X K Z tg g) (hs:swapsWithSole [tg] e pos.line X.env=pure false:=by rfl) (hw:swappedStores [tg] e X.env=pure none:=by rfl)
  (h1:(assignEach [tg] X.env).map (·.2)=[assign tg X.env]:=by rfl):Es X K Z (.Assign [tg] e pos) (sAs f g):=by
 refine ⟨he.k,cqS (aJu he.h hg.h hs hw h1) ?_⟩
 rintro E σ H ⟨μ,M,L,hr,lr,p⟩
 refine ⟨μ,M,L,hr,lr,p.bind.imp fun μ1 H1 M1 x e1 hr1 _ p1 v rx=>?_⟩
 exact ⟨μ1,M1,L,x,hr1,lr.ext hr.lsts e1,rx,p1.bind.imp fun μ2 H2 M2 L2 e2 hr2 _ p2 σ2 lr2=>p2 μ2 H2 .refl hr2 σ2 lr2⟩
theorem aO {i:Nat} {x:Str} {pos':Pos} (hN:X.N.Nodup) (he:Ev X K Z e f) (hi:X.N[i]?=some x:=by rfl) (hx:Loc X.env.scope x:=by first | exact Or.inl rfl | exact Or.inr rfl) (hs:swapsWith e (some (.Name x pos')) pos.line X.env=pure false:=by rfl)
  (hf:X.fn x=true\/X.env.scope.names.lookup x=some .local:=by first | exact .inl rfl | exact .inr rfl | assumption):Es X K Z (.Assign [.Name x pos'] e pos) (sAs f (gN i)):=by
 refine ⟨he.k,cqS (aKe hN hi hx he.h hs hf) ?_⟩
 rintro E σ H ⟨μ,M,L,hr,lr,p⟩
 refine ⟨μ,M,L,hr,lr,p.bind.imp fun μ1 H1 M1 x e1 hr1 _ p1 v rx=>?_⟩
 exact p1 μ1 H1 .refl hr1 _ (LR.set (lr.ext hr.lsts e1) rx)
noncomputable def sPar (i j:Nat) (fs:FA):FS:=fun L M=>(fs L M).bind fun ws M1=>match ws with
 | [v,w]=>.ok (.nx ((L.set i (some v)).set j (some w))) M1
 | _=>.bad
end
end EV
namespace EV
open PySem PySem.Spec PyProof.Rows L2
section
variable {X:Cx} {K:PySem.W.Frag} {Z:Zt} {μ:List Addr} {H:Hp} {M:Mm} {e a b o:Expr} {es:List Expr} {pos:Pos} {f fa fb fo:FE} {fs:FA} {st:Stmt} {rest:List Stmt} {F G:FS}
theorem mF {i j:Nat} {x y:Str} {px py pt:Pos} {kt k2 pt2} (hc:X.calm=true) (hN:X.N.Nodup) (ha:Ea X K Z [a,b] fs) (hi:X.N[i]?=some x:=by rfl) (hj:X.N[j]?=some y:=by rfl) (hij:i≠j:=by decide)
  (hx:X.env.scope.names.lookup x=some .local:=by rfl) (hy:X.env.scope.names.lookup y=some .local:=by rfl)
  (hw:swappedStores [.Tuple [.Name x px,.Name y py] kt pt] (.Tuple [a,b] k2 pt2) X.env=pure (some [x,y]):=by rfl)
  (hs:swapsWithSole [.Tuple [.Name x px,.Name y py] kt pt] (.Tuple [a,b] k2 pt2) pos.line X.env=pure false:=by rfl) :
  Es X K Z (.Assign [.Tuple [.Name x px,.Name y py] kt pt] (.Tuple [a,b] k2 pt2) pos) (sPar i j fs):=by
 refine ⟨ha.k,cqS (aGt hc hN hi hj hij hx hy ha.h hw hs) ?_⟩
 rintro E σ H ⟨μ,M,L,hr,lr,p⟩
 refine ⟨μ,M,L,hr,lr,p.bind.imp fun μ1 H1 M1 ws e1 hr1 _ p1 vs rx=>?_⟩
 match ws,rx,p1 with
 | [],_,p1=>exact p1.elim
 | [_],_,p1=>exact p1.elim
 | [v,w],⟨v1,r,q1,q2,v2,r',q1',q2',q3⟩,p1 =>
  cases q3; subst q1' q1
  exact ⟨v1,v2,rfl,p1 μ1 H1 .refl hr1 _ (LR.set (LR.set (lr.ext hr.lsts e1) q2) q2')⟩
 | _::_::_::_,_,p1=>exact p1.elim
noncomputable def pAppend (x y:W) (M:Mm):Oc W:=match x,y with
 | .ref k,.d d=>match M[k]? with
  | some xs=>if xs.length < 16777216 then .ok (.d .non) (M.set k (xs++[d])) else .bad
  | none=>.bad
 | _,_=>.bad
theorem vG {k:Nat} {v:V} (hr:HR K μ H M) (r:Rw K μ H (.ref k) v):tyV K "list" v H:=by
 obtain ⟨a,q,rfl⟩:=r
 obtain ⟨vs,h⟩:=hr.lsts a (List.mem_of_getElem? q)
 exact .inl ⟨rfl,vs,SqL.of h⟩
noncomputable def eM1 (g:W->W->Mm->Oc W) (fo fe:FE):FE:=fun L M=>(fo L M).bind fun x M1=>match x with
 | .ref k=>(fe L M1).bind fun y M2=>g (.ref k) y M2
 | _=>.bad
theorem fV {apos cpos:Pos} (ho:Ev X K Z o fo) (he:Ev X K Z e fa) (hbase:attributeBase o "append" X.env (eval o X.env)=eval o X.env:=by rfl)
  (hfew:((backTo cpos (starEach [e] X.env)).all (fun x=>!x.1)&&(backToKw cpos (keywordEach [] X.env)).all (fun x=>x.1.isSome)&&decide ([e].length+([]:List Keyword).length+(if ([]:List Keyword).isEmpty then 0 else 1) < 30))=true:=by rfl)
  (hline:(apos.endLine==cpos.line)=true:=by rfl) (hs:starEach [e] X.env=(false,eval e X.env)::starEach [] X.env:=by rfl) (hplain:(backTo cpos (starEach [] X.env)).any (·.1)=false:=by rfl) :
  Ev X K Z (.Call (.Attribute o "append" apos) [e] [] cpos) (eM1 pAppend fo fa):=by
 have h:=aGd PySem.F.plainAttrs_list PySem.F.slot_list_append PySem.F.type_list_append qC ho.h (cY he.h fN hs) hbase hfew hline hs hplain
 rw [ho.k] at h
 refine ⟨ho.k,cqE h ?_⟩
 rintro σ H Q ⟨μ,M,L,hr,lr,p⟩
 refine ⟨μ,M,L,hr,lr,p.bind.imp fun μ1 H1 M1 x e1 hr1 _ p1 v rx=>?_⟩
 cases x with
 | d x=>exact p1.elim
 | ref k =>
  refine ⟨vG hr1 rx,μ1,M1,L,hr1,lr.ext hr.lsts e1,p1.bind.imp fun μ2 H2 M2 y e2 hr2 _ p2 u ry=>?_⟩
  cases y with
  | ref j=>exact p2.elim
  | d d =>
   simp only [pAppend] at p2
   cases q1:M2[k]? with
   | none=>simp only [q1] at p2; exact p2.elim
   | some xs =>
    simp only [q1] at p2
    split at p2
    ·rename_i hz
     obtain ⟨a,qa,rfl⟩:=rx.ext hr1.lsts e2
     obtain ⟨a',vs,qa',h1,r1⟩:=hr2.at q1
     rw [qa] at qa'; cases qa'
     refine ⟨a,vs,u,rfl,rfl,h1,by rw [<- r1.length,sizeLine_eq]; exact hz,?_⟩
     exact p2 μ2 _ (bV qa) (hr2.set qa (r1.append (.cons ry .nil))) _ (by simp [Rw,Rp])
    ·exact p2.elim
noncomputable def pExtend (x y:W) (M:Mm):Oc W:=match x with
 | .ref k=>match M[k]?,lv M y with
  | some xs,some ys=>if xs.length+ys.length<=16777216 then .ok (.d .non) (M.set k (xs++ys)) else .bad
  | _,_=>.bad
 | _=>.bad
noncomputable def pPop (x:W) (M:Mm):Oc W:=match x with
 | .ref k=>match M[k]? with
  | some xs=>match xs.getLast? with
   | some d=>.ok (.d d) (M.set k xs.dropLast)
   | none=>.bad
  | none=>.bad
 | _=>.bad
theorem aJc {apos cpos:Pos} (ho:Ev X K Z o fo) (hbase:attributeBase o "pop" X.env (eval o X.env)=eval o X.env:=by rfl) (hline:(apos.endLine==cpos.line)=true:=by rfl) :
  Ev X K Z (.Call (.Attribute o "pop" apos) [] [] cpos) (e1 pPop fo):=by
 have h:=aHh PySem.F.plainAttrs_list PySem.F.slot_list_pop PySem.F.type_list_pop aGy ho.h hbase hline
 rw [ho.k] at h
 refine ⟨ho.k,cqE h ?_⟩
 rintro σ H Q ⟨μ,M,L,hr,lr,p⟩
 refine ⟨μ,M,L,hr,lr,p.bind.imp fun μ1 H1 M1 x e1 hr1 _ p1 v rx=>?_⟩
 cases x with
 | d x=>exact p1.elim
 | ref k =>
  refine ⟨vG hr1 rx,?_⟩
  simp only [pPop] at p1
  cases q1:M1[k]? with
  | none=>simp only [q1] at p1; exact p1.elim
  | some xs =>
   simp only [q1] at p1
   cases q2:xs.getLast? with
   | none=>simp only [q2] at p1; exact p1.elim
   | some d =>
    simp only [q2] at p1
    obtain ⟨a,qa,rfl⟩:=rx
    obtain ⟨a',vs,qa',h1,r1⟩:=hr1.at q1
    rw [qa] at qa'; cases qa'
    rw [List.getLast?_eq_getElem?] at q2
    obtain ⟨u,q3,q4⟩:=r1.get q2
    refine ⟨a,vs,u,rfl,rfl,h1,by rw [<- r1.length]; exact q3,?_⟩
    exact p1 μ1 _ (bV qa) (hr1.set qa r1.dropLast) u (Rp.ext hr1.lsts (bV qa) _ _ q4)
noncomputable abbrev FO:=Lc->Mm->Oc (Option Int)
noncomputable def liftO (K:PySem.W.Frag) (Z:Zt) (f:FO):TO:=fun σ H Q=>∃ μ M L,HR K μ H M/\LR K μ H L σ/\Pst K Z μ H (f L M) fun μ' H' _ w=>Q w H'
structure Eo (X:Cx) (K:PySem.W.Frag) (Z:Zt) (e:Option Expr) (f:FO):Prop where
 k:X.K=K
 h:PO X e (liftO K Z f)
noncomputable def oNo:FO:=fun _ M=>.ok none M
noncomputable def oAt (f:FE):FO:=fun L M=>(f L M).bind fun w M1=>match w with
 | .d (.int i)=>.ok (some i) M1
 | _=>.bad
theorem cqO {oe:Option Expr} {t t':TO} (h:PO X oe t) (i:∀ σ H Q,t' σ H Q->t σ H Q):PO X oe t':=fun pins s σ H Q I q=>h pins s σ H Q I (i _ _ _ q)
theorem cL (hk:X.K=K:=by rfl):Eo X K Z none oNo:=⟨hk,cqO aDv fun σ H Q ⟨μ,M,L,hr,lr,p⟩=>p μ H .refl hr⟩
theorem bX (h:Ev X K Z e f):Eo X K Z (some e) (oAt f):=by
 refine ⟨h.k,cqO (aFy h.h) ?_⟩
 rintro σ H Q ⟨μ,M,L,hr,lr,p⟩
 refine ⟨μ,M,L,hr,lr,p.bind.imp fun μ1 H1 M1 x e1 hr1 _ p1 v rx=>?_⟩
 cases x with
 | ref i=>exact p1.elim
 | d x=>cases x with
  | int i=>simp only [Rw,Rp] at rx; exact ⟨i,rx,p1 μ1 H1 .refl hr1⟩
  | _=>exact p1.elim
noncomputable def cut {α:Type} (xs:List α) (lo hi:Option Int):List α:=(xs.drop (HT.sIx xs.length 0 lo)).take (HT.sIx xs.length xs.length hi - HT.sIx xs.length 0 lo)
noncomputable def pSl (x:W) (lo hi:Option Int) (M:Mm):Oc W:=match x with
 | .d (.tup xs)=>okD (.tup (cut xs lo hi)) M
 | x=>match lr M x with
  | some xs=>okD (.lst (cut xs lo hi)) M
  | none=>.bad
noncomputable def eSl (f:FE) (fl fh:FO):FE:=fun L M=>(f L M).bind fun x M1=>(fl L M1).bind fun lo M2=>(fh L M2).bind fun hi M3=>pSl x lo hi M3
theorem xX {ds:List D} {vs:List V} {lo hi:Option Int} (r:Rps K μ H ds vs):Rps K μ H (cut ds lo hi) (cutV vs lo hi):=by
 unfold cut cutV
 rw [r.length]
 exact (r.drop _).take _
end
end EV
namespace EV
open PySem PySem.Spec PyProof.Rows L2
theorem lM:fillsNumberSlot (.type "tuple") "mul"=pure false :=
 PySem.fillsNumberSlot_seq (id:="tuple.__mul__") (r:=some (.builtin "tuple.__rmul__")) F.slot_tuple_mul.lookup (by decide +kernel) F.slot_tuple_rmul.lookup (by decide +kernel)
theorem rR:seqRepeat? (.type "tuple")=pure (some (.builtin "tuple.__mul__")):=by
 unfold seqRepeat?
 rw [PySem.seqSlot_of (T:="tuple") (name:="__mul__") (id:="tuple.__mul__") F.slot_tuple_mul.lookup (by decide +kernel),PySem.seqSlot_of (T:="tuple") (name:="__rmul__") (id:="tuple.__rmul__") F.slot_tuple_rmul.lookup (by decide +kernel)]
 rfl
theorem nQ (a:Int) (t:Tok) (l:Addr) (items:Array Value) (n:Nat) (dd:Option Addr) (sl:Array (Option Value)) :
  Meets (Builtin.«int.__rmul__» ⟨[.int a t,.ref l],[]⟩) (fun _ R s=>s.heap.get? l=some { cls:=.type "tuple",dict:=dd,data:=.seq items n,slots:=sl }/\R (.ok (.ret Value.notImplemented)) s) :=
 .of_wp fun prog w A R s h=>by obtain ⟨hp,g,d,tk,os⟩:=s; obtain ⟨hl,h⟩:=h; wp_walk using wpAny_loadPart' hl; exact ⟨_,rfl,h⟩
theorem wE (l:Addr) (items:Array Value) (n:Nat) (dd:Option Addr) (sl:Array (Option Value)) (x:Int) (u:Tok) (h1:(decide (x < -(2 ^ 63)) || decide (x>=2 ^ 63))=false) (h2:(items.isEmpty || x==1)=true) :
  Meets (Builtin.«tuple.__mul__» ⟨[.ref l,.int x u],[]⟩) (fun _ R s=>s.heap.get? l=some { cls:=.type "tuple",dict:=dd,data:=.seq items n,slots:=sl }/\R (.ok (.ret (Value.ref l))) s) :=
 .of_wp fun prog w A R s h=>by
  obtain ⟨hp,g,d,tk,os⟩:=s; obtain ⟨hl,h⟩:=h
  have f1:=AutoSeq1.idx_int
  wp_walk using wpAny_loadPart' hl
  refine wpAny_ite_false (by rw [h1]; rfl) ?_
  wp_walk using wpAny_loadPart' hl
  exact ⟨_,rfl,h⟩
theorem wW (l:Addr) (items:Array Value) (n:Nat) (dd:Option Addr) (sl:Array (Option Value)) (x:Int) (u:Tok) (h1:(decide (x < -(2 ^ 63)) || decide (x>=2 ^ 63))=false) (h2:(items.isEmpty || x==1)=false) (h3:(decide (x<=0) || items.isEmpty)=true) :
  Meets (Builtin.«tuple.__mul__» ⟨[.ref l,.int x u],[]⟩) (fun _ R s=>s.heap.get? l=some { cls:=.type "tuple",dict:=dd,data:=.seq items n,slots:=sl }/\R (.ok (.ret (Value.ref s.heap.objs.size))) { s with heap:=s.heap.push { cls:=Value.type "tuple",data:=Data.seq #[] },toks:=s.toks }) :=
 .of_wp fun prog w A R s h=>by
  obtain ⟨hp,g,d,tk,os⟩:=s; obtain ⟨hl,h⟩:=h
  have f1:=AutoSeq1.idx_int
  wp_walk using wpAny_loadPart' hl
  refine wpAny_ite_false (by rw [h1]; rfl) ?_
  wp_walk using wpAny_loadPart' hl
  exact ⟨_,rfl,h⟩
theorem wR (l:Addr) (items:Array Value) (n:Nat) (dd:Option Addr) (sl:Array (Option Value)) (x:Int) (u:Tok) (h1:(decide (x < -(2 ^ 63)) || decide (x>=2 ^ 63))=false) (h2:(items.isEmpty || x==1)=false) (h3:(decide (x<=0) || items.isEmpty)=false)
  (h4:¬ ((items.size:Int)*x > (2 ^ 63 - 1) / 8)) (h5:¬ Builtin.Tuple.tupleTooMany (items.size*x)=true) (hsz:(List.foldl (fun x1 x2=>x1++x2) #[] (List.replicate x.toNat items)).size<=sizeLine) :
  Meets (Builtin.«tuple.__mul__» ⟨[.ref l,.int x u],[]⟩) (fun _ R s=>s.heap.get? l=some { cls:=.type "tuple",dict:=dd,data:=.seq items n,slots:=sl }/\R (.ok (.ret (Value.ref s.heap.objs.size))) { s with heap:=s.heap.push { cls:=Value.type "tuple",data:=Data.seq (List.foldl (fun x1 x2=>x1++x2) #[] (List.replicate x.toNat items)) },toks:=s.toks }) :=
 .of_wp fun prog w A R s h=>by
  obtain ⟨hp,g,d,tk,os⟩:=s; obtain ⟨hl,h⟩:=h
  have f1:=AutoSeq1.idx_int
  wp_walk using wpAny_loadPart' hl
  refine wpAny_ite_false (by rw [h1]; rfl) ?_
  wp_walk using wpAny_loadPart' hl
  refine wpAny_ite_false (decide_eq_false h4) ?_
  wp_walk using wpAny_loadPart' hl
  exact ⟨_,rfl,h⟩
section
variable {X:Cx} {K:PySem.W.Frag} {Z:Zt} {μ:List Addr} {H:Hp} {M:Mm}
noncomputable def rRepT (K:PySem.W.Frag):R2:=fun x y H Q=>∃ a k xs,x=.ref a/\y=.int k/\SqT K H a xs /\ -(2 ^ 63)<=k/\k < 2 ^ 63/\xs.length*k.toNat<=sizeLine /\
 ((xs=[]\/k=1)->Q (.ref a) H)/\∀ p,H p=none->Q (.ref p) (upd H p (.tup (List.replicate k.toNat xs).flatten))
theorem nX (its:List Value) (m:Nat):List.foldl (fun x1 x2=>x1++x2) #[] (List.replicate m its.toArray)=(List.replicate m its).flatten.toArray:=by
 have:=lS its m []
 rw [List.nil_append] at this
 exact this
theorem aFr:OpR X (binaryOp .Mult) (rRepT X.K):=by
 intro pins s σ H x y v u Q I rx ry h
 obtain ⟨l,k,xs,rfl,rfl,hH,h1,h2,hz,qs,q⟩:=h
 cases rx
 obtain ⟨t,rfl⟩:=ry
 obtain ⟨its,r,pl,hsz⟩:=I.tuple hH
 obtain ⟨⟨cls,dd,data,sl⟩,ho,hc,n,hd⟩:=id pl
 simp only at hc hd
 subst hc hd
 have hl:=r.length
 have b1:(decide (k < -(2 ^ 63)) || decide (k>=2 ^ 63))=false:=by
  rw [Bool.or_eq_false_iff]; exact ⟨decide_eq_false (by omega),decide_eq_false (by omega)⟩
 refine wpAny_binaryOp_repeat_ref (T:="tuple") (U:="int") (by decide) ⟨_,ho,rfl⟩ (fun s'=>typeIs_int s' k t) lM F.fills_int_mul F.slot_int_rmul rR F.slot_int_index.lookup
  (call_meets F.slot_int_rmul (typeIs_int s k t) F.entry_int_rmul (F.args_int_rmul_2 _ _) (nQ k t l its.toArray n dd sl) ⟨ho,rfl,⟨_,ho,rfl⟩,?_⟩)
 by_cases hs:xs=[]\/k=1
 ·refine call_meets F.slot_tuple_mul ⟨_,ho,rfl⟩ F.entry_tuple_mul (F.args_tuple_mul_2 _ _) (wE l its.toArray n dd sl k t b1 ?_) ⟨ho,⟨.ref l,H,I,rfl,qs hs⟩⟩
  rcases hs with hs | hs
  ·subst hs
   have:its=[]:=by simpa using hl.symm
   simp [this]
  ·simp [hs]
 ·have hne:its≠[]:=fun z=>hs (.inl (by subst z; simpa using hl))
  have hn1:(its.toArray.isEmpty || k==1)=false:=by
   rw [Bool.or_eq_false_iff]; exact ⟨by simpa using hne,by simp; exact fun z=>hs (.inr z)⟩
  by_cases h0:k<=0
  ·refine call_meets F.slot_tuple_mul ⟨_,ho,rfl⟩ F.entry_tuple_mul (F.args_tuple_mul_2 _ _) (wW l its.toArray n dd sl k t b1 hn1 (by simp [h0])) ⟨ho,?_⟩
   have e:(List.replicate k.toNat xs).flatten=[]:=by rw [show k.toNat=0 by omega]; rfl
   have q:=q s.heap.objs.size I.fresh
   rw [e] at q
   refine ⟨.ref s.heap.objs.size,_,I.laid (t':=s.toks) (o:=.tup []) (fun b ob q=>Heap.get?_push_of_some _ q) (Nat.le_refl _) ?_,rfl,q⟩
   exact ⟨Nat.zero_le _,[],.nil,IsTup.new _ _⟩
  ·have hk:((k.toNat:Nat):Int)=k:=by omega
   have hz':its.length*k.toNat<=sizeLine:=by rw [<- hl]; exact hz
   have hcast:((its.toArray.size:Nat):Int)*k=((its.length*k.toNat:Nat):Int):=by
    rw [List.size_toArray,Int.natCast_mul,hk]
   have hs24:(sizeLine:Nat)=16777216:=sizeLine_eq
   refine call_meets F.slot_tuple_mul ⟨_,ho,rfl⟩ F.entry_tuple_mul (F.args_tuple_mul_2 _ _) (wR l its.toArray n dd sl k t b1 hn1 ?_ ?_ ?_ ?_) ⟨ho,?_⟩
   ·rw [Bool.or_eq_false_iff]; exact ⟨decide_eq_false h0,by simpa using hne⟩
   ·rw [hcast]; omega
   ·unfold Builtin.Tuple.tupleTooMany
    rw [hcast]
    intro z
    have z:=of_decide_eq_true z
    omega
   ·rw [nX,List.size_toArray,rT,Nat.mul_comm]; exact hz'
   ·rw [nX]
    refine ⟨.ref s.heap.objs.size,_,I.laid (t':=s.toks) (o:=.tup (List.replicate k.toNat xs).flatten) (fun b ob q=>Heap.get?_push_of_some _ q) (Nat.le_refl _) ?_,rfl,q _ I.fresh⟩
    exact ⟨by rw [rT,Nat.mul_comm]; exact hz,_,r.rep k.toNat,IsTup.new _ _⟩
noncomputable def pMulA (x y:W) (M:Mm):Oc W:=match x,y with
 | .d (.tup xs),.d (.int k)=>if xs.length*k.toNat<=16777216/\k < 9223372036854775808 /\ -9223372036854775808<=k then okD (.tup (List.replicate k.toNat xs).flatten) M else .bad
 | x,y=>pMul x y M
theorem opMulA:OpG X K Z (binaryOp .Mult) pMulA:=fun hk=>by
 obtain ⟨r,h1,h2⟩:=(opMul (X:=X) (K:=K) (Z:=Z)) hk
 refine ⟨_,OpR.or (hk▸aFr) h1,?_⟩
 intro μ H M x y v u Q hr rx ry p
 have gen:=fun p=>(Or.inr (h2 μ H M x y v u Q hr rx ry p):rRepT K v u H Q\/r v u H Q)
 cases x with
 | ref i=>exact gen (by cases y with | ref j=>exact p | d y=>cases y <;> exact p)
 | d x=>cases x with
  | tup xs=>cases y with
   | ref j=>exact gen p
   | d y=>cases y with
    | int k =>
     simp only [pMulA] at p
     split at p
     ·rename_i hz
      have rx':=rx
      simp only [Rw,Rp] at rx ry
      obtain ⟨a,vs,rfl,q1,r1⟩:=rx
      refine .inl ⟨a,k,vs,rfl,ry,SqT.of q1,hz.2.2,hz.2.1,by rw [<- r1.length,sizeLine_eq]; exact hz.1,fun e=>?_,kT hr (r1.rep k.toNat) p⟩
      refine p μ H .refl hr _ ?_
      have:(List.replicate k.toNat xs).flatten=xs:=by
       rcases e with e | e
       ·subst e
        have:xs=[]:=by have:=r1.length; simpa using this
        subst this; simp
       ·subst e; simp [List.replicate]
      rw [this]; exact rx'
     ·exact p.elim
    | _=>exact gen p
  | _=>exact gen (by cases y with | ref j=>exact p | d y=>cases y <;> exact p)
end
end EV
namespace HT
open PySem PySem.Spec PyProof.Rows
section
variable {prog:Program} {w:World} {A:Around} {E:Value->Shared->Prop} {s:Shared}
theorem getItem_tuple_whole {t sl:Addr} {items:Array Value} {vl vu:Value} {lo hi:Option Int} {Q:Value->Shared->Prop} (ht:IsTup s.heap t items) (hs:s.heap.IsSliceOf sl vl vu .none) (pl:IsPart vl lo) (pu:IsPart vu hi)
  (hw:sIx items.size 0 lo=0/\sIx items.size items.size hi=items.size) (h:Q (.ref t) s):wpAny (model prog w) A (getItem (.ref t) (.ref sl)) Q E s:=by
 obtain ⟨os,hos,hcs,hds⟩:=id hs
 have hTs:s.TypeIs (.ref sl) "slice":=⟨os,hos,hcs⟩
 unfold getItem
 try with_reducible refine wpAny_holding ?_
 first | refine wpAny_bind (wpAny_pure ?_) | skip
 refine wpAny_bind (wpAny_sequenceKey ht.typeIs (by decide) ?_)
 refine wpAny_bind (wpAny_callSpecial?_slot (name:=Str.ofString "__getitem__") ht.typeIs PyProof.Rows.slot_tuple_getitem
  (wpAny_call_entry PyProof.Rows.slot_tuple_getitem ht.typeIs entry_tuple_getitem ?_ (args_tuple_getitem _ _)))
 show wpAny _ _ (Builtin.Tuple.tupleItemsOf (.ref t) >>= _) _ _ s
 refine wpAny_bind (tupleItemsOf_ ht ?_)
 refine wpAny_bind (wpAny_typeOf hTs ?_)
 rw [if_pos (by decide)]
 refine wpAny_bind (fR hs pl pu ?_)
 have hyes:((((sIx items.size 0 lo:Nat):Int)==0&&(1:Int)==1&&(sIx items.size items.size hi - sIx items.size 0 lo)==items.size)=true):=by
  rw [hw.1,hw.2]; simp
 show wpAny _ _ (if (((sIx items.size 0 lo:Nat):Int)==0&&(1:Int)==1&&(sIx items.size items.size hi - sIx items.size 0 lo)==items.size)=true then _ else _) _ _ s
 rw [if_pos hyes]
 refine wpAny_bind (m:=Builtin.Tuple.tupleIsExact _) ?_
 unfold Builtin.Tuple.tupleIsExact
 refine wpAny_bind (wpAny_typeOf ht.typeIs (wpAny_pure ?_))
 show wpAny _ _ (if ((Value.type "tuple"==Value.type "tuple")=true) then _ else _) _ _ s
 rw [if_pos (by decide)]
 first
  | exact wpAny_bind (wpAny_rule (wpAny_pure ⟨_,rfl,wpAny_pure h⟩))
  | exact wpAny_bind (wpAny_rule (wpAny_bind (wpAny_pure ⟨_,rfl,wpAny_pure h⟩)))
  | exact wpAny_bind (wpAny_rule (wpAny_bind (wpAny_pure (wpAny_pure ⟨_,rfl,wpAny_pure h⟩))))
end
end HT
namespace EV
open PySem PySem.Spec PyProof.Rows L2
theorem lO (K:PySem.W.Frag):PySem.W.kitOne K (.type "NoneType") (.type "int")=some false:=by with_unfolding_all rfl
theorem lA (K:PySem.W.Frag):PySem.W.kitOne K (.type "NoneType") (.type "bool")=some false:=by with_unfolding_all rfl
theorem jJ (K:PySem.W.Frag):PySem.W.kitOne K (.type "NoneType") (.type "tuple")=some false:=by with_unfolding_all rfl
theorem rL (K:PySem.W.Frag):PySem.W.kitOne K (.type "bool") (.type "int")=some true:=by with_unfolding_all rfl
theorem oV (K:PySem.W.Frag):PySem.W.kitOne K (.type "bool") (.type "bool")=some true:=by with_unfolding_all rfl
theorem oA (K:PySem.W.Frag):PySem.W.kitOne K (.type "bool") (.type "tuple")=some false:=by with_unfolding_all rfl
theorem tH (K:PySem.W.Frag):PySem.W.kitOne K (.type "int") (.type "int")=some true:=by with_unfolding_all rfl
theorem sC (K:PySem.W.Frag):PySem.W.kitOne K (.type "int") (.type "bool")=some false:=by with_unfolding_all rfl
theorem oY (K:PySem.W.Frag):PySem.W.kitOne K (.type "int") (.type "tuple")=some false:=by with_unfolding_all rfl
theorem uN (K:PySem.W.Frag):PySem.W.kitOne K (.type "str") (.type "int")=some false:=by with_unfolding_all rfl
theorem rN (K:PySem.W.Frag):PySem.W.kitOne K (.type "str") (.type "bool")=some false:=by with_unfolding_all rfl
theorem pF (K:PySem.W.Frag):PySem.W.kitOne K (.type "str") (.type "tuple")=some false:=by with_unfolding_all rfl
theorem rG (K:PySem.W.Frag):PySem.W.kitOne K (.type "list") (.type "int")=some false:=by with_unfolding_all rfl
theorem oR (K:PySem.W.Frag):PySem.W.kitOne K (.type "list") (.type "bool")=some false:=by with_unfolding_all rfl
theorem nP (K:PySem.W.Frag):PySem.W.kitOne K (.type "list") (.type "tuple")=some false:=by with_unfolding_all rfl
theorem pA (K:PySem.W.Frag):PySem.W.kitOne K (.type "tuple") (.type "int")=some false:=by with_unfolding_all rfl
theorem nH (K:PySem.W.Frag):PySem.W.kitOne K (.type "tuple") (.type "bool")=some false:=by with_unfolding_all rfl
theorem mU (K:PySem.W.Frag):PySem.W.kitOne K (.type "tuple") (.type "tuple")=some true:=by with_unfolding_all rfl
section
variable {X:Cx} {K:PySem.W.Frag} {Z:Zt} {μ:List Addr} {H:Hp} {M:Mm} {e a b o:Expr} {es:List Expr} {pos:Pos} {f fa fb fo:FE} {fs:FA} {st:Stmt} {rest:List Stmt} {F G:FS}
noncomputable def rSlA (K:PySem.W.Frag):V->Option Int->Option Int->Hp->VK->Prop:=fun x lo hi H Q=>∃ a xs,x=.ref a/\SqT K H a xs /\
 ((HT.sIx xs.length 0 lo=0/\HT.sIx xs.length xs.length hi=xs.length)->Q (.ref a) H)/\∀ p,H p=none->Q (.ref p) (upd H p (.tup (cutV xs lo hi)))
theorem aFx:SlR X (rSlA X.K):=by
 intro pins s σ H x v vl vu lo hi sl Q I rx hs pl pu h
 obtain ⟨a,xs,rfl,hx,q1,q2⟩:=h
 by_cases hw:HT.sIx xs.length 0 lo=0/\HT.sIx xs.length xs.length hi=xs.length
 ·cases rx
  obtain ⟨its,r,ht,hz⟩:=I.tuple hx
  have hlen:its.toArray.size=xs.length:=by rw [List.size_toArray]; exact r.length.symm
  refine ⟨"tuple",_,PyProof.Rows.slot_tuple_getitem.lookup,ht.typeIs,?_⟩
  exact HT.getItem_tuple_whole ht hs pl pu (by rw [hlen]; exact hw) ⟨.ref a,H,I,rfl,q1 hw⟩
 ·exact aJd pins s σ H _ v vl vu lo hi sl Q I rx hs pl pu ⟨a,xs,rfl,hx,hw,q2⟩
theorem yF {xs:List D} {lo hi:Option Int} (h:HT.sIx xs.length 0 lo=0/\HT.sIx xs.length xs.length hi=xs.length):cut xs lo hi=xs:=by
 unfold cut; rw [h.1,h.2]; simp
theorem sU {x:W} {v:V} {lo hi:Option Int} {Q:VK} (hr:HR K μ H M) (rx:Rw K μ H x v) (p:Pst K Z μ H (match lr M x with
  | some xs=>okD (.lst (cut xs lo hi)) M
  | none=>.bad) (Wk K Q)):rSlL K v lo hi H Q:=by
 cases q1:lr M x with
 | none=>rw [q1] at p; exact p.elim
 | some xs =>
  rw [q1] at p
  obtain ⟨a,vs,rfl,h1,r1⟩:=xB hr rx q1
  exact ⟨a,vs,rfl,h1,iL hr (xX r1) p⟩
theorem bA {lo hi:Option Expr} {fl fh:FO} {p2:Pos} (he:Ev X K Z e f) (hl:Eo X K Z lo fl) (hh:Eo X K Z hi fh):Ev X K Z (.Subscript e (.Slice lo hi none p2) pos) (eSl f fl fh):=by
 have h:=zZ (p2:=p2) (pos:=pos) (SlR.or (aFx (X:=X)) aFi) he.h hl.h hh.h
 rw [he.k] at h
 refine ⟨he.k,cqE h ?_⟩
 rintro σ H Q ⟨μ,M,L,hr,lr,p⟩
 refine ⟨μ,M,L,hr,lr,p.bind.imp fun μ1 H1 M1 x e1 hr1 _ p1 v rx=>?_⟩
 refine ⟨μ1,M1,L,hr1,lr.ext hr.lsts e1,p1.bind.imp fun μ2 H2 M2 l e2 hr2 _ p2=>?_⟩
 refine ⟨μ2,M2,L,hr2,lr.ext hr.lsts (e1.trans e2),p2.bind.imp fun μ3 H3 M3 u e3 hr3 _ p3=>?_⟩
 have rx:=rx.ext hr1.lsts (e2.trans e3)
 cases x with
 | ref i=>exact .inr (sU hr3 rx p3)
 | d x=>cases x with
  | tup xs =>
   have rx':=rx
   simp only [Rw,Rp] at rx
   obtain ⟨a,vs,rfl,q1,r1⟩:=rx
   refine .inl ⟨a,vs,rfl,SqT.of q1,fun hw=>?_,kT hr3 (xX r1) p3⟩
   refine p3 μ3 H3 .refl hr3 _ ?_
   rw [yF (by rw [r1.length]; exact hw)]
   exact rx'
  | _=>exact .inr (sU hr3 rx p3)
noncomputable def isT (T:String) (M:Mm):W->Option Bool
 | .d .non=>some false
 | .d (.bl _)=>some (T=="bool" || T=="int")
 | .d (.int _)=>some (T=="int")
 | .d (.str _)=>some (T=="str")
 | .d (.tup _)=>some (T=="tuple")
 | .d (.lst _)=>some (T=="list")
 | .d (.fz _)=>none
 | .d (.exn _ _ _)=>none
 | .ref _=>some (T=="list")
noncomputable def pIsI (T:String) (x:W) (M:Mm):Oc W:=match isT T M x with
 | some b=>.ok (.d (.bl b)) M
 | none=>.bad
structure KitT (T:String):Prop where
 non:∀ K,PySem.W.kitOne K (.type "NoneType") (.type T)=some false
 bl:∀ K,PySem.W.kitOne K (.type "bool") (.type T)=some (T=="bool" || T=="int")
 int:∀ K,PySem.W.kitOne K (.type "int") (.type T)=some (T=="int")
 str:∀ K,PySem.W.kitOne K (.type "str") (.type T)=some (T=="str")
 tup:∀ K,PySem.W.kitOne K (.type "tuple") (.type T)=some (T=="tuple")
 lst:∀ K,PySem.W.kitOne K (.type "list") (.type T)=some (T=="list")
theorem aCa:KitT "int":=⟨lO,rL,tH,uN,pA,rG⟩
theorem xL:KitT "bool":=⟨lA,oV,sC,rN,nH,oR⟩
theorem oI:KitT "tuple":=⟨jJ,oA,oY,pF,mU,nP⟩
theorem aIx {T:String} (k:KitT T) {x:W} {v:V} {c:Bool} (hr:HR K μ H M) (rx:Rw K μ H x v) (h:isT T M x=some c):∃ t,TyOf K H v t/\PySem.W.kitOne K t (.type T)=some c:=by
 cases x with
 | ref i =>
  simp only [isT,Option.some.injEq] at h; subst h
  obtain ⟨a,q,rfl⟩:=rx
  obtain ⟨vs,h⟩:=hr.lsts a (List.mem_of_getElem? q)
  exact ⟨_,.lst h,k.lst K⟩
 | d x=>cases x with
  | non=>simp only [isT,Option.some.injEq] at h; subst h; simp only [Rw,Rp] at rx; subst rx; exact ⟨_,.non,k.non K⟩
  | bl y=>simp only [isT,Option.some.injEq] at h; subst h; simp only [Rw,Rp] at rx; subst rx; exact ⟨_,.bl y,k.bl K⟩
  | int y=>simp only [isT,Option.some.injEq] at h; subst h; simp only [Rw,Rp] at rx; subst rx; exact ⟨_,.int y,k.int K⟩
  | str y=>simp only [isT,Option.some.injEq] at h; subst h; simp only [Rw,Rp] at rx; subst rx; exact ⟨_,.str y,k.str K⟩
  | tup y=>simp only [isT,Option.some.injEq] at h; subst h; simp only [Rw,Rp] at rx; obtain ⟨a,vs,rfl,q1,_⟩:=rx; exact ⟨_,.tup q1,k.tup K⟩
  | lst y=>simp only [isT,Option.some.injEq] at h; subst h; simp only [Rw,Rp] at rx; obtain ⟨a,vs,rfl,q1,_⟩:=rx; exact ⟨_,.lst q1,k.lst K⟩
  | fz y=>simp [isT] at h
  | exn c f y=>simp [isT] at h
theorem jS {T:String} {x:Str} {p q:Pos} (kt:KitT T) (hm:X.mg "isinstance"=none) (hmT:X.mg x=none) (hvT:bootBuiltins x=some (.type T)) (he:Ev X K Z e f) (hg:Gl X "isinstance":=by rfl) (hgT:Gl X x:=by rfl) (hn:x≠"__name__":=by decide) (hd:(x==("__debug__":Str))=false:=by decide)
  (hs:starEach [e,.Name x q] X.env=(false,eval e X.env)::starEach [.Name x q] X.env:=by rfl) (hs2:starEach [.Name x q] X.env=(false,eval (.Name x q) X.env)::starEach [] X.env:=by rfl) (hpl:(backTo pos (starEach [.Name x q] X.env)).any (·.1)=false:=by rfl) :
  Ev X K Z (.Call (.Name "isinstance" p) [e,.Name x q] [] pos) (e1 (pIsI T) f):=by
 have h:=tI (pos:=pos) (p:=p) tQ hg hm pD (cY he.h (cY (aFo (v:=.ty T) hgT hmT hvT rfl hn hd) fN hs2) hs) (by decide) (by decide) hs hpl
 rw [he.k] at h
 refine ⟨he.k,cqE h ?_⟩
 rintro σ H Q ⟨μ,M,L,hr,lr,p⟩
 refine ⟨μ,M,L,hr,lr,p.bind.imp fun μ1 H1 M1 x e1 hr1 _ p1 v rx=>?_⟩
 unfold pIsI at p1
 cases q:isT T M1 x with
 | none=>rw [q] at p1; exact p1.elim
 | some c =>
  rw [q] at p1
  obtain ⟨t,h1,h2⟩:=aIx kt hr1 rx q
  exact ⟨v,T,t,c,rfl,h1,h2,p1 μ1 H1 .refl hr1 _ (by simp [Rw,Rp])⟩
noncomputable def flatD (d:D):Bool:=(fv d).isSome
noncomputable def pInG (neg:Bool) (x y:W) (M:Mm):Oc W:=match x,sv M y with
 | .d d,some xs=>if flatD d=true/\xs.all flatD=true then .ok (.d (.bl (if neg then !(xs.any fun y=>eqD y d) else xs.any fun y=>eqD y d))) M else .bad
 | _,_=>.bad
theorem yD:∀ {xs:List D} {vs:List V} {d:D} {v:V},Rps K μ H xs vs->xs.all flatD=true->Rp K μ H d v->flatD d=true->vs.all flatV=true/\inV v vs=xs.any (fun y=>eqD y d)
 | [],_,_,_,h,_,_,_=>by simp only [Rps] at h; subst h; exact ⟨rfl,rfl⟩
 | x::xs,_,d,v,h,hf,hd,hfd=>by
  simp only [Rps] at h
  obtain ⟨u,r,rfl,e2,e3⟩:=h
  rw [List.all_cons,Bool.and_eq_true] at hf
  obtain ⟨i1,i2⟩:=yD e3 hf.2 hd hfd
  obtain ⟨w,hw⟩:=Option.isSome_iff_exists.mp hf.1
  obtain ⟨w2,hw2⟩:=Option.isSome_iff_exists.mp hfd
  obtain ⟨rfl,f1⟩:=qJ hw e2
  obtain ⟨rfl,f2⟩:=qJ hw2 hd
  refine ⟨by rw [List.all_cons,f1,i1]; rfl,?_⟩
  show (eqV u v || inV v r)=_
  rw [i2,aAg hw hw2,List.any_cons]
theorem aAv (neg:Bool):Op2 K Z (rIn K neg) (pInG neg):=by
 intro μ H M x y v u Q hr rx ry p
 cases x with
 | ref i=>exact p.elim
 | d d =>
  simp only [pInG] at p
  cases q:sv M y with
  | none=>rw [q] at p; exact p.elim
  | some xs =>
   rw [q] at p
   simp only at p
   split at p
   ·rename_i hz
    obtain ⟨a,vs,rfl,h1,r1⟩:=pH hr ry q
    obtain ⟨i1,i2⟩:=yD r1 hz.2 rx hz.1
    obtain ⟨w,hw⟩:=Option.isSome_iff_exists.mp hz.1
    obtain ⟨rfl,f1⟩:=qJ hw rx
    refine ⟨a,vs,rfl,h1,f1,i1,p μ H .refl hr _ ?_⟩
    simp only [Rw,Rp]
    cases neg <;> simp [i2]
   ·exact p.elim
noncomputable abbrev pIn:=pInG false
noncomputable abbrev pNotIn:=pInG true
theorem opIn:OpG X K Z (compareOp .In) pIn:=fun hk=>⟨_,hk▸yI,aAv false⟩
theorem opNotIn:OpG X K Z (compareOp .NotIn) pNotIn:=fun hk=>⟨_,hk▸qZ,aAv true⟩
end
end EV
namespace EV
open PySem PySem.Spec PyProof.Rows L2
noncomputable def whileD (t:FT) (B:FS):Nat->FS
 | 0=>fun _ _=>.bad
 | n+1=>fun L M=>(t L M).bind fun b M1=>if b=true then (B L M1).bind fun o M2=>match o with
   | .nx L2=>whileD t B n L2 M2
   | .ct L2=>whileD t B n L2 M2
   | .bk L2=>.ok (.nx L2) M2
   | .rt w=>.ok (.rt w) M2
  else .ok (.nx L) M1
structure Src where
 ds:List D
 k:Option Nat
noncomputable abbrev FI:=Lc->Mm->Oc Src
noncomputable def Chk (s:Src) (M:Mm):Prop:=∀ t,s.k=some t->M[t]?=some s.ds
open Classical in
noncomputable def forD (s:Src) (g:FG) (B:FS):List D->FS
 | []=>fun L M=>if Chk s M then .ok (.nx L) M else .bad
 | d::r=>fun L M=>if Chk s M then (g (.d d) L M).bind fun L1 M1=>(B L1 M1).bind fun o M2=>match o with
   | .nx L2=>forD s g B r L2 M2
   | .ct L2=>forD s g B r L2 M2
   | .bk L2=>.ok (.nx L2) M2
   | .rt w=>.ok (.rt w) M2
  else .bad
noncomputable def sFor (fi:FI) (g:FG) (B:FS):FS:=fun L M=>(fi L M).bind fun s M1=>forD s g B s.ds L M1
noncomputable def ItOk (K:PySem.W.Frag) (μ:List Addr) (H:Hp) (s:Src) (J:It):Prop :=
 ∃ S:List Addr->Hp->Prop,S μ H/\(∀ μ1 H1 μ2 H2,Lsts μ1 H1->S μ1 H1->Ext μ1 H1 μ2 H2->S μ2 H2) /\
  ∀ μ1 H1 M1 i,HR K μ1 H1 M1->S μ1 H1->Chk s M1 ->
   (∀ d,s.ds[i]?=some d->J.go i H1/\∀ x H2,J.yld i H1 x H2->Ext μ1 H1 μ1 H2/\HR K μ1 H2 M1/\Rp K μ1 H2 d x)/\(s.ds.length<=i->J.stop i H1)
noncomputable def liftI (K:PySem.W.Frag) (Z:Zt) (fi:FI):TI:=fun σ H R=>∃ μ M L,HR K μ H M/\LR K μ H L σ/\Pst K Z μ H (fi L M) fun μ' H' _ s=>∀ J,ItOk K μ' H' s J->R J H'
structure Ei (X:Cx) (K:PySem.W.Frag) (Z:Zt) (tg iter:Expr) (fi:FI):Prop where
 k:X.K=K
 h:PI X tg iter (liftI K Z fi)
theorem cqI {X:Cx} {tg iter:Expr} {t t':TI} (h:PI X tg iter t) (i:∀ σ H Q,t' σ H Q->t σ H Q):PI X tg iter t':=fun pins s σ H Q I q=>h pins s σ H Q I (i _ _ _ q)
section
variable {X:Cx} {K:PySem.W.Frag} {Z:Zt} {μ:List Addr} {H:Hp} {M:Mm} {e a b o:Expr} {es:List Expr} {pos:Pos} {f fa fb fo:FE} {fs:FA} {st:Stmt} {rest:List Stmt} {F G:FS}
theorem gW {c:Expr} {body:List Stmt} {t:FT} {B:FS} (n:Nat) (hp:PassesOwn (model X.prog X.w) X.A X.env X.xe) (hc:Et X K Z c t) (hb:Ess X K Z body B):Es X K Z (.While c body [] pos) (whileD t B n):=by
 refine ⟨hc.k,cqS (aAn hp hc.h hb.h) ?_⟩
 rintro E σ H ⟨μ,M,L,hr,lr,p⟩
 refine ⟨fun m σ H=>∃ μ M L,HR K μ H M/\LR K μ H L σ/\Pst K Z μ H (whileD t B m L M) (Sk K E),⟨n,μ,M,L,hr,lr,p⟩,?_⟩
 rintro m σ H ⟨μ,M,L,hr,lr,p⟩
 cases m with
 | zero=>exact p.elim
 | succ m =>
  refine ⟨μ,M,L,hr,lr,(show Pst K Z μ H ((t L M).bind _) _ from p).bind.imp fun μ1 H1 M1 b e1 hr1 _ p1=>?_⟩
  cases b with
  | false=>exact p1 μ1 H1 .refl hr1 σ (lr.ext hr.lsts e1)
  | true =>
   refine ⟨fun σ' H'=>∃ μ M L,HR K μ H' M/\LR K μ H' L σ'/\Pst K Z μ H' (whileD t B m L M) (Sk K E),fun σ' H' q=>⟨m,Nat.lt_succ_self m,q⟩,?_⟩
   refine ⟨μ1,M1,L,hr1,lr.ext hr.lsts e1,(show Pst K Z μ1 H1 ((B L M1).bind _) _ from p1).bind.imp fun μ2 H2 M2 o e2 hr2 _ p2=>?_⟩
   cases o with
   | nx L2=>exact fun σ' lr'=>⟨μ2,M2,L2,hr2,lr',p2⟩
   | ct L2=>exact fun σ' lr'=>⟨μ2,M2,L2,hr2,lr',p2⟩
   | bk L2=>exact p2 μ2 H2 .refl hr2
   | rt w=>exact p2 μ2 H2 .refl hr2
theorem fL {tg iter:Expr} {body:List Stmt} {fi:FI} {g:FG} {B:FS} (hp:PassesOwn (model X.prog X.w) X.A X.env X.xe) (hc:X.calm=true) (hi:Ei X K Z tg iter fi) (hg:Eg X K Z tg g) (hb:Ess X K Z body B)
  (hs:∀ x,foldedSetIterable iter X.env x=pure x:=by intro _; rfl):Es X K Z (.For tg iter body [] pos) (sFor fi g B):=by
 refine ⟨hi.k,cqS (aIh hp hc hi.h hg.h hb.h hs) ?_⟩
 rintro E σ H ⟨μ,M,L,hr,lr,p⟩
 refine ⟨μ,M,L,hr,lr,p.bind.imp fun μ1 H1 M1 s e1 hr1 _ p1 J hJ=>?_⟩
 obtain ⟨S,s0,sx,step⟩:=hJ
 refine ⟨fun i m σ H=>m=s.ds.length - i/\i<=s.ds.length/\∃ μ M L,HR K μ H M/\LR K μ H L σ/\S μ H/\Pst K Z μ H (forD s g B (s.ds.drop i) L M) (Sk K E),⟨s.ds.length,by simp,Nat.zero_le _,μ1,M1,L,hr1,lr.ext hr.lsts e1,s0,by simpa using p1⟩,?_⟩
 rintro i m σ H ⟨rfl,hi,μ,M,L,hr,lr,sS,p⟩
 by_cases hlt:i < s.ds.length
 ·rw [List.drop_eq_getElem_cons hlt] at p
  unfold forD at p
  split at p
  ·rename_i hch
   obtain ⟨go,yl⟩:=(step μ H M i hr sS hch).1 s.ds[i] (by simp [hlt])
   refine .inr ⟨go,fun σ' H'=>i+1<=s.ds.length/\∃ μ M L,HR K μ H' M/\LR K μ H' L σ'/\S μ H'/\Pst K Z μ H' (forD s g B (s.ds.drop (i+1)) L M) (Sk K E),fun σ' H' q=>⟨s.ds.length - (i+1),by omega,rfl,q.1,q.2⟩,fun x H2 y=>?_⟩
   obtain ⟨e2,hr2,rx⟩:=yl x H2 y
   have lr2:=lr.ext hr.lsts e2
   have s2:=sx _ _ _ _ hr.lsts sS e2
   refine ⟨μ,M,L,.d s.ds[i],hr2,lr2,rx,(Pst.mono e2 p).bind.imp fun μ3 H3 M3 L3 e3 hr3 _ p3 σ3 lr3=>?_⟩
   refine ⟨μ3,M3,L3,hr3,lr3,p3.bind.imp fun μ4 H4 M4 o e4 hr4 _ p4=>?_⟩
   have s4:=sx _ _ _ _ hr3.lsts (sx _ _ _ _ hr2.lsts s2 e3) e4
   cases o with
   | nx L4=>exact fun σ' lr'=>⟨hlt,μ4,M4,L4,hr4,lr',s4,p4⟩
   | ct L4=>exact fun σ' lr'=>⟨hlt,μ4,M4,L4,hr4,lr',s4,p4⟩
   | bk L4=>exact p4 μ4 H4 .refl hr4
   | rt w=>exact p4 μ4 H4 .refl hr4
  ·exact p.elim
 ·have e:i=s.ds.length:=by omega
  subst e
  rw [List.drop_eq_nil_of_le (Nat.le_refl _)] at p
  unfold forD at p
  split at p
  ·rename_i hch
   exact .inl ⟨(step μ H M _ hr sS hch).2 (Nat.le_refl _),p μ H .refl hr σ lr⟩
  ·exact p.elim
theorem aBk {ds:List D} {M:Mm}:Chk ⟨ds,none⟩ M:=fun t h=>by cases h
@[simp] theorem aEt {ds:List D} {M:Mm}:Chk ⟨ds,none⟩ M ↔ True:=⟨fun _=>trivial,fun _=>aBk⟩
@[simp] theorem aEb {ds:List D} {M:Mm} {t:Nat}:Chk ⟨ds,some t⟩ M ↔ M[t]?=some ds:=⟨fun h=>h t rfl,fun h t' e=>by cases e; exact h⟩
variable {tg:Expr}
noncomputable def iSq (K:PySem.W.Frag) (tl:TE):TI:=fun σ H R=>tl σ H fun x H1=>∃ a,x=.ref a/\(((∃ xs,SqL K H1 a xs)/\R (Itl K a) H1)\/((∃ xs,SqT K H1 a xs)/\R (Itt K a) H1))
theorem aLg {l:Expr} {tl:TE} (hl:PE X l tl):PI X tg l (iSq X.K tl):=by
 intro pins s σ H R I h
 refine thn (hl pins s σ H _ I h) fun v s1 ⟨x,H1,I1,r1,q1⟩=>?_
 obtain ⟨a,e,⟨⟨xs,hq⟩,q⟩ | ⟨⟨xs,hq⟩,q⟩⟩:=q1
 ·subst e
  cases r1
  obtain ⟨its,rv,p,hz⟩:=I1.list hq
  refine wpAny_pyIter_list p.isList ?_
  refine ⟨s1.heap.objs.size,[s1.heap.objs.size],_,_,H1,rfl,I1.kept (t':=s1.toks) fun b o e=>Heap.get?_push_of_some _ e,yV a _,⟨_,Heap.get?_push_size _ rfl,rfl,rfl⟩,fun b hb=>?_,q⟩
  have e:b=s1.heap.objs.size:=by simpa using hb
  subst e
  exact I1.fpOk (Nat.le_refl _) (I1.hok.fresh (Nat.le_refl _))
 ·subst e
  cases r1
  obtain ⟨its,rv,p,hz⟩:=I1.tuple hq
  refine wpAny_pyIter_tuple (show s1.heap.IsTuple a its.toArray from p) ?_
  refine ⟨s1.heap.objs.size,[s1.heap.objs.size],_,_,H1,rfl,I1.kept (t':=s1.toks) fun b o e=>Heap.get?_push_of_some _ e,vX a _,⟨_,Heap.get?_push_size _ rfl,rfl,rfl⟩,fun b hb=>?_,q⟩
  have e:b=s1.heap.objs.size:=by simpa using hb
  subst e
  exact I1.fpOk (Nat.le_refl _) (I1.hok.fresh (Nat.le_refl _))
noncomputable def srcOf (M:Mm):W->Option Src
 | .d (.tup xs)=>some ⟨xs,none⟩
 | .d (.lst xs)=>some ⟨xs,none⟩
 | .d (.fz xs)=>some ⟨xs,none⟩
 | .ref t=>(M[t]?).map fun xs=>⟨xs,some t⟩
 | _=>none
noncomputable def iE (f:FE):FI:=fun L M=>(f L M).bind fun w M1=>match srcOf M1 w with
 | some s=>.ok s M1
 | none=>.bad
theorem wC {a:Addr} {s:Src} (S:List Addr->Hp->Prop) (s0:S μ H) (sx:∀ μ1 H1 μ2 H2,Lsts μ1 H1->S μ1 H1->Ext μ1 H1 μ2 H2->S μ2 H2)
  (rd:∀ μ1 H1 M1,HR K μ1 H1 M1->S μ1 H1->Chk s M1->∃ vs,SqL K H1 a vs/\Rps K μ1 H1 s.ds vs):ItOk K μ H s (Itl K a):=by
 refine ⟨S,s0,sx,fun μ1 H1 M1 i hr hS hc=>?_⟩
 obtain ⟨vs,h1,r1⟩:=rd μ1 H1 M1 hr hS hc
 refine ⟨fun d hd=>?_,fun hl=>⟨vs,h1,by rw [<- r1.length]; exact hl⟩⟩
 obtain ⟨v,q1,q2⟩:=r1.get hd
 refine ⟨⟨vs,v,h1,q1⟩,fun x H2 y=>?_⟩
 obtain ⟨rfl,y⟩:=y
 have:=y vs h1
 rw [q1] at this
 cases this
 exact ⟨.refl,hr,q2⟩
theorem aJq {a:Addr} {s:Src} (S:List Addr->Hp->Prop) (s0:S μ H) (sx:∀ μ1 H1 μ2 H2,Lsts μ1 H1->S μ1 H1->Ext μ1 H1 μ2 H2->S μ2 H2)
  (rd:∀ μ1 H1 M1,HR K μ1 H1 M1->S μ1 H1->Chk s M1->∃ vs,SqT K H1 a vs/\Rps K μ1 H1 s.ds vs):ItOk K μ H s (Itt K a):=by
 refine ⟨S,s0,sx,fun μ1 H1 M1 i hr hS hc=>?_⟩
 obtain ⟨vs,h1,r1⟩:=rd μ1 H1 M1 hr hS hc
 refine ⟨fun d hd=>?_,fun hl=>⟨vs,h1,by rw [<- r1.length]; exact hl⟩⟩
 obtain ⟨v,q1,q2⟩:=r1.get hd
 refine ⟨⟨vs,v,h1,q1⟩,fun x H2 y=>?_⟩
 obtain ⟨rfl,y⟩:=y
 have:=y vs h1
 rw [q1] at this
 cases this
 exact ⟨.refl,hr,q2⟩
theorem jP {d:D} {v:V}:∀ μ1 H1 μ2 H2,Lsts μ1 H1->Rp K μ1 H1 d v->Ext μ1 H1 μ2 H2->Rp K μ2 H2 d v:=fun μ1 H1 μ2 H2 l h e=>Rp.ext l e d v h
theorem aLm (h:Ev X K Z e f):Ei X K Z tg e (iE f):=by
 have h':=aLg (tg:=tg) h.h
 rw [h.k] at h'
 refine ⟨h.k,cqI h' ?_⟩
 rintro σ H R ⟨μ,M,L,hr,lr,p⟩
 refine ⟨μ,M,L,hr,lr,p.bind.imp fun μ1 H1 M1 w e1 hr1 _ p1 v rw'=>?_⟩
 cases w with
 | ref t =>
  simp only [srcOf] at p1
  cases q:M1[t]? with
  | none=>simp only [q,Option.map_none] at p1; exact p1.elim
  | some xs =>
   simp only [q,Option.map_some] at p1
   obtain ⟨a,qa,rfl⟩:=rw'
   obtain ⟨a',vs,qa',h1,r1⟩:=hr1.at q
   rw [qa] at qa'; cases qa'
   refine ⟨a,rfl,.inl ⟨⟨vs,SqL.of h1⟩,p1 μ1 H1 .refl hr1 _ ?_⟩⟩
   refine wC (fun μ2 H2=>μ2[t]?=some a) qa (fun μ1 H1 μ2 H2 _ z e=>e.pre _ _ z) fun μ2 H2 M2 hr2 z c=>?_
   obtain ⟨a',vs,qa',h1,r1⟩:=hr2.at (c t rfl)
   rw [z] at qa'; cases qa'
   exact ⟨vs,SqL.of h1,r1⟩
 | d x =>
  cases x with
  | tup xs =>
   have rw2:=rw'
   simp only [Rw,Rp] at rw'
   obtain ⟨a,vs,rfl,h1,r1⟩:=rw'
   refine ⟨a,rfl,.inr ⟨⟨vs,SqT.of h1⟩,p1 μ1 H1 .refl hr1 _ ?_⟩⟩
   refine aJq (fun μ2 H2=>Rp K μ2 H2 (.tup xs) (.ref a)) rw2 jP fun μ2 H2 M2 hr2 z c=>?_
   simp only [Rp] at z
   obtain ⟨a',vs,e,h1,r1⟩:=z
   cases e
   exact ⟨vs,SqT.of h1,r1⟩
  | lst xs =>
   have rw2:=rw'
   simp only [Rw,Rp] at rw'
   obtain ⟨a,vs,rfl,h1,_,r1⟩:=rw'
   refine ⟨a,rfl,.inl ⟨⟨vs,SqL.of h1⟩,p1 μ1 H1 .refl hr1 _ ?_⟩⟩
   refine wC (fun μ2 H2=>Rp K μ2 H2 (.lst xs) (.ref a)) rw2 jP fun μ2 H2 M2 hr2 z c=>?_
   simp only [Rp] at z
   obtain ⟨a',vs,e,h1,_,r1⟩:=z
   cases e
   exact ⟨vs,SqL.of h1,r1⟩
  | fz xs =>
   have rw2:=rw'
   simp only [Rw,Rp] at rw'
   obtain ⟨a,vs,rfl,h1,r1⟩:=rw'
   refine ⟨a,rfl,.inl ⟨⟨vs,h1.sq⟩,p1 μ1 H1 .refl hr1 _ ?_⟩⟩
   refine wC (fun μ2 H2=>Rp K μ2 H2 (.fz xs) (.ref a)) rw2 jP fun μ2 H2 M2 hr2 z c=>?_
   simp only [Rp] at z
   obtain ⟨a',vs,e,h1,r1⟩:=z
   cases e
   exact ⟨vs,h1.sq,r1⟩
  | _=>exact p1.elim
noncomputable def rngD (lo:Int) (n:Nat):List D:=(List.range n).map fun k=>D.int (lo+(k:Nat))
theorem eL {lo:Int} {n i:Nat} {d:D} (h:(rngD lo n)[i]?=some d):i < n/\d=.int (lo+i):=by
 unfold rngD at h
 rw [List.getElem?_map] at h
 by_cases hi:i < n
 ·rw [List.getElem?_range hi] at h; simp at h; exact ⟨hi,h.symm⟩
 ·rw [List.getElem?_eq_none (by simpa using hi)] at h; cases h
theorem aGp {lo:Int} {n:Nat}:ItOk K μ H ⟨rngD lo n,none⟩ (Itr lo n):=by
 refine ⟨fun _ _=>True,trivial,fun _ _ _ _ _ _ _=>trivial,fun μ1 H1 M1 i hr _ _=>⟨fun d hd=>?_,fun hl=>by simp only [rngD,List.length_map,List.length_range] at hl; exact hl⟩⟩
 obtain ⟨hi,rfl⟩:=eL hd
 refine ⟨hi,fun x H2 y=>?_⟩
 obtain ⟨rfl,rfl⟩:=y
 exact ⟨.refl,hr,by simp [Rp]⟩
noncomputable def in62 (i:Int):Bool:=decide (-4611686018427387904<=i/\i < 4611686018427387904)
noncomputable def iR1 (f:FE):FI:=fun L M=>(f L M).bind fun w M1=>match w with
 | .d (.int j)=>if in62 j=true then .ok ⟨rngD 0 j.toNat,none⟩ M1 else .bad
 | _=>.bad
theorem dS {p:Pos} (hm:X.mg "range"=none) (ha:Ev X K Z a f) (hg:Gl X "range":=by rfl) (hs:starEach [a] X.env=[(false,eval a X.env)]:=by rfl):Ei X K Z tg (.Call (.Name "range" p) [a] [] pos) (iR1 f):=by
 refine ⟨ha.k,cqI (zO hg hm (cY ha.h fN hs) hs) ?_⟩
 rintro σ H R ⟨μ,M,L,hr,lr,p⟩
 refine ⟨μ,M,L,hr,lr,p.bind.imp fun μ1 H1 M1 w e1 hr1 _ p1 v rw'=>?_⟩
 cases w with
 | ref i=>exact p1.elim
 | d x=>cases x with
  | int j =>
   simp only at p1
   split at p1
   ·rename_i hz
    simp only [in62,decide_eq_true_eq] at hz
    simp only [Rw,Rp] at rw'
    subst rw'
    exact ⟨j,rfl,hz.1,hz.2,p1 μ1 H1 .refl hr1 _ aGp⟩
   ·exact p1.elim
  | _=>exact p1.elim
end
end EV
namespace EV
open PySem PySem.Spec PyProof.Rows L2
section
variable {K:PySem.W.Frag} {μ μ1 μ2:List Addr} {H H1 H2:Hp} {M M2:Mm}
theorem Ext.back (e:Ext μ H μ2 H2):Ext μ H μ H2:=⟨e.keep,fun a h=>.inl h,fun _ _ h=>h⟩
theorem Ext.take (e:Ext μ H μ2 H2):μ2.take μ.length=μ:=by
 apply List.ext_getElem?
 intro i
 rw [List.getElem?_take]
 split
 ·rename_i hi
  have:=e.pre i μ[i] (by simp [hi])
  rw [this]; simp [hi]
 ·rename_i hi
  rw [List.getElem?_eq_none (by omega)]
mutual
theorem Rp.sub (hs:∀ a,a∈μ1->a∈μ):∀ (d:D) (v:V),Rp K μ H d v->Rp K μ1 H d v
 | .non,v,h=>by simpa [Rp] using h
 | .bl b,v,h=>by simpa [Rp] using h
 | .int b,v,h=>by simpa [Rp] using h
 | .str b,v,h=>by simpa [Rp] using h
 | .tup ds,v,h=>by simp only [Rp] at h ⊢; obtain ⟨a,vs,e1,e2,e3⟩:=h; exact ⟨a,vs,e1,e2,Rps.sub hs ds vs e3⟩
 | .lst ds,v,h=>by simp only [Rp] at h ⊢; obtain ⟨a,vs,e1,e2,n,e3⟩:=h; exact ⟨a,vs,e1,e2,fun z=>n (hs a z),Rps.sub hs ds vs e3⟩
 | .fz ds,v,h=>by simp only [Rp] at h ⊢; obtain ⟨a,vs,e1,e2,e3⟩:=h; exact ⟨a,vs,e1,e2,Rps.sub hs ds vs e3⟩
 | .exn c f ds,v,h=>by simp only [Rp] at h ⊢; obtain ⟨a,vs,C,LE,d,e1,e2,e3,e4,e5⟩:=h; exact ⟨a,vs,C,LE,d,e1,e2,e3,e4,Rps.sub hs ds vs e5⟩
theorem Rps.sub (hs:∀ a,a∈μ1->a∈μ):∀ (ds:List D) (vs:List V),Rps K μ H ds vs->Rps K μ1 H ds vs
 | [],vs,h=>by simpa [Rps] using h
 | d::ds,vs,h=>by simp only [Rps] at h ⊢; obtain ⟨v,r,e1,e2,e3⟩:=h; exact ⟨v,r,e1,Rp.sub hs d v e2,Rps.sub hs ds r e3⟩
end
theorem HR.back (h:HR K μ2 H2 M2) (e:Ext μ H μ2 H2):HR K μ H2 (M2.take μ.length):=by
 have ht:=e.take
 have hsub:∀ a,a∈μ->a∈μ2:=fun a ha=>by rw [<- ht] at ha; exact List.mem_of_mem_take ha
 have hlen:μ.length<=μ2.length:=by have:=congrArg List.length ht; simp at this; omega
 refine ⟨by rw [List.length_take,<- h.len]; omega,by rw [<- ht]; exact h.nd.sublist (List.take_sublist _ _),fun i a ds q1 q2=>?_⟩
 rw [List.getElem?_take] at q2
 split at q2
 ·obtain ⟨vs,q3,q4⟩:=h.ent i a ds (e.pre i a q1) q2
  exact ⟨vs,q3,Rps.sub hsub _ _ q4⟩
 ·cases q2
end
noncomputable def outL (js:List (Option Nat)) (L:Lc):Lc:=js.map fun o=>o.bind fun j=>(L[j]?).join
open Classical in
noncomputable def compD (t:Nat) (s:Src) (g:FG) (c:FT) (f:FE):List D->Lc->Mm->Oc Unit
 | []=>fun _ M=>if Chk s M then .ok () M else .bad
 | d::r=>fun L M=>if Chk s M then (g (.d d) L M).bind fun L1 M1=>(c L1 M1).bind fun b M2=>if b=true then (f L1 M2).bind fun w M3=>match w,M3[t]? with
   | .d x,some acc=>if acc.length < 16777216 then compD t s g c f r L1 (M3.set t (acc++[x])) else .bad
   | _,_=>.bad
   else compD t s g c f r L1 M2
  else .bad
noncomputable def compT (js:List (Option Nat)) (fi:FI) (g:FG) (c:FT) (f:FE) (L:Lc) (M:Mm):Oc (List D):=(fi L M).bind fun s M1=>match compD M1.length s g c f s.ds (outL js L) (M1++[[]]) with
 | .ok _ M2=>match M2[M1.length]? with
  | some acc=>.ok acc (M2.take M1.length)
  | none=>.bad
 | _=>.bad
noncomputable def eComp (js:List (Option Nat)) (fi:FI) (g:FG) (c:FT) (f:FE):FE:=fun L M=>(compT js fi g c f L M).bind fun acc M1=>.ok (.d (.lst acc)) M1
noncomputable def tYes:FT:=fun _ M=>.ok true M
structure Eif (X:Cx) (K:PySem.W.Frag) (Z:Zt) (ifs:List Expr) (t:FT):Prop where
 k:X.K=K
 h:PIf X ifs (liftT K Z t)
section
variable {X:Cx} {K:PySem.W.Frag} {Z:Zt} {μ:List Addr} {H:Hp} {M:Mm} {e a b o:Expr} {es:List Expr} {pos:Pos} {f fa fb fo:FE} {fs:FA} {st:Stmt} {rest:List Stmt} {F G:FS}
theorem rK (hk:X.K=K:=by rfl):Eif X K Z [] tYes:=⟨hk,fun pins s σ H Q I ⟨μ,M,L,hr,lr,p⟩=>aFp pins s σ H Q I (p μ H .refl hr)⟩
theorem aEh {c:Expr} {t:FT} (h:Et X K Z c t):Eif X K Z [c] t:=⟨h.k,aEx h.h⟩
theorem LR.out {L:Lc} {σ:St} {js:List (Option Nat)} (h:LR K μ H L σ):LR K μ H (outL js L) (outσ js σ) where
 len:=by simp [outL,outσ]
 ent:=fun i w q=>by
  unfold outL at q
  unfold outσ
  rw [List.getElem?_map] at q ⊢
  cases e:js[i]? with
  | none=>rw [e] at q; cases q
  | some oj =>
   rw [e] at q
   cases oj with
   | none=>simp at q
   | some j =>
    simp only [Option.map_some,Option.bind_some,Option.some.injEq] at q ⊢
    cases e2:L[j]? with
    | none=>rw [e2] at q; cases q
    | some ow =>
     rw [e2] at q
     simp at q
     subst q
     obtain ⟨v,q1,q2⟩:=h.ent j w e2
     exact ⟨v,by rw [q1]; rfl,q2⟩
theorem aDa {Zi:Zt} {s:Src} {g:FG} {c:FT} {f:FE} {J:It} {Dt:Addr} {Q:Hp->Prop} {σ:St} {L:Lc} (n:Nat) (μ0:List Addr) (H0:Hp) (e0:Ext μ0 H0 μ H) (hn:μ0.length=n) (hD:μ[n]?=some Dt)
  (hr:HR K μ H M) (lr:LR K μ H L σ) (hJ:ItOk K μ H s J)
  (p:match compD n s g c f s.ds L M with
   | .ok _ M2=>∀ μ2 H2,Ext μ H μ2 H2->HR K μ2 H2 M2->Q H2
   | .ex z M2=>Zi.z z M2 μ H
   | .bad=>False):tTurns J (liftG K Zi g) (liftT K Zi c) (lift K Zi f) Dt σ H Q:=by
 obtain ⟨S,s0,sx,step⟩:=hJ
 -- what holds at turn i
 let R:List Addr->Hp->Lc->Mm->List D->Prop:=fun μ1 H1 L M rest=>match compD n s g c f rest L M with
   | .ok _ M2=>∀ μ2 H2,Ext μ1 H1 μ2 H2->HR K μ2 H2 M2->Q H2
   | .ex z M2=>Zi.z z M2 μ1 H1
   | .bad=>False
 refine ⟨fun i m σ H1=>m=s.ds.length - i/\i<=s.ds.length/\∃ μ1 M L,Ext μ0 H0 μ1 H1/\μ1[n]?=some Dt/\HR K μ1 H1 M/\LR K μ1 H1 L σ/\S μ1 H1/\R μ1 H1 L M (s.ds.drop i),⟨s.ds.length,by simp,Nat.zero_le _,μ,M,L,e0,hD,hr,lr,s0,by simpa [R] using p⟩,?_⟩
 rintro i m σ H1 ⟨rfl,hi,μ1,M,L,e1,hD1,hr,lr,sS,p⟩
 by_cases hlt:i < s.ds.length
 ·simp only [R] at p
  rw [List.drop_eq_getElem_cons hlt] at p
  unfold compD at p
  by_cases hch:Chk s M
  ·rw [if_pos hch] at p
   obtain ⟨go,yl⟩:=(step μ1 H1 M i hr sS hch).1 s.ds[i] (by simp [hlt])
   refine .inr ⟨go,fun σ' H'=>i+1<=s.ds.length/\∃ μ1 M L,Ext μ0 H0 μ1 H'/\μ1[n]?=some Dt/\HR K μ1 H' M/\LR K μ1 H' L σ'/\S μ1 H'/\R μ1 H' L M (s.ds.drop (i+1)),fun σ' H' q=>⟨s.ds.length - (i+1),by omega,rfl,q.1,q.2⟩,fun x H2 y=>?_⟩
   obtain ⟨e2,hr2,rx⟩:=yl x H2 y
   have lr2:=lr.ext hr.lsts e2
   have s2:=sx _ _ _ _ hr.lsts sS e2
   refine ⟨μ1,M,L,.d s.ds[i],hr2,lr2,rx,?_⟩
   cases q3:g (.d s.ds[i]) L M with
   | bad=>rw [q3] at p; exact p.elim
   | ex z M2=>rw [q3] at p; exact Zi.mono e2 p
   | ok L3 M3 =>
    rw [q3] at p
    intro μ3 H3 e3 hr3 σ3 lr3
    refine ⟨μ3,M3,L3,hr3,lr3,?_⟩
    simp only [fG] at p
    have s3:=sx _ _ _ _ hr2.lsts s2 e3
    cases q4:c L3 M3 with
    | bad=>rw [q4] at p; exact p.elim
    | ex z M2=>rw [q4] at p; exact Zi.mono (e2.trans e3) p
    | ok b M4 =>
     rw [q4] at p
     intro μ4 H4 e4 hr4
     simp only [fG] at p
     have s4:=sx _ _ _ _ hr3.lsts s3 e4
     have lr4:=lr3.ext hr3.lsts e4
     have E4:=((e1.trans e2).trans e3).trans e4
     have D4:=e4.pre _ _ (e3.pre _ _ (e2.pre _ _ hD1))
     cases b with
     | false =>
      refine ⟨hlt,μ4,M4,L3,E4,D4,hr4,lr4,s4,?_⟩
      simp only [R]
      simp only [Bool.false_eq_true,if_false] at p
      cases q5:compD n s g c f (s.ds.drop (i+1)) L3 M4 with
      | ok u M5=>rw [q5] at p; exact fun μ5 H5 e5 hr5=>p μ5 H5 (((e2.trans e3).trans e4).trans e5) hr5
      | ex z M5=>rw [q5] at p; exact Zi.mono ((e2.trans e3).trans e4) p
      | bad=>rw [q5] at p; exact p
     | true =>
      simp only [if_true] at p
      refine ⟨μ4,M4,L3,hr4,lr4,?_⟩
      cases q5:f L3 M4 with
      | bad=>rw [q5] at p; exact p.elim
      | ex z M2=>rw [q5] at p; exact Zi.mono ((e2.trans e3).trans e4) p
      | ok w M5 =>
       rw [q5] at p
       intro μ5 H5 e5 hr5 v rw'
       simp only [fG] at p
       cases w with
       | ref k=>exact p.elim
       | d x =>
        cases q6:M5[n]? with
        | none=>rw [q6] at p; exact p.elim
        | some acc =>
         rw [q6] at p
         simp only at p
         by_cases hz:acc.length < 16777216
         ·rw [if_pos hz] at p
          have D5:=e5.pre _ _ D4
          obtain ⟨a',vs,qa',h1,r1⟩:=hr5.at q6
          rw [D5] at qa'; cases qa'
          refine ⟨vs,h1,by rw [<- r1.length,sizeLine_eq]; exact hz,hlt,μ5,M5.set n (acc++[x]),L3,(E4.trans e5).trans (bV D5),D5,hr5.set D5 (r1.append (.cons rw' .nil)),?_,?_,?_⟩
          ·exact (lr4.ext hr4.lsts e5).ext hr5.lsts (bV D5)
          ·exact sx _ _ _ _ hr5.lsts (sx _ _ _ _ hr4.lsts s4 e5) (bV D5)
          ·simp only [R]
           cases q7:compD n s g c f (s.ds.drop (i+1)) L3 (M5.set n (acc++[x])) with
           | ok u M6=>rw [q7] at p; exact fun μ6 H6 e6 hr6=>p μ6 H6 (((((e2.trans e3).trans e4).trans e5).trans (bV D5)).trans e6) hr6
           | ex z M6=>rw [q7] at p; exact Zi.mono ((((e2.trans e3).trans e4).trans e5).trans (bV D5)) p
           | bad=>rw [q7] at p; exact p
         ·rw [if_neg hz] at p; exact p.elim
  ·rw [if_neg hch] at p; exact p.elim
 ·have e:i=s.ds.length:=by omega
  subst e
  simp only [R] at p
  rw [List.drop_eq_nil_of_le (Nat.le_refl _)] at p
  unfold compD at p
  by_cases hch:Chk s M
  ·rw [if_pos hch] at p
   exact .inl ⟨(step μ1 H1 M _ hr sS hch).2 (Nat.le_refl _),p μ1 H1 .refl hr⟩
  ·rw [if_neg hch] at p; exact p.elim
theorem aBo {js:List (Option Nat)} {fi:FI} {g:FG} {c:FT} {f:FE} {σ:St} {Q:VK} (h:∃ μ M L,HR K μ H M/\LR K μ H L σ/\Pst K Z μ H (compT js fi g c f L M) fun μ' H' M' acc=>∀ q vs,H' q=some (.lst vs)->q∉μ'->Rps K μ' H' acc vs->Q (.ref q) H') :
  tComp js (liftI K Z fi) (liftG K Z0 g) (liftT K Z0 c) (lift K Z0 f) σ H Q:=by
 obtain ⟨μ,M,L,hr,lr,p⟩:=h
 refine ⟨μ,M,L,hr,lr,p.bind.imp fun μ1 H1 M1 s e1 hr1 _ p1 J hJ Dt hDt=>?_⟩
 have x:=sG (vs:=[]) hr1 hDt
 have hlen:=hr1.len
 obtain ⟨S,s0,sx,step⟩:=hJ
 refine aDa (M:=M1++[[]]) M1.length μ1 H1 x hr1.len (by rw [<- hlen]; simp) (hr1.new hDt .nil) (LR.out ((lr.ext hr.lsts e1).ext hr1.lsts x)) ⟨S,sx _ _ _ _ hr1.lsts s0 x,sx,step⟩ ?_
 cases q:compD M1.length s g c f s.ds (outL js L) (M1++[[]]) with
 | bad=>simp only [q] at p1; exact p1.elim
 | ex z M2=>simp only [q] at p1; exact p1.elim
 | ok u M2 =>
  simp only [q] at p1
  intro μ2 H2 e2 hr2
  cases q2:M2[M1.length]? with
  | none=>simp only [q2] at p1; exact p1.elim
  | some acc =>
   simp only [q2] at p1
   have E:=x.trans e2
   have hb:=hr2.back E
   rw [hlen] at hb
   have hD2:μ2[M1.length]?=some Dt:=e2.pre _ _ (by rw [<- hlen]; simp)
   obtain ⟨a',vs,qa',h1,r1⟩:=hr2.at q2
   rw [hD2] at qa'; cases qa'
   exact p1 μ1 H2 E.back hb Dt vs h1 (hr1.out hDt) (Rps.sub (fun a ha=>by rw [<- E.take] at ha; exact List.mem_of_mem_take ha) _ _ r1)
theorem aCv {js:List (Option Nat)} {fi:FI} {g:FG} {c:FT} {f:FE}:∀ σ H Q,lift K Z (eComp js fi g c f) σ H Q->tComp js (liftI K Z fi) (liftG K Z0 g) (liftT K Z0 c) (lift K Z0 f) σ H Q:=by
 rintro σ H Q ⟨μ,M,L,hr,lr,p⟩
 refine aBo ⟨μ,M,L,hr,lr,p.bind.imp fun μ1 H1 M1 acc e1 hr1 _ p1 q vs h1 h2 h3=>?_⟩
 exact p1 μ1 H1 .refl hr1 _ (by simp only [Rw,Rp]; exact ⟨q,vs,rfl,h1,h2,h3⟩)
theorem nB {tg iter elt:Expr} {ifs:List Expr} {scope:Scope} {Nc:List Str} {js:List (Option Nat)} {fi:FI} {g:FG} {c:FT} {f:FE} (hc:X.calm=true) (T:CompOk X.N X.env.scope scope Nc js) (hit:Ei X K Z tg iter fi)
  (hg:∀ cl C fp pins s₂ H₂,Eg (compCx X Nc scope cl C fp pins s₂ H₂) K Z0 tg g) (hi:∀ cl C fp pins s₂ H₂,Eif (compCx X Nc scope cl C fp pins s₂ H₂) K Z0 ifs c) (he:∀ cl C fp pins s₂ H₂,Ev (compCx X Nc scope cl C fp pins s₂ H₂) K Z0 elt f)
  (hs:∀ x,foldedSetIterable iter X.env x=pure x:=by intro _; rfl):Ev X K Z (.ListComp elt [⟨tg,iter,ifs,0⟩] scope pos) (eComp js fi g c f) :=
 ⟨hit.k,cqE (aFj hc T hit.h (fun _ _ _ _ _ _=>(hg _ _ _ _ _ _).h) (fun _ _ _ _ _ _=>(hi _ _ _ _ _ _).h) (fun _ _ _ _ _ _=>(he _ _ _ _ _ _).h) hs) aCv⟩
noncomputable def retc (n:Nat) (w:W) (M:Mm):Oc W:=match w with
 | .d x=>.ok (.d x) (M.take n)
 | .ref i=>if i < n then .ok (.ref i) (M.take n) else match M[i]? with
  | some ds=>.ok (.d (.lst ds)) (M.take n)
  | none=>.bad
noncomputable def fnD (m n:Nat) (F:FS):Fn:=fun ws M=>if ws.length=m then (F (ws.map some++List.replicate (n - ws.length) none) M).bind fun o M'=>match o with
  | .rt w=>retc M.length w M'
  | .nx _=>.ok (.d .non) (M'.take M.length)
  | _=>.bad
 else .bad
noncomputable def fnR (m n:Nat) (F:FS):Fn:=fun ws M=>if ws.length=m then (F (ws.map some++List.replicate (n - ws.length) none) M).bind fun o M'=>match o with
  | .rt (.ref i)=>if M.length<=i then (match M'[i]? with
   | some ds=>.ok (.ref M.length) (M'.take M.length++[ds])
   | none=>.bad) else .bad
  | _=>.bad
 else .bad
noncomputable def spF (K:PySem.W.Frag) (Z:Zt) (m:Nat) (Fm:Fn):Sp:=fun vs H Q E=>vs.length=m/\∃ μ M ws,HR K μ H M/\Rws K μ H ws vs/\Pst K Z μ H (Fm ws M) (Wk K Q)
theorem tW {N:List Str} {ws:List W} {vs:List V} (r:Rws K μ H ws vs):LR K μ H (ws.map some++List.replicate (N.length - ws.length) none) (L2.start N vs):=by
 have hl:=r.length
 refine ⟨by simp [L2.start,hl],fun i w q=>?_⟩
 by_cases hi:i < ws.length
 ·rw [List.getElem?_append_left (by simpa using hi),List.getElem?_map] at q
  cases e:ws[i]? with
  | none=>rw [e] at q; cases q
  | some w' =>
   rw [e] at q; cases q
   obtain ⟨v,q1,q2⟩:=r.get e
   refine ⟨v,?_,q2⟩
   unfold L2.start
   rw [List.getElem?_append_left (by simp; omega),List.getElem?_map,q1]; rfl
 ·rw [List.getElem?_append_right (by simpa using hi),List.getElem?_replicate] at q
  split at q <;> cases q
theorem bN {P:Program} {w:World} {mg:Str->Option Value} {base:Heap} {x qual:Str} {st:Stmt} {fa:Addr} {fd:FuncData} {N ps:List Str} {k:Nat} {F:FS} (hf:Fun K x qual st fa fd) (S:FnScope N ps (defScope st))
  (hb:∀ (cdv:Value) (A:Around) (outer:List Env) (s:Shared) (H:Hp) (E:XK),Room k (A.deeper (envOfC qual (defScope st) s.heap.objs.size fa cdv))->Ess (cxOf CX0 P w K mg base N qual (defScope st) fa cdv A outer s H E).nox K Z0 (defBody st) F) :
  FnOk P w K mg base CX0 (k+1) fa fd ps (spF K Z0 ps.length (fnD ps.length N.length F)):=by
 refine hf.ok S (fun vs H Q E h=>h.1) fun cdv A outer s H vs Q E hr hsp=>⟨_,(hb cdv A outer s H E hr).h,?_⟩
 obtain ⟨hv,μ,M,ws,hr,rx,p⟩:=hsp
 refine ⟨μ,M,_,hr,tW rx,?_⟩
 unfold fnD at p
 rw [if_pos (by rw [rx.length]; exact hv)] at p
 cases q:F (ws.map some++List.replicate (N.length - ws.length) none) M with
 | bad=>rw [q] at p; exact p
 | ex z M'=>rw [q] at p; exact p
 | ok o M' =>
  rw [q] at p
  simp only [fG] at p
  intro μ1 H1 e1 hr1
  have hb:=hr1.back e1
  rw [hr.len] at hb
  cases o with
  | nx L'=>exact fun σ' lr'=>p μ H1 e1.back hb _ (by simp [Rw,Rp])
  | bk L'=>exact p.elim
  | ct L'=>exact p.elim
  | rt w =>
   intro v rv
   have hsub:∀ a,a∈μ->a∈μ1:=fun a ha=>by rw [<- e1.take] at ha; exact List.mem_of_mem_take ha
   cases w with
   | d x=>exact p μ H1 e1.back hb v (Rp.sub hsub x v rv)
   | ref i =>
    simp only [retc] at p
    split at p
    ·rename_i hi
     obtain ⟨a,qa,rfl⟩:=rv
     refine p μ H1 e1.back hb _ ⟨a,?_,rfl⟩
     rw [<- hr.len] at hi
     have:=e1.pre i μ[i] (by simp [hi])
     rw [qa] at this; cases this
     simp [hi]
    ·rename_i hi
     cases q2:M'[i]? with
     | none=>simp only [q2] at p; exact p.elim
     | some ds =>
      simp only [q2] at p
      obtain ⟨a,qa,rfl⟩:=rv
      obtain ⟨a',vs',qa',h1,r1⟩:=hr1.at q2
      rw [qa] at qa'; cases qa'
      refine p μ H1 e1.back hb _ ?_
      simp only [Rw,Rp]
      refine ⟨a,vs',rfl,h1,fun ha=>?_,Rps.sub hsub _ _ r1⟩
      obtain ⟨j,hj,ej⟩:=List.mem_iff_getElem.mp ha
      have h2:=e1.pre j a (by rw [<- ej]; simp [hj])
      have l1:=(List.getElem?_eq_some_iff.mp qa).1
      have l2:=(List.getElem?_eq_some_iff.mp h2).1
      have g1:=(List.getElem?_eq_some_iff.mp qa).2
      have g2:=(List.getElem?_eq_some_iff.mp h2).2
      have pw:=List.pairwise_iff_getElem.mp hr1.nd
      rw [hr.len] at hj
      exact pw j i l2 l1 (by omega) (g2.trans g1.symm)
theorem aIs {P:Program} {w:World} {mg:Str->Option Value} {base:Heap} {x qual:Str} {st:Stmt} {fa:Addr} {fd:FuncData} {N ps:List Str} {k:Nat} {F:FS} (hf:Fun K x qual st fa fd) (S:FnScope N ps (defScope st))
  (hb:∀ (cdv:Value) (A:Around) (outer:List Env) (s:Shared) (H:Hp) (E:XK),Room k (A.deeper (envOfC qual (defScope st) s.heap.objs.size fa cdv))->Ess (cxOf CX0 P w K mg base N qual (defScope st) fa cdv A outer s H E).nox K Z0 (defBody st) F) :
  FnOk P w K mg base CX0 (k+1) fa fd ps (spF K Z0 ps.length (fnR ps.length N.length F)):=by
 refine hf.ok S (fun vs H Q E h=>h.1) fun cdv A outer s H vs Q E hr hsp=>⟨_,(hb cdv A outer s H E hr).h,?_⟩
 obtain ⟨hv,μ,M,ws,hr,rx,p⟩:=hsp
 refine ⟨μ,M,_,hr,tW rx,?_⟩
 unfold fnR at p
 rw [if_pos (by rw [rx.length]; exact hv)] at p
 cases q:F (ws.map some++List.replicate (N.length - ws.length) none) M with
 | bad=>rw [q] at p; exact p
 | ex z M'=>rw [q] at p; exact p
 | ok o M' =>
  rw [q] at p
  simp only [fG] at p
  intro μ1 H1 e1 hr1
  have hb:=hr1.back e1
  rw [hr.len] at hb
  cases o with
  | nx L'=>exact p.elim
  | bk L'=>exact p.elim
  | ct L'=>exact p.elim
  | rt w =>
   intro v rv
   have hsub:∀ a,a∈μ->a∈μ1:=fun a ha=>by rw [<- e1.take] at ha; exact List.mem_of_mem_take ha
   cases w with
   | d x=>exact p.elim
   | ref i =>
    simp only at p
    split at p
    ·rename_i hi
     cases q2:M'[i]? with
     | none=>simp only [q2] at p; exact p.elim
     | some ds =>
      simp only [q2] at p
      obtain ⟨a,qa,rfl⟩:=rv
      obtain ⟨a',vs',qa',h1,r1⟩:=hr1.at q2
      rw [qa] at qa'; cases qa'
      have hna:a∉μ:=fun ha=>by
       obtain ⟨j,hj,ej⟩:=List.mem_iff_getElem.mp ha
       have h2:=e1.pre j a (by rw [<- ej]; simp [hj])
       have l1:=(List.getElem?_eq_some_iff.mp qa).1
       have l2:=(List.getElem?_eq_some_iff.mp h2).1
       have g1:=(List.getElem?_eq_some_iff.mp qa).2
       have g2:=(List.getElem?_eq_some_iff.mp h2).2
       have pw:=List.pairwise_iff_getElem.mp hr1.nd
       rw [hr.len] at hj
       exact pw j i l2 l1 (by omega) (g2.trans g1.symm)
      have hsub2:∀ b,b∈μ++[a]->b∈μ1:=fun b hb=>by
       rcases List.mem_append.mp hb with hb | hb
       ·exact hsub b hb
       ·rw [List.mem_singleton] at hb; subst hb; exact List.mem_of_getElem? qa
      refine p (μ++[a]) H1 ⟨e1.keep,fun b hb=>e1.new b (hsub2 b hb),fun j b hj=>by rw [List.getElem?_append_left (List.getElem?_eq_some_iff.mp hj).1]; exact hj⟩ ?_ _ ⟨a,by rw [<- hr.len]; simp,rfl⟩
      refine ⟨by simp [hb.len],List.nodup_append.mpr ⟨hb.nd,by simp,fun b hb' c hc=>by rw [List.mem_singleton] at hc; subst hc; rintro rfl; exact hna hb'⟩,fun j b es q1 q3=>?_⟩
      by_cases hj:j < μ.length
      ·rw [List.getElem?_append_left hj] at q1
       rw [List.getElem?_append_left (by rw [<- hb.len]; exact hj),List.getElem?_take] at q3
       split at q3
       ·obtain ⟨us,q4,q5⟩:=hr1.ent j b es (e1.pre j b q1) q3
        exact ⟨us,q4,Rps.sub hsub2 _ _ q5⟩
       ·cases q3
      ·have hj':j=μ.length:=by have:=(List.getElem?_eq_some_iff.mp q1).1; simp at this; omega
       subst hj'
       rw [List.getElem?_append_right (Nat.le_refl _)] at q1
       rw [hb.len,List.getElem?_append_right (Nat.le_refl _)] at q3
       simp at q1 q3
       subst q1 q3
       exact ⟨vs',h1,Rps.sub hsub2 _ _ r1⟩
    ·exact p.elim
theorem aG {k:Nat} {fd:FuncData} {fa:Addr} {ps:List Str} {m:Nat} {Fm:Fn} {x:Str} {p:Pos} (Gf:FnOk X.prog X.w X.K X.mg X.base CX0 k fa fd ps (spF K Z0 m Fm)) (hr:Room k X.A) (hm:X.mg x=some (.ref fa)) (hk:PySem.W.keepIn X.K (.ref fa)=true) (hb:Binds X.K fd ps [])
  (ha:Ea X K Z0 (e::es) fs) (hl:ps.length=m:=by rfl) (hg:Gl X x:=by rfl) (hdb:(x==("__debug__":Str))=false:=by decide) (he:starEach (e::es) X.env=(false,eval e X.env)::starEach es X.env:=by rfl) (hpl:(backTo pos (starEach es X.env)).any (·.1)=false:=by rfl)
  (hlen:∀ ws M,ws.length≠m->Fm ws M=.bad:=by intro ws M h; first | exact if_neg h | rfl):Ev X K Z0 (.Call (.Name x p) (e::es) [] pos) (eA Fm fs):=by
 refine ⟨ha.k,cqE (aFa Gf hr hg hm hk hb .nil pass0 ha.h hdb he hpl) ?_⟩
 rintro σ H Q ⟨μ,M,L,hr,lr,p⟩
 refine ⟨μ,M,L,hr,lr,p.bind.imp fun μ1 H1 M1 ws e1 hr1 _ p1 vs rx=>?_⟩
 show spF K Z0 m Fm (vs++[]) H1 Q E0
 rw [List.append_nil]
 refine ⟨?_,μ1,M1,ws,hr1,rx,p1⟩
 by_cases hw:ws.length=m
 ·rw [<- rx.length]; exact hw
 ·rw [hlen ws M1 hw] at p1; exact p1.elim
theorem aHc {K:PySem.W.Frag} {Fm:Fn} {H:Hp} {a:Addr} {ns:List Int} (hO:Only H) (hS:SqL K H a (ns.map V.int)) (h:∃ M',Fm [.d (.fz (ns.map D.int))] []=.ok (.d (.bl true)) M'):spF K Z0 1 Fm [.ref a] H (fun v _=>v=.bl true) fun _ _ _=>False:=by
 obtain ⟨M',h⟩:=h
 refine ⟨rfl,[],[],[.d (.fz (ns.map D.int))],⟨rfl,List.nodup_nil,fun i a ds q=>by simp at q⟩,⟨.ref a,[],rfl,?_,rfl⟩,?_⟩
 ·simp only [Rw,Rp]
  refine ⟨a,ns.map V.int,rfl,?_,Rps.ints⟩
  rcases hS with (z | z) | z
  ·rcases hO a with q | ⟨o,xs,q⟩ <;> rw [z] at q <;> cases q
  ·exact .inl z
  ·exact .inr z
 ·rw [h]
  intro μ' H' _ _ v rv
  simpa only [Rw,Rp] using rv
end
end EV
namespace EV
open PySem PySem.Spec PyProof.Rows L2
@[irreducible] noncomputable def NW:Nat:=18446744073709551616
theorem tX:NW=18446744073709551616:=by unfold NW; rfl
theorem aM {k:Nat} {A:Around} (hr:Room k A):A.units+101 < cLine:=by have:=hr.un; omega
section
variable {X:Cx} {K:PySem.W.Frag} {Z:Zt} {μ:List Addr} {H:Hp} {M:Mm} {e a b o tg:Expr} {es:List Expr} {pos:Pos} {f fa fb fo:FE} {fs:FA} {st:Stmt} {rest:List Stmt} {F G:FS}
end
end EV
namespace ZP
open PySem PySem.Spec PyProof.Rows
section
variable {prog:Program} {w:World} {A:Around} {E:Value->Shared->Prop} {s:Shared}
theorem kW {it l:Addr} {i:Nat} {items:Array Value} {x:Value} {Q:Value->Shared->Prop} (hit:s.heap.IsTupleIter it l i)
  (hl:s.heap.IsTuple l items) (hx:items[i]?=some x)
  (hQ:∀ h',h'.IsTupleIter it l (i+1)->Heap.SameBut it s.heap h'->Q x { s with heap:=h' }) :
  wpAny (model prog w) A (Builtin.SmallTypes.nextOf (.ref it)) Q E s:=by
 obtain ⟨o,ho,hc,hd⟩:=id hit
 obtain ⟨ol,hol,_,nl,hdl⟩:=hl
 unfold Builtin.SmallTypes.nextOf
 refine wpAny_bind (wpAny_callSpecial?_slot (name:=Str.ofString "__next__") hit.typeIs F.slot_tuple_iterator_next
  (wpAny_call_entry F.slot_tuple_iterator_next hit.typeIs F.entry_tuple_iterator_next ?_ (F.args_tuple_iterator_next_1 _)))
 show wpAny _ _ (field (.ref it) 0 >>= _) _ _ s
 refine wpAny_bind (wpAny_field ho hd (x:=.ref l) rfl ?_)
 show wpAny _ _ (if (Value.ref l==Value.none)=true then _ else _) _ _ s
 rw [if_neg (show ¬ ((Value.ref l==Value.none)=true) from Bool.false_ne_true)]
 show wpAny _ _ (field (.ref it) 1 >>= _) _ _ s
 refine wpAny_bind (wpAny_field ho hd (x:=.int i 0) rfl ?_)
 show wpAny _ _ (seqItems? (.ref l) >>= _) _ _ s
 refine wpAny_bind (wpAny_seqItems hol hdl ?_)
 simp only [Int.toNat_natCast,hx]
 refine wpAny_bind (wpAny_setField ho hd (by simp) (wpAny_pure ⟨x,rfl,wpAny_pure (hQ _ ?_ (Heap.SameBut.update ..))⟩))
 exact ⟨_,Heap.get?_update_self _ ho (Obj.isFreed_of_fields (Obj.data_mapFields hd _)),(Obj.cls_mapFields ..).trans hc,by
  rw [Obj.data_mapFields hd]; simp [rawInt]⟩
theorem lY {it l:Addr} {i:Nat} {items:Array Value} {Q:Value->Shared->Prop} (hh:A.handled=none)
  (hit:s.heap.IsTupleIter it l i) (hl:s.heap.IsTuple l items) (hx:items[i]?=none)
  (hE:∀ h' e,Heap.ExtBut it s.heap h'->(∃ o,h'.get? e=some o/\o.cls=.type "StopIteration")->E (.ref e) { s with heap:=h' }) :
  wpAny (model prog w) A (Builtin.SmallTypes.nextOf (.ref it)) Q E s:=by
 obtain ⟨o,ho,hc,hd⟩:=id hit
 obtain ⟨ol,hol,_,nl,hdl⟩:=hl
 unfold Builtin.SmallTypes.nextOf
 refine wpAny_bind (wpAny_callSpecial?_slot (name:=Str.ofString "__next__") hit.typeIs F.slot_tuple_iterator_next
  (wpAny_call_entry F.slot_tuple_iterator_next hit.typeIs F.entry_tuple_iterator_next ?_ (F.args_tuple_iterator_next_1 _)))
 show wpAny _ _ (field (.ref it) 0 >>= _) _ _ s
 refine wpAny_bind (wpAny_field ho hd (x:=.ref l) rfl ?_)
 show wpAny _ _ (if (Value.ref l==Value.none)=true then _ else _) _ _ s
 rw [if_neg (show ¬ ((Value.ref l==Value.none)=true) from Bool.false_ne_true)]
 show wpAny _ _ (field (.ref it) 1 >>= _) _ _ s
 refine wpAny_bind (wpAny_field ho hd (x:=.int i 0) rfl ?_)
 show wpAny _ _ (seqItems? (.ref l) >>= _) _ _ s
 refine wpAny_bind (wpAny_seqItems hol hdl ?_)
 simp only [Int.toNat_natCast,hx]
 refine wpAny_bind (wpAny_rule (wpAny_bind (wpAny_setField ho hd (by simp) ?_)))
 show wpAny _ _ (newExc (.type "StopIteration") [] >>= _) _ _ _
 refine wpAny_bind ?_
 simp only [newExc,newTuple]
 refine wpAny_bind (wpAny_newObj_type ?_ (by size_fits))
 refine wpAny_bind (m:=firstArgMember _ _) (wpAny_of_eq (a:=Value.none) (by first | rfl | (simp only [firstArgMember]; rfl)) ?_)
 refine wpAny_newObj_type ?_ (by size_fits)
 simp only [raiseNew]
 refine wpAny_bind (wpAny_handled ?_)
 first | rw [show A.in1.handled=none from hh] | rw [hh]
 refine wpAny_bind (wpAny_pure (wpAny_throw ?_))
 exact hE _ _ (((Heap.SameBut.update ..).extBut.push _).push _) ⟨_,Heap.get?_push_size _ rfl,rfl⟩
noncomputable def It1 (h:Heap) (it src:Addr) (i:Nat) (xs:Array Value):Prop:=(h.IsListIter it src i/\h.IsList src xs)\/(h.IsTupleIter it src i/\h.IsTuple src xs)
theorem It1.at {h h':Heap} {it src:Addr} {i:Nat} {xs:Array Value} (x:It1 h it src i xs) (k1:∀ o,h.get? it=some o->h'.get? it=some o) (k2:∀ o,h.get? src=some o->h'.get? src=some o):It1 h' it src i xs:=by
 rcases x with ⟨a,b⟩ | ⟨a,b⟩
 ·exact .inl ⟨a.at k1,b.at k2⟩
 ·refine .inr ⟨a.at k1,?_⟩
  obtain ⟨o,ho,r⟩:=b
  exact ⟨o,k2 o ho,r⟩
theorem It1.lt {h:Heap} {it src:Addr} {i:Nat} {xs:Array Value} (x:It1 h it src i xs):it < h.objs.size:=by
 rcases x with ⟨⟨_,e,_⟩,_⟩ | ⟨⟨_,e,_⟩,_⟩ <;> exact Heap.lt_size e
theorem It1.ne {h:Heap} {it src:Addr} {i:Nat} {xs:Array Value} (x:It1 h it src i xs):src≠it:=by
 rintro rfl
 rcases x with ⟨⟨o,e,c,_⟩,⟨o',e',c',_⟩⟩ | ⟨⟨o,e,c,_⟩,⟨o',e',c',_⟩⟩ <;> (rw [e] at e'; cases e'; rw [c] at c'; simp at c')
theorem It1.next {it src:Addr} {i:Nat} {xs:Array Value} {x:Value} {Q:Value->Shared->Prop} (h:It1 s.heap it src i xs) (hx:xs[i]?=some x) (hQ:∀ h',It1 h' it src (i+1) xs->Heap.SameBut it s.heap h'->Q x { s with heap:=h' }) :
  wpAny (model prog w) A (Builtin.SmallTypes.nextOf (.ref it)) Q E s:=by
 have hn:=h.ne
 rcases h with ⟨a,b⟩ | ⟨a,b⟩
 ·exact wpAny_nextOf_list_item a b hx fun h' a' sb=>hQ h' (.inl ⟨a',b.extBut sb.extBut hn⟩) sb
 ·exact kW a b hx fun h' a' sb=>hQ h' (.inr ⟨a',b.extBut sb.extBut hn⟩) sb
theorem It1.stop {it src:Addr} {i:Nat} {xs:Array Value} {Q:Value->Shared->Prop} (hh:A.handled=none) (h:It1 s.heap it src i xs) (hx:xs[i]?=none)
  (hE:∀ h' e,Heap.ExtBut it s.heap h'->(∃ o,h'.get? e=some o/\o.cls=.type "StopIteration")->E (.ref e) { s with heap:=h' }):wpAny (model prog w) A (Builtin.SmallTypes.nextOf (.ref it)) Q E s:=by
 rcases h with ⟨a,b⟩ | ⟨a,b⟩
 ·exact wpAny_nextOf_list_end hh a b hx hE
 ·exact lY hh a b hx hE
theorem loadAlive {a:Addr} {Q:Option Obj->Shared->Prop} (h:Q (s.heap.get? a) s):wpAny (model prog w) A (loadIfAlive a) Q E s:=by
 intro Γ p hΓ
 show Sem.wp _ _ (Sem.loadIfAlive a _) _ _ _ _
 rw [Sem.wp_loadIfAlive]
 simpa using h
noncomputable abbrev zobj (TI TO:Addr) (f0 f1:Value):Obj:={ cls:=.type "zip",dict:=none,data:=.fields #[f0,f1,.bool false,.ref TI,.ref TO],slots:=#[] }
structure Ap (z TI TO i1 i2 l1 l2:Addr):Prop where
 TIz:TI≠z
 TOz:TO≠z
 i1z:i1≠z
 i2z:i2≠z
 TITO:TI≠TO
 TIi1:TI≠i1
 TIi2:TI≠i2
 TOi1:TO≠i1
 TOi2:TO≠i2
 i12:i1≠i2
 l1z:l1≠z
 l1TO:l1≠TO
 l1i1:l1≠i1
 l1i2:l1≠i2
 l2z:l2≠z
 l2TO:l2≠TO
 l2i1:l2≠i1
 l2i2:l2≠i2
structure Zs (h:Heap) (z TI TO i1 i2 l1 l2:Addr) (i:Nat) (xs ys:Array Value):Prop where
 z:∃ f0 f1,h.get? z=some (zobj TI TO f0 f1)/\(f0=.none\/∃ T:Nat,f0=rawInt T)
 ti:IsPair h TI (.ref i1) (.ref i2)
 to:∃ a b,IsPair h TO a b
 a:It1 h i1 l1 i xs
 b:It1 h i2 l2 i ys
theorem xH {z TI TO:Addr} {f0 f1:Value} {Q:Bool->Shared->Prop} (hz:s.heap.get? z=some (zobj TI TO f0 f1)) (hf:f0=.none\/∃ T:Nat,f0=rawInt T) (h1:Q true s) (h2:∀ h' f1',h'.get? z=some (zobj TI TO f0 f1')->Heap.SameBut z s.heap h'->Q false { s with heap:=h' }) :
  wpAny (model prog w) A (Builtin.SmallTypes.ownedTupleIsFree (.ref z)) Q E s:=by
 unfold Builtin.SmallTypes.ownedTupleIsFree
 refine wpAny_bind (wpAny_field hz rfl (x:=f0) rfl ?_)
 rcases hf with rfl | ⟨T,rfl⟩
 ·exact wpAny_pure h1
 ·show wpAny _ _ (loadIfAlive _ >>= _) _ _ _
  refine wpAny_bind (loadAlive ?_)
  cases q:s.heap.get? ((T:Int).toNat) with
  | none=>exact wpAny_pure h1
  | some o =>
   show wpAny _ _ (field (.ref z) 1 >>= _) _ _ _
   refine wpAny_bind (wpAny_field hz rfl (x:=f1) rfl ?_)
   by_cases hb:(f1 != .bool true)=true
   ·rw [if_pos hb]
    refine wpAny_bind (wpAny_setField_rec hz (by simp) fun h1 hz1 hs1=>wpAny_pure (h2 h1 _ hz1 hs1))
   ·rw [if_neg hb]
    exact wpAny_pure (h2 s.heap f1 hz ⟨rfl,fun _ _=>rfl⟩)
theorem jA {z TI TO i1 i2 l1 l2:Addr} {k:Nat} {xs ys:Array Value} {x y:Value} {Q:Value->Shared->Prop} (D:Ap z TI TO i1 i2 l1 l2) (Z:Zs s.heap z TI TO i1 i2 l1 l2 k xs ys) (hx:xs[k]?=some x) (hy:ys[k]?=some y)
  (hQ:∀ h' T,Zs h' z TI TO i1 i2 l1 l2 (k+1) xs ys->IsPair h' T x y->s.heap.objs.size<=T->(∀ c o,c≠z->c≠TO->c≠i1->c≠i2->s.heap.get? c=some o->h'.get? c=some o)->Q (.ref T) { s with heap:=h' }) :
  wpAny (model prog w) A (Builtin.«zip.__next__» ⟨[.ref z],[]⟩) (fun fin s'=>∃ v,fin=.done (.ret v)/\Q v s') E s:=by
 obtain ⟨⟨f0,f1,hz,hf⟩,hTI,⟨a,b,hTO⟩,h1,h2⟩:=Z
 show wpAny _ _ (field (.ref z) 2 >>= _) _ _ _
 refine wpAny_bind (wpAny_field hz rfl (x:=.bool false) rfl ?_)
 show wpAny _ _ (field (.ref z) 3 >>= _) _ _ _
 refine wpAny_bind (wpAny_field hz rfl (x:=.ref TI) rfl ?_)
 refine wpAny_bind (wpAny_seqItems hTI rfl ?_)
 show wpAny _ _ (Builtin.SmallTypes.ownedTupleIsFree (.ref z) >>= _) _ _ _
 refine wpAny_bind (xH hz hf ?_ fun h₁ f1' hz₁ hs₁=>?_)
 ·simp only [if_true]
  refine wpAny_bind (wpAny_rule ?_)
  refine wpAny_bind (wpAny_field hz rfl (x:=.ref TO) rfl ?_)
  refine wpAny_bind (wpAny_setField_rec hz (by simp) fun h₁ hz₁ hs₁=>?_)
  replace hz₁:h₁.get? z=some (zobj TI TO .ellipsis f1):=hz₁
  refine wpAny_bind ?_
  simp only [List.zipIdx_cons,List.zipIdx_nil,List.forIn_cons,List.forIn_nil]
  refine wpAny_bind (wpAny_bind (wpAny_onRaise ?_))
  show wpAny _ _ (Builtin.SmallTypes.nextOf (.ref i1) >>= _) _ _ _
  refine wpAny_bind (It1.next (h1.at (fun o e=>hs₁.extBut _ _ D.i1z e) fun o e=>hs₁.extBut _ _ D.l1z e) hx fun h₂ h1₂ hs₂=>wpAny_pure ?_)
  have hTO₂:IsPair h₂ TO a b:=hs₂.extBut _ _ D.TOi1 (hs₁.extBut _ _ D.TOz hTO)
  refine wpAny_bind (wpAny_seqItems hTO₂ rfl ?_)
  refine wpAny_bind (wpAny_updateSeq_pair hTO₂ fun h₃ hTO₃ hs₃=>?_)
  replace hTO₃:IsPair h₃ TO x b:=hTO₃
  refine wpAny_bind (wpAny_letGo (wpAny_pure ?_))
  refine wpAny_bind (wpAny_bind (wpAny_onRaise ?_))
  show wpAny _ _ (Builtin.SmallTypes.nextOf (.ref i2) >>= _) _ _ _
  refine wpAny_bind (It1.next (h2.at (fun o e=>hs₃.extBut _ _ D.TOi2.symm (hs₂.extBut _ _ D.i12.symm (hs₁.extBut _ _ D.i2z e))) fun o e=>hs₃.extBut _ _ D.l2TO (hs₂.extBut _ _ D.l2i1 (hs₁.extBut _ _ D.l2z e))) hy fun h₄ h2₄ hs₄=>wpAny_pure ?_)
  have hTO₄:IsPair h₄ TO x b:=hs₄.extBut _ _ D.TOi2 hTO₃
  refine wpAny_bind (wpAny_seqItems hTO₄ rfl ?_)
  refine wpAny_bind (wpAny_updateSeq_pair hTO₄ fun h₅ hTO₅ hs₅=>?_)
  replace hTO₅:IsPair h₅ TO x y:=hTO₅
  refine wpAny_bind (wpAny_letGo (wpAny_pure (wpAny_pure ?_)))
  refine wpAny_bind (wpAny_seqItems hTO₅ rfl ?_)
  refine wpAny_bind (wpAny_newTuple ?_)
  have hsz:h₅.objs.size=s.heap.objs.size:=by rw [hs₅.1,hs₄.1,hs₃.1,hs₂.1,hs₁.1]
  have hz₅:h₅.get? z=some (zobj TI TO .ellipsis f1):=hs₅.extBut _ _ D.TOz.symm (hs₄.extBut _ _ D.i2z.symm (hs₃.extBut _ _ D.TOz.symm (hs₂.extBut _ _ D.i1z.symm hz₁)))
  have hk₅:∀ c o,c≠z->c≠TO->c≠i1->c≠i2->s.heap.get? c=some o->h₅.get? c=some o:=fun c o c1 c2 c3 c4 e =>
   hs₅.extBut _ _ c2 (hs₄.extBut _ _ c4 (hs₃.extBut _ _ c2 (hs₂.extBut _ _ c3 (hs₁.extBut _ _ c1 e))))
  have h1₅:It1 h₅ i1 l1 (k+1) xs:=h1₂.at (fun o e=>hs₅.extBut _ _ D.TOi1.symm (hs₄.extBut _ _ D.i12 (hs₃.extBut _ _ D.TOi1.symm e))) fun o e=>hs₅.extBut _ _ D.l1TO (hs₄.extBut _ _ D.l1i2 (hs₃.extBut _ _ D.l1TO e))
  have h2₅:It1 h₅ i2 l2 (k+1) ys:=h2₄.at (fun o e=>hs₅.extBut _ _ D.TOi2.symm e) fun o e=>hs₅.extBut _ _ D.l2TO e
  have hzlt:z < h₅.objs.size:=Heap.lt_size hz₅
  show wpAny _ _ (Builtin.SmallTypes.ownedTupleHandOut (.ref z) (.ref h₅.objs.size) >>= _) _ _ _
  refine wpAny_bind ?_
  unfold Builtin.SmallTypes.ownedTupleHandOut
  have hz₆:(h₅.push { cls:=.type "tuple",data:=.seq #[x,y] }).get? z=some (zobj TI TO .ellipsis f1):=Heap.get?_push_of_some _ hz₅
  refine wpAny_bind (wpAny_setField_rec hz₆ (by simp) fun h₇ hz₇ hs₇=>?_)
  replace hz₇:h₇.get? z=some (zobj TI TO (rawInt h₅.objs.size) f1):=hz₇
  refine wpAny_setField_rec hz₇ (by simp) fun h₈ hz₈ hs₈=>?_
  replace hz₈:h₈.get? z=some (zobj TI TO (rawInt h₅.objs.size) (.bool false)):=hz₈
  have up:∀ c o,c≠z->h₅.get? c=some o->h₈.get? c=some o:=fun c o c1 e=>hs₈.extBut _ _ c1 (hs₇.extBut _ _ c1 (Heap.get?_push_of_some _ e))
  have hT₈:IsPair h₈ h₅.objs.size x y:=hs₈.extBut _ _ (Nat.ne_of_gt hzlt) (hs₇.extBut _ _ (Nat.ne_of_gt hzlt) (Heap.get?_push_size _ rfl))
  refine wpAny_pure ⟨_,rfl,hQ h₈ h₅.objs.size ⟨⟨_,_,hz₈,.inr ⟨_,rfl⟩⟩,up _ _ D.TIz (hk₅ _ _ D.TIz D.TITO D.TIi1 D.TIi2 hTI),⟨_,_,up _ _ D.TOz hTO₅⟩,h1₅.at (fun o e=>up _ o D.i1z e) fun o e=>up _ o D.l1z e,h2₅.at (fun o e=>up _ o D.i2z e) fun o e=>up _ o D.l2z e⟩ hT₈ (by rw [hsz]; exact Nat.le_refl _) fun c o c1 c2 c3 c4 e=>up c o c1 (hk₅ c o c1 c2 c3 c4 e)⟩
 ·simp only [Bool.false_eq_true,if_false]
  refine wpAny_bind ?_
  simp only [List.forIn_toArray,List.forIn_cons,List.forIn_nil]
  refine wpAny_bind (wpAny_bind (wpAny_holding ?_))
  show wpAny _ _ (Builtin.SmallTypes.nextOf (.ref i1) >>= _) _ _ _
  refine wpAny_bind (It1.next (h1.at (fun o e=>hs₁.extBut _ _ D.i1z e) fun o e=>hs₁.extBut _ _ D.l1z e) hx fun h₂ h1₂ hs₂=>wpAny_pure (wpAny_pure ?_))
  refine wpAny_bind (wpAny_bind (wpAny_holding ?_))
  show wpAny _ _ (Builtin.SmallTypes.nextOf (.ref i2) >>= _) _ _ _
  refine wpAny_bind (It1.next (h2.at (fun o e=>hs₂.extBut _ _ D.i12.symm (hs₁.extBut _ _ D.i2z e)) fun o e=>hs₂.extBut _ _ D.l2i1 (hs₁.extBut _ _ D.l2z e)) hy fun h₃ h2₃ hs₃=>wpAny_pure (wpAny_pure (wpAny_pure ?_)))
  show wpAny _ _ (newTuple [x,y] >>= _) _ _ _
  refine wpAny_bind (wpAny_newTuple ?_)
  have hsz:h₃.objs.size=s.heap.objs.size:=by rw [hs₃.1,hs₂.1,hs₁.1]
  have kp:∀ c o,c≠z->c≠i1->c≠i2->s.heap.get? c=some o->(h₃.push { cls:=.type "tuple",data:=.seq #[x,y] }).get? c=some o:=fun c o c1 c2 c3 e=>Heap.get?_push_of_some _ (hs₃.extBut _ _ c3 (hs₂.extBut _ _ c2 (hs₁.extBut _ _ c1 e)))
  refine wpAny_pure ⟨_,rfl,hQ _ h₃.objs.size ⟨⟨f0,f1',Heap.get?_push_of_some _ (hs₃.extBut _ _ D.i2z.symm (hs₂.extBut _ _ D.i1z.symm hz₁)),hf⟩,kp _ _ D.TIz D.TIi1 D.TIi2 hTI,⟨_,_,kp _ _ D.TOz D.TOi1 D.TOi2 hTO⟩,?_,?_⟩ (Heap.get?_push_size _ rfl) (by rw [hsz]; exact Nat.le_refl _) fun c o c1 c2 c3 c4 e=>kp c o c1 c3 c4 e⟩
  ·exact h1₂.at (fun o e=>Heap.get?_push_of_some _ (hs₃.extBut _ _ D.i12 e)) fun o e=>Heap.get?_push_of_some _ (hs₃.extBut _ _ D.l1i2 e)
  ·exact h2₃.at (fun o e=>Heap.get?_push_of_some _ e) fun o e=>Heap.get?_push_of_some _ e
theorem lE {z TI TO i1 i2 l1 l2:Addr} {k:Nat} {xs ys:Array Value} {Q:Fin->Shared->Prop} (hh:A.handled=none) (D:Ap z TI TO i1 i2 l1 l2) (Z:Zs s.heap z TI TO i1 i2 l1 l2 k xs ys) (hend:xs[k]?=none\/ys[k]?=none)
  (hE:∀ h' e,(∀ c o,c≠z->c≠TO->c≠i1->c≠i2->s.heap.get? c=some o->h'.get? c=some o)->(∃ o,h'.get? e=some o/\o.cls=.type "StopIteration")->E (.ref e) { s with heap:=h' }) :
  wpAny (model prog w) A (Builtin.«zip.__next__» ⟨[.ref z],[]⟩) Q E s:=by
 obtain ⟨⟨f0,f1,hz,hf⟩,hTI,⟨a,b,hTO⟩,h1,h2⟩:=Z
 show wpAny _ _ (field (.ref z) 2 >>= _) _ _ _
 refine wpAny_bind (wpAny_field hz rfl (x:=.bool false) rfl ?_)
 show wpAny _ _ (field (.ref z) 3 >>= _) _ _ _
 refine wpAny_bind (wpAny_field hz rfl (x:=.ref TI) rfl ?_)
 refine wpAny_bind (wpAny_seqItems hTI rfl ?_)
 show wpAny _ _ (Builtin.SmallTypes.ownedTupleIsFree (.ref z) >>= _) _ _ _
 refine wpAny_bind (xH hz hf ?_ fun h₁ f1' hz₁ hs₁=>?_)
 ·simp only [if_true]
  refine wpAny_bind (wpAny_rule ?_)
  refine wpAny_bind (wpAny_field hz rfl (x:=.ref TO) rfl ?_)
  refine wpAny_bind (wpAny_setField_rec hz (by simp) fun h₁ hz₁ hs₁=>?_)
  replace hz₁:h₁.get? z=some (zobj TI TO .ellipsis f1):=hz₁
  refine wpAny_bind ?_
  simp only [List.zipIdx_cons,List.zipIdx_nil,List.forIn_cons,List.forIn_nil]
  refine wpAny_bind (wpAny_bind (wpAny_onRaise ?_))
  show wpAny _ _ (Builtin.SmallTypes.nextOf (.ref i1) >>= _) _ _ _
  have h1':=h1.at (h':=h₁) (fun o e=>hs₁.extBut _ _ D.i1z e) fun o e=>hs₁.extBut _ _ D.l1z e
  cases hx:xs[k]? with
  | none =>
   refine wpAny_bind (It1.stop hh h1' hx fun h₂ e hs₂ he=>?_)
   obtain ⟨oe,hoe,hce⟩:=he
   have hz₂:h₂.get? z=some (zobj TI TO .ellipsis f1):=hs₂ _ _ D.i1z.symm hz₁
   have hez:e≠z:=fun x=>by subst x; rw [hz₂] at hoe; cases hoe; simp at hce
   exact wpAny_setField_rec hz₂ (by simp) fun h₃ _ hs₃=>hE h₃ e (fun c o c1 _ c3 _ x=>hs₃.extBut _ _ c1 (hs₂ _ _ c3 (hs₁.extBut _ _ c1 x))) ⟨oe,hs₃.extBut _ _ hez hoe,hce⟩
  | some x =>
   have hy:ys[k]?=none:=by rcases hend with h | h; rw [hx] at h; cases h; exact h
   refine wpAny_bind (It1.next h1' hx fun h₂ h1₂ hs₂=>wpAny_pure ?_)
   have hTO₂:IsPair h₂ TO a b:=hs₂.extBut _ _ D.TOi1 (hs₁.extBut _ _ D.TOz hTO)
   refine wpAny_bind (wpAny_seqItems hTO₂ rfl ?_)
   refine wpAny_bind (wpAny_updateSeq_pair hTO₂ fun h₃ hTO₃ hs₃=>?_)
   refine wpAny_bind (wpAny_letGo (wpAny_pure ?_))
   refine wpAny_bind (wpAny_bind (wpAny_onRaise ?_))
   show wpAny _ _ (Builtin.SmallTypes.nextOf (.ref i2) >>= _) _ _ _
   refine wpAny_bind (It1.stop hh (h2.at (fun o e=>hs₃.extBut _ _ D.TOi2.symm (hs₂.extBut _ _ D.i12.symm (hs₁.extBut _ _ D.i2z e))) fun o e=>hs₃.extBut _ _ D.l2TO (hs₂.extBut _ _ D.l2i1 (hs₁.extBut _ _ D.l2z e))) hy fun h₄ e hs₄ he=>?_)
   obtain ⟨oe,hoe,hce⟩:=he
   have hz₄:h₄.get? z=some (zobj TI TO .ellipsis f1):=hs₄ _ _ D.i2z.symm (hs₃.extBut _ _ D.TOz.symm (hs₂.extBut _ _ D.i1z.symm hz₁))
   have hez:e≠z:=fun x=>by subst x; rw [hz₄] at hoe; cases hoe; simp at hce
   exact wpAny_setField_rec hz₄ (by simp) fun h₅ _ hs₅=>hE h₅ e (fun c o c1 c2 c3 c4 x=>hs₅.extBut _ _ c1 (hs₄ _ _ c4 (hs₃.extBut _ _ c2 (hs₂.extBut _ _ c3 (hs₁.extBut _ _ c1 x))))) ⟨oe,hs₅.extBut _ _ hez hoe,hce⟩
 ·simp only [Bool.false_eq_true,if_false]
  refine wpAny_bind ?_
  simp only [List.forIn_toArray,List.forIn_cons,List.forIn_nil]
  refine wpAny_bind (wpAny_bind (wpAny_holding ?_))
  show wpAny _ _ (Builtin.SmallTypes.nextOf (.ref i1) >>= _) _ _ _
  have h1':=h1.at (h':=h₁) (fun o e=>hs₁.extBut _ _ D.i1z e) fun o e=>hs₁.extBut _ _ D.l1z e
  cases hx:xs[k]? with
  | none=>exact wpAny_bind (It1.stop hh h1' hx fun h₂ e hs₂ he=>hE h₂ e (fun c o c1 _ c3 _ x=>hs₂ _ _ c3 (hs₁.extBut _ _ c1 x)) he)
  | some x =>
   have hy:ys[k]?=none:=by rcases hend with h | h; rw [hx] at h; cases h; exact h
   refine wpAny_bind (It1.next h1' hx fun h₂ h1₂ hs₂=>wpAny_pure (wpAny_pure ?_))
   refine wpAny_bind (wpAny_bind (wpAny_holding ?_))
   show wpAny _ _ (Builtin.SmallTypes.nextOf (.ref i2) >>= _) _ _ _
   exact wpAny_bind (It1.stop hh (h2.at (fun o e=>hs₂.extBut _ _ D.i12.symm (hs₁.extBut _ _ D.i2z e)) fun o e=>hs₂.extBut _ _ D.l2i1 (hs₁.extBut _ _ D.l2z e)) hy fun h₃ e hs₃ he=>hE h₃ e (fun c o c1 _ c3 c4 x=>hs₃ _ _ c4 (hs₂.extBut _ _ c3 (hs₁.extBut _ _ c1 x))) he)
end
theorem walksZip {prog:Program} {w:World} {A:Around} (hh:A.handled=none) (z TI TO i1 i2 l1 l2:Addr) (D:Ap z TI TO i1 i2 l1 l2) (xs ys:Array Value) :
  WalksS prog w A z [z,TI,TO,i1,i2,l1,l2] [z,TO,i1,i2] (fun a b=>b=a) (min xs.size ys.size) (fun i v=>True)
   (fun i s=>Zs s.heap z TI TO i1 i2 l1 l2 i xs ys) where
 sub:=fun c hc=>by simp at hc ⊢; rcases hc with rfl | rfl | rfl | rfl <;> simp
 grefl:=fun _=>rfl
 gtrans:=fun _ _ _ h1 h2=>h2.trans h1
 frame:=fun i s h' tk st _ hk=>by
  obtain ⟨⟨f0,f1,hz,hf⟩,hTI,⟨a,b,hTO⟩,h1,h2⟩:=st
  exact ⟨⟨f0,f1,hk z (by simp) _ hz,hf⟩,hk TI (by simp) _ hTI,⟨a,b,hk TO (by simp) _ hTO⟩,h1.at (fun o e=>hk i1 (by simp) o e) fun o e=>hk l1 (by simp) o e,h2.at (fun o e=>hk i2 (by simp) o e) fun o e=>hk l2 (by simp) o e⟩
 item:=fun i s Q E hi st hQ=>by
  have hT:s.TypeIs (.ref z) "zip":=let ⟨f0,f1,hz,_⟩:=st.z; ⟨_,hz,rfl⟩
  have hix:i < xs.size:=Nat.lt_of_lt_of_le hi (Nat.min_le_left ..)
  have hiy:i < ys.size:=Nat.lt_of_lt_of_le hi (Nat.min_le_right ..)
  unfold pyNext
  refine wpAny_bind (wpAny_attempt (wpAny_callSpecial?_slot (name:=Str.ofString "__next__") hT F.slot_zip_next
   (wpAny_call_entry F.slot_zip_next hT F.entry_zip_next
    (jA D st (Array.getElem?_eq_getElem hix) (Array.getElem?_eq_getElem hiy) fun h' T z' p' n' k'=>wpAny_pure (hQ _ _ trivial z' ⟨fun b o hb e=>k' b o (fun x=>hb (by simp [x])) (fun x=>hb (by simp [x])) (fun x=>hb (by simp [x])) (fun x=>hb (by simp [x])) e,rfl,rfl,rfl,Nat.le_refl _⟩)) (F.args_zip_next_1 _))))
 done:=fun s Q E st hQ=>by
  have hT:s.TypeIs (.ref z) "zip":=let ⟨f0,f1,hz,_⟩:=st.z; ⟨_,hz,rfl⟩
  have hend:xs[min xs.size ys.size]?=none\/ys[min xs.size ys.size]?=none:=by
   rcases Nat.le_total xs.size ys.size with h | h
   ·exact .inl (by rw [Nat.min_eq_left h]; simp)
   ·exact .inr (by rw [Nat.min_eq_right h]; simp)
  unfold pyNext
  refine wpAny_bind (wpAny_attempt (wpAny_callSpecial?_slot (name:=Str.ofString "__next__") hT F.slot_zip_next
   (wpAny_call_entry F.slot_zip_next hT F.entry_zip_next (lE hh D st hend fun h' e hk he=>?_) (F.args_zip_next_1 _))))
  obtain ⟨o,ho,hc⟩:=he
  refine wpAny_bind (wpAny_isInstance (T:="StopIteration") (b:=true) ⟨o,ho,hc⟩ isSubtype_stop ?_)
  exact wpAny_pure (hQ _ ⟨fun b o hb e=>hk b o (fun x=>hb (by simp [x])) (fun x=>hb (by simp [x])) (fun x=>hb (by simp [x])) (fun x=>hb (by simp [x])) e,rfl,rfl,rfl,Nat.le_refl _⟩)
 self:=fun i s Q E st hQ=>by
  obtain ⟨f0,f1,hz,_⟩:=st.z
  have hT:s.TypeIs (.ref z) "zip":=⟨_,hz,rfl⟩
  refine wpAny_pyIter_slot hT F.slot_zip_iter (wpAny_call_entry F.slot_zip_iter hT F.entry_zip_iter ?_ (F.args_zip_iter_1 _))
  show wpAny _ _ (ret (.ref z)) _ _ s
  exact wpAny_pure ⟨_,rfl,"zip",_,hT,F.slot_zip_next.lookup,hQ⟩
end ZP
namespace ZP
open PySem PySem.Spec PyProof.Rows
section
variable {prog:Program} {w:World} {A:Around} {E:Value->Shared->Prop} {s:Shared}
noncomputable abbrev zH1LL (h:Heap) (l1:Addr):Heap:=h.push { cls:=.type "list_iterator",data:=.fields #[.ref l1,.int 0 0] }
noncomputable abbrev zH2LL (h:Heap) (l1 l2:Addr):Heap:=(zH1LL h l1).push { cls:=.type "list_iterator",data:=.fields #[.ref l2,.int 0 0] }
noncomputable abbrev zH3LL (h:Heap) (l1 l2:Addr):Heap:=(zH2LL h l1 l2).push { cls:=.type "tuple",data:=.seq #[.ref h.objs.size,.ref (zH1LL h l1).objs.size] }
noncomputable abbrev zH4LL (h:Heap) (l1 l2:Addr):Heap:=(zH3LL h l1 l2).push { cls:=.type "tuple",data:=.seq #[.none,.none] }
noncomputable abbrev zH5LL (h:Heap) (l1 l2:Addr):Heap:=(zH4LL h l1 l2).push { cls:=.type "zip",data:=.fields #[.none,.bool false,.bool false,.ref (zH2LL h l1 l2).objs.size,.ref (zH3LL h l1 l2).objs.size] }
theorem uA (l1 l2:Addr) (xs ys:Array Value) :
  Meets (Builtin.«zip.__new__» ⟨[.type "zip",.ref l1,.ref l2],[]⟩) (fun _ R s=>s.heap.IsList l1 xs/\s.heap.IsList l2 ys /\
   R (.ok (.ret (.ref (zH4LL s.heap l1 l2).objs.size))) { s with heap:=zH5LL s.heap l1 l2 }) :=
 .of_wp fun prog w A R s h=>by
  obtain ⟨hp,g,d,tk,os⟩:=s; obtain ⟨hl1,hl2,h⟩:=h
  have hsub:=sub_zip
  have hL1:Heap.IsList (Shared.heap ⟨hp,g,d,tk,os⟩) l1 xs:=hl1
  have hL2:Heap.IsList (Shared.heap ⟨hp.push { cls:=.type "list_iterator",data:=.fields #[.ref l1,.int 0 0] },g,d,tk,os⟩) l2 ys:=by
   obtain ⟨o,ho,r⟩:=hl2
   exact ⟨o,Heap.get?_push_of_some _ ho,r⟩
  wp_walk using wpAny_pyIter_list hL1,wpAny_pyIter_list hL2
  exact ⟨_,rfl,h⟩
theorem vE {l1 l2:Addr} {xs ys:Array Value} {Q:Value->Shared->Prop} (hl1:s.heap.IsList l1 xs) (hl2:s.heap.IsList l2 ys)
  (h:∀ h',Zs h' (s.heap.objs.size+4) (s.heap.objs.size+2) (s.heap.objs.size+3) s.heap.objs.size (s.heap.objs.size+1) l1 l2 0 xs ys->h'.objs.size=s.heap.objs.size+5 ->
   (∀ c o,s.heap.get? c=some o->h'.get? c=some o)->Q (.ref (s.heap.objs.size+4)) { s with heap:=h' }) :
  wpAny (model prog w) A (call (.type "zip") [.ref l1,.ref l2]) Q E s:=by
 refine callType_new F.called_zip (by decide) (F.typeCall_zip_2 _ _) (F.newCall_zip_2 _ _) (fun obj=>F.args_object_init_3 obj _ _) F.entry_zip_new
  (uA l1 l2 xs ys) ⟨hl1,hl2,?_⟩
 have z1:(zH1LL s.heap l1).objs.size=s.heap.objs.size+1:=Heap.size_push ..
 have z2:(zH2LL s.heap l1 l2).objs.size=s.heap.objs.size+2:=by rw [Heap.size_push,z1]
 have z3:(zH3LL s.heap l1 l2).objs.size=s.heap.objs.size+3:=by rw [Heap.size_push,z2]
 have z4:(zH4LL s.heap l1 l2).objs.size=s.heap.objs.size+4:=by rw [Heap.size_push,z3]
 have z5:(zH5LL s.heap l1 l2).objs.size=s.heap.objs.size+5:=by rw [Heap.size_push,z4]
 have g5:(zH5LL s.heap l1 l2).get? (zH4LL s.heap l1 l2).objs.size=some _:=Heap.get?_push_size _ rfl
 have g4:(zH5LL s.heap l1 l2).get? (zH3LL s.heap l1 l2).objs.size=some _:=Heap.get?_push_of_some _ (Heap.get?_push_size _ rfl)
 have g3:(zH5LL s.heap l1 l2).get? (zH2LL s.heap l1 l2).objs.size=some _:=Heap.get?_push_of_some _ (Heap.get?_push_of_some _ (Heap.get?_push_size _ rfl))
 have g2:(zH5LL s.heap l1 l2).get? (zH1LL s.heap l1).objs.size=some _:=Heap.get?_push_of_some _ (Heap.get?_push_of_some _ (Heap.get?_push_of_some _ (Heap.get?_push_size _ rfl)))
 have g1:(zH5LL s.heap l1 l2).get? s.heap.objs.size=some _:=Heap.get?_push_of_some _ (Heap.get?_push_of_some _ (Heap.get?_push_of_some _ (Heap.get?_push_of_some _ (Heap.get?_push_size _ rfl))))
 have kp:∀ c o,s.heap.get? c=some o->(zH5LL s.heap l1 l2).get? c=some o:=fun c o x =>
  Heap.get?_push_of_some _ (Heap.get?_push_of_some _ (Heap.get?_push_of_some _ (Heap.get?_push_of_some _ (Heap.get?_push_of_some _ x))))
 show _/\_
 rw [z2,z3,z4] at g5
 rw [z1,z2] at g3
 rw [z3] at g4
 rw [z1] at g2
 rw [z4]
 refine ⟨⟨_,g5,rfl⟩,h _ ⟨⟨_,_,g5,.inl rfl⟩,g3,⟨_,_,g4⟩,.inl ⟨⟨_,g1,rfl,rfl⟩,?_⟩,.inl ⟨⟨_,g2,rfl,rfl⟩,?_⟩⟩ z5 kp⟩
 ·obtain ⟨o,ho,r⟩:=hl1; exact ⟨o,kp _ _ ho,r⟩
 ·obtain ⟨o,ho,r⟩:=hl2; exact ⟨o,kp _ _ ho,r⟩
noncomputable abbrev zH1LT (h:Heap) (l1:Addr):Heap:=h.push { cls:=.type "list_iterator",data:=.fields #[.ref l1,.int 0 0] }
noncomputable abbrev zH2LT (h:Heap) (l1 l2:Addr):Heap:=(zH1LT h l1).push { cls:=.type "tuple_iterator",data:=.fields #[.ref l2,.int 0 0] }
noncomputable abbrev zH3LT (h:Heap) (l1 l2:Addr):Heap:=(zH2LT h l1 l2).push { cls:=.type "tuple",data:=.seq #[.ref h.objs.size,.ref (zH1LT h l1).objs.size] }
noncomputable abbrev zH4LT (h:Heap) (l1 l2:Addr):Heap:=(zH3LT h l1 l2).push { cls:=.type "tuple",data:=.seq #[.none,.none] }
noncomputable abbrev zH5LT (h:Heap) (l1 l2:Addr):Heap:=(zH4LT h l1 l2).push { cls:=.type "zip",data:=.fields #[.none,.bool false,.bool false,.ref (zH2LT h l1 l2).objs.size,.ref (zH3LT h l1 l2).objs.size] }
theorem tT (l1 l2:Addr) (xs ys:Array Value) :
  Meets (Builtin.«zip.__new__» ⟨[.type "zip",.ref l1,.ref l2],[]⟩) (fun _ R s=>s.heap.IsList l1 xs/\s.heap.IsTuple l2 ys /\
   R (.ok (.ret (.ref (zH4LT s.heap l1 l2).objs.size))) { s with heap:=zH5LT s.heap l1 l2 }) :=
 .of_wp fun prog w A R s h=>by
  obtain ⟨hp,g,d,tk,os⟩:=s; obtain ⟨hl1,hl2,h⟩:=h
  have hsub:=sub_zip
  have hL1:Heap.IsList (Shared.heap ⟨hp,g,d,tk,os⟩) l1 xs:=hl1
  have hL2:Heap.IsTuple (Shared.heap ⟨hp.push { cls:=.type "list_iterator",data:=.fields #[.ref l1,.int 0 0] },g,d,tk,os⟩) l2 ys:=by
   obtain ⟨o,ho,r⟩:=hl2
   exact ⟨o,Heap.get?_push_of_some _ ho,r⟩
  wp_walk using wpAny_pyIter_list hL1,wpAny_pyIter_tuple hL2
  exact ⟨_,rfl,h⟩
theorem wO {l1 l2:Addr} {xs ys:Array Value} {Q:Value->Shared->Prop} (hl1:s.heap.IsList l1 xs) (hl2:s.heap.IsTuple l2 ys)
  (h:∀ h',Zs h' (s.heap.objs.size+4) (s.heap.objs.size+2) (s.heap.objs.size+3) s.heap.objs.size (s.heap.objs.size+1) l1 l2 0 xs ys->h'.objs.size=s.heap.objs.size+5 ->
   (∀ c o,s.heap.get? c=some o->h'.get? c=some o)->Q (.ref (s.heap.objs.size+4)) { s with heap:=h' }) :
  wpAny (model prog w) A (call (.type "zip") [.ref l1,.ref l2]) Q E s:=by
 refine callType_new F.called_zip (by decide) (F.typeCall_zip_2 _ _) (F.newCall_zip_2 _ _) (fun obj=>F.args_object_init_3 obj _ _) F.entry_zip_new
  (tT l1 l2 xs ys) ⟨hl1,hl2,?_⟩
 have z1:(zH1LT s.heap l1).objs.size=s.heap.objs.size+1:=Heap.size_push ..
 have z2:(zH2LT s.heap l1 l2).objs.size=s.heap.objs.size+2:=by rw [Heap.size_push,z1]
 have z3:(zH3LT s.heap l1 l2).objs.size=s.heap.objs.size+3:=by rw [Heap.size_push,z2]
 have z4:(zH4LT s.heap l1 l2).objs.size=s.heap.objs.size+4:=by rw [Heap.size_push,z3]
 have z5:(zH5LT s.heap l1 l2).objs.size=s.heap.objs.size+5:=by rw [Heap.size_push,z4]
 have g5:(zH5LT s.heap l1 l2).get? (zH4LT s.heap l1 l2).objs.size=some _:=Heap.get?_push_size _ rfl
 have g4:(zH5LT s.heap l1 l2).get? (zH3LT s.heap l1 l2).objs.size=some _:=Heap.get?_push_of_some _ (Heap.get?_push_size _ rfl)
 have g3:(zH5LT s.heap l1 l2).get? (zH2LT s.heap l1 l2).objs.size=some _:=Heap.get?_push_of_some _ (Heap.get?_push_of_some _ (Heap.get?_push_size _ rfl))
 have g2:(zH5LT s.heap l1 l2).get? (zH1LT s.heap l1).objs.size=some _:=Heap.get?_push_of_some _ (Heap.get?_push_of_some _ (Heap.get?_push_of_some _ (Heap.get?_push_size _ rfl)))
 have g1:(zH5LT s.heap l1 l2).get? s.heap.objs.size=some _:=Heap.get?_push_of_some _ (Heap.get?_push_of_some _ (Heap.get?_push_of_some _ (Heap.get?_push_of_some _ (Heap.get?_push_size _ rfl))))
 have kp:∀ c o,s.heap.get? c=some o->(zH5LT s.heap l1 l2).get? c=some o:=fun c o x =>
  Heap.get?_push_of_some _ (Heap.get?_push_of_some _ (Heap.get?_push_of_some _ (Heap.get?_push_of_some _ (Heap.get?_push_of_some _ x))))
 show _/\_
 rw [z2,z3,z4] at g5
 rw [z1,z2] at g3
 rw [z3] at g4
 rw [z1] at g2
 rw [z4]
 refine ⟨⟨_,g5,rfl⟩,h _ ⟨⟨_,_,g5,.inl rfl⟩,g3,⟨_,_,g4⟩,.inl ⟨⟨_,g1,rfl,rfl⟩,?_⟩,.inr ⟨⟨_,g2,rfl,rfl⟩,?_⟩⟩ z5 kp⟩
 ·obtain ⟨o,ho,r⟩:=hl1; exact ⟨o,kp _ _ ho,r⟩
 ·obtain ⟨o,ho,r⟩:=hl2; exact ⟨o,kp _ _ ho,r⟩
noncomputable abbrev zH1TL (h:Heap) (l1:Addr):Heap:=h.push { cls:=.type "tuple_iterator",data:=.fields #[.ref l1,.int 0 0] }
noncomputable abbrev zH2TL (h:Heap) (l1 l2:Addr):Heap:=(zH1TL h l1).push { cls:=.type "list_iterator",data:=.fields #[.ref l2,.int 0 0] }
noncomputable abbrev zH3TL (h:Heap) (l1 l2:Addr):Heap:=(zH2TL h l1 l2).push { cls:=.type "tuple",data:=.seq #[.ref h.objs.size,.ref (zH1TL h l1).objs.size] }
noncomputable abbrev zH4TL (h:Heap) (l1 l2:Addr):Heap:=(zH3TL h l1 l2).push { cls:=.type "tuple",data:=.seq #[.none,.none] }
noncomputable abbrev zH5TL (h:Heap) (l1 l2:Addr):Heap:=(zH4TL h l1 l2).push { cls:=.type "zip",data:=.fields #[.none,.bool false,.bool false,.ref (zH2TL h l1 l2).objs.size,.ref (zH3TL h l1 l2).objs.size] }
theorem uO (l1 l2:Addr) (xs ys:Array Value) :
  Meets (Builtin.«zip.__new__» ⟨[.type "zip",.ref l1,.ref l2],[]⟩) (fun _ R s=>s.heap.IsTuple l1 xs/\s.heap.IsList l2 ys /\
   R (.ok (.ret (.ref (zH4TL s.heap l1 l2).objs.size))) { s with heap:=zH5TL s.heap l1 l2 }) :=
 .of_wp fun prog w A R s h=>by
  obtain ⟨hp,g,d,tk,os⟩:=s; obtain ⟨hl1,hl2,h⟩:=h
  have hsub:=sub_zip
  have hL1:Heap.IsTuple (Shared.heap ⟨hp,g,d,tk,os⟩) l1 xs:=hl1
  have hL2:Heap.IsList (Shared.heap ⟨hp.push { cls:=.type "tuple_iterator",data:=.fields #[.ref l1,.int 0 0] },g,d,tk,os⟩) l2 ys:=by
   obtain ⟨o,ho,r⟩:=hl2
   exact ⟨o,Heap.get?_push_of_some _ ho,r⟩
  wp_walk using wpAny_pyIter_tuple hL1,wpAny_pyIter_list hL2
  exact ⟨_,rfl,h⟩
theorem wM {l1 l2:Addr} {xs ys:Array Value} {Q:Value->Shared->Prop} (hl1:s.heap.IsTuple l1 xs) (hl2:s.heap.IsList l2 ys)
  (h:∀ h',Zs h' (s.heap.objs.size+4) (s.heap.objs.size+2) (s.heap.objs.size+3) s.heap.objs.size (s.heap.objs.size+1) l1 l2 0 xs ys->h'.objs.size=s.heap.objs.size+5 ->
   (∀ c o,s.heap.get? c=some o->h'.get? c=some o)->Q (.ref (s.heap.objs.size+4)) { s with heap:=h' }) :
  wpAny (model prog w) A (call (.type "zip") [.ref l1,.ref l2]) Q E s:=by
 refine callType_new F.called_zip (by decide) (F.typeCall_zip_2 _ _) (F.newCall_zip_2 _ _) (fun obj=>F.args_object_init_3 obj _ _) F.entry_zip_new
  (uO l1 l2 xs ys) ⟨hl1,hl2,?_⟩
 have z1:(zH1TL s.heap l1).objs.size=s.heap.objs.size+1:=Heap.size_push ..
 have z2:(zH2TL s.heap l1 l2).objs.size=s.heap.objs.size+2:=by rw [Heap.size_push,z1]
 have z3:(zH3TL s.heap l1 l2).objs.size=s.heap.objs.size+3:=by rw [Heap.size_push,z2]
 have z4:(zH4TL s.heap l1 l2).objs.size=s.heap.objs.size+4:=by rw [Heap.size_push,z3]
 have z5:(zH5TL s.heap l1 l2).objs.size=s.heap.objs.size+5:=by rw [Heap.size_push,z4]
 have g5:(zH5TL s.heap l1 l2).get? (zH4TL s.heap l1 l2).objs.size=some _:=Heap.get?_push_size _ rfl
 have g4:(zH5TL s.heap l1 l2).get? (zH3TL s.heap l1 l2).objs.size=some _:=Heap.get?_push_of_some _ (Heap.get?_push_size _ rfl)
 have g3:(zH5TL s.heap l1 l2).get? (zH2TL s.heap l1 l2).objs.size=some _:=Heap.get?_push_of_some _ (Heap.get?_push_of_some _ (Heap.get?_push_size _ rfl))
 have g2:(zH5TL s.heap l1 l2).get? (zH1TL s.heap l1).objs.size=some _:=Heap.get?_push_of_some _ (Heap.get?_push_of_some _ (Heap.get?_push_of_some _ (Heap.get?_push_size _ rfl)))
 have g1:(zH5TL s.heap l1 l2).get? s.heap.objs.size=some _:=Heap.get?_push_of_some _ (Heap.get?_push_of_some _ (Heap.get?_push_of_some _ (Heap.get?_push_of_some _ (Heap.get?_push_size _ rfl))))
 have kp:∀ c o,s.heap.get? c=some o->(zH5TL s.heap l1 l2).get? c=some o:=fun c o x =>
  Heap.get?_push_of_some _ (Heap.get?_push_of_some _ (Heap.get?_push_of_some _ (Heap.get?_push_of_some _ (Heap.get?_push_of_some _ x))))
 show _/\_
 rw [z2,z3,z4] at g5
 rw [z1,z2] at g3
 rw [z3] at g4
 rw [z1] at g2
 rw [z4]
 refine ⟨⟨_,g5,rfl⟩,h _ ⟨⟨_,_,g5,.inl rfl⟩,g3,⟨_,_,g4⟩,.inr ⟨⟨_,g1,rfl,rfl⟩,?_⟩,.inl ⟨⟨_,g2,rfl,rfl⟩,?_⟩⟩ z5 kp⟩
 ·obtain ⟨o,ho,r⟩:=hl1; exact ⟨o,kp _ _ ho,r⟩
 ·obtain ⟨o,ho,r⟩:=hl2; exact ⟨o,kp _ _ ho,r⟩
noncomputable abbrev zH1TT (h:Heap) (l1:Addr):Heap:=h.push { cls:=.type "tuple_iterator",data:=.fields #[.ref l1,.int 0 0] }
noncomputable abbrev zH2TT (h:Heap) (l1 l2:Addr):Heap:=(zH1TT h l1).push { cls:=.type "tuple_iterator",data:=.fields #[.ref l2,.int 0 0] }
noncomputable abbrev zH3TT (h:Heap) (l1 l2:Addr):Heap:=(zH2TT h l1 l2).push { cls:=.type "tuple",data:=.seq #[.ref h.objs.size,.ref (zH1TT h l1).objs.size] }
noncomputable abbrev zH4TT (h:Heap) (l1 l2:Addr):Heap:=(zH3TT h l1 l2).push { cls:=.type "tuple",data:=.seq #[.none,.none] }
noncomputable abbrev zH5TT (h:Heap) (l1 l2:Addr):Heap:=(zH4TT h l1 l2).push { cls:=.type "zip",data:=.fields #[.none,.bool false,.bool false,.ref (zH2TT h l1 l2).objs.size,.ref (zH3TT h l1 l2).objs.size] }
theorem uH (l1 l2:Addr) (xs ys:Array Value) :
  Meets (Builtin.«zip.__new__» ⟨[.type "zip",.ref l1,.ref l2],[]⟩) (fun _ R s=>s.heap.IsTuple l1 xs/\s.heap.IsTuple l2 ys /\
   R (.ok (.ret (.ref (zH4TT s.heap l1 l2).objs.size))) { s with heap:=zH5TT s.heap l1 l2 }) :=
 .of_wp fun prog w A R s h=>by
  obtain ⟨hp,g,d,tk,os⟩:=s; obtain ⟨hl1,hl2,h⟩:=h
  have hsub:=sub_zip
  have hL1:Heap.IsTuple (Shared.heap ⟨hp,g,d,tk,os⟩) l1 xs:=hl1
  have hL2:Heap.IsTuple (Shared.heap ⟨hp.push { cls:=.type "tuple_iterator",data:=.fields #[.ref l1,.int 0 0] },g,d,tk,os⟩) l2 ys:=by
   obtain ⟨o,ho,r⟩:=hl2
   exact ⟨o,Heap.get?_push_of_some _ ho,r⟩
  wp_walk using wpAny_pyIter_tuple hL1,wpAny_pyIter_tuple hL2
  exact ⟨_,rfl,h⟩
theorem wQ {l1 l2:Addr} {xs ys:Array Value} {Q:Value->Shared->Prop} (hl1:s.heap.IsTuple l1 xs) (hl2:s.heap.IsTuple l2 ys)
  (h:∀ h',Zs h' (s.heap.objs.size+4) (s.heap.objs.size+2) (s.heap.objs.size+3) s.heap.objs.size (s.heap.objs.size+1) l1 l2 0 xs ys->h'.objs.size=s.heap.objs.size+5 ->
   (∀ c o,s.heap.get? c=some o->h'.get? c=some o)->Q (.ref (s.heap.objs.size+4)) { s with heap:=h' }) :
  wpAny (model prog w) A (call (.type "zip") [.ref l1,.ref l2]) Q E s:=by
 refine callType_new F.called_zip (by decide) (F.typeCall_zip_2 _ _) (F.newCall_zip_2 _ _) (fun obj=>F.args_object_init_3 obj _ _) F.entry_zip_new
  (uH l1 l2 xs ys) ⟨hl1,hl2,?_⟩
 have z1:(zH1TT s.heap l1).objs.size=s.heap.objs.size+1:=Heap.size_push ..
 have z2:(zH2TT s.heap l1 l2).objs.size=s.heap.objs.size+2:=by rw [Heap.size_push,z1]
 have z3:(zH3TT s.heap l1 l2).objs.size=s.heap.objs.size+3:=by rw [Heap.size_push,z2]
 have z4:(zH4TT s.heap l1 l2).objs.size=s.heap.objs.size+4:=by rw [Heap.size_push,z3]
 have z5:(zH5TT s.heap l1 l2).objs.size=s.heap.objs.size+5:=by rw [Heap.size_push,z4]
 have g5:(zH5TT s.heap l1 l2).get? (zH4TT s.heap l1 l2).objs.size=some _:=Heap.get?_push_size _ rfl
 have g4:(zH5TT s.heap l1 l2).get? (zH3TT s.heap l1 l2).objs.size=some _:=Heap.get?_push_of_some _ (Heap.get?_push_size _ rfl)
 have g3:(zH5TT s.heap l1 l2).get? (zH2TT s.heap l1 l2).objs.size=some _:=Heap.get?_push_of_some _ (Heap.get?_push_of_some _ (Heap.get?_push_size _ rfl))
 have g2:(zH5TT s.heap l1 l2).get? (zH1TT s.heap l1).objs.size=some _:=Heap.get?_push_of_some _ (Heap.get?_push_of_some _ (Heap.get?_push_of_some _ (Heap.get?_push_size _ rfl)))
 have g1:(zH5TT s.heap l1 l2).get? s.heap.objs.size=some _:=Heap.get?_push_of_some _ (Heap.get?_push_of_some _ (Heap.get?_push_of_some _ (Heap.get?_push_of_some _ (Heap.get?_push_size _ rfl))))
 have kp:∀ c o,s.heap.get? c=some o->(zH5TT s.heap l1 l2).get? c=some o:=fun c o x =>
  Heap.get?_push_of_some _ (Heap.get?_push_of_some _ (Heap.get?_push_of_some _ (Heap.get?_push_of_some _ (Heap.get?_push_of_some _ x))))
 show _/\_
 rw [z2,z3,z4] at g5
 rw [z1,z2] at g3
 rw [z3] at g4
 rw [z1] at g2
 rw [z4]
 refine ⟨⟨_,g5,rfl⟩,h _ ⟨⟨_,_,g5,.inl rfl⟩,g3,⟨_,_,g4⟩,.inr ⟨⟨_,g1,rfl,rfl⟩,?_⟩,.inr ⟨⟨_,g2,rfl,rfl⟩,?_⟩⟩ z5 kp⟩
 ·obtain ⟨o,ho,r⟩:=hl1; exact ⟨o,kp _ _ ho,r⟩
 ·obtain ⟨o,ho,r⟩:=hl2; exact ⟨o,kp _ _ ho,r⟩
theorem call_zipG {l1 l2:Addr} {xs ys:Array Value} {Q:Value->Shared->Prop} (h1:s.heap.IsList l1 xs\/s.heap.IsTuple l1 xs) (h2:s.heap.IsList l2 ys\/s.heap.IsTuple l2 ys)
  (h:∀ h',Zs h' (s.heap.objs.size+4) (s.heap.objs.size+2) (s.heap.objs.size+3) s.heap.objs.size (s.heap.objs.size+1) l1 l2 0 xs ys->h'.objs.size=s.heap.objs.size+5 ->
   (∀ c o,s.heap.get? c=some o->h'.get? c=some o)->Q (.ref (s.heap.objs.size+4)) { s with heap:=h' }) :
  wpAny (model prog w) A (call (.type "zip") [.ref l1,.ref l2]) Q E s:=by
 rcases h1 with h1 | h1 <;> rcases h2 with h2 | h2
 ·exact vE h1 h2 h
 ·exact wO h1 h2 h
 ·exact wM h1 h2 h
 ·exact wQ h1 h2 h
end
end ZP
namespace ZP
open PySem PySem.Spec PyProof.Rows
theorem vC:typeLookup (.type "zip") "__len__"=pure none:=by rw [typeLookup_type,builtinLookup_eq_fast]; kernel_rfl
theorem tJ:typeLookup (.type "zip") "__length_hint__"=pure none:=by rw [typeLookup_type,builtinLookup_eq_fast]; kernel_rfl
noncomputable def Prs (h:Heap) (z TO i1 i2 S:Addr) (acc:Array Value) (i:Nat) (xs ys:Array Value):Prop :=
 acc.size=i/\∀ j (hj:j < i),∃ T x y,acc[j]?=some (.ref T)/\xs[j]?=some x/\ys[j]?=some y/\IsPair h T x y/\T≠z/\T≠TO/\T≠i1/\T≠i2/\T≠S
section
variable {prog:Program} {w:World} {A:Around} {R:Result->Shared->Prop}
theorem aBi (hh:A.handled=none) {z TI TO i1 i2 l1 l2:Addr} (D:Ap z TI TO i1 i2 l1 l2) {xs ys:Array Value} {n:Nat} (hn:n=min xs.size ys.size) (hsz:n<=sizeLine) (S:Addr) (hSf:S∉[z,TI,TO,i1,i2,l1,l2]) (res:Value) :
  ∀ (k i:Nat) (s:Shared) (acc:Array Value) (c N0:Nat),n - i=k->i<=n->N0<=s.heap.objs.size->Zs s.heap z TI TO i1 i2 l1 l2 i xs ys->s.heap.get? S=some { cls:=.type "list",dict:=none,data:=.seq acc c,slots:=#[] }->Prs s.heap z TO i1 i2 S acc i xs ys ->
  (∀ (j:Nat) (v:Value),acc[j]?=some v->∃ T:Addr,v=Value.ref T/\N0<=T) ->
  (∀ h' acc' c',(∀ b o,b≠S->b≠z->b≠TO->b≠i1->b≠i2->s.heap.get? b=some o->h'.get? b=some o)->h'.get? S=some { cls:=.type "list",dict:=none,data:=.seq acc' c',slots:=#[] }->Prs h' z TO i1 i2 S acc' n xs ys ->
   (∀ (j:Nat) (v:Value),acc'[j]?=some v->∃ T:Addr,v=Value.ref T/\N0<=T)->R (.ok (.ret res)) { s with heap:=h' }) ->
  codeAny (model prog w) A (.builtin "list.extend.loop" ⟨[.ref S,.ref z,res],[]⟩) R s:=by
 simp only [List.mem_cons,List.not_mem_nil,or_false,not_or] at hSf
 obtain ⟨sz,sTI,sTO,s1,s2,sl1,sl2⟩:=hSf
 intro k
 induction k with
 | zero =>
  intro i s acc c N0 hk hi _ hst hS hacc hN hR
  have hin:i=n:=by omega
  subst hin
  refine codeAny_builtin F.entry_extend_loop ?_
  rw [Around.under_plainId F.plain_extend_loop _]
  show wpAny _ A.in1 (pyNext (.ref z) >>= _) _ _ s
  have hT:s.TypeIs (.ref z) "zip":=let ⟨f0,f1,hz,_⟩:=hst.z; ⟨_,hz,rfl⟩
  have hend:xs[i]?=none\/ys[i]?=none:=by
   rcases Nat.le_total xs.size ys.size with h | h
   ·exact .inl (by rw [hn,Nat.min_eq_left h]; simp)
   ·exact .inr (by rw [hn,Nat.min_eq_right h]; simp)
  refine wpAny_bind ?_
  unfold pyNext
  refine wpAny_bind (wpAny_attempt (wpAny_callSpecial?_slot (name:=Str.ofString "__next__") hT F.slot_zip_next
   (wpAny_call_entry F.slot_zip_next hT F.entry_zip_next (lE (A:=A.in1.in1) hh D hst hend fun h' e hk he=>?_) (F.args_zip_next_1 _))))
  obtain ⟨o,ho,hc⟩:=he
  refine wpAny_bind (wpAny_isInstance (T:="StopIteration") (b:=true) ⟨o,ho,hc⟩ isSubtype_stop ?_)
  refine wpAny_pure (wpAny_pure (hR h' acc c (fun b o b0 b1 b2 b3 b4 e=>hk b o b1 b2 b3 b4 e) (hk S _ sz sTO s1 s2 hS) ⟨hacc.1,fun j hj=>?_⟩ hN))
  obtain ⟨T,x,y,e1,e2,e3,e4,n1,n2,n3,n4,n5⟩:=hacc.2 j hj
  exact ⟨T,x,y,e1,e2,e3,hk T _ n1 n2 n3 n4 e4,n1,n2,n3,n4,n5⟩
 | succ k ih =>
  intro i s acc c N0 hk hi hN0 hst hS hacc hN hR
  have hlt:i < n:=by omega
  have hix:i < xs.size:=by have:=Nat.min_le_left xs.size ys.size; omega
  have hiy:i < ys.size:=by have:=Nat.min_le_right xs.size ys.size; omega
  refine codeAny_builtin F.entry_extend_loop ?_
  rw [Around.under_plainId F.plain_extend_loop _]
  show wpAny _ A.in1 (pyNext (.ref z) >>= _) _ _ s
  have hT:s.TypeIs (.ref z) "zip":=let ⟨f0,f1,hz,_⟩:=hst.z; ⟨_,hz,rfl⟩
  refine wpAny_bind ?_
  unfold pyNext
  refine wpAny_bind (wpAny_attempt (wpAny_callSpecial?_slot (name:=Str.ofString "__next__") hT F.slot_zip_next
   (wpAny_call_entry F.slot_zip_next hT F.entry_zip_next
    (jA D hst (Array.getElem?_eq_getElem hix) (Array.getElem?_eq_getElem hiy) fun h' T z' p' n' k'=>wpAny_pure ?_) (F.args_zip_next_1 _))))
  have hS':=k' S _ sz sTO s1 s2 hS
  show wpAny _ A.in1 (updateSeq S (·.push (.ref T)) >>= _) _ _ _
  refine wpAny_bind ?_
  have lt:∀ {c o},s.heap.get? c=some o->T≠c:=fun {c o} e=>Nat.ne_of_gt (Nat.lt_of_lt_of_le (Heap.lt_size e) n')
  have TS:T≠S:=lt hS
  obtain ⟨f0,f1,hz,hf⟩:=id hst.z
  obtain ⟨aa,bb,hTO⟩:=id hst.to
  have up:∀ b o,b≠S->h'.get? b=some o->(h'.update S (Obj.mapSeq fun x=>x.push (.ref T))).get? b=some o:=fun b o hb e=>(Heap.get?_update_other _ _ (Ne.symm hb)).trans e
  have Ti1:T≠i1:=Nat.ne_of_gt (Nat.lt_of_lt_of_le hst.a.lt n')
  have Ti2:T≠i2:=Nat.ne_of_gt (Nat.lt_of_lt_of_le hst.b.lt n')
  refine wpAny_updateSeq hS' rfl (wpAny_pure ⟨plainId_quiet F.plain_extend_loop _,ih (i+1) _ (acc.push (.ref T)) _ N0 (by omega) hlt ?_ ?_ (Heap.get?_update_self _ hS' rfl) ?_ ?_ fun h'' acc' c' hk'' hS'' hacc' hN'=>?_⟩)
   (by rw [hacc.1]; omega) (by show (acc.push (.ref T)).size<=sizeLine+1; rw [Array.size_push,hacc.1]; omega)
  ·show N0<=(h'.update S _).objs.size
   have:h'.objs.size=(h'.update S (Obj.mapSeq fun x=>x.push (.ref T))).objs.size:=by simp [Heap.update]
   rw [<- this]
   exact Nat.le_trans hN0 (Nat.le_trans n' (Nat.le_of_lt (Heap.lt_size p')))
  ·obtain ⟨⟨g0,g1,gz,gf⟩,gTI,⟨ga,gb,gTO⟩,g1',g2'⟩:=z'
   exact ⟨⟨g0,g1,up _ _ (Ne.symm sz) gz,gf⟩,up _ _ (Ne.symm sTI) gTI,⟨ga,gb,up _ _ (Ne.symm sTO) gTO⟩,g1'.at (fun o e=>up _ o (Ne.symm s1) e) fun o e=>up _ o (Ne.symm sl1) e,g2'.at (fun o e=>up _ o (Ne.symm s2) e) fun o e=>up _ o (Ne.symm sl2) e⟩
  ·refine ⟨by rw [Array.size_push,hacc.1],fun j hj=>?_⟩
   by_cases hj':j < i
   ·obtain ⟨T',x,y,e1,e2,e3,e4,m1,m2,m3,m4,m5⟩:=hacc.2 j hj'
    refine ⟨T',x,y,?_,e2,e3,up _ _ m5 (k' _ _ m1 m2 m3 m4 e4),m1,m2,m3,m4,m5⟩
    rw [Array.getElem?_push,if_neg (by rw [hacc.1]; omega)]; exact e1
   ·have:j=i:=by omega
    subst this
    refine ⟨T,xs[j],ys[j],?_,Array.getElem?_eq_getElem hix,Array.getElem?_eq_getElem hiy,up _ _ TS p',lt hz,lt hTO,Ti1,Ti2,TS⟩
    rw [Array.getElem?_push,if_pos (by rw [hacc.1])]
  ·intro j v hv
   rw [Array.getElem?_push] at hv
   split at hv
   ·cases hv; exact ⟨T,rfl,Nat.le_trans hN0 n'⟩
   ·exact hN j v hv
  ·exact hR h'' acc' c' (fun b o b0 b1 b2 b3 b4 e=>hk'' b o b0 b1 b2 b3 b4 (up b o b0 (k' b o b1 b2 b3 b4 e))) hS'' hacc' hN'
variable {E:Value->Shared->Prop} {s:Shared}
theorem ap_of {n l1 l2:Nat} (h1:l1 < n) (h2:l2 < n):Ap (n+4) (n+2) (n+3) n (n+1) l1 l2:=by
 constructor <;> (show (_:Nat)≠(_:Nat); omega)
theorem call_listzip {z TI TO i1 i2 l1 l2:Addr} {xs ys:Array Value} {Q:Value->Shared->Prop} (hh:A.handled=none) (D:Ap z TI TO i1 i2 l1 l2) (Z:Zs s.heap z TI TO i1 i2 l1 l2 0 xs ys) (hn:min xs.size ys.size<=sizeLine)
  (hQ:∀ h' acc' c',(∀ b o,b≠z->b≠TO->b≠i1->b≠i2->s.heap.get? b=some o->h'.get? b=some o)->h'.get? s.heap.objs.size=some { cls:=.type "list",dict:=none,data:=.seq acc' c',slots:=#[] } ->
   Prs h' z TO i1 i2 s.heap.objs.size acc' (min xs.size ys.size) xs ys->(∀ (j:Nat) (v:Value),acc'[j]?=some v->∃ T:Addr,v=Value.ref T/\s.heap.objs.size+1<=T)->Q (.ref s.heap.objs.size) { s with heap:=h' }) :
  wpAny (model prog w) A (call (.type "list") [.ref z]) Q E s:=by
 refine callType_codes (Q₁:=fun obj s₁=>obj=.ref s.heap.objs.size/\s₁={ s with heap:=s.heap.push { cls:=.type "list",data:=.seq #[] } }) F.called_list (F.typeCall_list_1 _) F.entry_list_init
  (code_list_new _ ⟨rfl,rfl⟩) fun obj s₁ h₁=>?_
 obtain ⟨rfl,rfl⟩:=h₁
 have hS:(s.heap.push { cls:=.type "list",data:=.seq #[] }).get? s.heap.objs.size=some { cls:=.type "list",data:=.seq #[] }:=Heap.get?_push_size _ rfl
 obtain ⟨f0,f1,hz,hf⟩:=id Z.z
 obtain ⟨ta,tb,hTO⟩:=id Z.to
 have l1lt:l1 < s.heap.objs.size:=by rcases Z.a with ⟨_,o,e,_⟩ | ⟨_,o,e,_⟩ <;> exact Heap.lt_size e
 have l2lt:l2 < s.heap.objs.size:=by rcases Z.b with ⟨_,o,e,_⟩ | ⟨_,o,e,_⟩ <;> exact Heap.lt_size e
 have hSf:s.heap.objs.size∉[z,TI,TO,i1,i2,l1,l2]:=by
  simp only [List.mem_cons,List.not_mem_nil,or_false,not_or]
  exact ⟨Nat.ne_of_gt (Heap.lt_size hz),Nat.ne_of_gt (Heap.lt_size Z.ti),Nat.ne_of_gt (Heap.lt_size hTO),Nat.ne_of_gt Z.a.lt,Nat.ne_of_gt Z.b.lt,Nat.ne_of_gt l1lt,Nat.ne_of_gt l2lt⟩
 have hSz:s.heap.objs.size≠z:=Nat.ne_of_gt (Heap.lt_size hz)
 refine ⟨⟨_,hS,rfl⟩,F.args_list_init_2 _ _,?_⟩
 show wpAny _ A.in1.in1 (do let old <- Builtin.List.listItems (.ref s.heap.objs.size); Builtin.List.listUpdate (.ref s.heap.objs.size) (fun _=>#[]); letGo old.toList.reverse; Builtin.List.listExtendWith (.ref s.heap.objs.size) (.ref z) .none) _ _ _
 refine wpAny_bind ?_
 unfold Builtin.List.listItems
 refine wpAny_bind (wpAny_seqItems hS rfl (wpAny_pure ?_))
 show wpAny _ _ (updateSeq s.heap.objs.size (fun _=>#[]) >>= fun _=>letGo (#[]:Array Value).toList.reverse >>= fun _=>Builtin.List.listExtendWith (.ref s.heap.objs.size) (.ref z) .none) _ _ _
 refine wpAny_bind (wpAny_updateSeq hS rfl ?_)
 have hS₂:=Heap.get?_update_self (Obj.mapSeq (fun _=>(#[]:Array Value))) hS rfl
 refine wpAny_bind (wpAny_letGo ?_)
 have kp:∀ b o,b≠s.heap.objs.size->s.heap.get? b=some o->((s.heap.push { cls:=.type "list",data:=.seq #[] }).update s.heap.objs.size (Obj.mapSeq (fun _=>(#[]:Array Value)))).get? b=some o :=
  fun b o hb e=>(Heap.get?_update_other _ _ (Ne.symm hb)).trans (Heap.get?_push_of_some _ e)
 have mv:∀ h',(∀ b o,b≠s.heap.objs.size->s.heap.get? b=some o->h'.get? b=some o)->Zs h' z TI TO i1 i2 l1 l2 0 xs ys:=fun h' k=>by
  refine ⟨⟨f0,f1,k _ _ hSz.symm hz,hf⟩,k _ _ (Nat.ne_of_lt (Heap.lt_size Z.ti)) Z.ti,⟨ta,tb,k _ _ (Nat.ne_of_lt (Heap.lt_size hTO)) hTO⟩,Z.a.at (fun o e=>k _ o (Nat.ne_of_lt Z.a.lt) e) fun o e=>k _ o (Nat.ne_of_lt l1lt) e,Z.b.at (fun o e=>k _ o (Nat.ne_of_lt Z.b.lt) e) fun o e=>k _ o (Nat.ne_of_lt l2lt) e⟩
 unfold Builtin.List.listExtendWith
 refine wpAny_bind (wpAny_typeOf (T:="zip") ⟨_,kp z _ hSz.symm hz,rfl⟩ ?_)
 have e1:Builtin.List.listSameRef (.ref s.heap.objs.size) (.ref z)=false:=by simp [Builtin.List.listSameRef,hSz]
 have e2:(Value.type "zip"==Value.type "list")=false:=by decide
 have e3:(Value.type "zip"==Value.type "tuple")=false:=by decide
 simp only [e1,e2,e3,Bool.or_false,Bool.false_eq_true,if_false]
 refine wpAny_bind ((walksZip (A:=A.in1.in1) hh z TI TO i1 i2 l1 l2 D xs ys).self 0 _ _ _ (mv _ kp) ?_)
 refine wpAny_bind (wpAny_holding ?_)
 unfold Builtin.List.listLengthHint
 refine wpAny_bind (wpAny_specialOf (T:="zip") ⟨_,kp z _ hSz.symm hz,rfl⟩ vC ?_)
 show wpAny _ _ (specialOf (Value.ref z) (Str.ofString "__length_hint__") >>= _) _ _ _
 refine wpAny_bind (wpAny_specialOf (T:="zip") ⟨_,kp z _ hSz.symm hz,rfl⟩ tJ ?_)
 refine wpAny_pure ?_
 show wpAny _ _ (rule "list.extend.makes-room" >>= fun _=>Builtin.List.listTouch (.ref s.heap.objs.size) >>= fun _ =>
  again (.builtin "list.extend.loop" ⟨[.ref s.heap.objs.size,.ref z,.none],[]⟩)) _ _ _
 refine wpAny_bind (wpAny_rule ?_)
 refine wpAny_bind ?_
 show wpAny _ _ (updateSeq s.heap.objs.size (·.push .none) >>= fun _=>updateSeq s.heap.objs.size (·.pop)) _ _ _
 refine wpAny_bind (wpAny_updateSeq hS₂ rfl ?_)
 have hS₃:=Heap.get?_update_self (Obj.mapSeq (·.push Value.none)) hS₂ rfl
 refine wpAny_updateSeq (hz:=by seq_fits) hS₃ rfl ?_
 have hS₄:=Heap.get?_update_self (Obj.mapSeq (·.pop)) hS₃ rfl
 have kp2:∀ b o,b≠s.heap.objs.size->s.heap.get? b=some o->((((s.heap.push { cls:=.type "list",data:=.seq #[] }).update s.heap.objs.size (Obj.mapSeq (fun _=>(#[]:Array Value)))).update s.heap.objs.size (Obj.mapSeq (·.push Value.none))).update s.heap.objs.size (Obj.mapSeq (·.pop))).get? b=some o :=
  fun b o hb e=>(Heap.get?_update_other _ _ (Ne.symm hb)).trans ((Heap.get?_update_other _ _ (Ne.symm hb)).trans (kp b o hb e))
 refine wpAny_pure ⟨plainId_quiet F.plain_extend_loop _,aBi (A:=A.in1) hh D rfl hn s.heap.objs.size hSf .none (min xs.size ys.size) 0 _ _ _ (s.heap.objs.size+1) (by omega) (Nat.zero_le _) ?_ (mv _ kp2) hS₄ ⟨rfl,fun j hj=>absurd hj (Nat.not_lt_zero _)⟩ (fun j v h=>by simp at h) fun h' acc' c' hk hS' hacc hN=>?_⟩
 ·exact Heap.lt_size hS₄
 ·exact ⟨rfl,hQ h' acc' c' (fun b o b1 b2 b3 b4 e=>hk b o (Nat.ne_of_lt (Heap.lt_size e)) b1 b2 b3 b4 (kp2 b o (Nat.ne_of_lt (Heap.lt_size e)) e)) hS' hacc hN⟩
end
end ZP
namespace EV
open PySem PySem.Spec PyProof.Rows L2
section
variable {X:Cx} {pins:List (Addr×Obj)} {σ:L2.St} {H H':Hp} {s:Shared} {h':Heap}
theorem aCb {t':Nat} (I:Inv X pins σ H s) (k:∀ b u,s.heap.get? b=some u->h'.get? b=some u) (old:∀ b o,H b=some o->H' b=some o) (new:∀ b o,H' b=some o->H b=none->s.heap.objs.size<=b)
  (hok:HOk X.prog X.w H' h'):Inv X pins σ H' { s with heap:=h',toks:=t' }:=by
 refine I.un ⟨fun b u q _ _ _=>k b u q,fun b u q _ _ _=>⟨u.slots,k b u q⟩,fun b u q n _=>?_,fun b u q _=>⟨u,k b u q⟩,fun b xs q=>old b _ q,fun b o u q=>old b _ q,fun b ps q=>⟨#[],by rw [old b _ q]; simp⟩⟩ hok
 cases e:H' b with
 | none=>rfl
 | some o=>exact absurd (Heap.lt_size q) (Nat.not_lt.mpr (new b o e n))
end
noncomputable def rZip (K:PySem.W.Frag):R2:=fun x y H Q=>∃ a b xs ys,x=.ref a/\y=.ref b/\(SqL K H a xs\/SqT K H a xs)/\(SqL K H b ys\/SqT K H b ys) /\
 ∀ (H':Hp) (p:Addr) (Ts:List Addr),(∀ b o,H b=some o->H' b=some o)->H p=none->H' p=some (.lst (Ts.map V.ref))->Ts.length=min xs.length ys.length ->
  (∀ (j:Nat) (T:Addr) (x y:V),Ts[j]?=some T->xs[j]?=some x->ys[j]?=some y->H' T=some (.tup [x,y]))->Q (.ref p) H'
section
variable {X:Cx} {K:PySem.W.Frag} {Z:Zt} {a b:Expr} {fa fb:FE} {ta tb:TE} {p q pos pos2:Pos}
theorem aAu {pins:List (Addr×Obj)} {σ:L2.St} {H:Hp} {s:Shared} {a:Addr} {xs:List V} (I:Inv X pins σ H s) (h:SqL X.K H a xs\/SqT X.K H a xs):∃ its:List Value,Vals xs its/\(s.heap.IsList a its.toArray\/s.heap.IsTuple a its.toArray)/\xs.length<=sizeLine:=by
 rcases h with h | h
 ·obtain ⟨its,r,pl,hz⟩:=I.list h; exact ⟨its,r,.inl pl.isList,hz⟩
 ·obtain ⟨its,r,pl,hz⟩:=I.tuple h; exact ⟨its,r,.inr pl,hz⟩
theorem wN (hc:X.calm=true) (h1:X.mg "list"=none) (h2:X.mg "zip"=none) (ha:PE X a ta) (hb:PE X b tb) (g1:Gl X "list":=by rfl) (g2:Gl X "zip":=by rfl)
  (hs:starEach [.Call (.Name "zip" q) [a,b] [] pos2] X.env=(false,eval (.Call (.Name "zip" q) [a,b] [] pos2) X.env)::starEach [] X.env:=by rfl) (hpl:(backTo pos (starEach [] X.env)).any (·.1)=false:=by rfl)
  (hs2:starEach [a,b] X.env=(false,eval a X.env)::starEach [b] X.env:=by rfl) (hs3:starEach [b] X.env=(false,eval b X.env)::starEach [] X.env:=by rfl) (hpl2:(backTo pos2 (starEach [b] X.env)).any (·.1)=false:=by rfl) :
  PE X (.Call (.Name "list" p) [.Call (.Name "zip" q) [a,b] [] pos2] [] pos) (tOp (rZip X.K) ta tb):=by
 intro pins s σ H Q I h
 refine wpAny_Call_Name_kw (gL I g1 h1 rE ?_)
 refine PyProof.Rows.callWith_type1 ?_ hs hpl
 rw [hs]
 show wpAny _ _ (spliced ((false,eval (.Call (.Name "zip" q) [a,b] [] pos2) X.env)::backTo pos (starEach [] X.env))) _ _ s
 refine Calls.spliced_cons ?_
 refine wpAny_Call_Name_kw (gL I g2 h2 aHo ?_)
 refine PyProof.Rows.callWith_type1 (thn (cY ha (cY hb fN hs3) hs2 pos2 pins s σ H (fun vs H2=>match vs with | [x,y]=>rZip X.K x y H2 Q | _=>False) I h) fun us s1 ⟨vs,H1,I1,r1,hr⟩=>?_) hs2 hpl2
 match vs,r1,hr with
 | [],_,hr=>exact hr.elim
 | [_],_,hr=>exact hr.elim
 | _::_::_::_,_,hr=>exact hr.elim
 | [x,y],r1,hr =>
 obtain ⟨u1,u2,rfl,rx,ry⟩:=r1.two
 obtain ⟨aa,bb,xs,ys,rfl,rfl,sx,sy,hq⟩:=hr
 cases rx
 cases ry
 obtain ⟨its,q1,p1,z1⟩:=aAu I1 sx
 obtain ⟨its2,q2,p2,z2⟩:=aAu I1 sy
 have hl1:aa < s1.heap.objs.size:=by rcases p1 with ⟨o,e,_⟩ | ⟨o,e,_⟩ <;> exact Heap.lt_size e
 have hl2:bb < s1.heap.objs.size:=by rcases p2 with ⟨o,e,_⟩ | ⟨o,e,_⟩ <;> exact Heap.lt_size e
 have hsA:its.toArray.size=xs.length:=by simp [q1.length]
 have hsB:its2.toArray.size=ys.length:=by simp [q2.length]
 refine ZP.call_zipG p1 p2 fun h1 Zs1 hsz kp=>?_
 refine Calls.spliced_nil ?_
 refine ZP.call_listzip (I1.ok.hd hc) (ZP.ap_of hl1 hl2) Zs1 (by rw [hsA,hsB]; omega) fun h2 acc c kp2 hS hacc hN=>?_
 have kp3:∀ b o,s1.heap.get? b=some o->h2.get? b=some o:=fun b o e=>by
  have:(b:Nat) < s1.heap.objs.size:=Heap.lt_size e
  exact kp2 b o (Nat.ne_of_lt (Nat.lt_add_right 4 this)) (Nat.ne_of_lt (Nat.lt_add_right 3 this)) (Nat.ne_of_lt this) (Nat.ne_of_lt (Nat.lt_add_right 1 this)) (kp b o e)
 -- the pairs' addresses
 have hT:∀ j:Nat,j < acc.size->∃ T:Addr,acc[j]?=some (.ref T):=fun j hj=>by
  obtain ⟨T,_,_,e,_⟩:=hacc.2 j (by rw [<- hacc.1]; exact hj)
  exact ⟨T,e⟩
 obtain ⟨Ts,hTs⟩:∃ Ts:List Addr,acc.toList=Ts.map Value.ref:=by
  have:∀ l:List Value,(∀ j:Nat,j < l.length->∃ T:Addr,l[j]?=some (.ref T))->∃ Ts:List Addr,l=Ts.map Value.ref:=by
   intro l
   induction l with
   | nil=>exact fun _=>⟨[],rfl⟩
   | cons v r ih =>
    intro hh
    obtain ⟨T,e⟩:=hh 0 (by simp)
    obtain ⟨Ts,e2⟩:=ih fun j hj=>by have:=hh (j+1) (by simpa using hj); simpa using this
    exact ⟨T::Ts,by simp at e; rw [e,e2]; rfl⟩
  exact this acc.toList fun j hj=>by obtain ⟨T,e⟩:=hT j (by simpa using hj); exact ⟨T,by simpa using e⟩
 have hlen:Ts.length=min xs.length ys.length:=by
  have:=congrArg List.length hTs
  rw [List.length_map] at this
  rw [<- this,Array.length_toList,hacc.1,hsA,hsB]
 have hat:∀ (j:Nat) (T:Addr),Ts[j]?=some T->acc[j]?=some (.ref T):=fun j T e=>by
  rw [<- Array.getElem?_toList,hTs,List.getElem?_map,e]; rfl
 have hfr:∀ (j:Nat) (T:Addr),Ts[j]?=some T->h1.objs.size+1<=T:=fun j T e=>by
  obtain ⟨T',e',l⟩:=hN j _ (hat j T e)
  cases e'; exact l
 have hpr:∀ (j:Nat) (T:Addr) (x y:V),Ts[j]?=some T->xs[j]?=some x->ys[j]?=some y->∃ u v,RelV x u/\RelV y v/\IsPair h2 T u v:=fun j T x y e ex ey=>by
  obtain ⟨u,qu,ru⟩:=q1.get ex
  obtain ⟨v,qv,rv⟩:=q2.get ey
  have hj:j < min its.toArray.size its2.toArray.size:=by
   have h1:=(List.getElem?_eq_some_iff.mp ex).1
   have h2:=(List.getElem?_eq_some_iff.mp ey).1
   omega
  obtain ⟨T',x',y',e1,e2,e3,e4,_⟩:=hacc.2 j hj
  rw [hat j T e] at e1; cases e1
  have f2:its[j]?=some x':=by simpa using e2
  have f3:its2[j]?=some y':=by simpa using e3
  rw [qu] at f2; rw [qv] at f3
  cases f2; cases f3
  exact ⟨u,v,ru,rv,e4⟩
 -- what is tracked
 let Pr:Addr->V×V->Prop:=fun b xy=>∃ j:Nat,Ts[j]?=some b/\xs[j]?=some xy.1/\ys[j]?=some xy.2
 have Pru:∀ b xy xy',Pr b xy->Pr b xy'->xy=xy':=by
  rintro b ⟨x,y⟩ ⟨x',y'⟩ ⟨j,e1,e2,e3⟩ ⟨j',e1',e2',e3'⟩
  obtain ⟨u,v,ru,rv,ip⟩:=hpr j b x y e1 e2 e3
  obtain ⟨u',v',ru',rv',ip'⟩:=hpr j' b x' y' e1' e2' e3'
  have ip2:=(show h2.get? b=some _ from ip).symm.trans (show h2.get? b=some _ from ip')
  simp at ip2
  obtain ⟨rfl,rfl⟩:=ip2
  rw [ru.inj ru',rv.inj rv']
 have sS:s1.heap.objs.size<=h1.objs.size:=by rw [hsz]; omega
 have Sfr:H1 h1.objs.size=none:=I1.hok.fresh sS
 have Tfr:∀ b xy,Pr b xy->s1.heap.objs.size<=b/\H1 b=none/\b≠h1.objs.size:=fun b xy ⟨j,e,_⟩=>by
  have:=hfr j b e
  have l:s1.heap.objs.size<=b:=Nat.le_trans sS (Nat.le_of_succ_le this)
  exact ⟨l,I1.hok.fresh l,Nat.ne_of_gt this⟩
 classical
 let H':Hp:=fun b=>if b=h1.objs.size then some (.lst (Ts.map V.ref)) else if hh:∃ xy,Pr b xy then some (.tup [hh.choose.1,hh.choose.2]) else H1 b
 have HS:H' h1.objs.size=some (.lst (Ts.map V.ref)):=if_pos rfl
 have HT:∀ b xy,Pr b xy->H' b=some (.tup [xy.1,xy.2]):=fun b xy hp=>by
  show (if b=h1.objs.size then _ else _)=_
  rw [if_neg (Tfr b xy hp).2.2,dif_pos ⟨xy,hp⟩]
  have hx:∃ xy,Pr b xy:=⟨xy,hp⟩
  rw [Pru b _ _ hx.choose_spec hp]
 have Hold:∀ b o,H1 b=some o->H' b=some o:=fun b o e=>by
  show (if b=h1.objs.size then _ else _)=_
  rw [if_neg (fun z=>by rw [z,Sfr] at e; cases e),dif_neg (fun ⟨xy,hp⟩=>by rw [(Tfr b xy hp).2.1] at e; cases e)]
  exact e
 have Hcase:∀ b o,H' b=some o->(b=h1.objs.size/\o=.lst (Ts.map V.ref))\/(∃ xy,Pr b xy/\o=.tup [xy.1,xy.2])\/H1 b=some o:=fun b o e=>by
  by_cases hb:b=h1.objs.size
  ·subst hb; rw [HS] at e; cases e; exact .inl ⟨rfl,rfl⟩
  ·by_cases hx:∃ xy,Pr b xy
   ·obtain ⟨xy,hp⟩:=hx
    rw [HT b xy hp] at e; cases e
    exact .inr (.inl ⟨xy,hp,rfl⟩)
   ·have:H' b=H1 b:=by
     show (if b=h1.objs.size then _ else _)=_
     rw [if_neg hb,dif_neg hx]
    rw [this] at e; exact .inr (.inr e)
 refine ⟨.ref h1.objs.size,H',?_,rfl,hq H' h1.objs.size Ts Hold Sfr HS hlen fun j T x y e ex ey=>HT T (x,y) ⟨j,e,ex,ey⟩⟩
 have fin:Inv X pins σ H' { s1 with heap:=h2,toks:=s1.toks }:=by
  refine aCb (s:=s1) (h':=h2) (t':=s1.toks) I1 kp3 Hold (fun b o e n=>?_) fun b o e=>?_
  ·rcases Hcase b o e with ⟨rfl,_⟩ | ⟨xy,hp,_⟩ | e'
   ·exact sS
   ·exact (Tfr b xy hp).1
   ·rw [n] at e'; cases e'
  ·rcases Hcase b o e with ⟨rfl,rfl⟩ | ⟨xy,hp,rfl⟩ | e'
   ·refine ⟨by rw [List.length_map,hlen]; omega,Ts.map Value.ref,c,?_,?_⟩
    ·clear hTs hlen hat hfr hpr Pru Tfr HS HT Hold Hcase e H' Pr
     induction Ts with
     | nil=>exact .nil
     | cons T r ih=>exact .cons rfl ih
    ·rw [hS,<- hTs]
   ·obtain ⟨j,e1,e2,e3⟩:=hp
    obtain ⟨u,v,ru,rv,ip⟩:=hpr j b xy.1 xy.2 e1 e2 e3
    exact ⟨by rw [sizeLine_eq]; show 2<=16777216; decide,[u,v],.cons ru (.cons rv .nil),⟨_,ip,rfl,_,rfl⟩⟩
   ·exact (I1.hok b o e').stay (fun c u _ q=>kp3 c u q) (fun c q=>Hold c _ q) fun c xs q=>Hold c _ q
 exact fin
noncomputable def zipT (xs ys:List D):List D:=(xs.zip ys).map fun p=>.tup [p.1,p.2]
noncomputable def pZip (x y:W) (M:Mm):Oc W:=match sv M x,sv M y with
 | some xs,some ys=>okD (.lst (zipT xs ys)) M
 | _,_=>.bad
theorem aFs:Op2 K Z (rZip K) pZip:=by
 intro μ H M x y v u Q hr rx ry p
 unfold pZip at p
 cases q1:sv M x with
 | none=>rw [q1] at p; exact p.elim
 | some xs =>
  cases q2:sv M y with
  | none=>rw [q1,q2] at p; exact p.elim
  | some ys =>
   rw [q1,q2] at p
   obtain ⟨a,vs,rfl,h1,r1⟩:=pH hr rx q1
   obtain ⟨b,us,rfl,h2,r2⟩:=pH hr ry q2
   refine ⟨a,b,vs,us,rfl,rfl,h1,h2,fun H' q Ts old hq hS hl hT=>?_⟩
   have ex:Ext μ H μ H':=⟨fun a o _ h=>old a o h,fun a h=>.inl h,fun _ _ h=>h⟩
   have hr':HR K μ H' M:=⟨hr.len,hr.nd,fun i a ds e1 e2=>by
    obtain ⟨vs,e3,e4⟩:=hr.ent i a ds e1 e2
    exact ⟨vs,old _ _ e3,Rps.ext hr.lsts ex _ _ e4⟩⟩
   refine p μ H' ex hr' _ ?_
   simp only [Rw,Rp]
   refine ⟨q,Ts.map V.ref,rfl,hS,hr.out hq,?_⟩
   have r1':=Rps.ext hr.lsts ex _ _ r1
   have r2':=Rps.ext hr.lsts ex _ _ r2
   clear p q1 q2 rx ry h1 h2 hS hq r1 r2
   unfold zipT
   induction Ts generalizing xs ys vs us with
   | nil =>
    have:(xs.zip ys).length=0:=by rw [List.length_zip,r1'.length,r2'.length,<- hl]; rfl
    rw [List.length_eq_zero_iff.mp this]
    exact .nil
   | cons T r ih =>
    cases xs with
    | nil=>simp only [Rps] at r1'; subst r1'; simp at hl
    | cons x xs =>
     cases ys with
     | nil=>simp only [Rps] at r2'; subst r2'; simp at hl
     | cons y ys =>
      simp only [Rps] at r1' r2'
      obtain ⟨v,vr,rfl,e1,t1⟩:=r1'
      obtain ⟨u,ur,rfl,e2,t2⟩:=r2'
      refine .cons ?_ (ih xs ys vr ur (by simpa using hl) (fun j T x y a b c=>hT (j+1) T x y (by simpa using a) (by simpa using b) (by simpa using c)) t1 t2)
      simp only [Rp]
      exact ⟨T,[v,u],rfl,hT 0 T v u rfl rfl rfl,.cons e1 (.cons e2 .nil)⟩
theorem wI (hc:X.calm=true) (h1:X.mg "list"=none) (h2:X.mg "zip"=none) (ha:Ev X K Z a fa) (hb:Ev X K Z b fb) (g1:Gl X "list":=by rfl) (g2:Gl X "zip":=by rfl)
  (hs:starEach [.Call (.Name "zip" q) [a,b] [] pos2] X.env=(false,eval (.Call (.Name "zip" q) [a,b] [] pos2) X.env)::starEach [] X.env:=by rfl) (hpl:(backTo pos (starEach [] X.env)).any (·.1)=false:=by rfl)
  (hs2:starEach [a,b] X.env=(false,eval a X.env)::starEach [b] X.env:=by rfl) (hs3:starEach [b] X.env=(false,eval b X.env)::starEach [] X.env:=by rfl) (hpl2:(backTo pos2 (starEach [b] X.env)).any (·.1)=false:=by rfl) :
  Ev X K Z (.Call (.Name "list" p) [.Call (.Name "zip" q) [a,b] [] pos2] [] pos) (e2 pZip fa fb):=by
 have h:=wN (p:=p) (q:=q) (pos:=pos) (pos2:=pos2) hc h1 h2 ha.h hb.h g1 g2 hs hpl hs2 hs3 hpl2
 rw [ha.k] at h
 exact ⟨ha.k,cqE h (lift2 aFs)⟩
end
end EV
namespace RT
open PySem PySem.Spec PyProof.Rows
theorem dY:Slot "reversed" "__next__" "reversed.__next__" :=
 .of (owner:="reversed") (n:="__next__") (by rw [typeLookup_type,builtinLookup_eq_fast]; kernel_rfl) (by decide +kernel) (by decide +kernel) (by decide +kernel)
  (by first | exact .inl (by decide +kernel) | exact .inr (by decide +kernel)) (by rw [isSubtype_type]; kernel_rfl)
theorem kO:Slot "reversed" "__iter__" "reversed.__iter__" :=
 .of (owner:="reversed") (n:="__iter__") (by rw [typeLookup_type,builtinLookup_eq_fast]; kernel_rfl) (by decide +kernel) (by decide +kernel) (by decide +kernel)
  (by first | exact .inl (by decide +kernel) | exact .inr (by decide +kernel)) (by rw [isSubtype_type]; kernel_rfl)
theorem qW:Slot "reversed" "__init__" "object.__init__" :=
 .of (owner:="object") (n:="__init__") (by rw [typeLookup_type,builtinLookup_eq_fast]; kernel_rfl) (by decide +kernel) (by decide +kernel) (by decide +kernel)
  (by first | exact .inl (by decide +kernel) | exact .inr (by decide +kernel)) (by rw [isSubtype_type]; kernel_rfl)
theorem jB:entryFor table "reversed.__next__"=some Builtin.«reversed.__next__»:=entryFor_of_tree (by kernel_rfl)
theorem oS:entryFor table "reversed.__iter__"=some Builtin.«dict_keyiterator.__iter__» :=
 entryFor_alias (id':="dict_keyiterator.__iter__") (by kernel_rfl) (by first | rfl | decide +kernel | (unfold String.splitOn; simp +decide [String.splitOnAux])) (by decide +kernel) (by kernel_rfl)
theorem uG:Manifest.owners.lookup (String.ofList ['d','e','s','r','e','v','e','r'].reverse)=some Manifest.sig_reversed:=by kernel_rfl
theorem kE (a:Value):argsOk "reversed.__next__" ⟨[a],[]⟩:=by
 unfold argsOk; rw [signature?_of (id:="reversed.__next__") (n:=['_','_','t','x','e','n','_','_']) (o:=['d','e','s','r','e','v','e','r']) (by kernel_rfl) uG]; kernel_rfl
theorem rX (a:Value):argsOk "reversed.__iter__" ⟨[a],[]⟩:=by
 unfold argsOk; rw [signature?_of (id:="reversed.__iter__") (n:=['_','_','r','e','t','i','_','_']) (o:=['d','e','s','r','e','v','e','r']) (by kernel_rfl) uG]; kernel_rfl
theorem zP:TypeCalled "reversed" "reversed.__new__" "object.__init__" :=
 ⟨by decide +kernel,by decide +kernel,⟨_,_,F.mro_reversed⟩,F.made_reversed,by decide +kernel,by rw [isSubtype_type]; kernel_rfl,qW⟩
theorem rW:typeLookup (.type "tuple") "__reversed__"=pure none:=by rw [typeLookup_type,builtinLookup_eq_fast]; kernel_rfl
theorem nZ:isSubtype (.type "tuple") (.type "dict")=pure false:=by rw [isSubtype_type]; kernel_rfl
noncomputable abbrev rvObj (l:Addr) (i:Int):Obj:={ cls:=.type "reversed",dict:=none,data:=.fields #[.ref l,rawInt i],slots:=#[] }
theorem aBu (l:Addr) (items:Array Value):Meets (Builtin.«reversed.__new__» ⟨[.type "reversed",.ref l],[]⟩) (fun _ R s=>IsTup s.heap l items/\(items.size:Int) < 2 ^ 63 /\
   R (.ok (.ret (.ref s.heap.objs.size))) { s with heap:=s.heap.push (rvObj l ((items.size:Int) - 1)),toks:=s.toks+1+1 }) :=
 .of_wp fun prog w A R s h=>by
  obtain ⟨hl,hz,h⟩:=h
  unfold Builtin.«reversed.__new__»
  refine wpAny_bind (wpAny_of_eq (newClass_reversed _) ?_)
  try dsimp only
  refine wpAny_bind (wpAny_of_eq (a:=()) (by first | rfl | kernel_rfl) ?_)
  refine wpAny_bind (wpAny_of_eq (a:=()) (by first | rfl | kernel_rfl) ?_)
  try dsimp only
  refine wpAny_bind (wpAny_specialOf hl.typeIs rW ?_)
  try dsimp only
  refine wpAny_bind ?_
  refine wpAny_bind (wpAny_isInstance (T:="tuple") (b:=false) hl.typeIs nZ ?_)
  try dsimp only
  refine wpAny_bind (wpAny_specialOf hl.typeIs F.slot_tuple_getitem.lookup ?_)
  refine wpAny_of_eq (a:=true) (by first | rfl | kernel_rfl) ?_
  show wpAny _ _ (call (.builtin "len") [.ref l] >>= _) _ _ _
  refine wpAny_bind (len_tuple hl hz ?_)
  refine wpAny_bind (wpAny_of_eq (a:=some (items.size:Int)) (by first | rfl | kernel_rfl) ?_)
  show wpAny _ _ (newObj (.type "reversed") (.fields #[.ref l,rawInt ((items.size:Int) - 1)]) >>= _) _ _ _
  exact wpAny_bind (wpAny_newObj_type (wpAny_pure ⟨_,rfl,h⟩))
end RT
namespace RT
open PySem PySem.Spec PyProof.Rows
section
variable {prog:Program} {w:World} {A:Around} {E:Value->Shared->Prop} {s:Shared}
theorem call_rev_tuple {l:Addr} {items:Array Value} {Q:Value->Shared->Prop} (hl:IsTup s.heap l items) (hz:(items.size:Int) < 2 ^ 63)
  (h:Q (.ref s.heap.objs.size) { s with heap:=s.heap.push (rvObj l ((items.size:Int) - 1)),toks:=s.toks+1+1 }):wpAny (model prog w) A (call (.type "reversed") [.ref l]) Q E s :=
 callType_new zP (by decide) (F.typeCall_reversed_1 _) (F.newCall_reversed_1 _) (fun obj=>F.args_object_init_2 obj _) F.entry_reversed_new (aBu l items) ⟨hl,hz,⟨⟨_,Heap.get?_push_size _ rfl,rfl⟩,h⟩⟩
noncomputable def IsRvT (h:Heap) (a l:Addr) (i:Int):Prop:=∃ o,h.get? a=some o/\o.cls=.type "reversed"/\o.data=.fields #[.ref l,rawInt i]
theorem IsRvT.typeIs {a l:Addr} {i:Int} (x:IsRvT s.heap a l i):s.TypeIs (.ref a) "reversed":=let ⟨o,ho,hc,_⟩:=x; ⟨o,ho,hc⟩
theorem IsRvT.at {h h':Heap} {a l:Addr} {i:Int} (x:IsRvT h a l i) (e:∀ o,h.get? a=some o->h'.get? a=some o):IsRvT h' a l i:=let ⟨o,ho,r⟩:=x; ⟨o,e _ ho,r⟩
theorem next_item {it l:Addr} {i:Nat} {items:Array Value} {x:Value} {Q:Option Value->Shared->Prop} (hit:IsRvT s.heap it l (i:Int)) (hl:IsTup s.heap l items) (hz:(items.size:Int) < 2 ^ 63) (hx:items[i]?=some x)
  (hQ:∀ h' tk,IsRvT h' it l ((i:Int) - 1)->Heap.SameBut it s.heap h'->Q (some x) { s with heap:=h',toks:=tk }):wpAny (model prog w) A (pyNext (.ref it)) Q E s:=by
 obtain ⟨o,ho,hc,hd⟩:=id hit
 have hlt:i < items.size:=by
  rcases Nat.lt_or_ge i items.size with h | h
  ·exact h
  ·rw [Array.getElem?_eq_none h] at hx; cases hx
 unfold pyNext
 refine wpAny_bind (wpAny_attempt (wpAny_callSpecial?_slot (name:=Str.ofString "__next__") hit.typeIs dY
  (wpAny_call_entry dY hit.typeIs jB ?_ (kE _))))
 unfold Builtin.«reversed.__next__»
 refine wpAny_bind (wpAny_of_eq (a:=(Value.ref it,[])) rfl ?_)
 try dsimp only
 refine wpAny_bind (wpAny_field ho hd (x:=.ref l) rfl ?_)
 refine wpAny_bind (wpAny_field ho hd (x:=rawInt (i:Int)) rfl ?_)
 show wpAny _ _ (if (i:Int) < 0 then _ else _) _ _ s
 rw [if_neg (by omega)]
 show wpAny _ _ (specialOf (.ref l) (Str.ofString "__getitem__") >>= _) _ _ s
 refine wpAny_bind (wpAny_specialOf hl.typeIs F.slot_tuple_getitem.lookup ?_)
 show wpAny _ _ (mkInt (i:Int) >>= _) _ _ s
 refine wpAny_bind (wpAny_mkInt ?_)
 refine wpAny_bind (wpAny_attempt (getItem_tuple (j:=i) (x:=x) hl (by omega) (by omega) ?_ hx ?_))
 ·rw [seqIndex_of (by omega) (by omega)]; simp
 try dsimp only
 refine wpAny_bind (wpAny_field ho hd (x:=rawInt (i:Int)) rfl ?_)
 show wpAny _ _ (setField _ _ _ >>= _) _ _ _
 refine wpAny_bind (wpAny_setField ho hd (by simp) ?_)
 refine wpAny_pure ⟨x,rfl,wpAny_pure (hQ _ _ ?_ (Heap.SameBut.update ..))⟩
 exact ⟨_,Heap.get?_update_self _ ho (Obj.isFreed_of_fields (Obj.data_mapFields hd _)),(Obj.cls_mapFields ..).trans hc,by
  rw [Obj.data_mapFields hd]; simp⟩
theorem next_end {it l:Addr} {Q:Option Value->Shared->Prop} (hh:A.handled=none) (hit:IsRvT s.heap it l (-1))
  (hQ:∀ h',Heap.ExtBut it s.heap h'->Q none { s with heap:=h' }):wpAny (model prog w) A (pyNext (.ref it)) Q E s:=by
 obtain ⟨o,ho,hc,hd⟩:=id hit
 unfold pyNext
 refine wpAny_bind (wpAny_attempt (wpAny_callSpecial?_slot (name:=Str.ofString "__next__") hit.typeIs dY
  (wpAny_call_entry dY hit.typeIs jB ?_ (kE _))))
 unfold Builtin.«reversed.__next__»
 refine wpAny_bind (wpAny_of_eq (a:=(Value.ref it,[])) rfl ?_)
 try dsimp only
 refine wpAny_bind (wpAny_field ho hd (x:=.ref l) rfl ?_)
 refine wpAny_bind (wpAny_field ho hd (x:=rawInt (-1)) rfl ?_)
 show wpAny _ _ (if (-1:Int) < 0 then _ else _) _ _ s
 rw [if_pos (by decide)]
 refine wpAny_bind (wpAny_rule ?_)
 refine wpAny_bind ?_
 show wpAny _ _ (setField (.ref it) 1 (rawInt (-1)) >>= _) _ _ _
 refine wpAny_bind (wpAny_setField ho hd (by simp) ?_)
 refine wpAny_setField (Heap.get?_update_self _ ho (Obj.isFreed_of_fields (Obj.data_mapFields hd _))) (Obj.data_mapFields hd _) (by simp) ?_
 refine wpAny_bind ?_
 show wpAny _ _ (newExc (.type "StopIteration") [] >>= _) _ _ _
 refine wpAny_bind ?_
 simp only [newExc,newTuple]
 refine wpAny_bind (wpAny_newObj_type ?_ (by size_fits))
 refine wpAny_bind (m:=firstArgMember _ _) (wpAny_of_eq (a:=Value.none) (by first | rfl | (simp only [firstArgMember]; rfl)) ?_)
 refine wpAny_newObj_type ?_ (by size_fits)
 simp only [raiseNew]
 refine wpAny_bind (wpAny_handled ?_)
 first | rw [show A.in1.handled=none from hh] | rw [hh]
 refine wpAny_bind (wpAny_pure (wpAny_throw ?_))
 refine wpAny_bind (wpAny_isInstance (T:="StopIteration") (b:=true) ⟨_,Heap.get?_push_size _ rfl,rfl⟩ isSubtype_stop ?_)
 exact wpAny_pure (hQ _ ((((Heap.SameBut.update ..).extBut.trans (Heap.SameBut.update ..).extBut).push _).push _))
theorem iter_self {it l:Addr} {i:Int} {Q:Value->Shared->Prop} (hit:IsRvT s.heap it l i) (h:Q (.ref it) s):wpAny (model prog w) A (pyIter (.ref it)) Q E s:=by
 refine wpAny_pyIter_slot hit.typeIs kO (wpAny_call_entry kO hit.typeIs oS ?_ (rX _))
 show wpAny _ _ (ret (.ref it)) _ _ s
 exact wpAny_pure ⟨_,rfl,"reversed",_,hit.typeIs,dY.lookup,h⟩
end
end RT
namespace L2
open PySem PySem.Spec PyProof.Rows
noncomputable def Itw (K:PySem.W.Frag) (a:Addr) (xs:List V):It :=
 ⟨fun i H=>SqT K H a xs/\i < xs.length,fun i H x H'=>H'=H/\xs[xs.length - 1 - i]?=some x,fun i _=>xs.length<=i⟩
theorem yM {P:Program} {w:World} {K:PySem.W.Frag} {tg:Expr} (a it:Addr) (xs:List V):Turn P w K tg (Itw K a xs) [it] it (fun i h=>i<=xs.length/\RT.IsRvT h it a ((xs.length:Int) - 1 - (i:Int))) where
 mem:=by simp
 obj:=fun i h st b hb=>by
  have e:b=it:=by simpa using hb
  subst e
  obtain ⟨o,e,c,d⟩:=st.2
  exact ⟨o,e,fun v z=>by rw [d] at z; cases z⟩
 keep:=fun i h h' st k=>⟨st.1,st.2.at fun o e=>k it (by simp) o e⟩
 item:=by
  intro X hP hw hK hc i pins s σ H E I hf st hg
  subst hP hw hK
  obtain ⟨hq,hx⟩:=hg
  obtain ⟨its,rv,p,hz⟩:=I.tuple hq
  have hlt:xs.length - 1 - i < xs.length:=by omega
  have hx':xs[xs.length - 1 - i]?=some xs[xs.length - 1 - i]:=List.getElem?_eq_getElem hlt
  obtain ⟨u,hu,ru⟩:=rv.get hx'
  obtain ⟨f0,f1,f2,f3,f4,f5⟩:=hf it (by simp)
  have st2:=st.2
  have e1:(xs.length:Int) - 1 - (i:Int)=((xs.length - 1 - i:Nat):Int):=by omega
  rw [e1] at st2
  have hlen:=rv.length
  refine RT.next_item st2 p (by rw [List.size_toArray,<- hlen]; have:sizeLine < 2 ^ 63:=by decide
                                omega) (x:=u) (by simpa using hu) fun h' tk st' sb=>?_
  have I1:Inv X pins σ H { s with heap:=h',toks:=tk }:=I.turned (t':=tk) (fun b o hb e=>(sb.2 b hb).trans e) f0 f1 f3 f4 f5
  have e2:((xs.length - 1 - i:Nat):Int) - 1=(xs.length:Int) - 1 - ((i+1:Nat):Int):=by omega
  rw [e2] at st'
  obtain ⟨o,e,c,d⟩:=id st'
  exact ⟨u,rfl,pJ (s:={ s with heap:=h',toks:=tk }) e c d (by decide) ⟨_,H,I1,ru,⟨rfl,hx'⟩,⟨hx,st'⟩,fun b hb=>(hf b hb).1⟩⟩
 done:=by
  intro X hP hw hK hc i pins s σ H E I hf st hg
  subst hP hw hK
  have hx:xs.length<=i:=hg
  obtain ⟨f0,f1,f2,f3,f4,f5⟩:=hf it (by simp)
  have st2:=st.2
  have h1:=st.1
  have e1:(xs.length:Int) - 1 - (i:Int) = -1:=by omega
  rw [e1] at st2
  exact RT.next_end (I.ok.hd hc) st2 fun h' eb=>⟨rfl,I.turned (t':=s.toks) (fun b o hb e=>eb b o hb e) f0 f1 f3 f4 f5⟩
 self:=fun _ _ _ _ _ st h=>RT.iter_self st.2 h
noncomputable def iRvE (K:PySem.W.Frag) (ta:TA):TI:=fun σ H R=>ta σ H fun vs H1=>∃ a,vs=[.ref a]/\((∃ xs,SqL K H1 a xs/\R (Itv K a xs) H1)\/(∃ xs,SqT K H1 a xs/\R (Itw K a xs) H1))
theorem aIv {X:Cx} {tg:Expr} {a:Expr} {ta:TA} {p pos:Pos} (hg:Gl X "reversed") (hm:X.mg "reversed"=none) (ha:PA X [a] ta) (hs:starEach [a] X.env=[(false,eval a X.env)]:=by rfl):PI X tg (.Call (.Name "reversed" p) [a] [] pos) (iRvE X.K ta):=by
 intro pins s σ H R I h
 refine Call_ (gL I hg hm aAf (PyProof.Rows.callWith_type1 (thn (ha pos pins s σ H _ I h) fun us s1 ⟨vs,H1,I1,r1,q1⟩=>?_) hs rfl))
 obtain ⟨b,e,⟨xs,hq,q⟩ | ⟨xs,hq,q⟩⟩:=q1
 ·subst e
  cases r1 with
  | cons r rr =>
   cases rr
   cases r
   obtain ⟨its,rv,p,hz⟩:=I1.list hq
   have hlen:=rv.length
   refine call_reversed_list p.isList (wpAny_pyIter_revIter ⟨_,Heap.get?_push_size _ rfl,rfl,rfl⟩ ?_)
   have I2:Inv X pins σ H1 { s1 with heap:=s1.heap.push (revObj b ((its.toArray.size:Int) - 1)) }:=I1.kept (t':=s1.toks) fun b o e=>Heap.get?_push_of_some _ e
   refine ⟨s1.heap.objs.size,[s1.heap.objs.size],_,_,H1,rfl,I2,aAb b _ xs,⟨Nat.zero_le _,_,Heap.get?_push_size _ rfl,rfl,?_⟩,fun c hb=>?_,q⟩
   ·show Data.fields #[.ref b,rawInt ((its.toArray.size:Int) - 1)]=_
    rw [List.size_toArray,<- hlen]
    simp
   ·have e:c=s1.heap.objs.size:=by simpa using hb
    subst e
    exact I1.fpOk (Nat.le_refl _) (I1.hok.fresh (Nat.le_refl _))
 ·subst e
  cases r1 with
  | cons r rr =>
   cases rr
   cases r
   obtain ⟨its,rv,p,hz⟩:=I1.tuple hq
   have hlen:=rv.length
   refine RT.call_rev_tuple p (by rw [List.size_toArray,<- hlen]; have:sizeLine < 2 ^ 63:=by decide
                                  omega) (RT.iter_self (i:=(its.toArray.size:Int) - 1) ⟨_,Heap.get?_push_size _ rfl,rfl,rfl⟩ ?_)
   have I2:Inv X pins σ H1 { s1 with heap:=s1.heap.push (RT.rvObj b ((its.toArray.size:Int) - 1)),toks:=s1.toks+1+1 }:=I1.kept (t':=s1.toks+1+1) fun b o e=>Heap.get?_push_of_some _ e
   refine ⟨s1.heap.objs.size,[s1.heap.objs.size],_,_,H1,rfl,I2,yM b _ xs,⟨Nat.zero_le _,_,Heap.get?_push_size _ rfl,rfl,?_⟩,fun c hb=>?_,q⟩
   ·show Data.fields #[.ref b,rawInt ((its.toArray.size:Int) - 1)]=_
    rw [List.size_toArray,<- hlen]
    simp
   ·have e:c=s1.heap.objs.size:=by simpa using hb
    subst e
    exact I1.fpOk (Nat.le_refl _) (I1.hok.fresh (Nat.le_refl _))
end L2
namespace EV
open PySem PySem.Spec PyProof.Rows L2
noncomputable def iRv (f:FE):FI:=fun L M=>(f L M).bind fun w M1=>match w with
 | .d (.tup xs)=>.ok ⟨xs.reverse,none⟩ M1
 | .d (.lst xs)=>.ok ⟨xs.reverse,none⟩ M1
 | .d (.fz xs)=>.ok ⟨xs.reverse,none⟩ M1
 | _=>.bad
section
variable {X:Cx} {K:PySem.W.Frag} {Z:Zt} {μ:List Addr} {H:Hp} {M:Mm} {a:Expr} {pos:Pos} {f:FE} {tg:Expr}
theorem yA {ds:List D} {vs:List V} {i:Nat} {d:D} (r:Rps K μ H ds vs) (h:ds.reverse[i]?=some d):∃ v,vs[vs.length - 1 - i]?=some v/\i < vs.length/\Rp K μ H d v:=by
 obtain ⟨v,q1,q2⟩:=r.reverse.get h
 have hi:i < vs.length:=by
  have:=(List.getElem?_eq_some_iff.mp q1).1
  simpa using this
 rw [List.getElem?_reverse hi] at q1
 exact ⟨v,q1,hi,q2⟩
theorem aBe {p:Addr} {ds:List D} {vs:List V} (S:List Addr->Hp->Prop) (s0:S μ H) (sx:∀ μ1 H1 μ2 H2,Lsts μ1 H1->S μ1 H1->Ext μ1 H1 μ2 H2->S μ2 H2)
  (rd:∀ μ1 H1,S μ1 H1->SqL K H1 p vs/\Rps K μ1 H1 ds vs):ItOk K μ H ⟨ds.reverse,none⟩ (Itv K p vs):=by
 refine ⟨S,s0,sx,fun μ1 H1 M1 i hr hS hc=>?_⟩
 obtain ⟨h1,r1⟩:=rd μ1 H1 hS
 refine ⟨fun d hd=>?_,fun hl=>?_⟩
 ·obtain ⟨v,q1,hi,q2⟩:=yA r1 hd
  refine ⟨⟨h1,hi⟩,fun x H2 y=>?_⟩
  obtain ⟨rfl,y⟩:=y
  rw [q1] at y
  cases y
  exact ⟨.refl,hr,q2⟩
 ·show vs.length<=i
  rw [<- r1.length]
  simpa using hl
theorem aHf {p:Addr} {ds:List D} {vs:List V} (S:List Addr->Hp->Prop) (s0:S μ H) (sx:∀ μ1 H1 μ2 H2,Lsts μ1 H1->S μ1 H1->Ext μ1 H1 μ2 H2->S μ2 H2)
  (rd:∀ μ1 H1,S μ1 H1->SqT K H1 p vs/\Rps K μ1 H1 ds vs):ItOk K μ H ⟨ds.reverse,none⟩ (Itw K p vs):=by
 refine ⟨S,s0,sx,fun μ1 H1 M1 i hr hS hc=>?_⟩
 obtain ⟨h1,r1⟩:=rd μ1 H1 hS
 refine ⟨fun d hd=>?_,fun hl=>?_⟩
 ·obtain ⟨v,q1,hi,q2⟩:=yA r1 hd
  refine ⟨⟨h1,hi⟩,fun x H2 y=>?_⟩
  obtain ⟨rfl,y⟩:=y
  rw [q1] at y
  cases y
  exact ⟨.refl,hr,q2⟩
 ·show vs.length<=i
  rw [<- r1.length]
  simpa using hl
theorem aIr {p:Pos} (hm:X.mg "reversed"=none) (ha:Ev X K Z a f) (hg:Gl X "reversed":=by rfl) (hs:starEach [a] X.env=[(false,eval a X.env)]:=by rfl):Ei X K Z tg (.Call (.Name "reversed" p) [a] [] pos) (iRv f):=by
 have h':=aIv (tg:=tg) (p:=p) (pos:=pos) hg hm (cY ha.h fN hs) hs
 rw [ha.k] at h'
 refine ⟨ha.k,cqI h' ?_⟩
 rintro σ H R ⟨μ,M,L,hr,lr,p⟩
 refine ⟨μ,M,L,hr,lr,p.bind.imp fun μ1 H1 M1 w e1 hr1 _ p1 v rw'=>?_⟩
 cases w with
 | ref i=>exact p1.elim
 | d x=>cases x with
  | tup xs =>
   simp only [Rw,Rp] at rw'
   obtain ⟨p,vs,rfl,h1,r1⟩:=rw'
   refine ⟨p,rfl,.inr ⟨vs,SqT.of h1,p1 μ1 H1 .refl hr1 _ ?_⟩⟩
   refine aHf (fun μ2 H2=>H2 p=some (.tup vs)/\Rps K μ2 H2 xs vs) ⟨h1,r1⟩ (fun μ1 H1 μ2 H2 l z e=>⟨e.keep _ _ (fun q=>by obtain ⟨us,q⟩:=l p q; rw [z.1] at q; cases q) z.1,Rps.ext l e _ _ z.2⟩) fun μ1 H1 z=>⟨SqT.of z.1,z.2⟩
  | lst xs =>
   simp only [Rw,Rp] at rw'
   obtain ⟨p,vs,rfl,h1,hn,r1⟩:=rw'
   refine ⟨p,rfl,.inl ⟨vs,SqL.of h1,p1 μ1 H1 .refl hr1 _ ?_⟩⟩
   refine aBe (fun μ2 H2=>H2 p=some (.lst vs)/\p∉μ2/\Rps K μ2 H2 xs vs) ⟨h1,hn,r1⟩ (fun μ1 H1 μ2 H2 l z e=>⟨e.keep _ _ z.2.1 z.1,fun q=>(e.new p q).elim z.2.1 (fun q=>by rw [z.1] at q; cases q),Rps.ext l e _ _ z.2.2⟩) fun μ1 H1 z=>⟨SqL.of z.1,z.2.2⟩
  | fz xs =>
   simp only [Rw,Rp] at rw'
   obtain ⟨p,vs,rfl,h1,r1⟩:=rw'
   refine ⟨p,rfl,.inl ⟨vs,h1.sq,p1 μ1 H1 .refl hr1 _ ?_⟩⟩
   refine aBe (fun μ2 H2=>FzL K H2 p vs/\Rps K μ2 H2 xs vs) ⟨h1,r1⟩ (fun μ1 H1 μ2 H2 l z e=>⟨z.1.ext l e,Rps.ext l e _ _ z.2⟩) fun μ1 H1 z=>⟨z.1.sq,z.2⟩
  | _=>exact p1.elim
end
end EV
namespace EV
open PySem PySem.Spec PyProof.Rows L2
section
variable {X:Cx} {K:PySem.W.Frag} {Z:Zt} {μ:List Addr} {H:Hp} {M:Mm} {a:Expr} {pos pos2:Pos} {f:FE}
noncomputable def rInts (n:Nat):List Int:=(List.range n).map fun k=>(0:Int)+(k:Nat)
theorem lQ {n:Nat} {acc:Array Value} (h:ItemsOf (fun i v=>∃ t,v=.int ((0:Int)+i*1) t) acc n):Vals ((rInts n).map V.int) acc.toList:=by
 have key:∀ (l:List Value) (k:Nat),(∀ j v,l[j]?=some v->∃ t,v=Value.int ((0:Int)+((k+j:Nat):Int)) t)->Vals ((List.range' k l.length).map fun i=>V.int ((0:Int)+(i:Nat))) l:=by
  intro l
  induction l with
  | nil=>intro k _; exact .nil
  | cons x r ih =>
   intro k hk
   rw [List.length_cons,List.range'_succ,List.map_cons]
   refine .cons ?_ (ih (k+1) fun j v e=>?_)
   ·obtain ⟨t,e⟩:=hk 0 x rfl
    exact ⟨t,by simpa using e⟩
   ·obtain ⟨t,e'⟩:=hk (j+1) v (by simpa using e)
    exact ⟨t,by rw [e']; congr 2; omega⟩
 have hl:acc.toList.length=n:=h.1
 have:=key acc.toList 0 fun j v e=>by
  obtain ⟨t,e'⟩:=h.2 j v (by simpa using e)
  exact ⟨t,by rw [e']; first | rfl | (congr 1 <;> omega)⟩
 rw [hl] at this
 unfold rInts
 rw [List.map_map,List.range_eq_range']
 exact this
end
end EV
namespace EV
open PySem L2
@[irreducible] noncomputable def Okx {α:Type} (EX:D->Mm->Prop) (o:Oc α) (Q:α->Mm->Prop):Prop:=match o with
 | .ok a M=>Q a M
 | .ex x M=>EX x M
 | .bad=>False
noncomputable abbrev NX:D->Mm->Prop:=fun _ _=>False
noncomputable abbrev Ok {α:Type} (o:Oc α) (Q:α->Mm->Prop):Prop:=Okx NX o Q
section
variable {α β:Type} {EX EX':D->Mm->Prop} {o o':Oc α} {Q Q':α->Mm->Prop} {a:α} {M:Mm}
theorem iN:Okx EX o Q ↔ (∃ a M,o=.ok a M/\Q a M)\/∃ x M,o=.ex x M/\EX x M:=by
 unfold Okx
 cases o with
 | ok a M=>exact ⟨fun h=>.inl ⟨a,M,rfl,h⟩,fun h=>by rcases h with ⟨_,_,e,q⟩ | ⟨_,_,e,q⟩ <;> cases e; exact q⟩
 | ex x M=>exact ⟨fun h=>.inr ⟨x,M,rfl,h⟩,fun h=>by rcases h with ⟨_,_,e,q⟩ | ⟨_,_,e,q⟩ <;> cases e; exact q⟩
 | bad=>exact ⟨fun h=>h.elim,fun h=>by rcases h with ⟨_,_,e,q⟩ | ⟨_,_,e,q⟩ <;> cases e⟩
theorem qU:Ok o Q ↔ ∃ a M,o=.ok a M/\Q a M:=by
 refine Iff.trans (iN (EX:=NX)) ⟨fun h=>?_,.inl⟩
 rcases h with h | ⟨_,_,_,q⟩
 ·exact h
 ·exact q.elim
theorem aN (q:Q a M):Okx EX (.ok a M) Q:=iN.mpr (.inl ⟨a,M,rfl,q⟩)
theorem oJ {x:D} (q:EX x M):Okx EX (.ex x M:Oc α) Q:=iN.mpr (.inr ⟨x,M,rfl,q⟩)
theorem aL {k:α->Mm->Oc β} {Q:β->Mm->Prop} (h:Okx EX o fun a M=>Okx EX (k a M) Q):Okx EX (o.bind k) Q:=by
 rcases iN.mp h with ⟨a,M,rfl,q⟩ | ⟨x,M,rfl,q⟩
 ·exact q
 ·exact oJ q
theorem Okx.mono (h:Okx EX o Q) (f:∀ a M,Q a M->Q' a M):Okx EX o Q':=by
 rcases iN.mp h with ⟨a,M,rfl,q⟩ | ⟨x,M,rfl,q⟩
 ·exact aN (f _ _ q)
 ·exact oJ q
theorem Okx.monoX (h:Okx EX o Q) (f:∀ a M,Q a M->Q' a M) (g:∀ x M,EX x M->EX' x M):Okx EX' o Q':=by
 rcases iN.mp h with ⟨a,M,rfl,q⟩ | ⟨x,M,rfl,q⟩
 ·exact aN (f _ _ q)
 ·exact oJ (g _ _ q)
theorem Ok.mono (h:Ok o Q) (f:∀ a M,Q a M->Q' a M):Okx EX o Q':=Okx.monoX h f fun _ _ z=>z.elim
theorem Okx.eq (h:Okx EX o' Q) (e:o=o'):Okx EX o Q:=e▸h
theorem Ok.eq (h:Ok o' Q) (e:o=o'):Ok o Q:=e▸h
end
section
variable {EX:D->Mm->Prop}
theorem mH {α:Type} {c:Bool} {a b:Oc α} {Q:α->Mm->Prop} (h1:c=true->Okx EX a Q) (h2:c=false->Okx EX b Q):Okx EX (if c=true then a else b) Q:=by cases c <;> simp_all
theorem eF {α:Type} {p:Prop} [Decidable p] {a b:Oc α} {Q:α->Mm->Prop} (h1:p->Okx EX a Q) (h2:¬ p->Okx EX b Q):Okx EX (if decide p=true then a else b) Q:=by by_cases h:p <;> simp_all
theorem aGu {α:Type} {c:Bool} {a b:Oc α} {Q:α->Mm->Prop} (h:c=true) (h1:Okx EX a Q):Okx EX (if c=true then a else b) Q:=by rw [if_pos h]; exact h1
theorem jR {α:Type} {c:Bool} {a b:Oc α} {Q:α->Mm->Prop} (h:c=false) (h1:Okx EX b Q):Okx EX (if c=true then a else b) Q:=by rw [if_neg (by simp [h])]; exact h1
section
variable {L:Lc} {M:Mm} {i j:Nat} {w x y:W} {Q:W->Mm->Prop} {QA:List W->Mm->Prop} {QS:Out->Mm->Prop} {QT:Bool->Mm->Prop} {QG:Lc->Mm->Prop} {f g h:FE} {F G:FS} {t u:FT} {fs:FA} {gg:FG}
theorem aMj (h:L[i]?=some (some w)) (q:Q w M):Okx EX (eV i L M) Q:=by unfold eV; rw [h]; exact aN q
theorem aMh {d:D} (q:Q (.d d) M):Okx EX (eC d L M) Q:=aN q
theorem aEe {ns:List Int} (q:Q (.d (.lst (ns.map D.int))) M):Okx EX (eInts ns L M) Q:=aN q
theorem aKv {p:W->Mm->Oc W} (h:Okx EX (f L M) fun x M1=>Okx EX (p x M1) Q):Okx EX (e1 p f L M) Q:=aL h
theorem aLn {p:W->W->Mm->Oc W} (h:Okx EX (f L M) fun x M1=>Okx EX (g L M1) fun y M2=>Okx EX (p x y M2) Q):Okx EX (e2 p f g L M) Q:=aL (h.mono fun _ _ z=>aL z)
theorem wZ {p p':W->W->Mm->Oc W} (z:Okx EX (f L M) fun x M1=>Okx EX (g L M1) fun y M2=>Okx EX (p x y M2) fun w M3=>∃ b,w=.d (.bl b)/\(b=true->Okx EX (h L M3) fun z M4=>Okx EX (p' y z M4) Q)/\(b=false->Q (.d (.bl false)) M3)):Okx EX (e3c p p' f g h L M) Q:=by
 refine aL (z.mono fun x M1 z=>aL (z.mono fun y M2 z=>aL (z.mono fun w M3 ⟨b,e,h1,h2⟩=>?_)))
 subst e
 cases b with
 | true=>exact aL (h1 rfl)
 | false=>exact aN (h2 rfl)
theorem aMg {p:List W->Mm->Oc W} (h:Okx EX (fs L M) fun ws M1=>Okx EX (p ws M1) Q):Okx EX (eA p fs L M) Q:=aL h
theorem aLy (q:QA [] M):Okx EX (aNil L M) QA:=aN q
theorem aLo (h:Okx EX (f L M) fun w M1=>Okx EX (fs L M1) fun ws M2=>QA (w::ws) M2):Okx EX (aCons f fs L M) QA:=aL (h.mono fun _ _ z=>aL (z.mono fun _ _ z=>aN z))
theorem aIe (h:Okx EX (f L M) fun w M1=>∃ b,w=.d (.bl b)/\(b=true->Okx EX (g L M1) Q)/\(b=false->Q (.d (.bl false)) M1)):Okx EX (eAnd f g L M) Q:=by
 refine aL (h.mono fun w M1 ⟨b,e,h1,h2⟩=>?_)
 subst e
 cases b with
 | true=>exact h1 rfl
 | false=>exact aN (h2 rfl)
theorem aLa (h:Okx EX (t L M) fun c M1=>Okx EX (if c=true then f L M1 else g L M1) Q):Okx EX (eIf t f g L M) Q:=aL h
theorem aLw (h:Okx EX (f L M) fun w M1=>∃ b,w=.d (.bl b)/\QT b M1):Okx EX (EV.tB f L M) QT:=aL (h.mono fun w M1 ⟨b,e,q⟩=>by subst e; exact aN q)
theorem aLh (h:Okx EX (f L M) fun w M1=>∃ b,tru M1 w=some b/\QT b M1):Okx EX (tV f L M) QT:=aL (h.mono fun w M1 ⟨b,e,q⟩=>by rw [e]; exact aN q)
theorem aEr (h:Okx EX (t L M) fun b M1=>QT (!b) M1):Okx EX (EV.tNot t L M) QT:=aL (h.mono fun _ _ z=>aN z)
theorem aDr (h:Okx EX (t L M) fun b M1=>(b=true->Okx EX (u L M1) QT)/\(b=false->QT false M1)):Okx EX (EV.tAnd t u L M) QT:=aL (h.mono fun b M1 ⟨h1,h2⟩=>by cases b with | true=>exact h1 rfl | false=>exact aN (h2 rfl))
theorem aIc (h:Okx EX (t L M) fun b M1=>(b=true->QT true M1)/\(b=false->Okx EX (u L M1) QT)):Okx EX (EV.tOr t u L M) QT:=aL (h.mono fun b M1 ⟨h1,h2⟩=>by cases b with | true=>exact aN (h1 rfl) | false=>exact h2 rfl)
theorem aDn (q:QT true M):Okx EX (EV.tYes L M) QT:=aN q
theorem aIg (q:QS (.nx L) M):Okx EX (sNil L M) QS:=aN q
theorem gD (h:Okx EX (F L M) fun o M1=>match o with
 | .nx L1=>Okx EX (G L1 M1) QS
 | .bk L1=>QS (.bk L1) M1
 | .ct L1=>QS (.ct L1) M1
 | .rt w=>QS (.rt w) M1):Okx EX (sSeq F G L M) QS:=aL (h.mono fun o M1 z=>by cases o with | nx L1=>exact z | bk L1=>exact aN z | ct L1=>exact aN z | rt w=>exact aN z)
theorem aLx (h:Okx EX (f L M) fun _ M1=>QS (.nx L) M1):Okx EX (sEx f L M) QS:=aL (h.mono fun _ _ z=>aN z)
theorem aLe (h:Okx EX (f L M) fun w M1=>QS (.rt w) M1):Okx EX (sRt f L M) QS:=aL (h.mono fun _ _ z=>aN z)
theorem lT (h:Okx EX (t L M) fun b M1=>Okx EX (if b=true then F L M1 else G L M1) QS):Okx EX (sIf t F G L M) QS:=aL h
theorem aHz (h:Okx EX (f L M) fun w M1=>Okx EX (gg w L M1) fun L1 M2=>QS (.nx L1) M2):Okx EX (sAs f gg L M) QS:=aL (h.mono fun _ _ z=>aL (z.mono fun _ _ z=>aN z))
theorem aFg (h:Okx EX (fs L M) fun ws M1=>∃ v w,ws=[v,w]/\QS (.nx ((L.set i (some v)).set j (some w))) M1):Okx EX (sPar i j fs L M) QS:=aL (h.mono fun ws M1 ⟨v,w,e,q⟩=>by subst e; exact aN q)
theorem aGc (q:QG (L.set i (some w)) M):Okx EX (gN i w L M) QG:=aN q
theorem aMc {n:Nat} {gs:FGs} {xs:List D} (hn:xs.length=n) (h:Okx EX (gs xs L M) QG):Okx EX (gT n gs (.d (.tup xs)) L M) QG:=by unfold gT; simp only; rw [if_pos hn]; exact h
theorem aHv (q:QG L M):Okx EX (gsNil [] L M) QG:=aN q
theorem aJr {gs:FGs} {d:D} {ds:List D} (h:Okx EX (gg (.d d) L M) fun L1 M1=>Okx EX (gs ds L1 M1) QG):Okx EX (gsCons gg gs (d::ds) L M) QG:=aL h
theorem aLc {d:D} (h:Okx EX (f L M) fun o M1=>Okx EX (g L M1) fun i M2=>∃ k j xs t,o=.ref k/\i=.d (.int j)/\M2[k]?=some xs/\ixN xs.length j=some t/\QG L (M2.set k (xs.set t d))):Okx EX (gS f g (.d d) L M) QG:=by
 refine aL (h.mono fun o M1 z=>aL (z.mono fun i M2 ⟨k,j,xs,t,e1,e2,e3,e4,q⟩=>?_))
 subst e1 e2
 simp only [e3,e4]
 exact aN q
theorem aMe {c:Int->Int->Bool} {gg:Int->Int->D} {i j:Int} (hc:c i j=true) (q:Q (.d (gg i j)) M):Okx EX (pI c gg (.d (.int i)) (.d (.int j)) M) Q:=by unfold pI; simp only; rw [if_pos hc]; exact aN q
theorem aGj {i j:Int} (q:Q (.d (.int (i+j))) M):Okx EX (pAdd (.d (.int i)) (.d (.int j)) M) Q:=aN q
theorem aX {xs ys:List D} (hz:xs.length+ys.length<=16777216) (q:Q (.d (.tup (xs++ys))) M):Okx EX (pAdd (.d (.tup xs)) (.d (.tup ys)) M) Q:=by unfold pAdd; simp only; rw [if_pos hz]; exact aN q
theorem sF {i j:Int} (hz:mulOk i j=true) (q:Q (.d (.int (i*j))) M):Okx EX (pMulA (.d (.int i)) (.d (.int j)) M) Q:=by unfold pMulA pMul; simp only; rw [if_pos hz]; exact aN q
theorem aJm {i:Int} (q:Q (.d (.int (-i))) M):Okx EX (pNeg (.d (.int i)) M) Q:=aN q
theorem aJg {b:Bool} (q:Q (.d (.bl (!b))) M):Okx EX (pNot (.d (.bl b)) M) Q:=aN q
theorem xK {a b:D} (h1:wd M x=some a) (h2:wd M y=some b) (hd:dep a<=100/\dep b<=100) (q:Q (.d (.bl (eqD a b))) M):Okx EX (pEq x y M) Q:=by unfold pEq; rw [h1,h2]; simp only; rw [if_pos hd]; exact aN q
theorem nS {a b:D} (h1:wd M x=some a) (h2:wd M y=some b) (hd:dep a<=100/\dep b<=100) (q:Q (.d (.bl (!eqD a b))) M):Okx EX (pNe x y M) Q:=by unfold pNe; rw [h1,h2]; simp only; rw [if_pos hd]; exact aN q
theorem aGr {i j:Int} (q:Q (.d (.bl (decide (i=j)))) M):Okx EX (pEq (.d (.int i)) (.d (.int j)) M) Q:=xK rfl rfl (by simp [dep]) (by simp only [eqD]; exact q)
theorem aHq {i j:Int} (q:Q (.d (.bl (!decide (i=j)))) M):Okx EX (pNe (.d (.int i)) (.d (.int j)) M) Q:=nS rfl rfl (by simp [dep]) (by simp only [eqD]; exact q)
theorem aKl {a b:Str} (q:Q (.d (.bl (a==b))) M):Okx EX (pEq (.d (.str a)) (.d (.str b)) M) Q:=xK rfl rfl (by simp [dep]) (by simpa only [eqD] using q)
theorem aKo {a b:Str} (q:Q (.d (.bl (!(a==b)))) M):Okx EX (pNe (.d (.str a)) (.d (.str b)) M) Q:=nS rfl rfl (by simp [dep]) (by simpa only [eqD] using q)
theorem aJf {a b:Bool} (q:Q (.d (.bl (!(a==b)))) M):Okx EX (pNe (.d (.bl a)) (.d (.bl b)) M) Q:=nS rfl rfl (by simp [dep]) (by simpa only [eqD] using q)
theorem aKx (q:Q (.d (.bl (isN x))) M):Okx EX (pIs x (.d .non) M) Q:=aN q
theorem aLk {neg:Bool} {d:D} {xs:List D} (h:sv M y=some xs) (hf:flatD d=true) (hx:xs.all flatD=true) (q:Q (.d (.bl (if neg then !(xs.any fun y=>eqD y d) else xs.any fun y=>eqD y d))) M):Okx EX (pInG neg (.d d) y M) Q:=by
 unfold pInG; rw [h]; simp only; rw [if_pos ⟨hf,hx⟩]; exact aN q
theorem lK {xs:List D} {k:Int} {d:D} (h:atI xs k=some d) (q:Q (.d d) M):Okx EX (pIx (.d (.tup xs)) (.d (.int k)) M) Q:=by unfold pIx; simp only [sv,h]; exact aN q
theorem zY {xs:List D} {k:Int} {d:D} (hs:∀ z,x≠.d (.str z)) (h1:sv M x=some xs) (h:atI xs k=some d) (q:Q (.d d) M):Okx EX (pIx x (.d (.int k)) M) Q:=by
 have:pIx x (.d (.int k)) M=.ok (.d d) M:=by
  cases x with
  | ref i=>simp only [pIx,h1,h]
  | d a=>cases a <;> first | (exact (hs _ rfl).elim) | (simp only [pIx,h1,h])
 rw [this]; exact aN q
theorem dE {xs:List D} {k:Int} {d:D} (h:atI xs k=some d) (q:Q (.d d) M):Okx EX (pIx (.d (.lst xs)) (.d (.int k)) M) Q:=zY (by simp) rfl h q
theorem wV {xs:List D} {k:Int} {d:D} (h:atI xs k=some d) (q:Q (.d d) M):Okx EX (pIx (.d (.fz xs)) (.d (.int k)) M) Q:=zY (by simp) rfl h q
theorem cJ {b:Nat} {xs:List D} {k:Int} {d:D} (h1:M[b]?=some xs) (h:atI xs k=some d) (q:Q (.d d) M):Okx EX (pIx (.ref b) (.d (.int k)) M) Q:=zY (by simp) h1 h q
theorem aJe {ws:List W} {ds:List D} (h:allD ws=some ds) (hz:ds.length<=16777216) (q:Q (.d (.tup ds)) M):Okx EX (mkT ws M) Q:=by unfold mkT; rw [h]; simp only; rw [if_pos hz]; exact aN q
theorem aJy {ws:List W} {ds:List D} (h:allD ws=some ds) (hz:ds.length<=16777216) (q:Q (.d (.lst ds)) M):Okx EX (mkL ws M) Q:=by unfold mkL; rw [h]; simp only; rw [if_pos hz]; exact aN q
theorem aJb {ws:List W} {ds:List D} (h:allD ws=some ds) (hz:ds.length<=16777216) (q:Q (.ref M.length) (M++[ds])):Okx EX (mkR ws M) Q:=by unfold mkR; rw [h]; simp only; rw [if_pos hz]; exact aN q
theorem aJh {xs:List D} (hs:∀ z,x≠.d (.str z)) (h:sv M x=some xs) (q:Q (.d (.int xs.length)) M):Okx EX (cLen [x] M) Q:=by
 have:cLen [x] M=.ok (.d (.int xs.length)) M:=by
  cases x with
  | ref i=>simp only [cLen,h]
  | d a=>cases a <;> first | (exact (hs _ rfl).elim) | (simp only [cLen,h])
 rw [this]; exact aN q
theorem aDi {xs:List D} (q:Q (.d (.int xs.length)) M):Okx EX (cLen [.d (.tup xs)] M) Q:=aN q
theorem aFf {xs:List D} (q:Q (.d (.int xs.length)) M):Okx EX (cLen [.d (.lst xs)] M) Q:=aN q
theorem aDg {xs:List D} (q:Q (.d (.int xs.length)) M):Okx EX (cLen [.d (.fz xs)] M) Q:=aN q
theorem aFh {b:Nat} {xs:List D} (h:M[b]?=some xs) (q:Q (.d (.int xs.length)) M):Okx EX (cLen [.ref b] M) Q:=aJh (by simp) h q
theorem aEf {b:Bool} (q:Q (.d (.int (if b=true then 1 else 0))) M):Okx EX (cInt [.d (.bl b)] M) Q:=aN q
theorem aGv {k l:Int} (q:Q (.d (.int (if l > k then l else k))) M):Okx EX (cMax2 [.d (.int k),.d (.int l)] M) Q:=aN q
theorem aJs {k l:Int} (q:Q (.d (.int (if l < k then l else k))) M):Okx EX (cMin2 [.d (.int k),.d (.int l)] M) Q:=aN q
theorem jK {xs:List D} (h:sv M x=some xs) (q:Q (.d (.tup xs)) M):Okx EX (cTup [x] M) Q:=by unfold cTup; simp only [h]; exact aN q
theorem xP {xs:List D} (h:sv M x=some xs) (q:Q (.ref M.length) (M++[xs])):Okx EX (cListR [x] M) Q:=by unfold cListR; simp only [h]; exact aN q
theorem aKd {T:String} {b:Bool} (h:isT T M x=some b) (q:Q (.d (.bl b)) M):Okx EX (pIsI T x M) Q:=by unfold pIsI; rw [h]; exact aN q
theorem aKs {p:W->W->Mm->Oc W} (h:Okx EX (f L M) fun x M1=>∃ k,x=.ref k/\Okx EX (g L M1) fun y M2=>Okx EX (p (.ref k) y M2) Q):Okx EX (eM1 p f g L M) Q:=aL (h.mono fun x M1 ⟨k,e,z⟩=>by subst e; exact aL z)
theorem fX {k:Nat} {d:D} {xs:List D} (h:M[k]?=some xs) (hz:xs.length < 16777216) (q:Q (.d .non) (M.set k (xs++[d]))):Okx EX (pAppend (.ref k) (.d d) M) Q:=by unfold pAppend; simp only [h]; rw [if_pos hz]; exact aN q
theorem zB {k:Nat} {xs ys:List D} (h:M[k]?=some xs) (h2:lv M y=some ys) (hz:xs.length+ys.length<=16777216) (q:Q (.d .non) (M.set k (xs++ys))):Okx EX (pExtend (.ref k) y M) Q:=by unfold pExtend; simp only [h,h2]; rw [if_pos hz]; exact aN q
theorem aHl {k:Nat} {xs:List D} {d:D} (h:M[k]?=some (xs++[d])) (q:Q (.d d) (M.set k xs)):Okx EX (pPop (.ref k) M) Q:=by
 unfold pPop; simp only [h,List.getLast?_concat,List.dropLast_concat]; exact aN q
theorem aKu {fl fh:FO} (z:Okx EX (f L M) fun x M1=>Okx EX (fl L M1) fun lo M2=>Okx EX (fh L M2) fun hi M3=>Okx EX (pSl x lo hi M3) Q):Okx EX (eSl f fl fh L M) Q:=aL (z.mono fun _ _ z=>aL (z.mono fun _ _ z=>aL z))
theorem aHi {QO:Option Int->Mm->Prop} (q:QO none M):Okx EX (oNo L M) QO:=aN q
theorem aGx {QO:Option Int->Mm->Prop} (h:Okx EX (f L M) fun w M1=>∃ k,w=.d (.int k)/\QO (some k) M1):Okx EX (oAt f L M) QO:=aL (h.mono fun w M1 ⟨k,e,q⟩=>by subst e; exact aN q)
theorem aIp {xs:List D} {lo hi:Option Int} (q:Q (.d (.tup (cut xs lo hi))) M):Okx EX (pSl (.d (.tup xs)) lo hi M) Q:=aN q
theorem aKa {fi:FI} {B:FS} (h:Okx EX (fi L M) fun s M1=>Okx EX (forD s gg B s.ds L M1) QS):Okx EX (sFor fi gg B L M) QS:=aL h
theorem aLd {s:Src} {QI:Src->Mm->Prop} (h:Okx EX (f L M) fun w M1=>∃ s,srcOf M1 w=some s/\QI s M1):Okx EX (iE f L M) QI:=aL (h.mono fun w M1 ⟨s,e,q⟩=>by rw [e]; exact aN q)
theorem aJk {QI:Src->Mm->Prop} (h:Okx EX (f L M) fun w M1=>∃ j,w=.d (.int j)/\in62 j=true/\QI ⟨rngD 0 j.toNat,none⟩ M1):Okx EX (iR1 f L M) QI:=aL (h.mono fun w M1 ⟨j,e,hz,q⟩=>by subst e; simp only; rw [if_pos hz]; exact aN q)
theorem dG {s:Src} {B:FS} (I:Nat->Lc->Mm->Prop) (h0:I 0 L M) (hc:∀ i L M,i<=s.ds.length->I i L M->Chk s M)
  (hs:∀ i d L M,s.ds[i]?=some d->I i L M->Okx EX (gg (.d d) L M) fun L1 M1=>Okx EX (B L1 M1) fun o M2=>match o with
   | .nx L2=>I (i+1) L2 M2
   | .ct L2=>I (i+1) L2 M2
   | .bk L2=>QS (.nx L2) M2
   | .rt w=>QS (.rt w) M2) (hd:∀ L M,I s.ds.length L M->QS (.nx L) M):Okx EX (forD s gg B s.ds L M) QS:=by
 have key:∀ k i L M,s.ds.length - i=k->i<=s.ds.length->I i L M->Okx EX (forD s gg B (s.ds.drop i) L M) QS:=by
  intro k
  induction k with
  | zero =>
   intro i L M e hi hI
   have:i=s.ds.length:=by omega
   subst this
   rw [List.drop_eq_nil_of_le (Nat.le_refl _)]
   unfold forD
   rw [if_pos (hc _ L M (Nat.le_refl _) hI)]
   exact aN (hd L M hI)
  | succ k ih =>
   intro i L M e hi hI
   have hlt:i < s.ds.length:=by omega
   rw [List.drop_eq_getElem_cons hlt]
   unfold forD
   rw [if_pos (hc _ L M hi hI)]
   refine aL ((hs i s.ds[i] L M (by simp [hlt]) hI).mono fun L1 M1 z=>aL (z.mono fun o M2 z=>?_))
   cases o with
   | nx L2=>exact ih (i+1) L2 M2 (by omega) (by omega) z
   | ct L2=>exact ih (i+1) L2 M2 (by omega) (by omega) z
   | bk L2=>exact aN z
   | rt w=>exact aN z
 simpa using key s.ds.length 0 L M (by omega) (by omega) h0
theorem fU {t:FT} {B:FS} (I:Nat->Lc->Mm->Prop) (hs:∀ m L M,I m L M->Okx EX (t L M) fun b M1=>(b=true->Okx EX (B L M1) fun o M2=>match o with
   | .nx L2=>∃ m',m' < m/\I m' L2 M2
   | .ct L2=>∃ m',m' < m/\I m' L2 M2
   | .bk L2=>QS (.nx L2) M2
   | .rt w=>QS (.rt w) M2)/\(b=false->QS (.nx L) M1)):∀ (n m:Nat) (L:Lc) (M:Mm),I m L M->m < n->Okx EX (whileD t B n L M) QS:=by
 intro n
 induction n with
 | zero=>intro m L M _ h; omega
 | succ n ih =>
  intro m L M hI hm
  unfold whileD
  refine aL ((hs m L M hI).mono fun b M1 ⟨h1,h2⟩=>?_)
  cases b with
  | false=>exact aN (h2 rfl)
  | true =>
   refine aL ((h1 rfl).mono fun o M2 z=>?_)
   cases o with
   | nx L2=>obtain ⟨m',l,z⟩:=z; exact ih m' L2 M2 z (by omega)
   | ct L2=>obtain ⟨m',l,z⟩:=z; exact ih m' L2 M2 z (by omega)
   | bk L2=>exact aN z
   | rt w=>exact aN z
theorem kS {js:List (Option Nat)} {fi:FI} {c:FT} (I:Nat->List D->Lc->Mm->Prop)
  (h:Okx EX (fi L M) fun s M1=>(I 0 [] (outL js L) M1/\(∀ i acc L M,i<=s.ds.length->I i acc L M->M.length=M1.length/\Chk s (M++[acc])/\acc.length<=i)/\s.ds.length<=16777216 /\
   (∀ i d acc L M,s.ds[i]?=some d->I i acc L M->Ok (gg (.d d) L (M++[acc])) fun L1 M2=>Ok (c L1 M2) fun b M3=>(b=true->Ok (f L1 M3) fun w M4=>∃ x M5,w=.d x/\M4=M5++[acc]/\I (i+1) (acc++[x]) L1 M5)/\(b=false->∃ M5,M3=M5++[acc]/\I (i+1) acc L1 M5)) /\
   (∀ acc L M,I s.ds.length acc L M->Q (.d (.lst acc)) M))):Okx EX (eComp js fi gg c f L M) Q:=by
 unfold eComp compT
 refine aL (aL (h.mono fun s M1 ⟨h0,hc,hz,hs,hd⟩=>?_))
 have key:∀ k i acc L M,s.ds.length - i=k->i<=s.ds.length->I i acc L M->∃ acc' L' M',compD M1.length s gg c f (s.ds.drop i) L (M++[acc])=.ok () (M'++[acc'])/\I s.ds.length acc' L' M':=by
  intro k
  induction k with
  | zero =>
   intro i acc L M e hi hI
   have:i=s.ds.length:=by omega
   subst this
   rw [List.drop_eq_nil_of_le (Nat.le_refl _)]
   unfold compD
   rw [if_pos (hc _ acc L M (Nat.le_refl _) hI).2.1]
   exact ⟨acc,L,M,rfl,hI⟩
  | succ k ih =>
   intro i acc L M e hi hI
   have hlt:i < s.ds.length:=by omega
   rw [List.drop_eq_getElem_cons hlt]
   unfold compD
   obtain ⟨hl,hch,hal⟩:=hc _ acc L M hi hI
   rw [if_pos hch]
   obtain ⟨L1,M2,e1,hh⟩:=qU.mp (hs i s.ds[i] acc L M (by simp [hlt]) hI)
   obtain ⟨L1',M3,e2,h1,h2⟩:=qU.mp hh
   rw [e1]
   simp only [fG]
   rw [e2]
   simp only [fG]
   cases L1' with
   | false =>
    obtain ⟨M5,e3,hI'⟩:=h2 rfl
    subst e3
    simp only [Bool.false_eq_true,if_false]
    exact ih (i+1) acc L1 M5 (by omega) (by omega) hI'
   | true =>
    obtain ⟨w,M4,e3,x,M5,rfl,rfl,hI'⟩:=qU.mp (h1 rfl)
    simp only [if_true]
    rw [e3]
    simp only [fG]
    have hl5:=(hc _ _ _ _ (by omega) hI').1
    have g1:(M5++[acc])[M1.length]?=some acc:=by rw [<- hl5]; simp
    rw [g1]
    simp only
    rw [if_pos (by omega)]
    have g2:(M5++[acc]).set M1.length (acc++[x])=M5++[acc++[x]]:=by rw [<- hl5]; simp
    rw [g2]
    exact ih (i+1) (acc++[x]) L1 M5 (by omega) (by omega) hI'
 obtain ⟨acc,L',M',e,hI⟩:=key s.ds.length 0 [] (outL js L) M1 (by omega) (by omega) h0
 rw [List.drop_zero] at e
 rw [e]
 have hl:=(hc _ _ _ _ (Nat.le_refl _) hI).1
 have g1:(M'++[acc])[M1.length]?=some acc:=by rw [<- hl]; simp
 have g2:(M'++[acc]).take M1.length=M':=by rw [<- hl]; simp
 simp only [g1,g2]
 exact aN (aN (hd acc L' M' hI))
theorem bB {m n:Nat} {F:FS} {ws:List W} (hm:ws.length=m) (h:Okx EX (F (ws.map some++List.replicate (n - ws.length) none) M) fun o M'=>match o with
  | .rt w=>Okx EX (retc M.length w M') Q
  | .nx _=>Q (.d .non) (M'.take M.length)
  | _=>False):Okx EX (fnD m n F ws M) Q:=by
 unfold fnD
 rw [if_pos hm]
 refine aL (h.mono fun o M' z=>?_)
 cases o with
 | rt w=>exact z
 | nx L=>exact aN z
 | bk L=>exact z.elim
 | ct L=>exact z.elim
theorem aDx {n:Nat} {d:D} (q:Q (.d d) (M.take n)):Okx EX (retc n (.d d) M) Q:=aN q
theorem aGq {m n:Nat} {F:FS} {ws:List W} (hm:ws.length=m) (h:Okx EX (F (ws.map some++List.replicate (n - ws.length) none) M) fun o M'=>∃ i ds,o=.rt (.ref i)/\M.length<=i/\M'[i]?=some ds/\Q (.ref M.length) (M'.take M.length++[ds])):Okx EX (fnR m n F ws M) Q:=by
 unfold fnR
 rw [if_pos hm]
 refine aL (h.mono fun o M' ⟨i,ds,e,hi,e2,q⟩=>?_)
 subst e
 simp only [e2]
 rw [if_pos hi]
 exact aN q
end
noncomputable def Bx (M:Mm) (b:Nat):Prop:=∃ x y z,M[b]?=some [.int x,.int y,.int z]
noncomputable def Nx (b:Nat) (M M':Mm):Prop:=∃ x y z,M'=M.set b [.int x,.int y,.int z]
theorem Bx.lt {M:Mm} {b:Nat} (h:Bx M b):b < M.length:=by obtain ⟨x,y,z,e⟩:=h; exact (List.getElem?_eq_some_iff.mp e).1
theorem Nx.len {M M':Mm} {b:Nat} (h:Nx b M M'):M'.length=M.length:=by obtain ⟨x,y,z,rfl⟩:=h; simp
theorem Nx.bx {M M':Mm} {b:Nat} (h:Nx b M M') (l:Bx M b):Bx M' b:=by
 obtain ⟨x,y,z,rfl⟩:=h
 exact ⟨x,y,z,List.getElem?_set_self l.lt⟩
theorem Nx.trans {M M1 M2:Mm} {b:Nat} (h:Nx b M M1) (h':Nx b M1 M2):Nx b M M2:=by
 obtain ⟨x,y,z,rfl⟩:=h
 obtain ⟨x',y',z',rfl⟩:=h'
 exact ⟨x',y',z',by rw [List.set_set]⟩
theorem Nx.refl {M:Mm} {b:Nat} (h:Bx M b):Nx b M M:=by
 obtain ⟨x,y,z,e⟩:=h
 refine ⟨x,y,z,?_⟩
 apply List.ext_getElem?
 intro i
 by_cases hi:b=i
 ·subst hi; rw [List.getElem?_set_self (List.getElem?_eq_some_iff.mp e).1,e]
 ·rw [List.getElem?_set_ne hi]
theorem Nx.get {M M':Mm} {b i:Nat} (h:Nx b M M') (n:b≠i):M'[i]?=M[i]?:=by
 obtain ⟨x,y,z,rfl⟩:=h
 rw [List.getElem?_set_ne n]
theorem Nx.app {M M':Mm} {b:Nat} {J:Mm} (h:Nx b M M') (l:b < M.length):Nx b (M++J) (M'++J):=by
 obtain ⟨x,y,z,rfl⟩:=h
 exact ⟨x,y,z,by rw [List.set_append_left _ _ l]⟩
theorem Nx.unapp {M M' J:Mm} {b:Nat} (h:Nx b (M++J) M') (l:b < M.length):∃ M1,M'=M1++J/\Nx b M M1:=by
 obtain ⟨x,y,z,rfl⟩:=h
 exact ⟨_,List.set_append_left _ _ l,x,y,z,rfl⟩
theorem Bx.app {M J:Mm} {b:Nat} (h:Bx M b):Bx (M++J) b:=by
 obtain ⟨x,y,z,e⟩:=h
 exact ⟨x,y,z,by rw [List.getElem?_append_left (List.getElem?_eq_some_iff.mp e).1]; exact e⟩
theorem Nx.take {M M':Mm} {b:Nat} (h:Nx b M M'):M'.take M.length=M':=by rw [<- h.len,List.take_length]
mutual
noncomputable def sz:D->Nat
 | .tup xs=>szs xs+1
 | .lst xs=>szs xs+1
 | .fz xs=>szs xs+1
 | .exn _ _ xs=>szs xs+1
 | _=>1
noncomputable def szs:List D->Nat
 | []=>0
 | x::xs=>sz x+szs xs
end
mutual
noncomputable def noL:D->Bool
 | .tup xs=>noLs xs
 | .lst _=>false
 | .fz _=>false
 | .exn _ _ _=>false
 | _=>true
noncomputable def noLs:List D->Bool
 | []=>true
 | x::xs=>noL x&&noLs xs
end
theorem aBs (d:D):0 < sz d:=by cases d <;> simp [sz]
theorem jI:∀ xs ys:List D,szs (xs++ys)=szs xs+szs ys
 | [],ys=>by simp [szs]
 | x::xs,ys=>by simp [szs,jI xs ys]; omega
theorem rH:∀ xs:List D,xs.length<=szs xs
 | []=>by simp [szs]
 | x::xs=>by have:=rH xs; have:=aBs x; simp [szs]; omega
theorem uS:∀ {xs:List D},noLs xs=true->∀ {x},x∈xs->noL x=true
 | [],_,_,h=>by cases h
 | y::ys,h,x,hx=>by
  simp only [noLs,Bool.and_eq_true] at h
  rcases List.mem_cons.mp hx with rfl | hx
  ·exact h.1
  ·exact uS h.2 hx
theorem aDk {xs:List D} (h:noL (.tup xs)=true) {x:D} (hx:x∈xs):noL x=true:=uS (by simpa [noL] using h) hx
theorem aHb {M:Mm} {x y:W} {xs ys:List D} {Q:W->Mm->Prop} (h1:sv M x=some xs) (h2:sv M y=some ys) (q:Q (.d (.lst (zipT xs ys))) M):Okx EX (pZip x y M) Q:=by unfold pZip; rw [h1,h2]; exact aN q
theorem atBox (c:Int):atI [D.int 0,D.int c] (if decide ((10:Int) ^ (Int.toNat 18)<=c)=true then 1 else 0)=some (.int (if (1000000000000000000:Int)<=c then c else 0)):=by
 by_cases hc:(1000000000000000000:Int)<=c <;> simp [hc,atI,ixN]
end
end EV
namespace EV
open PySem PySem.Spec PyProof.Rows L2
variable {EX:D->Mm->Prop}
section
variable {X:Cx} {K:PySem.W.Frag} {Z:Zt} {pos:Pos}
end
section
variable {L:Lc} {M:Mm} {f:FE} {Q:W->Mm->Prop}
theorem aIu {QI:Src->Mm->Prop} (h:Okx EX (f L M) fun w M1=>∃ xs,(w=.d (.tup xs)\/w=.d (.lst xs)\/w=.d (.fz xs))/\QI ⟨xs.reverse,none⟩ M1):Okx EX (iRv f L M) QI:=by
 refine aL (h.mono ?_)
 rintro w M1 ⟨xs,rfl | rfl | rfl,q⟩ <;> exact aN q
end
end EV
namespace EV
open PySem PySem.Spec PyProof.Rows L2
variable {EX:D->Mm->Prop}
section
variable {X:Cx} {K:PySem.W.Frag} {Z:Zt} {μ:List Addr} {H:Hp} {M:Mm} {a b c:Expr} {pos:Pos} {fs:FA}
noncomputable def sBad:FS:=fun _ _=>.bad
theorem aGl {st:Stmt} (hk:X.K=K:=by rfl):Es X K Z st sBad:=⟨hk,cqS aAo fun _ _ _ ⟨_,_,_,_,_,p⟩=>p⟩
noncomputable def srt (ns:List Int):List Int:=ns.mergeSort fun a b=>decide (a<=b)
theorem lJ (ns:List Int):(srt ns).Perm ns:=List.mergeSort_perm _ _
theorem oP (ns:List Int):(srt ns).Pairwise (·<=·):=by
 have:=List.pairwise_mergeSort (le:=fun a b:Int=>decide (a<=b)) (fun a b c h1 h2=>by simp at *; omega) (fun a b=>by simp; omega) ns
 exact this.imp fun h=>by simpa using h
theorem aCo {ns ns':List Int} (p:ns'.Perm ns) (o:ns'.Pairwise (·<=·)):ns'=srt ns :=
 List.Perm.eq_of_pairwise (le:=(·<=·)) (fun a b _ _ h1 h2=>Int.le_antisymm h1 h2) o (oP ns) (p.trans (lJ ns).symm)
theorem vA (ns:List Int):(srt ns).length=ns.length:=(lJ ns).length_eq
theorem aEs {ns:List Int} {x:Int}:x∈srt ns ↔ x∈ns:=(lJ ns).mem_iff
theorem gB {us:List Value}:∀ {ns:List Int},Vals (ns.map V.int) us->IntsAre us ns:=by
 induction us with
 | nil=>intro ns h; cases ns with
  | nil=>exact .nil
  | cons n r=>cases h
 | cons u us ih=>intro ns h; cases ns with
  | nil=>cases h
  | cons n r =>
   cases h with
   | cons p q =>
    obtain ⟨t,rfl⟩:=p
    exact .cons n t (ih q)
theorem tS {us:List Value} {ns:List Int} (h:IntsAre us ns):Vals (ns.map V.int) us:=by
 induction h with
 | nil=>exact .nil
 | cons n t _ ih=>exact .cons ⟨t,rfl⟩ ih
theorem tE:CallR X (.builtin "sorted") (fun xs H Q=>∃ p ns,xs=[.ref p]/\SqL X.K H p (ns.map V.int)/\ns.length < 64/\∀ l,H l=none->Q (.ref l) (upd H l (.lst ((srt ns).map V.int)))):=by
 intro pins s σ H xs us Q I r h
 obtain ⟨p,ns,rfl,hq,h64,q⟩:=h
 obtain ⟨u,rfl,rx⟩:=vals1 r
 cases rx
 obtain ⟨its,r',pl,hz⟩:=I.list hq
 have hI:=gB r'
 have hlen:its.length=ns.length:=by have:=r'.length; simpa using this.symm
 refine sorted_ints pl.isList hI (by omega) fun out ns' a1 a2 a3=>?_
 have e:=aCo a2 a3
 subst e
 obtain ⟨c,hc⟩:=sortedAll_at s.heap its out
 refine ⟨.ref (s.heap.objs.size+1),_,I.laid (t':=s.toks) (fun b o e=>sortedAll_old e) (Nat.le_succ _) (show ObjOk X.prog X.w _ _ _ (.lst ((srt ns).map V.int)) from ⟨by rw [sizeLine_eq]; simp [vA]; omega,out.toList,c,tS a1,by simpa using hc⟩),rfl,q _ (I.hok.fresh (Nat.le_succ _))⟩
noncomputable def intsOf:List D->Option (List Int)
 | []=>some []
 | .int i::r=>(intsOf r).map (i::·)
 | _::_=>none
theorem oD (ns:List Int):intsOf (ns.map D.int)=some ns:=by
 induction ns with
 | nil=>rfl
 | cons n r ih=>simp only [List.map_cons,intsOf,ih,Option.map_some]
theorem iO:∀ {ds:List D} {ns:List Int},intsOf ds=some ns->ds=ns.map D.int
 | [],ns,h=>by cases h; rfl
 | .int i::r,ns,h=>by
  simp only [intsOf,Option.map_eq_some_iff] at h
  obtain ⟨ms,h1,rfl⟩:=h
  rw [iO h1]; rfl
 | .non::_,_,h=>by cases h
 | .bl _::_,_,h=>by cases h
 | .str _::_,_,h=>by cases h
 | .tup _::_,_,h=>by cases h
 | .lst _::_,_,h=>by cases h
 | .fz _::_,_,h=>by cases h
 | .exn _ _ _::_,_,h=>by cases h
theorem lG:∀ {ns:List Int} {vs:List V},Rps K μ H (ns.map D.int) vs->vs=ns.map V.int
 | [],vs,h=>by simpa [Rps] using h
 | n::r,vs,h=>by
  simp only [List.map_cons,Rps,Rp] at h
  obtain ⟨v,t,rfl,rfl,h3⟩:=h
  rw [lG h3]; rfl
noncomputable def cSorted (ws:List W) (M:Mm):Oc W:=match ws with
 | [w]=>match lr M w with
  | some xs=>match intsOf xs with
   | some ns=>if ns.length < 64 then okD (.lst ((srt ns).map .int)) M else .bad
   | none=>.bad
  | none=>.bad
 | _=>.bad
theorem callSorted (hc:X.calm=true):ClG X K Z (.builtin "sorted") cSorted:=fun hk=>by
 refine ⟨_,hk▸tE,?_⟩
 intro μ H M ws vs Q hr rx p
 match ws,rx,p with
 | [],_,p=>exact p.elim
 | [w],⟨v,r,e1,e2,e3⟩,p =>
  cases e3; subst e1
  simp only [cSorted] at p
  cases q:lr M w with
  | none=>rw [q] at p; exact p.elim
  | some xs =>
   rw [q] at p
   simp only at p
   cases q2:intsOf xs with
   | none=>rw [q2] at p; exact p.elim
   | some ns =>
    rw [q2] at p
    simp only at p
    split at p
    ·rename_i hz
     obtain ⟨a,us,rfl,h1,r1⟩:=xB hr e2 q
     have e:=iO q2
     subst e
     have e:=lG r1
     subst e
     exact ⟨a,ns,rfl,h1,hz,iL hr Rps.ints p⟩
    ·exact p.elim
 | _::_::_,_,p=>exact p.elim
end
section
variable {L:Lc} {M:Mm} {w x:W} {f:FE} {fs:FA} {Q:W->Mm->Prop} {QS:Out->Mm->Prop}
theorem qE {ns:List Int} {ds:List D} (h:lr M x=some ds) (e:ds=ns.map D.int) (hz:ns.length < 64) (q:Q (.d (.lst ((srt ns).map D.int))) M):Okx EX (cSorted [x] M) Q:=by
 subst e
 unfold cSorted; simp only [h,oD]; rw [if_pos hz]; exact aN q
end
end EV
namespace EV
open PySem PySem.Spec PyProof.Rows L2
variable {EX:D->Mm->Prop}
section
variable {X:Cx} {K:PySem.W.Frag} {Z:Zt} {μ:List Addr} {H:Hp} {M:Mm} {a b c o i e:Expr} {pos:Pos} {fs:FA} {fa fb fc fo fi fe:FE}
theorem aDb {op op':CmpOp} {g g':W->W->Mm->Oc W} (ho:OpG X K Z (compareOp op) g) (ho':OpG X K Z (compareOp op') g') (ha:Ev X K Z a fa) (hb:Ev X K Z b fb) (hc:Ev X K Z c fc)
  (hm:lastMarks [op,op'] [b,c]=false:=by with_unfolding_all rfl):Ev X K Z (.Compare a [op,op'] [b,c] pos) (e3c g g' fa fb fc):=by
 obtain ⟨r,h1,h2⟩:=ho ha.k
 obtain ⟨r',h1',h2'⟩:=ho' ha.k
 refine ⟨ha.k,cqE (aCn h1 h1' ha.h hb.h hc.h hm) ?_⟩
 rintro σ H Q ⟨μ,M,L,hr,lr,p⟩
 refine ⟨μ,M,L,hr,lr,p.bind.imp fun μ1 H1 M1 x e1 hr1 _ p1 v rx=>?_⟩
 refine ⟨μ1,M1,L,hr1,lr.ext hr.lsts e1,p1.bind.imp fun μ2 H2 M2 y e2 hr2 _ p2 u ry=>?_⟩
 refine h2 μ2 H2 M2 x y v u _ hr2 (rx.ext hr1.lsts e2) ry (p2.bind.imp fun μ3 H3 M3 w e3 hr3 _ p3 vw rw'=>?_)
 cases w with
 | ref i=>exact p3.elim
 | d z=>cases z with
  | bl k =>
   refine ⟨k,by simpa [Rw,Rp] using rw',?_⟩
   cases k with
   | false=>exact p3 μ3 H3 .refl hr3 _ (by simp [Rw,Rp])
   | true =>
    refine ⟨μ3,M3,L,hr3,lr.ext hr.lsts ((e1.trans e2).trans e3),p3.bind.imp fun μ4 H4 M4 z e4 hr4 _ p4 v4 rz=>?_⟩
    exact h2' μ4 H4 M4 y z u v4 _ hr4 (ry.ext hr2.lsts (e3.trans e4)) rz p4
  | _=>exact p3.elim
end
section
variable {L:Lc} {M:Mm} {fo fi fe:FE} {QS:Out->Mm->Prop}
end
end EV
namespace L2
open PySem PySem.Spec PyProof.Rows
section
variable {X:Cx} {pins:List (Addr×Obj)} {σ:St} {H:Hp} {s:Shared} {h':Heap} {fp:List Addr}
theorem Inv.turnLay {t':Nat} {T:Addr} {o:HO} (I:Inv X pins σ H s) (hf:∀ b∈fp,FpOk X pins H b) (k:∀ b u,b∉fp->s.heap.get? b=some u->h'.get? b=some u) (hT:s.heap.objs.size<=T) (new:ObjOk X.prog X.w (upd H T o) h' T o) :
  Inv X pins σ (upd H T o) { s with heap:=h',toks:=t' }:=by
 have hn:H T=none:=I.hok.fresh hT
 have nfp:∀ b u,H b=some u->b∉fp:=fun b u e z=>by rw [(hf b z).1] at e; cases e
 have lt:∀ b u,s.heap.get? b=some u->b≠T:=fun b u e z=>by subst z; exact absurd (Heap.lt_size e) (Nat.not_lt.mpr hT)
 have neT:∀ b u,H b=some u->b≠T:=fun b u e z=>by rw [z,hn] at e; cases e
 refine I.step (g':=s.gens) (d':=s.drawn) (ch:=fp) (fun b hb=>?_) (fun b u _ _ hc e _=>k b u hc e) (fun b u _ _ hc e _=>⟨u.slots,k b u hc e⟩) (fun b u _ e n=>by rw [bF (lt b u e)]; exact n)
  (fun b u hc e=>⟨u,k b u hc e⟩) (fun b xs e=>by rw [bF (neT b _ e)]; exact e) (fun b u v e=>by rw [bF (neT b _ e)]; exact e) (fun b ps e=>⟨#[],by rw [bF (neT b _ e),e]; simp⟩) (fun m hm=>?_) (fun b u e=>?_) I.bare
 ·obtain ⟨_,f1,_,f3,f4,f5⟩:=hf b hb
  exact ⟨f3,f1,f4,f5⟩
 ·obtain ⟨u,es,ep,ho,r⟩:=hm
  exact ⟨u,es,ep,k _ u (fun z=>(hf _ z).2.1 rfl) ho,r⟩
 ·by_cases hb:b=T
  ·subst hb; rw [dX] at e; cases e; exact new
  ·rw [bF hb] at e
   refine (I.hok b u e).stay (fun c v hc q=>k c v ?_ q) (fun c q=>by rw [bF (neT c _ q)]; exact q) fun c xs q=>by rw [bF (neT c _ q)]; exact q
   rcases hc with z | z
   ·rw [z]; exact nfp b u e
   ·exact nfp c _ z
theorem Inv.turnedL {t':Nat} (I:Inv X pins σ H s) (hf:∀ b∈fp,FpOk X pins H b) (k:∀ b u,b∉fp->s.heap.get? b=some u->h'.get? b=some u):Inv X pins σ H { s with heap:=h',toks:=t' }:=by
 have nfp:∀ b u,H b=some u->b∉fp:=fun b u e z=>by rw [(hf b z).1] at e; cases e
 refine I.step (g':=s.gens) (d':=s.drawn) (ch:=fp) (fun b hb=>?_) (fun b u _ _ hc e _=>k b u hc e) (fun b u _ _ hc e _=>⟨u.slots,k b u hc e⟩) (fun _ _ _ _ n=>n)
  (fun b u hc e=>⟨u,k b u hc e⟩) (fun _ _ e=>e) (fun _ _ _ e=>e) (fun b ps e=>⟨#[],by rw [e]; simp⟩) (fun m hm=>?_) (fun b u e=>?_) I.bare
 ·obtain ⟨_,f1,_,f3,f4,f5⟩:=hf b hb
  exact ⟨f3,f1,f4,f5⟩
 ·obtain ⟨u,es,ep,ho,r⟩:=hm
  exact ⟨u,es,ep,k _ u (fun z=>(hf _ z).2.1 rfl) ho,r⟩
 ·refine (I.hok b u e).stay (fun c v hc q=>k c v ?_ q) (fun _ q=>q) fun _ _ q=>q
  rcases hc with z | z
  ·rw [z]; exact nfp b u e
  ·exact nfp c _ z
end
noncomputable def SqB (b:Bool) (K:PySem.W.Frag) (H:Hp) (a:Addr) (xs:List V):Prop:=if b=true then SqL K H a xs else SqT K H a xs
noncomputable def It0 (b:Bool) (h:Heap) (it src:Addr) (i:Nat):Prop:=if b=true then h.IsListIter it src i else h.IsTupleIter it src i
noncomputable def IsB (b:Bool) (h:Heap) (a:Addr) (xs:Array Value):Prop:=if b=true then h.IsList a xs else h.IsTuple a xs
theorem It0.at {b:Bool} {h h':Heap} {it src:Addr} {i:Nat} (x:It0 b h it src i) (k:∀ o,h.get? it=some o->h'.get? it=some o):It0 b h' it src i:=by
 cases b
 ·exact Heap.IsTupleIter.at x k
 ·exact Heap.IsListIter.at x k
theorem It0.obj {b:Bool} {h:Heap} {it src:Addr} {i:Nat} (x:It0 b h it src i):∃ o,h.get? it=some o/\∀ v,o.data≠.cell v:=by
 cases b
 ·obtain ⟨o,e,c,d⟩:=(show h.IsTupleIter it src i from x)
  exact ⟨o,e,fun v z=>by rw [d] at z; cases z⟩
 ·obtain ⟨o,e,c,d⟩:=(show h.IsListIter it src i from x)
  exact ⟨o,e,fun v z=>by rw [d] at z; cases z⟩
theorem aCi {b:Bool} {h:Heap} {it src:Addr} {i:Nat} {xs:Array Value} (x:It0 b h it src i) (y:IsB b h src xs):ZP.It1 h it src i xs:=by
 cases b
 ·exact .inr ⟨x,y⟩
 ·exact .inl ⟨x,y⟩
theorem aKj {b:Bool} {h:Heap} {it src:Addr} {i:Nat} {xs ys:Array Value} (y:IsB b h src ys) (x:ZP.It1 h it src i xs):It0 b h it src i:=by
 cases b
 ·rcases x with ⟨_,o,e,c,_⟩ | ⟨x,_⟩
  ·obtain ⟨o',e',c',_⟩:=(show h.IsTuple src ys from y)
   rw [e] at e'; cases e'; rw [c] at c'; simp at c'
  ·exact x
 ·rcases x with ⟨x,_⟩ | ⟨_,o,e,c,_⟩
  ·exact x
  ·obtain ⟨o',e',c',_⟩:=(show h.IsList src ys from y)
   rw [e] at e'; cases e'; rw [c] at c'; simp at c'
theorem IsB.at {b:Bool} {h h':Heap} {a:Addr} {xs:Array Value} (x:IsB b h a xs) (k:∀ o,h.get? a=some o->h'.get? a=some o):IsB b h' a xs:=by
 cases b
 ·obtain ⟨o,e,r⟩:=(show h.IsTuple a xs from x); exact ⟨o,k o e,r⟩
 ·obtain ⟨o,e,r⟩:=(show h.IsList a xs from x); exact ⟨o,k o e,r⟩
theorem IsB.lt {b:Bool} {h:Heap} {a:Addr} {xs:Array Value} (x:IsB b h a xs):a < h.objs.size:=by
 cases b
 ·obtain ⟨o,e,r⟩:=(show h.IsTuple a xs from x); exact Heap.lt_size e
 ·obtain ⟨o,e,r⟩:=(show h.IsList a xs from x); exact Heap.lt_size e
theorem SqB.inv {X:Cx} {pins:List (Addr×Obj)} {σ:St} {H:Hp} {s:Shared} {b:Bool} {a:Addr} {xs:List V} (I:Inv X pins σ H s) (h:SqB b X.K H a xs):∃ its:List Value,Vals xs its/\IsB b s.heap a its.toArray/\xs.length<=sizeLine:=by
 cases b
 ·obtain ⟨its,r,pl,hz⟩:=I.tuple (show SqT X.K H a xs from h); exact ⟨its,r,pl,hz⟩
 ·obtain ⟨its,r,pl,hz⟩:=I.list (show SqL X.K H a xs from h); exact ⟨its,r,pl.isList,hz⟩
section
variable {prog:Program} {w:World} {A:Around} {E:Value->Shared->Prop} {s:Shared}
end
end L2
namespace EV
open PySem PySem.Spec PyProof.Rows L2
variable {EX:D->Mm->Prop}
section
variable {X:Cx} {K:PySem.W.Frag} {Z:Zt} {μ:List Addr} {H:Hp} {M:Mm} {a b:Expr} {pos:Pos} {f g:FE} {tg:Expr}
noncomputable def dz:W->Option (List D)
 | .d (.tup xs)=>some xs
 | .d (.lst xs)=>some xs
 | .d (.fz xs)=>some xs
 | _=>none
theorem aIy {w:W} {v:V} {ds:List D} (r:Rw K μ H w v) (h:dz w=some ds):∃ (b:Bool) (a:Addr) (vs:List V) (S:List Addr->Hp->Prop),v=.ref a/\S μ H/\(∀ μ1 H1 μ2 H2,Lsts μ1 H1->S μ1 H1->Ext μ1 H1 μ2 H2->S μ2 H2)/\∀ μ1 H1,S μ1 H1->SqB b K H1 a vs/\Rps K μ1 H1 ds vs:=by
 cases w with
 | ref i=>cases h
 | d x=>cases x with
  | tup xs =>
   cases h
   simp only [Rw,Rp] at r
   obtain ⟨p,vs,rfl,h1,r1⟩:=r
   exact ⟨false,p,vs,fun μ2 H2=>H2 p=some (.tup vs)/\Rps K μ2 H2 ds vs,rfl,⟨h1,r1⟩,fun μ1 H1 μ2 H2 l z e=>⟨e.keep _ _ (fun q=>by obtain ⟨us,q⟩:=l p q; rw [z.1] at q; cases q) z.1,Rps.ext l e _ _ z.2⟩,fun μ1 H1 z=>⟨SqT.of z.1,z.2⟩⟩
  | lst xs =>
   cases h
   simp only [Rw,Rp] at r
   obtain ⟨p,vs,rfl,h1,hn,r1⟩:=r
   exact ⟨true,p,vs,fun μ2 H2=>H2 p=some (.lst vs)/\p∉μ2/\Rps K μ2 H2 ds vs,rfl,⟨h1,hn,r1⟩,fun μ1 H1 μ2 H2 l z e=>⟨e.keep _ _ z.2.1 z.1,fun q=>(e.new p q).elim z.2.1 (fun q=>by rw [z.1] at q; cases q),Rps.ext l e _ _ z.2.2⟩,fun μ1 H1 z=>⟨SqL.of z.1,z.2.2⟩⟩
  | fz xs =>
   cases h
   simp only [Rw,Rp] at r
   obtain ⟨p,vs,rfl,h1,r1⟩:=r
   exact ⟨true,p,vs,fun μ2 H2=>FzL K H2 p vs/\Rps K μ2 H2 ds vs,rfl,⟨h1,r1⟩,fun μ1 H1 μ2 H2 l z e=>⟨z.1.ext l e,Rps.ext l e _ _ z.2⟩,fun μ1 H1 z=>⟨z.1.sq,z.2⟩⟩
  | _=>cases h
theorem aBd {T:Addr} {x y:D} {u v:V} (hr:HR K μ H M) (hT:H T=none) (r1:Rp K μ H x u) (r2:Rp K μ H y v):Ext μ H μ (upd H T (.tup [u,v]))/\HR K μ (upd H T (.tup [u,v])) M/\Rp K μ (upd H T (.tup [u,v])) (.tup [x,y]) (.ref T):=by
 have e:=iQ (o:=.tup [u,v]) hr hT
 refine ⟨e,hr.lay hT,?_⟩
 simp only [Rp]
 exact ⟨T,[u,v],rfl,dX,.cons (Rp.ext hr.lsts e _ _ r1) (.cons (Rp.ext hr.lsts e _ _ r2) .nil)⟩
end
section
variable {L:Lc} {M:Mm} {f g:FE}
end
end EV
namespace L2
open PySem PySem.Spec PyProof.Rows
section
variable {prog:Program} {w:World} {A:Around} {E:Value->Shared->Prop} {s:Shared}
theorem zL {e it src:Addr} {i:Nat} {c:Int} {xs:Array Value} {x old:Value} {Q:Value->Shared->Prop} (he:IsEnum s.heap e it c old) (h1:ZP.It1 s.heap it src i xs) (hx:xs[i]?=some x) (hne:e≠it) (hes:src≠e)
  (hQ:∀ h',IsEnumOut h' e it (c+1) x s.heap.objs.size->ZP.It1 h' it src (i+1) xs->h'.get? s.heap.objs.size=some { cls:=.type "tuple",data:=.seq #[.int c s.toks,x] } ->
   (∀ b o,b≠e->b≠it->s.heap.get? b=some o->h'.get? b=some o)->Q (.ref s.heap.objs.size) { s with heap:=h',toks:=s.toks+1 }) :
  wpAny (model prog w) A (Builtin.«enumerate.__next__» ⟨[.ref e],[]⟩) (fun fin s'=>∃ v,fin=.done (.ret v)/\Q v s') E s:=by
 obtain ⟨hp,g,d,tk,os⟩:=s
 show wpAny _ _ (field (.ref e) 2 >>= _) _ _ _
 refine wpAny_bind (wpAny_field he rfl (x:=.ref it) rfl (wpAny_bind (h1.next hx fun k1 hit1 hs1=>?_)))
 have hs1:Heap.SameBut it hp k1:=hs1
 have he1:IsEnum k1 e it c old:=(hs1.2 e hne).trans he
 show wpAny _ _ (field (.ref e) 3 >>= _) _ _ ⟨k1,g,d,tk,os⟩
 refine wpAny_bind (wpAny_field he1 rfl (x:=rawInt c) rfl ?_)
 show wpAny _ _ (field (.ref e) 4 >>= _) _ _ ⟨k1,g,d,tk,os⟩
 refine wpAny_bind (wpAny_field he1 rfl (x:=.none) rfl ?_)
 show wpAny _ _ (mkInt c >>= _) _ _ ⟨k1,g,d,tk,os⟩
 refine wpAny_bind (wpAny_mkInt ?_)
 show wpAny _ _ (setField (.ref e) 3 (rawInt (c+1)) >>= _) _ _ ⟨k1,g,d,tk+1,os⟩
 refine wpAny_bind (wpAny_setField_rec he1 (by simp) fun k2 he2 hs2=>?_)
 have hs2:Heap.SameBut e k1 k2:=hs2
 have he2:IsEnum k2 e it (c+1) old:=he2
 show wpAny _ _ (setField (.ref e) 4 .none >>= _) _ _ ⟨k2,g,d,tk+1,os⟩
 refine wpAny_bind (wpAny_setField_rec he2 (by simp) fun k3 he3 hs3=>?_)
 have hs3:Heap.SameBut e k2 k3:=hs3
 have he3:IsEnum k3 e it (c+1) old:=he3
 show wpAny _ _ (newTuple [.int c tk,x] >>= _) _ _ ⟨k3,g,d,tk+1,os⟩
 refine wpAny_bind (wpAny_newTuple ?_)
 have hsz:k3.objs.size=hp.objs.size:=by rw [hs3.1,hs2.1,hs1.1]
 have hel:e < hp.objs.size:=Heap.lt_size he
 obtain ⟨k4,hk4⟩:∃ k4,k4=k3.push { cls:=.type "tuple",data:=.seq #[.int c tk,x] }:=⟨_,rfl⟩
 rw [<- hk4]
 have he4:IsEnum k4 e it (c+1) old:=by rw [hk4]; exact Heap.get?_push_of_some _ he3
 have ht4:k4.get? hp.objs.size=some { cls:=.type "tuple",data:=.seq #[.int c tk,x] }:=by rw [hk4,<- hsz]; exact Heap.get?_push_size _ rfl
 have kp4:∀ b o,b≠e->b≠it->hp.get? b=some o->k4.get? b=some o:=fun b o q1 q2 q=>by
  rw [hk4]; exact Heap.get?_push_of_some _ (hs3.extBut b o q1 (hs2.extBut b o q1 (hs1.extBut b o q2 q)))
 have it4:ZP.It1 k4 it src (i+1) xs:=by
  rw [hk4]
  exact hit1.at (fun o q=>Heap.get?_push_of_some _ (hs3.extBut it o hne.symm (hs2.extBut it o hne.symm q))) fun o q=>Heap.get?_push_of_some _ (hs3.extBut src o hes (hs2.extBut src o hes q))
 show wpAny _ _ (Builtin.SmallTypes.ownedTupleIsFree (.ref e) >>= _) _ _ ⟨k4,g,d,tk+1,os⟩
 rw [hsz]
 clear hk4 he3 hs3 he2 hs2 he1 hs1 hit1 hsz
 refine wpAny_bind ?_
 unfold Builtin.SmallTypes.ownedTupleIsFree
 refine wpAny_bind (wpAny_field he4 rfl (x:=.none) rfl (wpAny_pure ?_))
 simp only [if_true]
 refine wpAny_bind (wpAny_rule (wpAny_bind (wpAny_field he4 rfl (x:=old) rfl (wpAny_bind (wpAny_setField_rec he4 (by simp) fun k5 he5 hs5=>?_)))))
 have hs5:Heap.SameBut e k4 k5:=hs5
 have he5:IsEnum k5 e it (c+1) x:=he5
 show wpAny _ _ (Builtin.SmallTypes.ownedTupleHandOut (.ref e) (.ref hp.objs.size) >>= _) _ _ ⟨k5,g,d,tk+1,os⟩
 refine wpAny_bind ?_
 unfold Builtin.SmallTypes.ownedTupleHandOut
 refine wpAny_bind (wpAny_setField_rec he5 (by simp) fun k6 he6 hs6=>?_)
 have hs6:Heap.SameBut e k5 k6:=hs6
 have he6:IsEnumOut k6 e it (c+1) x hp.objs.size:=he6
 refine wpAny_setField_rec he6 (by simp) fun k7 he7 hs7=>?_
 have hs7:Heap.SameBut e k6 k7:=hs7
 have he7:IsEnumOut k7 e it (c+1) x hp.objs.size:=he7
 have up:∀ b o,b≠e->k4.get? b=some o->k7.get? b=some o:=fun b o q1 q=>hs7.extBut b o q1 (hs6.extBut b o q1 (hs5.extBut b o q1 q))
 refine wpAny_bind (wpAny_letGo (wpAny_pure ⟨_,rfl,hQ k7 he7 (it4.at (fun o q=>up it o hne.symm q) fun o q=>up src o hes q) (up _ _ (Nat.ne_of_gt hel) ht4) fun b o q1 q2 q=>up b o q1 (kp4 b o q1 q2 q)⟩))
theorem zN {e it src:Addr} {i:Nat} {c:Int} {xs:Array Value} {old:Value} {Q:Option Value->Shared->Prop} (hh:A.handled=none) (he:IsEnum s.heap e it c old) (h1:ZP.It1 s.heap it src i xs) (hx:xs[i]?=none)
  (hQ:∀ h',Heap.ExtBut it s.heap h'->Q none { s with heap:=h' }):wpAny (model prog w) A (pyNext (.ref e)) Q E s:=by
 have hT:s.TypeIs (.ref e) "enumerate":=⟨_,he,rfl⟩
 unfold pyNext
 refine wpAny_bind (wpAny_attempt (wpAny_callSpecial?_slot (name:=Str.ofString "__next__") hT F.slot_enumerate_next (wpAny_call_entry F.slot_enumerate_next hT F.entry_enumerate_next ?_ (F.args_enumerate_next_1 _))))
 show wpAny _ _ (field (.ref e) 2 >>= _) _ _ _
 refine wpAny_bind (wpAny_field he rfl (x:=.ref it) rfl (wpAny_bind (h1.stop hh hx fun h' x he' hx'=>?_)))
 obtain ⟨o,ho,hc⟩:=hx'
 refine wpAny_bind (wpAny_isInstance (T:="StopIteration") (b:=true) ⟨o,ho,hc⟩ isSubtype_stop (wpAny_pure (hQ _ he')))
end
noncomputable def tne (b:Bool) (e it src:Addr) (c:Int) (i:Nat) (h:Heap):Prop:=(∃ old,IsEnum h e it (c+i) old)/\It0 b h it src i
noncomputable def Ite (b:Bool) (K:PySem.W.Frag) (src:Addr) (c:Int) (xs:List V):It :=
 ⟨fun i H=>SqB b K H src xs/\i < xs.length,fun i H x H'=>∃ T u,H T=none/\x=.ref T/\xs[i]?=some u/\H'=upd H T (.tup [.int (c+i),u]),fun i H=>SqB b K H src xs/\xs.length<=i⟩
theorem pL {P:Program} {w:World} {K:PySem.W.Frag} {elts:List Expr} {x1} {pos:Pos} {b:Bool} {e it src:Addr} (c:Int) (hne:e≠it) (hes:src≠e) (his:src≠it) (xs:List V):Turn P w K (.Tuple elts x1 pos) (Ite b K src c xs) [e,it] e (tne b e it src c) where
 mem:=by simp
 obj:=fun i h st q hb=>by
  simp only [List.mem_cons,List.not_mem_nil,or_false] at hb
  rcases hb with rfl | rfl
  ·obtain ⟨old,he⟩:=st.1; exact ⟨_,he,fun v z=>by cases z⟩
  ·exact st.2.obj
 keep:=fun i h h' st k=>by
  obtain ⟨⟨old,he⟩,h1⟩:=st
  exact ⟨⟨old,k e (by simp) _ he⟩,h1.at fun o q=>k it (by simp) o q⟩
 item:=by
  intro X hP hw hK hc i pins s σ H E I hf st hg
  subst hP hw hK
  obtain ⟨sx,hx⟩:=hg
  obtain ⟨its,r1,y1,z1⟩:=sx.inv I
  obtain ⟨⟨old,he⟩,h1⟩:=st
  have hT:s.TypeIs (.ref e) "enumerate":=⟨_,he,rfl⟩
  obtain ⟨u,hu,ru⟩:=r1.get (List.getElem?_eq_getElem hx)
  have elt:e < s.heap.objs.size:=Heap.lt_size he
  unfold pyNext
  refine wpAny_bind (wpAny_attempt (wpAny_callSpecial?_slot (name:=Str.ofString "__next__") hT F.slot_enumerate_next (wpAny_call_entry F.slot_enumerate_next hT F.entry_enumerate_next
   (zL he (aCi h1 y1) (x:=u) (by simpa using hu) hne hes fun h' he' a1 ht k'=>wpAny_pure ?_) (F.args_enumerate_next_1 _))))
  refine ⟨_,rfl,?_⟩
  have y1':IsB b h' src its.toArray:=y1.at fun o q=>k' src o hes his q
  refine wpAny_letOwnedTupleGo_enum (s:={ s with heap:=h',toks:=s.toks+1 }) he' fun h2 he2 sb=>?_
  have sb:Heap.SameBut e h' h2:=sb
  have kk:∀ q o,q∉[e,it]->s.heap.get? q=some o->h2.get? q=some o:=fun q o hb z=>by
   simp only [List.mem_cons,List.not_mem_nil,or_false,not_or] at hb
   exact sb.extBut q o hb.1 (k' q o hb.1 hb.2 z)
  have hp2:=sb.extBut _ _ (Nat.ne_of_gt elt) ht
  refine ⟨.ref s.heap.objs.size,upd H s.heap.objs.size (.tup [.int (c+i),xs[i]]),I.turnLay (t':=s.toks+1) hf kk (Nat.le_refl _) (show ObjOk X.prog X.w _ h2 _ (.tup [.int (c+i),xs[i]]) from ⟨by show 2<=sizeLine; decide,[.int (c+i) s.toks,u],.cons ⟨_,rfl⟩ (.cons ru .nil),_,hp2,rfl,_,rfl⟩),rfl,⟨_,xs[i],I.hok.fresh (Nat.le_refl _),rfl,List.getElem?_eq_getElem hx,rfl⟩,?_,fun q hb=>?_⟩
  ·refine ⟨⟨_,by rw [show c+((i+1:Nat):Int)=c+i+1 by omega]; exact he2⟩,(aKj y1' a1).at fun o q=>sb.extBut it o hne.symm q⟩
  ·rw [bF]
   ·exact (hf q hb).1
   ·rintro rfl
    simp only [List.mem_cons,List.not_mem_nil,or_false] at hb
    rcases hb with q | q
    ·rw [q] at elt; exact absurd elt (Nat.lt_irrefl _)
    ·obtain ⟨o,z,_⟩:=h1.obj
     rw [<- q] at z
     exact absurd (Heap.lt_size z) (Nat.lt_irrefl _)
 done:=by
  intro X hP hw hK hc i pins s σ H E I hf st hg
  subst hP hw hK
  obtain ⟨sx,hend⟩:=hg
  obtain ⟨its,r1,y1,z1⟩:=sx.inv I
  obtain ⟨⟨old,he⟩,h1⟩:=st
  have l1:=r1.length
  refine zN (I.ok.hd hc) he (aCi h1 y1) (by simp; omega) fun h' hk=>⟨rfl,I.turnedL (t':=s.toks) hf fun q o hb z=>?_⟩
  simp only [List.mem_cons,List.not_mem_nil,or_false,not_or] at hb
  exact hk q o hb.2 z
 self:=fun A i s Q E st hQ=>by
  obtain ⟨⟨old,he⟩,_⟩:=st
  have hT:s.TypeIs (.ref e) "enumerate":=⟨_,he,rfl⟩
  refine wpAny_pyIter_slot hT F.slot_enumerate_iter (wpAny_call_entry F.slot_enumerate_iter hT F.entry_enumerate_iter ?_ (F.args_enumerate_iter_1 _))
  show wpAny _ _ (ret (.ref e)) _ _ s
  exact wpAny_pure ⟨_,rfl,"enumerate",_,hT,F.slot_enumerate_next.lookup,hQ⟩
end L2
namespace L2
open PySem PySem.Spec PyProof.Rows
open AutoSeq1 (wpAny_loadPart')
noncomputable abbrev eH1 (b:Bool) (h:Heap) (l:Addr):Heap:=h.push { cls:=.type (if b=true then "list_iterator" else "tuple_iterator"),data:=.fields #[.ref l,.int 0 0] }
noncomputable abbrev eH2 (b:Bool) (h:Heap) (l:Addr) (c:Int):Heap:=(eH1 b h l).push { cls:=.type "enumerate",data:=.fields #[.none,.bool false,.ref h.objs.size,rawInt c,.none,.none] }
theorem tF (l:Addr) (items:Array Value) :
  Meets (Builtin.«enumerate.__new__» ⟨[.type "enumerate",.ref l],[]⟩) (fun _ R s=>s.heap.IsTuple l items/\R (.ok (.ret (.ref (eH1 false s.heap l).objs.size))) { s with heap:=eH2 false s.heap l 0 }) :=
 .of_wp fun prog w A R s h=>by
  obtain ⟨hp,g,d,tk,os⟩:=s; obtain ⟨hl,h⟩:=h
  have hsub:=sub_enumerate
  have hL:Heap.IsTuple (Shared.heap ⟨hp,g,d,tk,os⟩) l items:=hl
  wp_walk
  refine wpAny_stack_any fun st=>wpAny_pure ?_
  split
  ·rename_i c _ _ _ _ _
   cases (c==Value.type "enumerate") <;> (wp_walk using wpAny_pyIter_tuple hL; exact ⟨_,rfl,h⟩)
  ·wp_walk using wpAny_pyIter_tuple hL
   exact ⟨_,rfl,h⟩
section
variable {prog:Program} {w:World} {A:Around} {E:Value->Shared->Prop} {s:Shared}
theorem aDe (b:Bool) (h:Heap) (l:Addr) (c:Int):(eH1 b h l).objs.size=h.objs.size+1/\IsEnum (eH2 b h l c) (h.objs.size+1) h.objs.size c .none/\It0 b (eH2 b h l c) h.objs.size l 0/\∀ q o,h.get? q=some o->(eH2 b h l c).get? q=some o:=by
 have z1:(eH1 b h l).objs.size=h.objs.size+1:=Heap.size_push ..
 refine ⟨z1,?_,?_,fun q o x=>Heap.get?_push_of_some _ (Heap.get?_push_of_some _ x)⟩
 ·have:=Heap.get?_push_size (eH1 b h l) (o:={ cls:=.type "enumerate",data:=.fields #[.none,.bool false,.ref h.objs.size,rawInt c,.none,.none] }) rfl
  rw [z1] at this; exact this
 ·cases b
  ·exact ⟨_,Heap.get?_push_of_some _ (Heap.get?_push_size _ rfl),rfl,rfl⟩
  ·exact ⟨_,Heap.get?_push_of_some _ (Heap.get?_push_size _ rfl),rfl,rfl⟩
theorem yX {b:Bool} {l:Addr} {items:Array Value} {Q:Value->Shared->Prop} (hl:IsB b s.heap l items)
  (h:∀ h',IsEnum h' (s.heap.objs.size+1) s.heap.objs.size 0 .none->It0 b h' s.heap.objs.size l 0->(∀ q o,s.heap.get? q=some o->h'.get? q=some o)->Q (.ref (s.heap.objs.size+1)) { s with heap:=h' }) :
  wpAny (model prog w) A (call (.type "enumerate") [.ref l]) Q E s:=by
 cases b with
 | true=>exact call_enumerate_list (show s.heap.IsList l items from hl) fun h' a1 a2 _ k=>h h' a1 a2 k
 | false =>
  obtain ⟨z1,f1,f2,f3⟩:=aDe false s.heap l 0
  refine callType_new F.called_enumerate (by decide) (F.typeCall_enumerate_1 _) (F.newCall_enumerate_1 _) (fun obj=>F.args_object_init_2 obj _) F.entry_enumerate_new (tF l items) ⟨hl,?_⟩
  show _/\_
  rw [z1]
  exact ⟨⟨_,f1,rfl⟩,h _ f1 f2 f3⟩
end
theorem aEd {X:Cx} {elts:List Expr} {x1} {tpos:Pos} {a:Expr} {ta:TE} {p pos:Pos} (hg:Gl X "enumerate") (hm:X.mg "enumerate"=none) (ha:PE X a ta) (hs:starEach [a] X.env=[(false,eval a X.env)]) :
  PI X (.Tuple elts x1 tpos) (.Call (.Name "enumerate" p) [a] [] pos) (fun σ H R=>ta σ H fun x H1=>∃ l b xs,x=.ref l/\SqB b X.K H1 l xs/\R (Ite b X.K l 0 xs) H1):=by
 intro pins s σ H R I h
 refine Call_ (gL I hg hm rV (PyProof.Rows.callWith_type1 (thn (cY ha fN hs pos pins s σ H (fun vs H2=>match vs with | [x]=>∃ l b xs,x=.ref l/\SqB b X.K H2 l xs/\R (Ite b X.K l 0 xs) H2 | _=>False) I h) fun us s1 ⟨vs,H1,I1,r1,hr⟩=>?_) hs rfl))
 match vs,r1,hr with
 | [],_,hr=>exact hr.elim
 | _::_::_,_,hr=>exact hr.elim
 | [x],r1,hr =>
 obtain ⟨l,b,xs,rfl,sx,hq⟩:=hr
 obtain ⟨u,rfl,rx⟩:=vals1 r1
 cases rx
 obtain ⟨its,q1,p1,z1⟩:=sx.inv I1
 have hl:l < s1.heap.objs.size:=p1.lt
 refine yX p1 fun h' a1 a2 k=>?_
 have hne:s1.heap.objs.size+1≠s1.heap.objs.size:=Nat.succ_ne_self _
 have hes:l≠s1.heap.objs.size+1:=Nat.ne_of_lt (Nat.lt_succ_of_lt hl)
 have his:l≠s1.heap.objs.size:=Nat.ne_of_lt hl
 have tz:tne b (s1.heap.objs.size+1) s1.heap.objs.size l 0 0 h':=⟨⟨_,by simpa using a1⟩,a2⟩
 refine (pL (P:=X.prog) (w:=X.w) (K:=X.K) (elts:=elts) (x1:=x1) (pos:=tpos) 0 hne hes his xs).self _ 0 _ _ _ tz ?_
 refine ⟨s1.heap.objs.size+1,_,_,_,H1,rfl,I1.kept (t':=s1.toks) fun q o e=>k q o e,pL 0 hne hes his xs,tz,fun q hb=>?_,hq⟩
 refine I1.fpOk ?_ (I1.hok.fresh ?_) <;>
 ·simp only [List.mem_cons,List.not_mem_nil,or_false] at hb
  rcases hb with rfl | rfl <;> (show (_:Nat)<=(_:Nat); omega)
end L2
namespace EV
open PySem PySem.Spec PyProof.Rows L2
variable {EX:D->Mm->Prop}
section
variable {X:Cx} {K:PySem.W.Frag} {Z:Zt} {μ:List Addr} {H:Hp} {M:Mm} {a b:Expr} {pos:Pos} {f g:FE} {tg:Expr}
noncomputable def enumT (c:Int) (xs:List D):List D:=xs.mapIdx fun i d=>.tup [.int (c+i),d]
theorem pM {c:Int} {xs:List D} {i:Nat} {d:D} (h:(enumT c xs)[i]?=some d):∃ x,xs[i]?=some x/\d=.tup [.int (c+i),x]:=by
 unfold enumT at h
 rw [List.getElem?_mapIdx,Option.map_eq_some_iff] at h
 obtain ⟨x,h1,rfl⟩:=h
 exact ⟨x,h1,rfl⟩
theorem kN {c:Int} {xs:List D}:(enumT c xs).length=xs.length:=by simp [enumT]
theorem aFc {w:W} {v:V} {xs:List D} {c:Int} (r:Rw K μ H w v) (q:dz w=some xs):∃ l b vs,v=.ref l/\SqB b K H l vs/\ItOk K μ H ⟨enumT c xs,none⟩ (Ite b K l c vs):=by
 obtain ⟨b1,l1,vs1,S1,rfl,s1,x1,d1⟩:=aIy r q
 refine ⟨l1,b1,vs1,rfl,(d1 _ _ s1).1,S1,s1,x1,fun μ3 H3 M3 i hr3 hS hc=>?_⟩
 obtain ⟨c1,r1⟩:=d1 _ _ hS
 refine ⟨fun d hd=>?_,fun hl=>?_⟩
 ·obtain ⟨x,hx,rfl⟩:=pM hd
  obtain ⟨u,hu,ru⟩:=r1.get hx
  refine ⟨⟨c1,(List.getElem?_eq_some_iff.mp hu).1⟩,fun x' H4 hy4=>?_⟩
  obtain ⟨T,u',hT,rfl,hu',rfl⟩:=hy4
  rw [hu] at hu'; cases hu'
  exact aBd hr3 hT (by simp [Rp]) ru
 ·refine ⟨c1,?_⟩
  simp only [kN] at hl
  rw [<- r1.length]
  exact hl
noncomputable def iEnum (f:FE):FI:=fun L M=>(f L M).bind fun x M1=>match dz x with
 | some xs=>.ok ⟨enumT 0 xs,none⟩ M1
 | _=>.bad
theorem aFt {elts:List Expr} {x1} {tpos p:Pos} (hm:X.mg "enumerate"=none) (ha:Ev X K Z a f) (hg:Gl X "enumerate":=by rfl) (hs:starEach [a] X.env=[(false,eval a X.env)]:=by rfl):Ei X K Z (.Tuple elts x1 tpos) (.Call (.Name "enumerate" p) [a] [] pos) (iEnum f):=by
 have h':=aEd (elts:=elts) (x1:=x1) (tpos:=tpos) (p:=p) (pos:=pos) hg hm ha.h hs
 rw [ha.k] at h'
 refine ⟨ha.k,cqI h' ?_⟩
 rintro σ H R ⟨μ,M,L,hr,lr,p⟩
 refine ⟨μ,M,L,hr,lr,p.bind.imp fun μ1 H1 M1 w e1 hr1 _ p1 v rw'=>?_⟩
 cases q1:dz w with
 | none=>simp only [q1] at p1; exact p1.elim
 | some xs =>
  simp only [q1] at p1
  obtain ⟨l,b,vs,rfl,h1,h2⟩:=aFc (c:=0) rw' q1
  exact ⟨l,b,vs,rfl,h1,p1 μ1 H1 .refl hr1 _ h2⟩
end
section
variable {L:Lc} {M:Mm} {f g:FE}
theorem aBf {QI:Src->Mm->Prop} (h:Okx EX (f L M) fun x M1=>∃ xs,dz x=some xs/\QI ⟨enumT 0 xs,none⟩ M1):Okx EX (iEnum f L M) QI :=
 aL (h.mono fun x M1 ⟨xs,e1,q⟩=>by simp only [e1]; exact aN q)
end
end EV
namespace L2
open PySem PySem.Spec PyProof.Rows
open AutoSeq1 (wpAny_loadPart')
theorem wB (l b:Addr) (xs ys:Array Value) (n n2:Nat) (dd:Option Addr) (sl:Array (Option Value)) (h0:¬(!xs.isEmpty&&Builtin.List.listTooLong (xs.size+ys.size))=true) (h1:xs.size<=sizeLine) (h2:xs.size+ys.size<=sizeLine+1) :
  Meets (Builtin.«list.extend» ⟨[.ref l,.ref b],[]⟩) (fun _ R s=>s.heap.get? l=some { cls:=.type "list",dict:=none,data:=.seq xs n,slots:=#[] }/\s.heap.get? b=some { cls:=.type "tuple",dict:=dd,data:=.seq ys n2,slots:=sl }/\R (.ok (.ret Value.none)) { s with heap:=s.heap.update l (Obj.mapSeq fun x=>x++ys),toks:=s.toks }) :=
 .of_wp fun prog w A R s h=>by
  obtain ⟨hp,g,d,tk,os⟩:=s; obtain ⟨hl,hb,h⟩:=h
  have f1:=AutoSeq1.idx_int; have f2:=AutoSeq1.sub_tuple_tuple; have f3:=AutoSeq1.sub_list_list; have f4:=AutoSeq1.sub_tuple_list; have f5:=AutoSeq1.sub_list_tuple
  have hz':(xs++ys).size<=sizeLine+1:=by rw [Array.size_append]; exact h2
  wp_walk using (wpAny_updateSeq hl rfl (hz:=h1) (_hz':=hz')),wpAny_loadPart' hl,wpAny_loadPart' hb
  exact ⟨_,rfl,h⟩
section
variable {X:Cx}
noncomputable def rExtendT (K:PySem.W.Frag):V->List V->Hp->VK->Prop:=fun x vs H Q=>∃ l b xs zs,x=.ref l/\vs=[.ref b]/\H l=some (.lst xs)/\SqT K H b zs/\xs.length+zs.length<=sizeLine/\Q .non (upd H l (.lst (xs++zs)))
theorem wS:MtM X "list.extend" (fun x vs H Q=>rExtend x vs H Q\/rExtendT X.K x vs H Q):=by
 intro pins s σ H x vs v us Q I rx rv h
 rcases h with h | h
 ·exact yY pins s σ H x vs v us Q I rx rv h
 obtain ⟨l,b,xs,zs,rfl,rfl,hH,hB,hz,q⟩:=h
 cases rx
 obtain ⟨u,rfl,ru⟩:=rv.one
 cases ru
 obtain ⟨z,its,n,r,hl,e⟩:=I.lstM hH
 obtain ⟨its2,r2,⟨o,e2,c2,n2,d2⟩,z2⟩:=I.tuple hB
 obtain ⟨oc,od,odt,osl⟩:=o
 have c2:oc=.type "tuple":=c2
 have d2:odt=.seq its2.toArray n2:=d2
 subst c2 d2
 have l1:=r.length
 have l2:=r2.length
 have hsz:its.toArray.size+its2.toArray.size<=sizeLine:=by rw [List.size_toArray,List.size_toArray]; omega
 have hlong:¬ (!its.toArray.isEmpty&&Builtin.List.listTooLong (its.toArray.size+its2.toArray.size))=true:=by
  rw [notLongL hsz,Bool.and_false]
  exact Bool.false_ne_true
 refine call_meets F.slot_list_extend ⟨_,e,rfl⟩ F.entry_list_extend (F.args_list_extend_2 _ _) (wB l b its.toArray its2.toArray n n2 od osl hlong (by rw [List.size_toArray]; omega) (by omega)) ⟨e,e2,?_⟩
 refine ⟨.non,_,I.lset (its':=its++its2) hH e (by simp) (r.append r2) ?_,rfl,q⟩
 rw [List.length_append]
 omega
end
end L2
namespace EV
open PySem PySem.Spec PyProof.Rows L2
variable {EX:D->Mm->Prop}
section
variable {X:Cx} {K:PySem.W.Frag} {Z:Zt} {μ:List Addr} {H:Hp} {M:Mm} {a b c o e i:Expr} {es:List Expr} {pos:Pos} {fs:FA} {f fa fb fc fo fe fi:FE} {tg:Expr}
noncomputable def pExtendA (x y:W) (M:Mm):Oc W:=match x,y with
 | .ref k,.d (.tup ys)=>match M[k]? with
  | some xs=>if xs.length+ys.length<=16777216 then .ok (.d .non) (M.set k (xs++ys)) else .bad
  | _=>.bad
 | x,y=>pExtend x y M
theorem vU {apos cpos:Pos} (ho:Ev X K Z o fo) (he:Ev X K Z e fa) (hbase:attributeBase o "extend" X.env (eval o X.env)=eval o X.env:=by rfl)
  (hfew:((backTo cpos (starEach [e] X.env)).all (fun x=>!x.1)&&(backToKw cpos (keywordEach [] X.env)).all (fun x=>x.1.isSome)&&decide ([e].length+([]:List Keyword).length+(if ([]:List Keyword).isEmpty then 0 else 1) < 30))=true:=by rfl)
  (hline:(apos.endLine==cpos.line)=true:=by rfl) (hs:starEach [e] X.env=(false,eval e X.env)::starEach [] X.env:=by rfl) (hplain:(backTo cpos (starEach [] X.env)).any (·.1)=false:=by rfl) :
  Ev X K Z (.Call (.Attribute o "extend" apos) [e] [] cpos) (eM1 pExtendA fo fa):=by
 have h:=aGd PySem.F.plainAttrs_list PySem.F.slot_list_extend PySem.F.type_list_extend wS ho.h (cY he.h fN hs) hbase hfew hline hs hplain
 rw [ho.k] at h
 refine ⟨ho.k,cqE h ?_⟩
 rintro σ H Q ⟨μ,M,L,hr,lr,p⟩
 refine ⟨μ,M,L,hr,lr,p.bind.imp fun μ1 H1 M1 x e1 hr1 _ p1 v rx=>?_⟩
 cases x with
 | d x=>exact p1.elim
 | ref k =>
  refine ⟨vG hr1 rx,μ1,M1,L,hr1,lr.ext hr.lsts e1,p1.bind.imp fun μ2 H2 M2 y e2 hr2 _ p2 u ry=>?_⟩
  have lst:Pst K Z μ2 H2 (pExtend (.ref k) y M2) (fun μ' H' _ w=>∀ v,Rw K μ' H' w v->Q v H')->rExtend v [u] H2 Q:=fun p2=>by
   simp only [pExtend] at p2
   cases q1:M2[k]? with
   | none=>simp only [q1] at p2; exact p2.elim
   | some xs =>
    cases q2:lv M2 y with
    | none=>simp only [q1,q2] at p2; exact p2.elim
    | some ys =>
     simp only [q1,q2] at p2
     split at p2
     ·rename_i hz
      obtain ⟨a,qa,rfl⟩:=rx.ext hr1.lsts e2
      obtain ⟨a',vs,qa',h1,r1⟩:=hr2.at q1
      rw [qa] at qa'; cases qa'
      obtain ⟨b,us,rfl,h2,r2⟩:=tL hr2 ry q2
      refine ⟨a,b,vs,us,rfl,rfl,h1,h2,by rw [<- r1.length,<- r2.length,sizeLine_eq]; exact hz,?_⟩
      exact p2 μ2 _ (bV qa) (hr2.set qa (r1.append r2)) _ (by simp [Rw,Rp])
     ·exact p2.elim
  cases y with
  | ref j=>exact .inl (lst p2)
  | d y=>cases y with
   | tup ys =>
    simp only [pExtendA] at p2
    cases q1:M2[k]? with
    | none=>simp only [q1] at p2; exact p2.elim
    | some xs =>
     simp only [q1] at p2
     split at p2
     ·rename_i hz
      obtain ⟨a,qa,rfl⟩:=rx.ext hr1.lsts e2
      obtain ⟨a',vs,qa',h1,r1⟩:=hr2.at q1
      rw [qa] at qa'; cases qa'
      simp only [Rw,Rp] at ry
      obtain ⟨b,us,rfl,h2,r2⟩:=ry
      refine .inr ⟨a,b,vs,us,rfl,rfl,h1,SqT.of h2,by rw [<- r1.length,<- r2.length,sizeLine_eq]; exact hz,?_⟩
      exact p2 μ2 _ (bV qa) (hr2.set qa (r1.append r2)) _ (by simp [Rw,Rp])
     ·exact p2.elim
   | _=>exact .inl (lst p2)
end
section
variable {L:Lc} {M:Mm} {f:FE} {fs:FA} {fi:FE} {x y:W} {Q:W->Mm->Prop} {QS:Out->Mm->Prop}
end
end EV
namespace L2
open PySem PySem.Spec PyProof.Rows
section
variable {prog:Program} {w:World} {A:Around} {E:Value->Shared->Prop} {s:Shared}
end
section
variable {X:Cx} {pos:Pos}
end
end L2
namespace EV
open PySem PySem.Spec PyProof.Rows L2
variable {EX:D->Mm->Prop}
section
variable {X:Cx} {K:PySem.W.Frag} {Z:Zt} {es:List Expr} {pos:Pos}
end
section
variable {L:Lc} {M:Mm} {QG:Lc->Mm->Prop}
end
end EV
namespace L2
open PySem PySem.Spec PyProof.Rows
end L2
namespace EV
open PySem PySem.Spec PyProof.Rows L2
variable {EX:D->Mm->Prop}
section
variable {X:Cx} {K:PySem.W.Frag} {Z:Zt}
end
section
variable {L:Lc} {M:Mm} {x:W} {Q:W->Mm->Prop}
end
end EV
namespace EV
open PySem PySem.Spec PyProof.Rows L2
variable {EX:D->Mm->Prop}
section
variable {X:Cx} {K:PySem.W.Frag} {Z:Zt} {μ:List Addr} {H:Hp} {M:Mm} {a tg:Expr} {pos pos2:Pos} {f:FE}
end
section
variable {L:Lc} {M:Mm} {f:FE}
end
end EV
namespace EV
open PySem PySem.Spec PyProof.Rows L2
variable {EX:D->Mm->Prop}
section
variable {X:Cx} {K:PySem.W.Frag} {Z:Zt} {pos:Pos} {F:FS}
end
section
variable {L:Lc} {M:Mm} {f:FE} {Q:W->Mm->Prop}
end
end EV
namespace EV
open PySem PySem.Spec PyProof.Rows L2
noncomputable def ZR (K:PySem.W.Frag) (R:Addr->Hp->Prop):Zt:=⟨fun x M μ H=>∀ μ' H',Ext μ H μ' H'->HR K μ' H' M->∀ a,Rp K μ' H' x (.ref a)->R a H',fun e h μ' H' e' hr a ra=>h μ' H' (e.trans e') hr a ra⟩
noncomputable abbrev wishR (E:XK):Addr->Hp->Prop:=fun a H'=>E (.ref a) none H'
section
variable {X:Cx} {K:PySem.W.Frag} {Z:Zt} {R:Addr->Hp->Prop} {μ:List Addr} {H:Hp} {M:Mm} {e a b:Expr} {es:List Expr} {pos:Pos} {f fa fb fc:FE} {fs:FA} {st:Stmt} {rest:List Stmt} {F G:FS}
theorem Pst.never {α:Type} {o:Oc α} {Q:List Addr->Hp->Mm->α->Prop} (h:Pst K Z0 μ H o Q):Pst K Z μ H o Q:=by
 cases o with
 | ok a M=>exact h
 | ex x M=>exact h.elim
 | bad=>exact h
structure FunG (K:PySem.W.Frag) (x qual:Str) (st:Stmt) (f:Addr) (fd:FuncData):Prop where
 ex:∃ (oc:Value) (od:Option Addr) (dV kV doc pm:Value) (an:Option Addr) (cdv ct:Value) (osl:Array (Option Value)),
  fd=PySem.W.fnOf x qual (defArgs st) (defBody st) (defScope st) dV kV doc pm an cdv ct/\K.lookup f=some ⟨oc,od,.func fd,osl⟩/\PySem.W.codeIn K cdv qual=true
theorem _root_.L2.Fun.g {x qual:Str} {st:Stmt} {f:Addr} {fd:FuncData} (F:Fun K x qual st f fd):FunG K x qual st f fd:=by
 obtain ⟨oc,od,kV,doc,pm,an,cdv,ct,osl,h⟩:=F.ex
 exact ⟨oc,od,_,kV,doc,pm,an,cdv,ct,osl,h⟩
structure FunD (K:PySem.W.Frag) (x qual:Str) (st:Stmt) (f:Addr) (fd:FuncData) (d:Value):Prop where
 ex:∃ (T:Addr) (oc:Value) (od:Option Addr) (kV doc pm:Value) (an:Option Addr) (cdv ct:Value) (osl:Array (Option Value)),
  fd=PySem.W.fnOf x qual (defArgs st) (defBody st) (defScope st) (.ref T) kV doc pm an cdv ct/\K.lookup f=some ⟨oc,od,.func fd,osl⟩/\PySem.W.codeIn K cdv qual=true/\∃ c dd n sl,K.lookup T=some ⟨c,dd,.seq #[d] n,sl⟩
theorem FunD.g {x qual:Str} {st:Stmt} {f:Addr} {fd:FuncData} {d:Value} (F:FunD K x qual st f fd d):FunG K x qual st f fd:=by
 obtain ⟨T,oc,od,kV,doc,pm,an,cdv,ct,osl,h1,h2,h3,_⟩:=F.ex
 exact ⟨oc,od,_,kV,doc,pm,an,cdv,ct,osl,h1,h2,h3⟩
theorem FunD.binds {x qual:Str} {st:Stmt} {f:Addr} {fd:FuncData} {ps:List Str} {d:Value} (F:FunD K x qual st f fd d)
  (h:∀ (T:Addr) (kV doc pm:Value) (an:Option Addr) (cdv ct:Value) (us:List Value),us.length=ps.length->∃ k,bindArgs (PySem.W.fnOf x qual (defArgs st) (defBody st) (defScope st) (.ref T) kV doc pm an cdv ct) ⟨us,[]⟩=seqItems? (.ref T) >>= k/\k (some #[d])=pure (ps.zip us)):Binds K fd ps []:=by
 obtain ⟨T,oc,od,kV,doc,pm,an,cdv,ct,osl,rfl,h2,h3,c,dd,n,sl,hT⟩:=F.ex
 intro s us X hl
 rw [List.append_nil] at hl ⊢
 obtain ⟨k,h1,h2⟩:=h T kV doc pm an cdv ct us hl
 exact PySem.W.binds_K X rfl hT rfl h1 h2
noncomputable abbrev EofR (R:Addr->Hp->Prop):XK:=fun v _ H'=>∃ a,v=.ref a/\R a H'
theorem ZR.to (h:∀ a H,R a H->wishR (EofR R) a H:=fun a H h=>⟨a,rfl,h⟩) {α:Type} {o:Oc α} {Q:List Addr->Hp->Mm->α->Prop} (p:Pst K (ZR K R) μ H o Q):Pst K (ZR K (wishR (EofR R))) μ H o Q:=by
 cases o with
 | ok a M=>exact p
 | ex x M=>exact fun μ' H' e hr a ra=>h a H' (p μ' H' e hr a ra)
 | bad=>exact p
theorem Rws.append:∀ {ws us:List W} {vs zs:List V},Rws K μ H ws vs->Rws K μ H us zs->Rws K μ H (ws++us) (vs++zs)
 | [],_,_,_,h,t=>by cases h; exact t
 | _::_,_,_,_,⟨v,r,e1,e2,e3⟩,t=>by subst e1; exact ⟨v,_,rfl,e2,Rws.append e3 t⟩
noncomputable def nx (Fm:Fn):Fn:=fun ws M=>match Fm ws M with
 | .ok w M'=>.ok w M'
 | _=>.bad
end
end EV
namespace EV
open PySem PySem.Spec PyProof.Rows L2
noncomputable def liftX (K:PySem.W.Frag) (f:FE) (σ:L2.St) (H:Hp) (Q:VK) (R:Addr->Hp->Prop):Prop:=∃ μ M L,HR K μ H M/\LR K μ H L σ/\Pst K (ZR K R) μ H (f L M) (Wk K Q)
noncomputable def liftB (K:PySem.W.Frag) (F:FS) (D:Ends) (R:Addr->Hp->Prop) (σ:L2.St) (H:Hp):Prop:=∃ μ M L,HR K μ H M/\LR K μ H L σ/\Pst K (ZR K R) μ H (F L M) (Sk K D)
structure Exx (X:Cx) (K:PySem.W.Frag) (e:Expr) (f:FE):Prop where
 k:X.K=K
 h:PEx X e (liftX K f)
structure Tb (X:Cx) (K:PySem.W.Frag) (b:List Stmt) (F:FS):Prop where
 k:X.K=K
 h:PBx X b (liftB K F)
section
variable {X:Cx} {K:PySem.W.Frag} {Z:Zt} {R:Addr->Hp->Prop} {μ:List Addr} {H:Hp} {M:Mm} {e a b:Expr} {es:List Expr} {pos:Pos} {f fa fb fc:FE} {fs:FA} {st:Stmt} {rest:List Stmt} {F G:FS}
end
end EV
namespace EV
open PySem PySem.Spec PyProof.Rows L2
noncomputable def mt (cn c:Str):Bool:=c==cn || cn=="LentError" || cn=="ValueError"
section
variable {K:PySem.W.Frag}
end
structure Ecs (X:Cx) (K:PySem.W.Frag) (es:List Expr) (cns:List Str):Prop where
 k:X.K=K
 h:∃ ys cvs,PA X es (fun _ H Q=>Q ys H)/\ys.map clV=cvs.map some/\ys.length<=es.length/\∀ c C LE,Xc K c C LE->PySem.W.kitAny K (.ref C) cvs=some (cns.any fun n=>mt n c)
section
variable {X:Cx} {K:PySem.W.Frag} {Z:Zt} {R:Addr->Hp->Prop} {μ:List Addr} {H:Hp} {M:Mm} {e a b:Expr} {es:List Expr} {pos:Pos} {f fa fb fc:FE} {fs:FA} {st:Stmt} {rest:List Stmt} {F G:FS}
end
end EV
namespace EV
open PySem L2
section
variable {EX:D->Mm->Prop} {L:Lc} {M:Mm} {i j:Nat} {w x y:W} {Q:W->Mm->Prop} {QA:List W->Mm->Prop} {QS:Out->Mm->Prop} {f g h:FE} {F G FB FH:FS} {fs:FA} {Fm:Fn} {ws:List W}
end
end EV
namespace EV
open PySem PySem.Spec PySem.W PyProof.Rows L2
section
variable {X:Cx} {K:Frag} {Z:Zt} {pos:Pos}
end
end EV
namespace LS
open PySem L2 EV
noncomputable def Cg (n a b:Int):Prop:=∃ k,a=b+n*k
theorem Cg.rfl {n a:Int}:Cg n a a:=⟨0,by simp⟩
theorem Cg.symm {n a b:Int} (h:Cg n a b):Cg n b a:=by obtain ⟨k,rfl⟩:=h; exact ⟨-k,by grind⟩
theorem Cg.trans {n a b c:Int} (h:Cg n a b) (g:Cg n b c):Cg n a c:=by obtain ⟨k,rfl⟩:=h; obtain ⟨l,rfl⟩:=g; exact ⟨k+l,by grind⟩
theorem Cg.add {n a b c d:Int} (h:Cg n a b) (g:Cg n c d):Cg n (a+c) (b+d):=by obtain ⟨k,rfl⟩:=h; obtain ⟨l,rfl⟩:=g; exact ⟨k+l,by grind⟩
theorem Cg.sub {n a b c d:Int} (h:Cg n a b) (g:Cg n c d):Cg n (a - c) (b - d):=by obtain ⟨k,rfl⟩:=h; obtain ⟨l,rfl⟩:=g; exact ⟨k - l,by grind⟩
theorem Cg.neg {n a b:Int} (h:Cg n a b):Cg n (-a) (-b):=by obtain ⟨k,rfl⟩:=h; exact ⟨-k,by grind⟩
theorem Cg.mul {n a b c d:Int} (h:Cg n a b) (g:Cg n c d):Cg n (a*c) (b*d):=by obtain ⟨k,rfl⟩:=h; obtain ⟨l,rfl⟩:=g; exact ⟨b*l+d*k+n*k*l,by grind⟩
theorem Cg.mod {n a:Int}:Cg n (a % n) a:=⟨-(a / n),by have:=Int.emod_def a n; grind⟩
theorem Cg.modT {n a b:Int} (h:Cg n a b):Cg n (a % n) b:=Cg.mod.trans h
theorem Cg.emod {n a b:Int} (h:Cg n a b):a % n=b % n:=by obtain ⟨k,rfl⟩:=h; simp [Int.add_mul_emod_self_left]
theorem Cg.of {n a b:Int} (h:a % n=b % n):Cg n a b:=Cg.mod.symm.trans (h▸Cg.mod)
theorem Cg.of_eq {n a b:Int} (h:a=b):Cg n a b:=h▸Cg.rfl
theorem qP {n a b a' b':Int} (h:Cg n a a') (g:Cg n b b') (e:a'=b'):a % n=b % n:=(h.trans (e▸g.symm)).emod
theorem aDs {n a b a':Int} (l:0<=b) (u:b < n) (h:Cg n a a') (e:a'=b):a % n=b:=by rw [qP h Cg.rfl e,Int.emod_eq_of_lt l u]
local macro_rules | `(tactic| clean_wf) => `(tactic| repeat decreasing_trivial_pre_omega)
local macro_rules | `(tactic| decreasing_trivial_pre_omega) => `(tactic| with_reducible first
 | apply Cg.modT | apply Cg.add | apply Cg.sub | apply Cg.mul | apply Cg.neg | exact Cg.rfl)
inductive Dd
 | add (s:Nat) (c:Int) (gs ts:List Nat)
 | scale (s:Nat) (u:Int)
noncomputable def natsD (xs:List Nat):D:=.tup (xs.map fun k=>.int (k:Nat))
noncomputable def intsD (xs:List Int):D:=.tup (xs.map .int)
noncomputable def encD:Dd->D
 | .add s c gs ts=>.tup [.str "add",.int s,.int c,natsD gs,natsD ts]
 | .scale s u=>.tup [.str "scale",.int s,.int u]
noncomputable def pr (xs:List Int) (is:List Nat):Int:=is.foldl (fun a i=>a*xs.getD i 0) 1
theorem aBg (xs:List Int) (is:List Nat) (c:Int):is.foldl (fun a i=>a*xs.getD i 0) c=c*pr xs is:=by
 induction is generalizing c with
 | nil=>simp [pr]
 | cons i r ih=>rw [List.foldl_cons,ih]; show _=c*(List.foldl _ (1*_) r); rw [ih (1*_)]; grind
theorem rO (xs:List Int) (i:Nat) (r:List Nat):pr xs (i::r)=xs.getD i 0*pr xs r:=by
 simp only [pr,List.foldl_cons,Int.one_mul]; exact aBg xs r _
theorem aGn (xs:List Int):pr xs []=1:=rfl
theorem jM {xs:List Int} {s:Nat} {v:Int} {is:List Nat} (h:s∉is):pr (xs.set s v) is=pr xs is:=by
 induction is with
 | nil=>rfl
 | cons i r ih =>
  rw [rO,rO,ih (fun z=>h (by simp [z]))]
  have:s≠i:=fun z=>h (by simp [z])
  simp [List.getElem?_set_ne this]
noncomputable def dn (n:Int) (gs cs:List Int):Dd->List Int
 | .add s c g t=>cs.set s ((cs.getD s 0+c*pr gs g*pr cs t) % n)
 | .scale s u=>cs.set s (cs.getD s 0*u % n)
noncomputable def rn (n:Int) (gs:List Int) (ds:List Dd) (cs:List Int):List Int:=ds.foldl (fun cs d=>dn n gs cs d) cs
theorem aJv {n:Int} {gs cs:List Int}:rn n gs [] cs=cs:=rfl
theorem qX {n:Int} {gs cs:List Int} {d:Dd} {ds:List Dd}:rn n gs (d::ds) cs=rn n gs ds (dn n gs cs d):=rfl
theorem dB {n:Int} {gs cs:List Int} {ds es:List Dd}:rn n gs (ds++es) cs=rn n gs es (rn n gs ds cs):=by simp [rn]
theorem yL {n:Int} {gs cs:List Int} {d:Dd}:(dn n gs cs d).length=cs.length:=by cases d <;> simp [dn]
theorem iR {n:Int} {gs:List Int} {ds:List Dd}:∀ {cs:List Int},(rn n gs ds cs).length=cs.length:=by
 induction ds with
 | nil=>intro cs; rfl
 | cons d ds ih=>intro cs; rw [qX,ih,yL]
noncomputable def Rs (n:Int) (cs:List Int):Prop:=∀ c∈cs,0<=c/\c < n
theorem Rs.getD {n:Int} {cs:List Int} (h:Rs n cs) {i:Nat} (hi:i < cs.length):0<=cs.getD i 0/\cs.getD i 0 < n:=h _ (by simp [hi])
theorem Rs.getD0 {n:Int} {cs:List Int} (h:Rs n cs) (hn:0 < n) {i:Nat}:0<=cs.getD i 0/\cs.getD i 0 < n:=by
 by_cases hi:i < cs.length
 ·exact h.getD hi
 ·simp [List.getElem?_eq_none (Nat.le_of_not_lt hi)]; exact hn
theorem Rs.set {n:Int} {cs:List Int} (h:Rs n cs) {i:Nat} {v:Int} (l:0<=v) (u:v < n):Rs n (cs.set i v):=by
 intro c hc
 rcases List.mem_or_eq_of_mem_set hc with hc | rfl
 ·exact h c hc
 ·exact ⟨l,u⟩
theorem Rs.setM {n:Int} {cs:List Int} (hn:0 < n) (h:Rs n cs) {i:Nat} {v:Int}:Rs n (cs.set i (v % n)):=h.set (Int.emod_nonneg _ (by omega)) (Int.emod_lt_of_pos _ hn)
theorem Rs.dn {n:Int} {gs cs:List Int} (hn:0 < n) (h:Rs n cs) {d:Dd}:Rs n (dn n gs cs d):=by cases d <;> exact h.setM hn
theorem Rs.rn {n:Int} {gs:List Int} (hn:0 < n) {ds:List Dd}:∀ {cs:List Int},Rs n cs->Rs n (rn n gs ds cs):=by
 induction ds with
 | nil=>intro cs h; exact h
 | cons d ds ih=>intro cs h; rw [qX]; exact ih (h.dn hn)
noncomputable def IsIv (n u v:Int):Prop:=0<=v/\v < n/\(u*v) % n=1 % n
theorem IsIv.uniq {n u v w:Int} (h:IsIv n u v) (g:IsIv n u w):v=w:=by
 obtain ⟨l,k,e⟩:=h
 obtain ⟨l',k',e'⟩:=g
 have e1:Cg n (u*v) 1:=Cg.of e
 have e2:Cg n (u*w) 1:=Cg.of e'
 have:Cg n v w:=by
  have h1:Cg n v (v*(u*w)):=by simpa using Cg.mul (Cg.rfl (a:=v)) e2.symm
  have h2:Cg n ((u*v)*w) (1*w):=Cg.mul e1 Cg.rfl
  exact h1.trans ((Cg.of_eq (by grind)).trans (h2.trans (Cg.of_eq (by grind))))
 have:=this.emod
 rwa [Int.emod_eq_of_lt l k,Int.emod_eq_of_lt l' k'] at this
open Classical in
noncomputable def iv (n u:Int):Int:=if h:∃ v,IsIv n u v then Classical.choose h else 0
theorem aAy {n u v:Int} (h:IsIv n u v):iv n u=v:=by
 have hx:∃ v,IsIv n u v:=⟨v,h⟩
 unfold iv
 rw [dif_pos hx]
 exact (Classical.choose_spec hx).uniq h
theorem gI {n u:Int} (h:∃ v,IsIv n u v):IsIv n u (iv n u):=by obtain ⟨v,h⟩:=h; rw [aAy h]; exact h
noncomputable def Un (n u:Int):Prop:=0<=u/\u < n/\∃ v,IsIv n u v
theorem Un.iv {n u:Int} (h:Un n u):Un n (iv n u):=by
 have h':=gI h.2.2
 exact ⟨h'.1,h'.2.1,u,h.1,h.2.1,by rw [Int.mul_comm]; exact h'.2.2⟩
theorem aKr {n u:Int} (h:Un n u):LS.iv n (LS.iv n u)=u:=aAy ⟨h.1,h.2.1,by rw [Int.mul_comm]; exact (gI h.2.2).2.2⟩
noncomputable def OkD (n:Int) (G S:Nat):Dd->Prop
 | .add s c g t=>s < S/\0<=c/\c < n/\(∀ i∈g,i < G)/\(∀ i∈t,i < S)/\s∉t/\g.length<=4/\t.length<=4
 | .scale s u=>s < S/\Un n u
noncomputable def bD (n:Int):Dd->Dd
 | .add s c g t=>.add s (-c % n) g t
 | .scale s u=>.scale s (iv n u)
noncomputable def bDs (n:Int) (ds:List Dd):List Dd:=ds.reverse.map (bD n)
theorem OkD.back {n:Int} {G S:Nat} (hn:0 < n) {d:Dd} (h:OkD n G S d):OkD n G S (bD n d):=by
 cases d with
 | add s c g t=>obtain ⟨a,b,c,r⟩:=h; exact ⟨a,Int.emod_nonneg _ (by omega),Int.emod_lt_of_pos _ hn,r⟩
 | scale s u=>exact ⟨h.1,h.2.iv⟩
theorem aMa {n:Int} {G S:Nat} (hn:0 < n) {d:Dd} (h:OkD n G S d):bD n (bD n d)=d:=by
 cases d with
 | add s c g t =>
  obtain ⟨a,b,c',r⟩:=h
  simp only [bD,Dd.add.injEq,true_and,and_true]
  apply aDs (b) (c')
  ·clean_wf
  ·grind
 | scale s u=>simp only [bD,aKr h.2]
theorem eK {cs:List Int} {s:Nat} {v:Int} (h:s < cs.length):(cs.set s v).getD s 0=v:=by simp [h]
theorem cI {cs:List Int} {s i:Nat} {v:Int} (h:s≠i):(cs.set s v).getD i 0=cs.getD i 0:=by simp [List.getElem?_set_ne h]
inductive Wd | sum | less | times
noncomputable def Wd.str:Wd->Str
 | .sum=>"sum"
 | .less=>"less"
 | .times=>"times"
noncomputable def Wd.ev (n:Int):Wd->Int->Int->Int
 | .sum,x,y=>(x+y) % n
 | .less,x,y=>(x - y) % n
 | .times,x,y=>x*y % n
inductive E
 | num (c:Int)
 | giv (i:Nat)
 | op (w:Wd) (a b:E)
noncomputable def val (n:Int) (gs:List Int):E->Int
 | .num c=>c % n
 | .giv i=>gs.getD i 0
 | .op w a b=>w.ev n (val n gs a) (val n gs b)
noncomputable def dp:E->Nat
 | .num _=>0
 | .giv _=>0
 | .op _ a b=>max (dp a) (dp b)+1
noncomputable def wf (m:Nat):E->Prop
 | .num c=>0<=c/\c < 1000000
 | .giv i=>i < m
 | .op _ a b=>wf m a/\wf m b
theorem wf.mono {m k:Nat} (h:m<=k):∀ {e:E},wf m e->wf k e
 | .num _,w=>w
 | .giv _,w=>Nat.lt_of_lt_of_le w h
 | .op _ _ _,w=>⟨w.1.mono h,w.2.mono h⟩
noncomputable def many:E->Nat
 | .num _=>1
 | .giv _=>1
 | .op .times a b=>2*(many a+many b)
 | .op _ a b=>many a+many b
theorem pP {P:Dd->Prop} {a b:List Dd} (h:∀ d∈a,P d) (g:∀ d∈b,P d):∀ d∈a++b,P d:=fun d hd=>(List.mem_append.mp hd).elim (h d) (g d)
theorem lC {cs:List Int} {i j:Nat} (h:i≠j) (a b:Int):(cs.set i a).set j b=(cs.set j b).set i a:=List.set_comm _ _ h
end LS
namespace LS
open PySem L2 EV
variable {EX:D->Mm->Prop}
theorem at2I (x y:Int) (c:Bool):atI [D.int x,D.int y] (if c=true then 1 else 0)=some (D.int (if c=true then y else x)):=by cases c <;> rfl
theorem at2 {d:Int} (l:0<=d) (u:d < 2) (x y:D):∃ w,atI [x,y] d=some w/\(w=x\/w=y):=by
 have:d=0\/d=1:=by omega
 rcases this with rfl | rfl
 ·exact ⟨x,rfl,by simp⟩
 ·exact ⟨y,rfl,by simp⟩
theorem at3 {d:Int} (l:0<=d) (u:d < 3) (x y z:D):∃ w,atI [x,y,z] d=some w/\(w=x\/w=y\/w=z):=by
 have:d=0\/d=1\/d=2:=by omega
 rcases this with rfl | rfl | rfl
 ·exact ⟨x,rfl,by simp⟩
 ·exact ⟨y,rfl,by simp⟩
 ·exact ⟨z,rfl,by simp⟩
theorem at4 {d:Int} (l:0<=d) (u:d < 4) (x y z t:D):∃ w,atI [x,y,z,t] d=some w/\(w=x\/w=y\/w=z\/w=t):=by
 have:d=0\/d=1\/d=2\/d=3:=by omega
 rcases this with rfl | rfl | rfl | rfl
 ·exact ⟨x,rfl,by simp⟩
 ·exact ⟨y,rfl,by simp⟩
 ·exact ⟨z,rfl,by simp⟩
 ·exact ⟨t,rfl,by simp⟩
theorem atInts {ns:List Int} {i:Int} (l:0<=i) (u:i < ns.length):∃ n,atI (ns.map D.int) i=some (.int n)/\n∈ns:=by
 have hi:i.toNat < ns.length:=by omega
 refine ⟨ns[i.toNat],?_,by simp⟩
 simp only [atI,ixN,List.length_map]
 rw [if_pos l,if_pos u]
 simp [hi]
theorem qY {cs:List Int} {i:Nat} (h:i < cs.length):atI (cs.map D.int) (i:Int)=some (.int (cs.getD i 0)):=by
 simp only [atI,ixN,List.length_map]
 rw [if_pos (by omega),if_pos (by omega)]
 simp [h]
theorem aBj {n c:Int} (l:0<=c) (u:c < n) (hn:n<=1000000):(-18446744073709551616 < c/\c < 18446744073709551616):=by omega
theorem qT {cs:List D} {s:Nat} (h:s<=cs.length):cut cs none (some (s:Int))=cs.take s:=by
 simp only [cut,HT.sIx]
 rw [if_neg (by omega)]
 simp only [List.drop_zero,Nat.sub_zero,Int.toNat_natCast]
 rw [Nat.min_eq_left h]
theorem rF {cs:List D} {s:Nat} (h:s<=cs.length):cut cs (some (s:Int)) none=cs.drop s:=by
 simp only [cut,HT.sIx]
 rw [if_neg (by omega)]
 simp only [Int.toNat_natCast]
 rw [Nat.min_eq_left h,List.take_of_length_le (by simp)]
theorem yC {cs:List Int} {s:Nat} {v:Int} (h:s < cs.length):(cs.map D.int).take s++[D.int v]++(cs.map D.int).drop (s+1)=(cs.set s v).map D.int:=by
 rw [List.set_eq_take_append_cons_drop,if_pos h]
 simp
theorem oH {a b:Int} {x y:Nat} (ha:a.natAbs<=x) (hb:b.natAbs<=y):(a*b).natAbs<=x*y:=by
 rw [Int.natAbs_mul]; exact Nat.mul_le_mul ha hb
theorem aGa {n:Int} {xs:List Int} (hx:Rs n xs) (hn:0 < n) (hn2:n<=1000000):∀ is:List Nat,(pr xs is).natAbs<=1000000 ^ is.length
 | []=>by simp [aGn]
 | i::r=>by
  rw [rO,List.length_cons,Nat.pow_succ,Nat.mul_comm]
  have:=hx.getD0 hn (i:=i)
  exact oH (by omega) (aGa hx hn hn2 r)
theorem zT {n:Int} {xs:List Int} (hx:Rs n xs) (hn:0 < n) (hn2:n<=1000000) {is:List Nat} (h:is.length<=4):(pr xs is).natAbs<=1000000000000000000000000 :=
 Nat.le_trans (aGa hx hn hn2 is) (Nat.le_trans (Nat.pow_le_pow_right (by omega) h) (by decide))
theorem aBy {i:Int} {m:Nat} (h:i.natAbs<=m) (hm:m < 2 ^ 200):i.natAbs < lid:=aJa (m:=200) (Nat.lt_of_le_of_lt h hm) (by omega)
noncomputable def encP (n G S:Int) (ds:List Dd):D:=.tup [.int n,.int G,.int S,.tup (ds.map encD)]
theorem nC {k i:Nat} (h:i < k):ixN k (i:Int)=some i:=by
 simp only [ixN]
 rw [if_pos (by omega),if_pos (by omega)]
 simp
mutual
theorem uD:∀ d:D,eqD d d=true
 | .non=>by simp [eqD]
 | .bl b=>by simp [eqD]
 | .int i=>by simp [eqD]
 | .str x=>by simp [eqD]
 | .tup xs=>by simp only [eqD]; exact fT xs
 | .lst xs=>by simp only [eqD]; exact fT xs
 | .fz xs=>by simp only [eqD]; exact fT xs
 | .exn c f xs=>by simp only [eqD]; rw [fT xs]; simp
theorem fT:∀ ds:List D,eqDs ds ds=true
 | []=>by simp [eqDs]
 | d::ds=>by simp only [eqDs,uD d,fT ds,Bool.and_true]
end
theorem aBr (xs:List Int):dep (intsD xs)<=3:=by
 have:deps (xs.map D.int)<=1:=by
  induction xs with
  | nil=>simp [deps]
  | cons x r ih=>simp [deps,dep]; omega
 simp only [intsD,dep]
 omega
theorem sK (xs:List Int):dep (intsD xs)<=100:=Nat.le_trans (aBr xs) (by omega)
section
variable {M:Mm} {x y:W} {Q:W->Mm->Prop}
theorem aHp {a b:D} (h1:wd M x=some a) (h2:wd M y=some b) (e:a=b) (hd:dep a<=100) (q:Q (.d (.bl false)) M):Okx EX (pNe x y M) Q:=by
 subst e
 exact nS h1 h2 ⟨hd,hd⟩ (by rw [uD]; exact q)
end
end LS
namespace LS
open PySem L2 EV
variable {EX:D->Mm->Prop}
theorem yP (ns:List Nat):deps (ns.map fun x=>D.int (x:Nat))<=1:=by
 induction ns with
 | nil=>simp [deps]
 | cons x r ih=>simp [deps,dep]; omega
theorem natsOf {xs:List Int} (h:∀ x∈xs,0<=x):∃ ks:List Nat,xs=ks.map (fun k:Nat=>(k:Int)):=by
 refine ⟨xs.map Int.toNat,?_⟩
 rw [List.map_map]
 conv=>lhs; rw [<- List.map_id xs]
 exact List.map_congr_left fun x hx=>by simp; have:=h x hx; omega
noncomputable def SrtD:Dd->Prop
 | .add _ _ g t=>g.Pairwise (·<=·)/\t.Pairwise (·<=·)
 | .scale _ _=>True
theorem uL (ns:List Nat):∃ ks:List Nat,srt (ns.map fun k:Nat=>(k:Int))=ks.map (fun k:Nat=>(k:Int))/\ks.Perm ns/\ks.Pairwise (·<=·):=by
 obtain ⟨ks,e⟩:=natsOf (xs:=srt (ns.map fun k:Nat=>(k:Int))) (fun x hx=>by
  rw [aEs] at hx; obtain ⟨k,_,rfl⟩:=List.mem_map.mp hx; omega)
 refine ⟨ks,e,?_,?_⟩
 ·have p:=lJ (ns.map fun k:Nat=>(k:Int))
  rw [e] at p
  have:=p.map Int.toNat
  simpa [List.map_map,Function.comp_def] using this
 ·have o:=oP (ns.map fun k:Nat=>(k:Int))
  rw [e,List.pairwise_map] at o
  exact o.imp fun h=>by omega
theorem fF (ns:List Nat):(ns.map fun x=>D.int (x:Nat))=(ns.map fun k:Nat=>(k:Int)).map D.int:=by rw [List.map_map]; rfl
noncomputable def othersL (S ks:Nat):List Nat:=(List.range S).filter (·≠ks)
theorem vQ {S ks x:Nat}:x∈othersL S ks ↔ x < S/\x≠ks:=by simp [othersL]
theorem aCz {ds:List D}:(!eqD (.lst ds) (.lst []))=decide (ds≠[]):=by
 cases ds with
 | nil=>rfl
 | cons d r=>simp [eqD,eqDs]
theorem aEu {ns:List Nat} {i:Int} (l:0<=i) (u:i < ns.length):∃ k∈ns,atI (ns.map fun x=>D.int (x:Nat)) i=some (.int (k:Nat)):=by
 have hi:i.toNat < ns.length:=by omega
 refine ⟨ns[i.toNat],List.getElem_mem hi,?_⟩
 simp only [atI,ixN,List.length_map]
 rw [if_pos l,if_pos u]
 simp [hi]
end LS
namespace LS
open PySem L2 EV
variable {EX:D->Mm->Prop}
theorem aAs (gs:List Nat):noLs (gs.map fun k=>D.int (k:Nat))=true:=by
 induction gs with
 | nil=>rfl
 | cons x r ih=>simp [noLs,noL,ih]
theorem aFb (gs:List Nat):szs (gs.map fun k=>D.int (k:Nat))=gs.length:=by
 induction gs with
 | nil=>rfl
 | cons x r ih=>simp [szs,sz,ih]; omega
theorem aCg (d:Dd):noL (encD d)=true:=by
 cases d with
 | add s c g t=>simp [encD,natsD,noL,noLs,aAs]
 | scale s u=>simp [encD,noL,noLs]
theorem aDh {n:Int} {G S:Nat} {d:Dd} (h:OkD n G S d):sz (encD d)<=14:=by
 cases d with
 | add s c g t =>
  obtain ⟨_,_,_,_,_,_,h1,h2⟩:=h
  simp [encD,natsD,sz,szs,aFb]; omega
 | scale s u=>simp [encD,sz,szs]
theorem pT:∀ ds:List Dd,noLs (ds.map encD)=true
 | []=>rfl
 | d::r=>by simp [noLs,aCg d,pT r]
theorem uJ {n:Int} {G S:Nat}:∀ {ds:List Dd},(∀ d∈ds,OkD n G S d)->szs (ds.map encD)<=14*ds.length
 | [],_=>by simp [szs]
 | d::r,h=>by
  have h1:=aDh (h d (by simp))
  have h2:=uJ (ds:=r) fun x hx=>h x (by simp [hx])
  simp [szs]; omega
theorem aBw {n G S:Int} {ds:List Dd}:noL (encP n G S ds)=true:=by simp [encP,noL,noLs,pT]
theorem aEk {n:Int} {G S:Int} {G' S':Nat} {ds:List Dd} (h:∀ d∈ds,OkD n G' S' d):sz (encP n G S ds)<=14*ds.length+5:=by
 have:=uJ h
 simp [encP,sz,szs]; omega
end LS
namespace LS
open PySem L2 EV
variable {EX:D->Mm->Prop}
noncomputable def pl (ps:List Nat) (i:Nat):Nat:=ps.getD i 0
end LS
namespace LS
open PySem L2 EV
variable {EX:D->Mm->Prop}
noncomputable def ho:Dd->Dd->Bool
 | .scale _ _,_=>false
 | .add s _ _ t,.scale s' _=>decide (s'=s) || decide (s'∈t)
 | .add _ _ _ t,.add s' _ _ _=>decide (s'∈t)
noncomputable def gp (a b:Dd):Bool:=!ho a b&&!ho b a
theorem bI (a b:Dd):gp a b=gp b a:=by simp [gp,Bool.and_comm]
theorem aGh {n:Int} {G:Nat} {gs cs:List Int} {d e:Dd} (hd:OkD n G cs.length d) (he:OkD n G cs.length e) (h:gp d e=true):dn n gs (dn n gs cs d) e=dn n gs (dn n gs cs e) d:=by
 cases d with
 | add s c g t =>
  obtain ⟨hs,_,_,_,ht,hst,_⟩:=hd
  cases e with
  | add s' c' g' t' =>
   obtain ⟨hs',_,_,_,ht',hst',_⟩:=he
   simp only [gp,ho,Bool.and_eq_true,Bool.not_eq_true',decide_eq_false_iff_not] at h
   obtain ⟨h1,h2⟩:=h
   simp only [dn]
   by_cases e:s=s'
   ·subst e
    rw [eK hs,eK hs,jM hst,jM hst',List.set_set,List.set_set]
    congr 1
    apply qP
    ·repeat (with_reducible first | apply Cg.modT | apply Cg.add | exact Cg.rfl)
    ·repeat (with_reducible first | apply Cg.modT | apply Cg.add | exact Cg.rfl)
    ·grind
   ·rw [cI e,cI (Ne.symm e),jM h2,jM h1,lC e]
  | scale s' u =>
   obtain ⟨hs',hu⟩:=he
   simp only [gp,ho,Bool.and_eq_true,Bool.not_eq_true',Bool.or_eq_false_iff,decide_eq_false_iff_not] at h
   obtain ⟨⟨h1,h2⟩,_⟩:=h
   simp only [dn]
   rw [cI (fun e=>h1 e.symm),cI h1,jM h2,lC (fun e=>h1 e.symm)]
 | scale s u =>
  obtain ⟨hs,hu⟩:=hd
  cases e with
  | add s' c' g' t' =>
   obtain ⟨hs',_,_,_,ht',hst',_⟩:=he
   simp only [gp,ho,Bool.and_eq_true,Bool.not_eq_true',Bool.or_eq_false_iff,decide_eq_false_iff_not] at h
   obtain ⟨_,h1,h2⟩:=h
   simp only [dn]
   rw [cI h1,cI (fun e=>h1 e.symm),jM h2,lC h1]
  | scale s' u' =>
   obtain ⟨hs',hu'⟩:=he
   simp only [dn]
   by_cases e:s=s'
   ·subst e
    rw [eK hs,eK hs,List.set_set,List.set_set]
    congr 1
    apply qP
    ·repeat (with_reducible first | apply Cg.modT | apply Cg.mul | exact Cg.rfl)
    ·repeat (with_reducible first | apply Cg.modT | apply Cg.mul | exact Cg.rfl)
    ·grind
   ·rw [cI e,cI (Ne.symm e),lC e]
theorem aCf (t:List Nat) (s:Nat):((t.map fun k=>D.int (k:Nat)).any fun y=>eqD y (.int (s:Nat)))=decide (s∈t):=by
 rw [Bool.eq_iff_iff]
 simp only [List.any_map,List.any_eq_true,decide_eq_true_eq,Function.comp]
 constructor
 ·rintro ⟨x,hx,e⟩
  have:x=s:=by simp [eqD] at e; omega
  rw [<- this]; exact hx
 ·intro h; exact ⟨s,h,by simp [eqD]⟩
theorem zI (t:List Nat):(t.map fun k=>D.int (k:Nat)).all flatD=true:=by simp [List.all_eq_true,flatD,fv]
end LS
namespace LS
open PySem L2 EV
variable {EX:D->Mm->Prop}
theorem aAk {ds:List Dd} {i:Int} (l:0<=i) (u:i.toNat < ds.length):atI (ds.map encD) i=some (encD ds[i.toNat]):=by
 simp only [atI,ixN,List.length_map]
 rw [if_pos l,if_pos (by omega)]
 simp only [Option.bind_some,List.getElem?_map,List.getElem?_eq_getElem u,Option.map_some]
end LS
namespace LS
open PySem L2 EV
end LS
namespace LS
open PySem
noncomputable def kd:Dd->Nat×Bool×List Nat×List Nat
 | .add s _ g t=>(s,false,g,t)
 | .scale s _=>(s,true,[],[])
noncomputable def lexN:List Nat->List Nat->Bool
 | [],[]=>false
 | [],_::_=>true
 | _::_,[]=>false
 | x::xs,y::ys=>if x=y then lexN xs ys else decide (x < y)
noncomputable def rl (a b:Nat×Bool×List Nat×List Nat):Bool :=
 if a.1=b.1 then (if a.2.1=b.2.1 then (if a.2.2.1=b.2.2.1 then lexN a.2.2.2 b.2.2.2 else lexN a.2.2.1 b.2.2.1) else !a.2.1) else decide (a.1 < b.1)
theorem fH:∀ xs:List Nat,lexN xs xs=false
 | []=>rfl
 | x::xs=>by simp [lexN,fH xs]
theorem jO:∀ {xs ys:List Nat},lexN xs ys=false->lexN ys xs=false->xs=ys
 | [],[],_,_=>rfl
 | [],_::_,h,_=>by simp [lexN] at h
 | _::_,[],_,h=>by simp [lexN] at h
 | x::xs,y::ys,h,g=>by
  simp only [lexN] at h g
  by_cases e:x=y
  ·subst e
   simp only [if_true] at h g
   rw [jO h g]
  ·rw [if_neg e] at h
   rw [if_neg (Ne.symm e)] at g
   simp at h g
   omega
theorem jT:∀ {xs ys zs:List Nat},lexN xs ys=true->lexN ys zs=true->lexN xs zs=true
 | [],[],_,h,_=>by simp [lexN] at h
 | [],_::_,[],_,g=>by simp [lexN] at g
 | [],_::_,_::_,_,_=>rfl
 | _::_,[],_,h,_=>by simp [lexN] at h
 | _::_,_::_,[],_,g=>by simp [lexN] at g
 | x::xs,y::ys,z::zs,h,g=>by
  simp only [lexN] at h g ⊢
  by_cases e:x=y
  ·subst e
   by_cases f:x=z
   ·subst f
    simp only [if_true] at h g ⊢
    exact jT h g
   ·rw [if_neg f] at g ⊢
    exact g
  ·rw [if_neg e] at h
   by_cases f:y=z
   ·subst f
    rw [if_neg e]
    exact h
   ·rw [if_neg f] at g
    simp at h g
    rw [if_neg (by omega)]
    simp
    omega
theorem zJ (a:Nat×Bool×List Nat×List Nat):rl a a=false:=by simp [rl,fH]
theorem uM {a b:Nat×Bool×List Nat×List Nat} (h:rl a b=false) (g:rl b a=false):a=b:=by
 obtain ⟨a1,a2,a3,a4⟩:=a
 obtain ⟨b1,b2,b3,b4⟩:=b
 simp only [rl] at h g
 by_cases e1:a1=b1
 ·subst e1
  simp only [if_true] at h g
  by_cases e2:a2=b2
  ·subst e2
   simp only [if_true] at h g
   by_cases e3:a3=b3
   ·subst e3
    simp only [if_true] at h g
    rw [jO h g]
   ·rw [if_neg e3] at h
    rw [if_neg (Ne.symm e3)] at g
    exact (e3 (jO h g)).elim
  ·rw [if_neg e2] at h
   rw [if_neg (Ne.symm e2)] at g
   cases a2 <;> cases b2 <;> simp_all
 ·rw [if_neg e1] at h
  rw [if_neg (Ne.symm e1)] at g
  simp at h g
  omega
theorem jV {a b c:Nat×Bool×List Nat×List Nat} (h:rl a b=true) (g:rl b c=true):rl a c=true:=by
 obtain ⟨a1,a2,a3,a4⟩:=a
 obtain ⟨b1,b2,b3,b4⟩:=b
 obtain ⟨c1,c2,c3,c4⟩:=c
 simp only [rl] at h g ⊢
 by_cases e1:a1=b1
 ·subst e1
  simp only [if_true] at h
  by_cases f1:a1=c1
  ·subst f1
   simp only [if_true] at g ⊢
   by_cases e2:a2=b2
   ·subst e2
    simp only [if_true] at h
    by_cases f2:a2=c2
    ·subst f2
     simp only [if_true] at g ⊢
     by_cases e3:a3=b3
     ·subst e3
      simp only [if_true] at h
      by_cases f3:a3=c3
      ·subst f3
       simp only [if_true] at g ⊢
       exact jT h g
      ·rw [if_neg f3] at g ⊢
       exact g
     ·rw [if_neg e3] at h
      by_cases f3:b3=c3
      ·subst f3
       rw [if_neg e3]
       exact h
      ·rw [if_neg f3] at g
       have:=jT h g
       rw [if_neg (fun z=>by rw [z,fH] at this; cases this)]
       exact this
    ·rw [if_neg f2] at g ⊢
     exact g
   ·rw [if_neg e2] at h
    by_cases f2:b2=c2
    ·subst f2
     rw [if_neg e2]
     exact h
    ·rw [if_neg f2] at g
     cases a2 <;> cases b2 <;> cases c2 <;> simp_all
  ·rw [if_neg f1] at g ⊢
   exact g
 ·rw [if_neg e1] at h
  by_cases f1:b1=c1
  ·subst f1
   rw [if_neg e1]
   exact h
  ·rw [if_neg f1] at g
   simp at h g
   rw [if_neg (by omega)]
   simp
   omega
theorem uR {a b:Nat×Bool×List Nat×List Nat} (h:rl a b=true):rl b a=false:=by
 cases g:rl b a with
 | false=>rfl
 | true=>have:=jV h g; rw [zJ] at this; cases this
theorem gQ {a b c:Dd} (h:kd a=kd b):gp a c=gp b c:=by
 cases a <;> cases b <;> simp only [kd,Prod.mk.injEq,reduceCtorEq,and_true,true_and,and_false,false_and,Bool.true_eq_false,Bool.false_eq_true] at h
 ·obtain ⟨rfl,rfl,rfl⟩:=h
  cases c <;> rfl
 ·subst h
  cases c <;> rfl
noncomputable def mg (n:Int):Dd->Dd->Dd
 | .add s c g t,.add _ c' _ _=>.add s ((c+c') % n) g t
 | .scale s u,.scale _ u'=>.scale s (u*u' % n)
 | a,_=>a
noncomputable def idle:Dd->Bool
 | .add _ c _ _=>decide (c=0)
 | .scale _ u=>decide (u=1)
noncomputable def tk (n:Int) (d:Dd):List Dd->Option (List Dd)
 | []=>none
 | x::r=>if kd x=kd d then some (if idle (mg n x d) then r else mg n x d::r) else if gp x d then (tk n d r).map (x::·) else none
noncomputable def pcs (d:Dd):List Dd->Option (List Dd)
 | []=>none
 | x::r=>if gp x d then (match pcs d r with
  | some r'=>some (x::r')
  | none=>if rl (kd d) (kd x) then some (x::d::r) else none) else none
noncomputable def ins (n:Int) (d:Dd) (r:List Dd):List Dd:=if idle d then r else match tk n d r with
 | some r'=>r'
 | none=>match pcs d r with
  | some r'=>r'
  | none=>d::r
noncomputable def Nor (n:Int):List Dd->Prop
 | []=>True
 | x::r=>idle x=false/\tk n x r=none/\pcs x r=none/\Nor n r
theorem oC {n:Int} {d e:Dd} (h:kd d=kd e):∀ r:List Dd,tk n d r=none->tk n e r=none
 | [],_=>rfl
 | x::r,g=>by
  simp only [tk] at g ⊢
  rw [<- h]
  split at g
  ·cases g
  ·rename_i hk
   rw [if_neg hk,bI x e,<- gQ (c:=x) h,bI d x]
   split at g
   ·rename_i hg
    rw [if_pos hg]
    rw [Option.map_eq_none_iff] at g ⊢
    exact oC h r g
   ·rename_i hg
    rw [if_neg hg]
theorem mO {d e:Dd} (h:kd d=kd e):∀ r:List Dd,pcs d r=none->pcs e r=none
 | [],_=>rfl
 | x::r,g=>by
  simp only [pcs] at g ⊢
  rw [<- h,bI x e,<- gQ (c:=x) h,bI d x]
  split at g
  ·rename_i hg
   rw [if_pos hg]
   cases hp:pcs d r with
   | some r'=>rw [hp] at g; cases g
   | none =>
    rw [hp] at g
    rw [mO h r hp]
    simp only at g ⊢
    split at g
    ·cases g
    ·rename_i hx
     rw [if_neg hx]
  ·rename_i hg
   rw [if_neg hg]
theorem aAc {n:Int} {d e:Dd} (h:kd e=kd d) (hi:idle (mg n d e)=true):∀ {r r':List Dd},tk n d r=none->pcs d r=some r'->tk n e r'=some r
 | [],_,_,g=>by cases g
 | x::r,r',ht,g=>by
  simp only [tk] at ht
  split at ht
  ·cases ht
  rename_i hk
  simp only [pcs] at g
  split at g
  ·rename_i hg
   rw [if_pos hg,Option.map_eq_none_iff] at ht
   have hgx:gp x e=true:=by rw [bI,gQ (c:=x) h,bI]; exact hg
   cases hp:pcs d r with
   | some s =>
    rw [hp] at g
    cases g
    simp only [tk]
    rw [h,if_neg hk,if_pos hgx,aAc h hi ht hp]
    rfl
   | none =>
    rw [hp] at g
    simp only at g
    split at g
    ·cases g
     simp only [tk]
     rw [h,if_neg hk,if_pos hgx,if_pos rfl,if_pos hi]
     rfl
    ·cases g
  ·cases g
theorem xO {n:Int} {d e:Dd} (h:kd e=kd d):∀ {r r1:List Dd},Nor n r->(∀ x∈r,kd x=kd d->kd (mg n x d)=kd d/\mg n (mg n x d) e=x/\(idle (mg n x d)=true->x=e))->tk n d r=some r1->(tk n e r1=some r)\/(tk n e r1=none/\(pcs e r1=some r\/(pcs e r1=none/\r=e::r1)))
 | [],_,_,_,g=>by cases g
 | x::r,r1,hN,hm,g=>by
  obtain ⟨n1,n2,n3,n4⟩:=hN
  simp only [tk] at g
  split at g
  ·rename_i hk
   obtain ⟨m1,m2,m3⟩:=hm x (List.mem_cons_self ..) hk
   cases g
   by_cases hi:idle (mg n x d)=true
   ·rw [if_pos hi]
    have:=m3 hi
    subst this
    exact .inr ⟨n2,.inr ⟨n3,rfl⟩⟩
   ·rw [if_neg hi]
    refine .inl ?_
    simp only [tk]
    rw [if_pos (by rw [m1,h]),m2,if_neg (by rw [n1]; exact Bool.false_ne_true)]
  ·rename_i hk
   split at g
   ·rename_i hg
    rw [Option.map_eq_some_iff] at g
    obtain ⟨s,hs,rfl⟩:=g
    have hgx:gp x e=true:=by rw [bI,gQ (c:=x) h,bI]; exact hg
    rcases xO h n4 (fun y hy=>hm y (List.mem_cons_of_mem _ hy)) hs with q | ⟨q1,q2⟩
    ·refine .inl ?_
     simp only [tk]
     rw [h,if_neg hk,if_pos hgx,q]
     rfl
    ·refine .inr ⟨?_,.inl ?_⟩
     ·simp only [tk]
      rw [h,if_neg hk,if_pos hgx,q1]
      rfl
     ·simp only [pcs]
      rw [if_pos hgx]
      rcases q2 with q2 | ⟨q2,rfl⟩
      ·rw [q2]
      ·rw [q2]
       have hr:rl (kd e) (kd x)=true:=by
        simp only [pcs] at n3
        rw [bI e x,if_pos hgx] at n3
        cases hp:pcs x s with
        | some s'=>rw [hp] at n3; cases n3
        | none =>
         rw [hp] at n3
         simp only at n3
         split at n3
         ·cases n3
         ·rename_i hx
          cases hy:rl (kd e) (kd x) with
          | true=>rfl
          | false=>exact (hk ((uM (by simpa using hx) hy).trans h)).elim
       simp only
       rw [if_pos hr]
   ·cases g
theorem pO {n:Int} (d:Dd):kd (bD n d)=kd d:=by cases d <;> rfl
theorem jC {n:Int} {x d:Dd} (h:kd x=kd d):kd (mg n x d)=kd d:=by
 rw [<- h]
 cases x <;> cases d <;> rfl
theorem xI {n:Int} {d:Dd} (hm:∀ x,kd x=kd d->kd (mg n x d)=kd d):∀ {r r1:List Dd} {y:Dd},tk n d r=some r1->gp y d=true->kd y≠kd d->tk n y r=none->pcs y r=none->tk n y r1=none/\pcs y r1=none
 | [],_,_,g,_,_,_,_=>by cases g
 | x::r,r1,y,g,hy,hk,h1,h2=>by
  simp only [tk] at g
  simp only [tk] at h1
  split at h1
  ·cases h1
  rename_i hxy
  simp only [pcs] at h2
  split at g
  ·rename_i hx
   have gxy:gp x y=true:=by rw [gQ (c:=y) hx,bI]; exact hy
   rw [if_pos gxy,Option.map_eq_none_iff] at h1
   rw [if_pos gxy] at h2
   have p2:pcs y r=none:=by
    cases hp:pcs y r with
    | none=>rfl
    | some s=>rw [hp] at h2; cases h2
   rw [p2] at h2
   cases g
   by_cases hi:idle (mg n x d)=true
   ·rw [if_pos hi]
    exact ⟨h1,p2⟩
   ·rw [if_neg hi]
    have hkm:=hm x hx
    have gmy:gp (mg n x d) y=true:=by rw [gQ (c:=y) hkm,bI]; exact hy
    refine ⟨?_,?_⟩
    ·simp only [tk]
     rw [if_neg (by rw [hkm]; exact Ne.symm hk),if_pos gmy,h1]
     rfl
    ·simp only [pcs]
     rw [if_pos gmy,p2]
     simp only at h2 ⊢
     rw [hkm,<- hx]
     split at h2
     ·cases h2
     ·rename_i hz
      rw [if_neg hz]
  ·rename_i hx
   split at g
   ·rename_i hg
    rw [Option.map_eq_some_iff] at g
    obtain ⟨s,hs,rfl⟩:=g
    by_cases gxy:gp x y=true
    ·rw [if_pos gxy,Option.map_eq_none_iff] at h1
     rw [if_pos gxy] at h2
     have p2:pcs y r=none:=by
      cases hp:pcs y r with
      | none=>rfl
      | some s=>rw [hp] at h2; cases h2
     rw [p2] at h2
     obtain ⟨q1,q2⟩:=xI hm hs hy hk h1 p2
     refine ⟨?_,?_⟩
     ·simp only [tk]
      rw [if_neg hxy,if_pos gxy,q1]
      rfl
     ·simp only [pcs]
      rw [if_pos gxy,q2]
      simp only at h2 ⊢
      split at h2
      ·cases h2
      ·rename_i hz
       rw [if_neg hz]
    ·refine ⟨?_,?_⟩
     ·simp only [tk]
      rw [if_neg hxy,if_neg gxy]
     ·simp only [pcs]
      rw [if_neg gxy]
   ·cases g
theorem Nor.tk {n:Int} {d:Dd} (hm:∀ x,kd x=kd d->kd (mg n x d)=kd d):∀ {r r1:List Dd},Nor n r->LS.tk n d r=some r1->Nor n r1
 | [],_,_,g=>by cases g
 | x::r,r1,hN,g=>by
  obtain ⟨n1,n2,n3,n4⟩:=hN
  simp only [LS.tk] at g
  split at g
  ·rename_i hx
   cases g
   by_cases hi:idle (mg n x d)=true
   ·rw [if_pos hi]
    exact n4
   ·rw [if_neg hi]
    have hkm:=hm x hx
    exact ⟨by simpa using hi,oC (hx.trans hkm.symm) r n2,mO (hx.trans hkm.symm) r n3,n4⟩
  ·rename_i hx
   split at g
   ·rename_i hg
    rw [Option.map_eq_some_iff] at g
    obtain ⟨s,hs,rfl⟩:=g
    obtain ⟨q1,q2⟩:=xI hm hs hg hx n2 n3
    exact ⟨n1,q1,q2,Nor.tk hm n4 hs⟩
   ·cases g
theorem uI {n:Int} {d:Dd}:∀ {r r1:List Dd} {y:Dd},pcs d r=some r1->gp y d=true->kd y≠kd d->tk n y r=none->pcs y r=none->tk n y r1=none/\pcs y r1=none
 | [],_,_,g,_,_,_,_=>by cases g
 | x::r,r1,y,g,hy,hk,h1,h2=>by
  simp only [pcs] at g
  split at g
  ·rename_i hg
   simp only [tk] at h1
   split at h1
   ·cases h1
   rename_i hxy
   simp only [pcs] at h2
   by_cases gxy:gp x y=true
   ·rw [if_pos gxy,Option.map_eq_none_iff] at h1
    rw [if_pos gxy] at h2
    have p2:pcs y r=none:=by
     cases hp:pcs y r with
     | none=>rfl
     | some s=>rw [hp] at h2; cases h2
    rw [p2] at h2
    simp only at h2
    have hz:¬ rl (kd y) (kd x)=true:=by
     intro z
     rw [if_pos z] at h2
     cases h2
    cases hp:pcs d r with
    | some s =>
     rw [hp] at g
     cases g
     obtain ⟨q1,q2⟩:=uI hp hy hk h1 p2
     refine ⟨?_,?_⟩
     ·simp only [tk]
      rw [if_neg hxy,if_pos gxy,q1]
      rfl
     ·simp only [pcs]
      rw [if_pos gxy,q2]
      simp only
      rw [if_neg hz]
    | none =>
     rw [hp] at g
     simp only at g
     split at g
     ·rename_i hr
      cases g
      have gdy:gp d y=true:=by rw [bI]; exact hy
      have hd:¬ rl (kd y) (kd d)=true:=fun z=>hz (jV z hr)
      refine ⟨?_,?_⟩
      ·simp only [tk]
       rw [if_neg hxy,if_pos gxy,if_neg (Ne.symm hk),if_pos gdy,h1]
       rfl
      ·simp only [pcs]
       rw [if_pos gxy,if_pos gdy,p2]
       simp only
       rw [if_neg hd]
       simp only
       rw [if_neg hz]
     ·cases g
   ·have t1:∀ s,tk n y (x::s)=none:=fun s=>by
     simp only [tk]
     rw [if_neg hxy,if_neg gxy]
    have t2:∀ s,pcs y (x::s)=none:=fun s=>by
     simp only [pcs]
     rw [if_neg gxy]
    cases hp:pcs d r with
    | some s=>rw [hp] at g; cases g; exact ⟨t1 _,t2 _⟩
    | none =>
     rw [hp] at g
     simp only at g
     split at g
     ·cases g; exact ⟨t1 _,t2 _⟩
     ·cases g
  ·cases g
theorem Nor.pcs {n:Int} {d:Dd} (hi:idle d=false):∀ {r r1:List Dd},Nor n r->LS.tk n d r=none->LS.pcs d r=some r1->Nor n r1
 | [],_,_,_,g=>by cases g
 | x::r,r1,hN,ht,g=>by
  obtain ⟨n1,n2,n3,n4⟩:=hN
  simp only [LS.tk] at ht
  split at ht
  ·cases ht
  rename_i hx
  simp only [LS.pcs] at g
  split at g
  ·rename_i hg
   rw [if_pos hg,Option.map_eq_none_iff] at ht
   cases hp:LS.pcs d r with
   | some s =>
    rw [hp] at g
    cases g
    obtain ⟨q1,q2⟩:=uI hp hg hx n2 n3
    exact ⟨n1,q1,q2,Nor.pcs hi n4 ht hp⟩
   | none =>
    rw [hp] at g
    simp only at g
    split at g
    ·rename_i hr
     cases g
     have gdx:gp d x=true:=by rw [bI]; exact hg
     refine ⟨n1,?_,?_,hi,ht,hp,n4⟩
     ·simp only [LS.tk]
      rw [if_neg (Ne.symm hx),if_pos gdx,n2]
      rfl
     ·simp only [LS.pcs]
      rw [if_pos gdx,n3]
      simp only
      rw [if_neg (by rw [uR hr]; exact Bool.false_ne_true)]
    ·cases g
  ·cases g
theorem Nor.ins {n:Int} {d:Dd} {r:List Dd} (h:Nor n r):Nor n (LS.ins n d r):=by
 unfold LS.ins
 by_cases hi:idle d=true
 ·rw [if_pos hi]; exact h
 ·rw [if_neg hi]
  cases ht:LS.tk n d r with
  | some r1=>exact h.tk (fun x hx=>jC hx) ht
  | none =>
   cases hp:LS.pcs d r with
   | some r1=>exact h.pcs (by simpa using hi) ht hp
   | none=>exact ⟨by simpa using hi,ht,hp,h⟩
theorem Nor.same {n:Int} {x:Dd} {r:List Dd} (h:Nor n (x::r)):LS.ins n x r=x::r:=by
 obtain ⟨n1,n2,n3,_⟩:=h
 unfold LS.ins
 rw [if_neg (by rw [n1]; exact Bool.false_ne_true),n2,n3]
theorem uP {n:Int} {G S:Nat} (hn:2<=n) {x d:Dd} (hx:OkD n G S x) (hd:OkD n G S d) (h:kd x=kd d):OkD n G S (mg n x d):=by
 cases x with
 | add s c g t =>
  cases d with
  | add s' c' g' t' =>
   obtain ⟨a1,a2,a3,a4⟩:=hx
   exact ⟨a1,Int.emod_nonneg _ (by omega),Int.emod_lt_of_pos _ (by omega),a4⟩
  | scale s' u'=>simp [kd] at h
 | scale s u =>
  cases d with
  | add s' c' g' t'=>simp [kd] at h
  | scale s' u' =>
   obtain ⟨a1,a2,a3,v,hv⟩:=hx
   obtain ⟨b1,b2,b3,v',hv'⟩:=hd
   refine ⟨a1,Int.emod_nonneg _ (by omega),Int.emod_lt_of_pos _ (by omega),v*v' % n,Int.emod_nonneg _ (by omega),Int.emod_lt_of_pos _ (by omega),?_⟩
   refine Cg.emod ?_
   refine (Cg.mul Cg.mod Cg.mod).trans ?_
   have e1:Cg n (u*v) 1:=Cg.of hv.2.2
   have e2:Cg n (u'*v') 1:=Cg.of hv'.2.2
   exact (Cg.of_eq (by grind)).trans ((Cg.mul e1 e2).trans (Cg.of_eq (by omega)))
theorem mC {n:Int} {G S:Nat} (hn:2<=n) {d:Dd} (h:OkD n G S d):idle (mg n d (bD n d))=true:=by
 cases d with
 | add s c g t =>
  simp only [bD,mg,idle,decide_eq_true_eq]
  have:Cg n (c + -c % n) 0:=(Cg.add Cg.rfl Cg.mod).trans (Cg.of_eq (by omega))
  have:=this.emod
  simpa using this
 | scale s u =>
  simp only [bD,mg,idle,decide_eq_true_eq]
  rw [(gI h.2.2.2).2.2]
  exact Int.emod_eq_of_lt (by omega) (by omega)
theorem xQ {n:Int} {G S:Nat} (hn:2<=n) {x d:Dd} (hx:OkD n G S x) (hd:OkD n G S d) (h:kd x=kd d):mg n (mg n x d) (bD n d)=x:=by
 cases x with
 | add s c g t =>
  cases d with
  | add s' c' g' t' =>
   obtain ⟨a1,a2,a3,a4⟩:=hx
   simp only [mg,bD,Dd.add.injEq,true_and,and_true]
   have:Cg n ((c+c') % n + -c' % n) c:=(Cg.add Cg.mod Cg.mod).trans (Cg.of_eq (by omega))
   rw [this.emod]
   exact Int.emod_eq_of_lt a2 a3
  | scale s' u'=>simp [kd] at h
 | scale s u =>
  cases d with
  | add s' c' g' t'=>simp [kd] at h
  | scale s' u' =>
   obtain ⟨a1,a2,a3,_⟩:=hx
   simp only [mg,bD,Dd.scale.injEq,true_and]
   have e2:Cg n (u'*iv n u') 1:=Cg.of (gI hd.2.2.2).2.2
   have:Cg n (u*u' % n*iv n u') u:=(Cg.mul Cg.mod Cg.rfl).trans ((Cg.of_eq (by grind)).trans ((Cg.mul (Cg.rfl (a:=u)) e2).trans (Cg.of_eq (by omega))))
   rw [this.emod]
   exact Int.emod_eq_of_lt a2 a3
theorem sE {n:Int} {G S:Nat} (hn:2<=n) {x d:Dd} (hx:OkD n G S x) (hd:OkD n G S d) (h:kd x=kd d) (hi:idle (mg n x d)=true):x=bD n d:=by
 have hb:=xQ hn hx hd h
 cases x with
 | add s c g t =>
  cases d with
  | add s' c' g' t' =>
   simp only [kd,Prod.mk.injEq,true_and] at h
   obtain ⟨rfl,rfl,rfl⟩:=h
   simp only [mg,idle,decide_eq_true_eq] at hi
   simp only [mg,bD,Dd.add.injEq,true_and,and_true] at hb ⊢
   rw [hi,Int.zero_add,Int.emod_emod_of_dvd _ (Int.dvd_refl n)] at hb
   exact hb.symm
  | scale s' u'=>simp [kd] at h
 | scale s u =>
  cases d with
  | add s' c' g' t'=>simp [kd] at h
  | scale s' u' =>
   simp only [kd,Prod.mk.injEq,and_true] at h
   subst h
   simp only [mg,idle,decide_eq_true_eq] at hi
   simp only [mg,bD,Dd.scale.injEq,true_and] at hb ⊢
   rw [hi,Int.one_mul] at hb
   have:=gI hd.2.2.2
   rw [Int.emod_eq_of_lt this.1 this.2.1] at hb
   exact hb.symm
theorem kG {n:Int} {G S:Nat} (hn:2<=n) {d:Dd} (h:OkD n G S d):idle (bD n d)=idle d:=by
 cases d with
 | add s c g t =>
  obtain ⟨a1,a2,a3,_⟩:=h
  simp only [bD,idle]
  congr 1
  apply propext
  constructor
  ·intro e
   have:Cg n c 0:=by
    have h1:Cg n (-c) 0:=Cg.of (by simpa using e)
    exact (Cg.of_eq (by omega:c = - -c)).trans ((Cg.neg h1).trans (Cg.of_eq (by omega)))
   have:=this.emod
   rw [Int.emod_eq_of_lt a2 a3] at this
   simpa using this
  ·rintro rfl
   simp
 | scale s u =>
  obtain ⟨a1,a2,a3,a4⟩:=h
  simp only [bD,idle]
  congr 1
  apply propext
  have hv:=gI a4
  constructor
  ·intro e
   rw [e] at hv
   have:=hv.2.2
   rw [Int.mul_one,Int.emod_eq_of_lt a2 a3,Int.emod_eq_of_lt (by omega) (by omega)] at this
   exact this
  ·rintro rfl
   have:=hv.2.2
   rw [Int.one_mul,Int.emod_eq_of_lt hv.1 hv.2.1,Int.emod_eq_of_lt (by omega) (by omega)] at this
   exact this
theorem lB {n:Int} {G S:Nat} (hn:2<=n) {d:Dd} {r:List Dd} (hd:OkD n G S d) (hr:∀ x∈r,OkD n G S x) (hN:Nor n r):ins n (bD n d) (ins n d r)=r:=by
 unfold ins
 rw [kG hn hd]
 by_cases hi:idle d=true
 ·rw [if_pos hi,if_pos hi]
 ·rw [if_neg hi,if_neg hi]
  cases ht:tk n d r with
  | some r1 =>
   simp only
   rcases xO (e:=bD n d) (pO d) hN (fun x hx hk=>⟨jC hk,xQ hn (hr x hx) hd hk,fun z=>sE hn (hr x hx) hd hk z⟩) ht with q | ⟨q1,q2 | ⟨q2,q3⟩⟩
   ·rw [q]
   ·rw [q1,q2]
   ·rw [q1,q2,<- q3]
  | none =>
   cases hp:pcs d r with
   | some r1 =>
    simp only
    rw [aAc (e:=bD n d) (pO d) (mC hn hd) ht hp]
   | none =>
    simp only [tk]
    rw [if_pos (pO d).symm,if_pos (mC hn hd)]
theorem lL {n:Int} {G S:Nat} (hn:2<=n) {d:Dd} (hd:OkD n G S d) {r:List Dd} (hr:∀ x∈r,OkD n G S x):∀ x∈ins n d r,OkD n G S x:=by
 have ht:∀ {r r1:List Dd},(∀ x∈r,OkD n G S x)->tk n d r=some r1->∀ x∈r1,OkD n G S x:=by
  intro r
  induction r with
  | nil=>intro r1 _ g; cases g
  | cons y r ih =>
   intro r1 h g
   simp only [tk] at g
   split at g
   ·rename_i hk
    cases g
    intro x hx
    split at hx
    ·exact h x (List.mem_cons_of_mem _ hx)
    ·rcases List.mem_cons.mp hx with rfl | hx
     ·exact uP hn (h y (List.mem_cons_self ..)) hd hk
     ·exact h x (List.mem_cons_of_mem _ hx)
   ·split at g
    ·rw [Option.map_eq_some_iff] at g
     obtain ⟨s,hs,rfl⟩:=g
     intro x hx
     rcases List.mem_cons.mp hx with rfl | hx
     ·exact h x (List.mem_cons_self ..)
     ·exact ih (fun z hz=>h z (List.mem_cons_of_mem _ hz)) hs x hx
    ·cases g
 have hp:∀ {r r1:List Dd},(∀ x∈r,OkD n G S x)->pcs d r=some r1->∀ x∈r1,OkD n G S x:=by
  intro r
  induction r with
  | nil=>intro r1 _ g; cases g
  | cons y r ih =>
   intro r1 h g
   simp only [pcs] at g
   split at g
   ·cases hq:pcs d r with
    | some s =>
     rw [hq] at g
     cases g
     intro x hx
     rcases List.mem_cons.mp hx with rfl | hx
     ·exact h x (List.mem_cons_self ..)
     ·exact ih (fun z hz=>h z (List.mem_cons_of_mem _ hz)) hq x hx
    | none =>
     rw [hq] at g
     simp only at g
     split at g
     ·cases g
      intro x hx
      rcases List.mem_cons.mp hx with rfl | hx
      ·exact h x (List.mem_cons_self ..)
      ·rcases List.mem_cons.mp hx with rfl | hx
       ·exact hd
       ·exact h x (List.mem_cons_of_mem _ hx)
     ·cases g
   ·cases g
 unfold ins
 by_cases hi:idle d=true
 ·rw [if_pos hi]; exact hr
 ·rw [if_neg hi]
  cases h1:tk n d r with
  | some r1=>exact ht hr h1
  | none =>
   cases h2:pcs d r with
   | some r1=>exact hp hr h2
   | none =>
    intro x hx
    rcases List.mem_cons.mp hx with rfl | hx
    ·exact hd
    ·exact hr x hx
noncomputable def nf (n:Int) (ds:List Dd) (r:List Dd):List Dd:=ds.foldl (fun r d=>ins n d r) r
theorem vD {n:Int}:∀ {ds r:List Dd},Nor n r->Nor n (nf n ds r)
 | [],_,h=>h
 | d::ds,r,h=>vD (ds:=ds) (h.ins (d:=d))
theorem xN {n:Int} {G S:Nat} (hn:2<=n):∀ {ds r:List Dd},(∀ d∈ds,OkD n G S d)->(∀ d∈r,OkD n G S d)->∀ x∈nf n ds r,OkD n G S x
 | [],_,_,h=>h
 | d::ds,r,hd,h=>xN hn (ds:=ds) (fun x hx=>hd x (List.mem_cons_of_mem _ hx)) (lL hn (hd d (List.mem_cons_self ..)) h)
theorem eE {n:Int} {ds es r:List Dd}:nf n (ds++es) r=nf n es (nf n ds r):=by simp [nf]
theorem xG {n:Int} {gs cs:List Int} {d:Dd} (hc:Rs n cs) (h:idle d=true):dn n gs cs d=cs:=by
 cases d with
 | add s c g t =>
  simp only [idle,decide_eq_true_eq] at h
  subst h
  simp only [dn]
  by_cases hs:s < cs.length
  ·obtain ⟨l,u⟩:=hc.getD hs
   rw [Int.zero_mul,Int.zero_mul,Int.add_zero,Int.emod_eq_of_lt l u]
   simp [List.getD,hs]
  ·rw [List.set_eq_of_length_le (by omega)]
 | scale s u =>
  simp only [idle,decide_eq_true_eq] at h
  subst h
  simp only [dn]
  by_cases hs:s < cs.length
  ·obtain ⟨l,u⟩:=hc.getD hs
   rw [Int.mul_one,Int.emod_eq_of_lt l u]
   simp [List.getD,hs]
  ·rw [List.set_eq_of_length_le (by omega)]
theorem aLb {n:Int} {G:Nat} {gs cs:List Int} {x d:Dd} (hx:OkD n G cs.length x) (h:kd x=kd d):dn n gs (dn n gs cs x) d=dn n gs cs (mg n x d):=by
 cases x with
 | add s c g t =>
  cases d with
  | add s' c' g' t' =>
   simp only [kd,Prod.mk.injEq,true_and] at h
   obtain ⟨rfl,rfl,rfl⟩:=h
   obtain ⟨a1,_,_,_,_,a6,_⟩:=hx
   simp only [dn,mg]
   rw [jM a6,List.set_set]
   congr 1
   have e:(cs.set s ((cs.getD s 0+c*pr gs g*pr cs t) % n)).getD s 0=(cs.getD s 0+c*pr gs g*pr cs t) % n:=by simp [List.getD,a1]
   rw [e]
   refine Cg.emod ?_
   refine (Cg.add Cg.mod Cg.rfl).trans ?_
   refine Cg.trans ?_ (Cg.add (Cg.rfl (a:=cs.getD s 0)) (Cg.mul (Cg.mul (Cg.symm Cg.mod) Cg.rfl) Cg.rfl))
   exact Cg.of_eq (by grind)
  | scale s' u'=>simp [kd] at h
 | scale s u =>
  cases d with
  | add s' c' g' t'=>simp [kd] at h
  | scale s' u' =>
   simp only [kd,Prod.mk.injEq,and_true] at h
   subst h
   simp only [dn,mg]
   rw [List.set_set]
   congr 1
   have e:(cs.set s (cs.getD s 0*u % n)).getD s 0=cs.getD s 0*u % n:=by simp [List.getD,hx.1]
   rw [e]
   refine Cg.emod ?_
   refine (Cg.mul Cg.mod Cg.rfl).trans ?_
   exact (Cg.of_eq (by grind)).trans (Cg.mul Cg.rfl (Cg.symm Cg.mod))
theorem aCx {n:Int} {G:Nat} {gs cs:List Int} (hn:2<=n) (hc:Rs n cs) {d:Dd} (hd:OkD n G cs.length d):∀ {r r1:List Dd},(∀ x∈r,OkD n G cs.length x)->tk n d r=some r1->rn n gs r1.reverse cs=dn n gs (rn n gs r.reverse cs) d
 | [],_,_,g=>by cases g
 | x::r,r1,h,g=>by
  have hx:=h x (List.mem_cons_self ..)
  have hl:(rn n gs r.reverse cs).length=cs.length:=iR
  have hR:Rs n (rn n gs r.reverse cs):=Rs.rn (by omega) hc
  rw [List.reverse_cons,dB]
  show rn n gs r1.reverse cs=dn n gs (dn n gs (rn n gs r.reverse cs) x) d
  simp only [tk] at g
  split at g
  ·rename_i hk
   rw [aLb (G:=G) (by rw [hl]; exact hx) hk]
   cases g
   by_cases hi:idle (mg n x d)=true
   ·rw [if_pos hi,xG hR hi]
   ·rw [if_neg hi,List.reverse_cons,dB]
    rfl
  ·split at g
   ·rename_i hg
    rw [Option.map_eq_some_iff] at g
    obtain ⟨s,hs,rfl⟩:=g
    rw [List.reverse_cons,dB,aCx hn hc hd (fun y hy=>h y (List.mem_cons_of_mem _ hy)) hs]
    show dn n gs (dn n gs (rn n gs r.reverse cs) d) x=_
    exact aGh (G:=G) (by rw [hl]; exact hd) (by rw [hl]; exact hx) (by rw [bI]; exact hg)
   ·cases g
theorem xJ {n:Int} {G:Nat} {gs cs:List Int} {d:Dd} (hd:OkD n G cs.length d):∀ {r r1:List Dd},(∀ x∈r,OkD n G cs.length x)->pcs d r=some r1->rn n gs r1.reverse cs=dn n gs (rn n gs r.reverse cs) d
 | [],_,_,g=>by cases g
 | x::r,r1,h,g=>by
  have hx:=h x (List.mem_cons_self ..)
  have hl:(rn n gs r.reverse cs).length=cs.length:=iR
  rw [List.reverse_cons,dB]
  show rn n gs r1.reverse cs=dn n gs (dn n gs (rn n gs r.reverse cs) x) d
  simp only [pcs] at g
  split at g
  ·rename_i hg
   have hsw:dn n gs (dn n gs (rn n gs r.reverse cs) d) x=dn n gs (dn n gs (rn n gs r.reverse cs) x) d:=aGh (G:=G) (by rw [hl]; exact hd) (by rw [hl]; exact hx) (by rw [bI]; exact hg)
   cases hp:pcs d r with
   | some s =>
    rw [hp] at g
    cases g
    rw [List.reverse_cons,dB,xJ hd (fun y hy=>h y (List.mem_cons_of_mem _ hy)) hp]
    exact hsw
   | none =>
    rw [hp] at g
    simp only at g
    split at g
    ·cases g
     rw [List.reverse_cons,List.reverse_cons,dB,dB]
     exact hsw
    ·cases g
  ·cases g
theorem aDo {n:Int} {G:Nat} {gs cs:List Int} (hn:2<=n) (hc:Rs n cs) {d:Dd} (hd:OkD n G cs.length d) {r:List Dd} (hr:∀ x∈r,OkD n G cs.length x):rn n gs (ins n d r).reverse cs=dn n gs (rn n gs r.reverse cs) d:=by
 unfold ins
 by_cases hi:idle d=true
 ·rw [if_pos hi,xG (Rs.rn (by omega) hc) hi]
 ·rw [if_neg hi]
  cases h1:tk n d r with
  | some r1=>exact aCx hn hc hd hr h1
  | none =>
   cases h2:pcs d r with
   | some r1=>exact xJ hd hr h2
   | none =>
    simp only
    rw [List.reverse_cons,dB]
    rfl
theorem aCy {n:Int} {G:Nat} {gs cs:List Int} (hn:2<=n) (hc:Rs n cs):∀ {ds r:List Dd},(∀ d∈ds,OkD n G cs.length d)->(∀ d∈r,OkD n G cs.length d)->rn n gs (nf n ds r).reverse cs=rn n gs ds (rn n gs r.reverse cs)
 | [],_,_,_=>rfl
 | d::ds,r,hd,h=>by
  have hd0:=hd d (List.mem_cons_self ..)
  show rn n gs (nf n ds (ins n d r)).reverse cs=rn n gs ds (dn n gs (rn n gs r.reverse cs) d)
  rw [aCy hn hc (fun x hx=>hd x (List.mem_cons_of_mem _ hx)) (lL hn hd0 h),aDo hn hc hd0 h]
theorem aEc {n:Int} {d:Dd} (r:List Dd):(ins n d r).length<=r.length+1:=by
 have ht:∀ {r r1:List Dd},tk n d r=some r1->r1.length<=r.length:=by
  intro r
  induction r with
  | nil=>intro r1 g; cases g
  | cons y r ih =>
   intro r1 g
   simp only [tk] at g
   split at g
   ·cases g
    split <;> simp
   ·split at g
    ·rw [Option.map_eq_some_iff] at g
     obtain ⟨s,hs,rfl⟩:=g
     simpa using ih hs
    ·cases g
 have hp:∀ {r r1:List Dd},pcs d r=some r1->r1.length=r.length+1:=by
  intro r
  induction r with
  | nil=>intro r1 g; cases g
  | cons y r ih =>
   intro r1 g
   simp only [pcs] at g
   split at g
   ·cases hq:pcs d r with
    | some s =>
     rw [hq] at g
     cases g
     simpa using ih hq
    | none =>
     rw [hq] at g
     simp only at g
     split at g
     ·cases g; simp
     ·cases g
   ·cases g
 unfold ins
 by_cases hi:idle d=true
 ·rw [if_pos hi]; omega
 ·rw [if_neg hi]
  cases h1:tk n d r with
  | some r1=>have:=ht h1; simp only; omega
  | none =>
   cases h2:pcs d r with
   | some r1=>have:=hp h2; simp only; omega
   | none=>simp
theorem rM {n:Int}:∀ (ds r:List Dd),(nf n ds r).length<=r.length+ds.length
 | [],r=>by simp [nf]
 | d::ds,r=>by
  have:=rM (n:=n) ds (ins n d r)
  have:=aEc (n:=n) (d:=d) r
  show (nf n ds (ins n d r)).length<=_
  simp only [List.length_cons]
  omega
end LS
namespace LS
open PySem
noncomputable def io (n:Int) (d:Dd):List Dd->Option (List Dd)
 | []=>none
 | z::r=>if kd z=kd d then some (if idle (mg n z d) then r else mg n z d::r) else if gp z d then (match io n d r with
  | some r'=>some (z::r')
  | none=>if rl (kd d) (kd z) then some (z::d::r) else none) else none
theorem aGb {n:Int} {d:Dd}:∀ r:List Dd,io n d r=match tk n d r with
  | some r'=>some r'
  | none=>pcs d r
 | []=>rfl
 | z::r=>by
  simp only [io,tk,pcs]
  by_cases hk:kd z=kd d
  ·rw [if_pos hk,if_pos hk]
  ·rw [if_neg hk,if_neg hk]
   by_cases hg:gp z d=true
   ·rw [if_pos hg,if_pos hg,if_pos hg,aGb r]
    cases tk n d r with
    | some s=>rfl
    | none=>rfl
   ·rw [if_neg hg,if_neg hg,if_neg hg]
noncomputable def it (n:Int) (d:Dd) (r:List Dd):List Dd:=(io n d r).getD (d::r)
theorem bQ {n:Int} {d:Dd} {r:List Dd} (h:idle d=false):ins n d r=it n d r:=by
 unfold ins it
 rw [if_neg (by rw [h]; exact Bool.false_ne_true),aGb]
 cases tk n d r with
 | some s=>rfl
 | none=>cases pcs d r <;> rfl
theorem bT {n:Int} {d:Dd} {r:List Dd} (h:idle d=true):ins n d r=r:=by
 unfold ins
 rw [if_pos h]
theorem bR {n:Int} {d z:Dd} {r:List Dd} (hk:kd z≠kd d) (hg:gp z d=true):(io n d (z::r)).isSome=((io n d r).isSome || rl (kd d) (kd z)):=by
 simp only [io]
 rw [if_neg hk,if_pos hg]
 cases io n d r with
 | some s=>rfl
 | none=>cases h:rl (kd d) (kd z) <;> simp [h]
theorem eW {n:Int} {d z:Dd} {r:List Dd} (hk:kd z≠kd d) (hg:gp z d=true) (h:((io n d r).isSome || rl (kd d) (kd z))=true):it n d (z::r)=z::it n d r:=by
 simp only [it,io]
 rw [if_neg hk,if_pos hg]
 cases hi:io n d r with
 | some s=>rfl
 | none =>
  rw [hi] at h
  simp only [Option.isSome_none,Bool.false_or] at h
  simp [h]
theorem kJ {n:Int} {d z:Dd} {r:List Dd} (hk:kd z≠kd d) (hg:gp z d=true) (h:((io n d r).isSome || rl (kd d) (kd z))=false):it n d (z::r)=d::z::r:=by
 simp only [it,io]
 rw [if_neg hk,if_pos hg]
 cases hi:io n d r with
 | some s=>rw [hi] at h; simp at h
 | none =>
  rw [hi] at h
  simp only [Option.isSome_none,Bool.false_or] at h
  simp [h]
theorem qO {n:Int} {d z:Dd} {r:List Dd} (hk:kd z≠kd d) (hg:gp z d=false):it n d (z::r)=d::z::r:=by
 simp only [it,io]
 rw [if_neg hk,if_neg (by rw [hg]; exact Bool.false_ne_true)]
 rfl
theorem sJ {n:Int} {d z:Dd} {r:List Dd} (hk:kd z≠kd d) (hg:gp z d=false):io n d (z::r)=none:=by
 simp only [io]
 rw [if_neg hk,if_neg (by rw [hg]; exact Bool.false_ne_true)]
theorem rC {n:Int} {d z:Dd} {r:List Dd} (hk:kd z=kd d):it n d (z::r)=if idle (mg n z d) then r else mg n z d::r:=by
 simp only [it,io]
 rw [if_pos hk]
 rfl
theorem oQ {n:Int} {d z:Dd} {r:List Dd} (hk:kd z=kd d):(io n d (z::r)).isSome=true:=by
 simp only [io]
 rw [if_pos hk]
 rfl
noncomputable def nc (n:Int) (d:Dd):List Dd->Prop
 | []=>True
 | z::r=>if kd z=kd d then idle (mg n z d)=false else (gp z d=true->nc n d r)
theorem iB {a b c:Dd} (h:kd a=kd b):gp c a=gp c b:=by rw [bI,gQ h,bI]
theorem aAz {n:Int} {x:Dd} (r:List Dd):(io n x r=none/\it n x r=x::r)\/∃ s,io n x r=some s/\it n x r=s:=by
 cases h:io n x r with
 | none=>exact .inl ⟨rfl,by simp [it,h]⟩
 | some s=>exact .inr ⟨s,rfl,by simp [it,h]⟩
theorem aCh {n:Int} {x y:Dd} (hg:gp x y=true) (hk:kd x≠kd y):∀ {r s:List Dd},nc n x r->io n x r=some s->(io n y s).isSome=(io n y r).isSome
 | [],_,_,h=>by cases h
 | z::r,s,c,h=>by
  simp only [nc] at c
  simp only [io] at h
  by_cases hx:kd z=kd x
  ·rw [if_pos hx] at h c
   rw [c] at h
   cases h
   have hm:kd (mg n z x)=kd x:=jC hx
   have hzy:kd z≠kd y:=by rw [hx]; exact hk
   have hmy:kd (mg n z x)≠kd y:=by rw [hm]; exact hk
   show (io n y (mg n z x::r)).isSome=_
   rw [bR hmy (by rw [gQ hm]; exact hg),bR hzy (by rw [gQ hx]; exact hg),hm,hx]
  ·rw [if_neg hx] at h c
   by_cases hz:gp z x=true
   ·rw [if_pos hz] at h
    replace c:=c hz
    cases hi:io n x r with
    | some t =>
     rw [hi] at h
     cases h
     have ih:=aCh hg hk c hi
     by_cases hy:kd z=kd y
     ·rw [oQ hy,oQ hy]
     ·by_cases hgy:gp z y=true
      ·rw [bR hy hgy,bR hy hgy,ih]
      ·have hgy:gp z y=false:=by simpa using hgy
       rw [sJ hy hgy,sJ hy hgy]
    | none =>
     rw [hi] at h
     simp only at h
     split at h
     ·rename_i hr
      cases h
      by_cases hy:kd z=kd y
      ·rw [oQ hy,oQ hy]
      ·by_cases hgy:gp z y=true
       ·rw [bR hy hgy,bR hy hgy,bR hk hg]
        cases hyx:rl (kd y) (kd x) with
        | false=>simp
        | true=>rw [jV hyx hr]; simp
       ·have hgy:gp z y=false:=by simpa using hgy
        rw [sJ hy hgy,sJ hy hgy]
     ·cases h
   ·rw [if_neg hz] at h
    cases h
theorem aGe {a b:Nat×Bool×List Nat×List Nat} (h:a≠b):rl a b=!rl b a:=by
 cases h1:rl a b with
 | true=>rw [uR h1]; rfl
 | false =>
  cases h2:rl b a with
  | true=>rfl
  | false=>exact (h (uM h1 h2)).elim
theorem nW {n:Int} {x y:Dd} {r:List Dd} (hg:gp x y=true) (hk:kd x≠kd y) (hx:io n x r=none) (hy:io n y r=none):it n y (x::r)=it n x (y::r):=by
 have hg':gp y x=true:=by rw [bI]; exact hg
 have tx:it n x r=x::r:=by simp [it,hx]
 have ty:it n y r=y::r:=by simp [it,hy]
 cases h:rl (kd y) (kd x) with
 | true =>
  rw [eW hk hg (by simp [h]),kJ hk.symm hg' (by rw [hx,aGe hk,h]; rfl),ty]
 | false =>
  rw [kJ hk hg (by rw [hy,h]; rfl),eW hk.symm hg' (by rw [aGe hk,h]; simp),tx]
theorem rJ {n:Int} {x y:Dd} (hg:gp x y=true) (hk:kd x≠kd y):∀ {r:List Dd},nc n x r->nc n y r->it n y (it n x r)=it n x (it n y r)
 | [],_,_=>nW hg hk rfl rfl
 | z::r,cx,cy=>by
  have hg':gp y x=true:=by rw [bI]; exact hg
  simp only [nc] at cx cy
  -- the same two deeds,whichever is of z's kind
  have one:∀ {x y:Dd},gp x y=true->kd x≠kd y->kd z=kd x->idle (mg n z x)=false->it n y (it n x (z::r))=it n x (it n y (z::r)):=by
   intro x y hg hk hx c
   have hm:kd (mg n z x)=kd x:=jC hx
   have hzy:kd z≠kd y:=by rw [hx]; exact hk
   have hmy:kd (mg n z x)≠kd y:=by rw [hm]; exact hk
   have g1:gp z y=true:=by rw [gQ hx]; exact hg
   have g2:gp (mg n z x) y=true:=by rw [gQ hm]; exact hg
   have hg':gp y x=true:=by rw [bI]; exact hg
   have e1:∀ s,it n x (z::s)=mg n z x::s:=fun s=>by rw [rC hx,c]; rfl
   rw [e1]
   cases h:((io n y r).isSome || rl (kd y) (kd z)) with
   | true=>rw [eW hmy g2 (by rw [hm,<- hx]; exact h),eW hzy g1 h,e1]
   | false=>rw [kJ hmy g2 (by rw [hm,<- hx]; exact h),kJ hzy g1 h,eW hk.symm hg' (by rw [oQ hx]; rfl),e1]
  by_cases hx:kd z=kd x
  ·rw [if_pos hx] at cx
   exact one hg hk hx cx
  by_cases hy:kd z=kd y
  ·rw [if_pos hy] at cy
   exact (one hg' hk.symm hy cy).symm
  rw [if_neg hx] at cx
  rw [if_neg hy] at cy
  by_cases gx:gp z x=true
  ·by_cases gy:gp z y=true
   ·replace cx:=cx gx
    replace cy:=cy gy
    have ih:=rJ hg hk cx cy
    -- one is settled ahead of z,the other one stays behind it
    have two:∀ {x y:Dd},gp x y=true->kd x≠kd y->kd z≠kd x->kd z≠kd y->gp z x=true->gp z y=true->nc n x r->((io n x r).isSome || rl (kd x) (kd z))=true->((io n y r).isSome || rl (kd y) (kd z))=false->it n y (it n x (z::r))=it n x (it n y (z::r)):=by
     intro x y hg hk hx hy gx gy cx hX hY
     have hg':gp y x=true:=by rw [bI]; exact hg
     rw [eW hx gx hX,kJ hy gy hY,eW hk.symm hg' (by rw [bR hx gx,hX]; rfl),eW hx gx hX]
     refine kJ hy gy ?_
     rw [Bool.or_eq_false_iff] at hY ⊢
     refine ⟨?_,hY.2⟩
     rcases aAz (n:=n) (x:=x) r with ⟨e1,e2⟩ | ⟨s,e1,e2⟩
     ·rw [e2,bR hk hg,hY.1,Bool.false_or]
      rw [e1] at hX
      simp only [Option.isSome_none,Bool.false_or] at hX
      cases h:rl (kd y) (kd x) with
      | false=>rfl
      | true=>rw [jV h hX] at hY; exact hY.2
     ·rw [e2,aCh hg hk cx e1]; exact hY.1
    have keep:∀ {x y:Dd},gp x y=true->kd x≠kd y->nc n x r->((io n y r).isSome || rl (kd y) (kd z))=true->((io n y (it n x r)).isSome || rl (kd y) (kd z))=true:=by
     intro x y hg hk cx hY
     rw [Bool.or_eq_true] at hY ⊢
     rcases hY with h | h
     ·refine .inl ?_
      rcases aAz (n:=n) (x:=x) r with ⟨e1,e2⟩ | ⟨s,e1,e2⟩
      ·rw [e2,bR hk hg,h]; rfl
      ·rw [e2,aCh hg hk cx e1]; exact h
     ·exact .inr h
    cases hX:((io n x r).isSome || rl (kd x) (kd z)) with
    | true =>
     cases hY:((io n y r).isSome || rl (kd y) (kd z)) with
     | true=>rw [eW hx gx hX,eW hy gy hY,eW hy gy (keep hg hk cx hY),eW hx gx (keep hg' hk.symm cy hX),ih]
     | false=>exact two hg hk hx hy gx gy cx hX hY
    | false =>
     cases hY:((io n y r).isSome || rl (kd y) (kd z)) with
     | true=>exact (two hg' hk.symm hy hx gy gx cy hY hX).symm
     | false =>
      rw [kJ hx gx hX,kJ hy gy hY]
      refine nW hg hk ?_ ?_
      ·rw [<- Option.not_isSome_iff_eq_none,bR hx gx,hX]; exact Bool.false_ne_true
      ·rw [<- Option.not_isSome_iff_eq_none,bR hy gy,hY]; exact Bool.false_ne_true
   ·have gy:gp z y=false:=by simpa using gy
    have:=@sJ n y z r hy gy
    rw [qO hy gy]
    cases hX:((io n x r).isSome || rl (kd x) (kd z)) with
    | true=>rw [eW hx gx hX,qO hy gy,eW hk.symm hg' (by rw [bR hx gx,hX]; rfl),eW hx gx hX]
    | false =>
     rw [kJ hx gx hX]
     exact nW hg hk (by rw [<- Option.not_isSome_iff_eq_none,bR hx gx,hX]; exact Bool.false_ne_true) this
  ·have gx:gp z x=false:=by simpa using gx
   have nx:=@sJ n x z r hx gx
   rw [qO hx gx]
   by_cases gy:gp z y=true
   ·cases hY:((io n y r).isSome || rl (kd y) (kd z)) with
    | true=>rw [eW hy gy hY,qO hx gx,eW hk hg (by rw [bR hy gy,hY]; rfl),eW hy gy hY]
    | false =>
     rw [kJ hy gy hY]
     exact nW hg hk nx (by rw [<- Option.not_isSome_iff_eq_none,bR hy gy,hY]; exact Bool.false_ne_true)
   ·have gy:gp z y=false:=by simpa using gy
    rw [qO hy gy]
    exact nW hg hk nx (sJ hy gy)
theorem aFz {n:Int} {x y:Dd} (hg:gp x y=true) (hk:kd x≠kd y):∀ r:List Dd,nc n x (it n y r) ↔ nc n x r
 | []=>by
  show nc n x [y] ↔ _
  simp [nc,hk.symm]
 | z::r=>by
  have hg':gp y x=true:=by rw [bI]; exact hg
  have up:∀ {w:Dd} {s:List Dd},kd w=kd y->(nc n x (w::s) ↔ nc n x s):=by
   intro w s hw
   have:kd w≠kd x:=by rw [hw]; exact hk.symm
   simp only [nc]
   rw [if_neg this,gQ hw]
   exact ⟨fun h=>h hg',fun h _=>h⟩
  by_cases hy:kd z=kd y
  ·rw [rC hy,up hy]
   by_cases hi:idle (mg n z y)=true
   ·rw [if_pos hi]
   ·rw [if_neg hi,up (jC hy)]
  ·by_cases gy:gp z y=true
   ·cases hY:((io n y r).isSome || rl (kd y) (kd z)) with
    | true =>
     rw [eW hy gy hY]
     simp only [nc,aFz hg hk r]
    | false=>rw [kJ hy gy hY,up rfl]
   ·rw [qO hy (by simpa using gy),up rfl]
theorem vJ {n:Int} {d:Dd}:∀ {r:List Dd},¬ nc n d r->(it n d r).length+1=r.length
 | [],h=>(h trivial).elim
 | z::r,h=>by
  simp only [nc] at h
  by_cases hk:kd z=kd d
  ·rw [if_pos hk] at h
   rw [rC hk,if_pos (by simpa using h)]
   rfl
  ·rw [if_neg hk] at h
   have hg:gp z d=true:=by
    cases hg:gp z d with
    | true=>rfl
    | false=>exact (h (fun e=>by rw [hg] at e; cases e)).elim
   have h':¬ nc n d r:=fun e=>h (fun _=>e)
   have ih:=vJ h'
   rcases aAz (n:=n) (x:=d) r with ⟨e1,e2⟩ | ⟨s,e1,e2⟩
   ·rw [e2] at ih; simp at ih; omega
   ·rw [eW hk hg (by rw [e1]; rfl)]
    simpa using ih
theorem rS {n:Int} {G S:Nat} (hn:2<=n) {d:Dd} {r:List Dd} (hd:OkD n G S d) (hr:∀ x∈r,OkD n G S x) (hN:Nor n r) (hi:idle d=false) (h:¬ nc n d r):nc n (bD n d) (it n d r):=by
 have e:=lB hn hd hr hN
 rw [bQ (by rw [kG hn hd]; exact hi),bQ hi] at e
 have l:=vJ h
 refine Classical.byContradiction fun c=>?_
 have l2:=vJ c
 rw [e] at l2
 omega
theorem aBp {n:Int} {G S:Nat} (hn:2<=n) {x y:Dd} (hx:OkD n G S x) (hy:OkD n G S y) (hg:gp x y=true) (hk:kd x≠kd y) {r:List Dd} (hr:∀ x∈r,OkD n G S x) (hN:Nor n r):ins n y (ins n x r)=ins n x (ins n y r):=by
 cases ix:idle x with
 | true=>rw [bT ix,bT ix]
 | false =>
 cases iy:idle y with
 | true=>rw [bT iy,bT iy]
 | false =>
 -- the one that makes idle is turned about
 have turn:∀ {x y:Dd},OkD n G S x->OkD n G S y->gp x y=true->kd x≠kd y->idle x=false->idle y=false->∀ {r:List Dd},(∀ x∈r,OkD n G S x)->Nor n r->¬ nc n y r->(ins n (bD n y) (ins n x (ins n y r))=ins n x (ins n (bD n y) (ins n y r)))->ins n y (ins n x r)=ins n x (ins n y r):=by
  intro x y hx hy hg hk ix iy r hr hN c e
  rw [lB hn hy hr hN] at e
  have hN2:Nor n (ins n x (ins n y r)):=hN.ins.ins
  have h2:=lB hn (hy.back (by omega)) (lL hn hx (lL hn hy hr)) hN2
  rw [aMa (by omega) hy,e] at h2
  exact h2
 have caseA:∀ {x y:Dd},OkD n G S x->OkD n G S y->gp x y=true->kd x≠kd y->idle x=false->idle y=false->∀ {r:List Dd},(∀ x∈r,OkD n G S x)->Nor n r->nc n y r->ins n y (ins n x r)=ins n x (ins n y r):=by
  intro x y hx hy hg hk ix iy r hr hN cy
  by_cases cx:nc n x r
  ·rw [bQ ix,bQ iy,bQ iy,bQ ix]
   exact rJ hg hk cx cy
  ·refine (turn hy hx (by rw [bI]; exact hg) hk.symm iy ix hr hN cx ?_).symm
   have kx:kd (bD n x)=kd x:=pO x
   have ibx:idle (bD n x)=false:=by rw [kG hn hx]; exact ix
   rw [bQ ix,bQ ibx,bQ iy,bQ iy,bQ ibx]
   refine rJ (by rw [iB kx,bI]; exact hg) (by rw [kx]; exact hk.symm) ?_ (rS hn hx hr hN ix cx)
   exact (aFz (by rw [bI]; exact hg) hk.symm r).mpr cy
 by_cases cy:nc n y r
 ·exact caseA hx hy hg hk ix iy hr hN cy
 ·refine turn hx hy hg hk ix iy hr hN cy ?_
  have ky:kd (bD n y)=kd y:=pO y
  refine caseA hx (hy.back (by omega)) (by rw [iB ky]; exact hg) (by rw [ky]; exact hk) ix (by rw [kG hn hy]; exact iy) (lL hn hy hr) hN.ins ?_
  rw [bQ iy]
  exact rS hn hy hr hN iy cy
theorem kP {n:Int} {x y:Dd} (h:kd x=kd y):mg n x y=mg n y x:=by
 cases x with
 | add s c g t =>
  cases y with
  | add s' c' g' t' =>
   simp only [kd,Prod.mk.injEq,true_and] at h
   obtain ⟨rfl,rfl,rfl⟩:=h
   simp only [mg,Int.add_comm]
  | scale s' u'=>simp [kd] at h
 | scale s u =>
  cases y with
  | add s' c' g' t'=>simp [kd] at h
  | scale s' u' =>
   simp only [kd,Prod.mk.injEq,and_true] at h
   subst h
   simp only [mg,Int.mul_comm]
theorem sM {n:Int} {z x y:Dd} (h1:kd z=kd x) (h2:kd x=kd y):mg n (mg n z x) y=mg n z (mg n x y):=by
 cases x with
 | add s c g t =>
  cases y with
  | scale s' u'=>simp [kd] at h2
  | add s' c' g' t' =>
   cases z with
   | scale s' u'=>simp [kd] at h1
   | add s2 c2 g2 t2 =>
    simp only [mg,Dd.add.injEq,true_and,and_true]
    exact Cg.emod ((Cg.add Cg.mod Cg.rfl).trans ((Cg.of_eq (by omega)).trans (Cg.add Cg.rfl Cg.mod.symm)))
 | scale s u =>
  cases y with
  | add s' c' g' t'=>simp [kd] at h2
  | scale s' u' =>
   cases z with
   | add s2 c2 g2 t2=>simp [kd] at h1
   | scale s2 u2 =>
    simp only [mg,Dd.scale.injEq,true_and]
    exact Cg.emod ((Cg.mul Cg.mod Cg.rfl).trans ((Cg.of_eq (by grind)).trans (Cg.mul Cg.rfl Cg.mod.symm)))
theorem kA {n:Int} {G S:Nat} {x y:Dd} (hy:OkD n G S y) (h:kd x=kd y) (hi:idle x=true):mg n x y=y:=by
 cases x with
 | add s c g t =>
  cases y with
  | add s' c' g' t' =>
   simp only [kd,Prod.mk.injEq,true_and] at h
   obtain ⟨rfl,rfl,rfl⟩:=h
   simp only [idle,decide_eq_true_eq] at hi
   subst hi
   simp only [mg,Int.zero_add]
   rw [Int.emod_eq_of_lt hy.2.1 hy.2.2.1]
  | scale s' u'=>simp [kd] at h
 | scale s u =>
  cases y with
  | add s' c' g' t'=>simp [kd] at h
  | scale s' u' =>
   simp only [kd,Prod.mk.injEq,and_true] at h
   subst h
   simp only [idle,decide_eq_true_eq] at hi
   subst hi
   simp only [mg,Int.one_mul]
   rw [Int.emod_eq_of_lt hy.2.1 hy.2.2.1]
theorem aBh {n:Int} {d e:Dd} (h:kd d=kd e):∀ r:List Dd,(io n d r).isSome=(io n e r).isSome
 | []=>rfl
 | z::r=>by
  by_cases hk:kd z=kd d
  ·rw [oQ hk,oQ (hk.trans h)]
  ·have hk':kd z≠kd e:=by rw [<- h]; exact hk
   by_cases hg:gp z d=true
   ·rw [bR hk hg,bR hk' (by rw [<- iB h]; exact hg),aBh h r,h]
   ·have hg:gp z d=false:=by simpa using hg
    rw [sJ hk hg,sJ hk' (by rw [<- iB h]; exact hg)]
theorem tO {n:Int} {x y:Dd} (h:kd x=kd y):∀ {r:List Dd},nc n x r->(io n y (it n x r)).isSome=true
 | [],_=>oQ h
 | z::r,c=>by
  simp only [nc] at c
  by_cases hk:kd z=kd x
  ·rw [if_pos hk] at c
   rw [rC hk,c]
   exact oQ ((jC hk).trans h)
  ·rw [if_neg hk] at c
   have hk':kd z≠kd y:=by rw [<- h]; exact hk
   by_cases hg:gp z x=true
   ·have hg':gp z y=true:=by rw [<- iB h]; exact hg
    cases hX:((io n x r).isSome || rl (kd x) (kd z)) with
    | true=>rw [eW hk hg hX,bR hk' hg',tO h (c hg)]; rfl
    | false=>rw [kJ hk hg hX]; exact oQ h
   ·rw [qO hk (by simpa using hg)]; exact oQ h
theorem vT {n:Int} {G S:Nat} (hn:2<=n) {x y:Dd} (hx:OkD n G S x) (hy:OkD n G S y) (h:kd x=kd y):∀ {r:List Dd},(∀ x∈r,OkD n G S x)->Nor n r->nc n x r->it n y (it n x r)=ins n (mg n x y) r
 | [],_,_,_=>by
  show it n y [x]=_
  rw [rC h]
  cases hi:idle (mg n x y) with
  | true=>rw [bT hi]; rfl
  | false=>rw [bQ hi]; rfl
 | z::r,hr,hN,c=>by
  have hm:kd (mg n x y)=kd x:=(jC h).trans h.symm
  have hz:=hr z (List.mem_cons_self ..)
  simp only [nc] at c
  by_cases hk:kd z=kd x
  ·rw [if_pos hk] at c
   have as:=sM (n:=n) hk h
   have e1:it n x (z::r)=mg n z x::r:=by rw [rC hk,c]; rfl
   rw [e1,rC ((jC hk).trans h),as]
   cases hi:idle (mg n x y) with
   | true =>
    rw [bT hi]
    have:mg n z (mg n x y)=z:=by rw [kP (hk.trans hm.symm)]; exact kA hz (hm.trans hk.symm) hi
    rw [this,hN.1]
    rfl
   | false=>rw [bQ hi,rC (hk.trans hm.symm)]
  ·rw [if_neg hk] at c
   have hk':kd z≠kd y:=by rw [<- h]; exact hk
   have hkm:kd z≠kd (mg n x y):=by rw [hm]; exact hk
   have top:it n y (x::z::r)=if idle (mg n x y) then z::r else mg n x y::z::r:=rC h
   by_cases hg:gp z x=true
   ·have hg':gp z y=true:=by rw [<- iB h]; exact hg
    have hgm:gp z (mg n x y)=true:=by rw [iB hm]; exact hg
    cases hX:((io n x r).isSome || rl (kd x) (kd z)) with
    | true =>
     have ih:=vT hn hx hy h (fun w hw=>hr w (List.mem_cons_of_mem _ hw)) hN.2.2.2 (c hg)
     rw [eW hk hg hX,eW hk' hg' (by rw [tO h (c hg)]; rfl),ih]
     cases hi:idle (mg n x y) with
     | true=>rw [bT hi,bT hi]
     | false=>rw [bQ hi,bQ hi,eW hkm hgm (by rw [aBh hm,hm]; exact hX)]
    | false =>
     rw [kJ hk hg hX,top]
     cases hi:idle (mg n x y) with
     | true=>rw [bT hi]; rfl
     | false=>rw [bQ hi,kJ hkm hgm (by rw [aBh hm,hm]; exact hX)]; rfl
   ·have hg:gp z x=false:=by simpa using hg
    rw [qO hk hg,top]
    cases hi:idle (mg n x y) with
    | true=>rw [bT hi]; rfl
    | false=>rw [bQ hi,qO hkm (by rw [iB hm]; exact hg)]; rfl
theorem sH {n:Int} {G S:Nat} (hn:2<=n) {x y:Dd} (hx:OkD n G S x) (hy:OkD n G S y) (h:kd x=kd y) {r:List Dd} (hr:∀ x∈r,OkD n G S x) (hN:Nor n r):ins n y (ins n x r)=ins n (mg n x y) r:=by
 cases ix:idle x with
 | true=>rw [bT ix,kA hy h ix]
 | false =>
 cases iy:idle y with
 | true=>rw [bT iy,kP h,kA hx h.symm iy]
 | false =>
 by_cases c:nc n x r
 ·rw [bQ ix,bQ iy]
  exact vT hn hx hy h hr hN c
 ·have e:=lB hn hx hr hN
  have hm:kd (mg n x y)=kd x:=(jC h).trans h.symm
  have ibx:idle (bD n x)=false:=by rw [kG hn hx]; exact ix
  have hbx:=hx.back (by omega:0 < n)
  have kb:kd (bD n x)=kd x:=pO x
  have hmo:=uP hn hx hy h
  have e2:mg n (bD n x) (mg n x y)=y:=by
   rw [<- sM kb h,kP kb]
   exact kA hy ((jC kb.symm).trans (kb.trans h)) (mC hn hx)
  cases im:idle (mg n x y) with
  | true =>
   rw [bT im]
   have:y=bD n x:=by
    rw [<- e2,kP (kb.trans hm.symm)]
    exact kA hbx (hm.trans kb.symm) im
   rw [this]
   exact e
  | false =>
   have cb:=rS hn hx hr hN ix c
   rw [bQ ix] at e ⊢
   rw [bQ ibx] at e
   have:=vT hn hbx hmo (kb.trans hm.symm) (r:=it n x r) (by rw [<- bQ ix]; exact lL hn hx hr) (by rw [<- bQ ix]; exact hN.ins) cb
   rw [e,e2] at this
   rw [<- this,bQ im]
theorem uV {n:Int} {G S:Nat} (hn:2<=n) {x y:Dd} {B r:List Dd}:nf n (x::y::B) r=nf n B (ins n y (ins n x r)):=rfl
theorem aEw {n:Int} {G S:Nat} (hn:2<=n) {x y:Dd} {A B:List Dd} (hA:∀ d∈A++x::y::B,OkD n G S d) (hg:gp x y=true):nf n (A++y::x::B) []=nf n (A++x::y::B) []:=by
 have hx:=hA x (by simp)
 have hy:=hA y (by simp)
 rw [eE,eE,uV (G:=G) (S:=S) hn,uV (G:=G) (S:=S) hn]
 have hr:∀ d∈nf n A [],OkD n G S d:=xN hn (fun d hd=>hA d (by simp [hd])) (by simp)
 have hN:Nor n (nf n A []):=vD trivial
 by_cases hk:kd x=kd y
 ·rw [sH hn hx hy hk hr hN,sH hn hy hx hk.symm hr hN,kP hk]
 ·rw [aBp hn hx hy hg hk hr hN]
theorem aAh {n:Int} {G S:Nat} (hn:2<=n) {x y:Dd} {A B:List Dd} (hA:∀ d∈A++x::y::B,OkD n G S d) (hk:kd x=kd y):nf n (A++mg n x y::B) []=nf n (A++x::y::B) []:=by
 have hr:∀ d∈nf n A [],OkD n G S d:=xN hn (fun d hd=>hA d (by simp [hd])) (by simp)
 rw [eE,eE,uV (G:=G) (S:=S) hn,sH hn (hA x (by simp)) (hA y (by simp)) hk hr (vD trivial)]
 rfl
theorem aDd {n:Int} {x:Dd} {A B r:List Dd} (hi:idle x=true):nf n (A++x::B) r=nf n (A++B) r:=by
 rw [eE,eE]
 show nf n B (ins n x _)=_
 rw [bT hi]
end LS
namespace L2
open PySem PySem.Spec PyProof.Rows
open AutoSeq1 (wpAny_loadPart')
section
variable {prog:Program} {w:World} {A:Around} {E:Value->Shared->Prop} {s:Shared}
end
section
variable {X:Cx}
end
end L2
namespace EV
open PySem PySem.Spec PyProof.Rows L2
section
variable {X:Cx} {K:PySem.W.Frag} {Z:Zt} {μ:List Addr} {H:Hp} {M:Mm} {a b:Expr} {pos pos2:Pos} {f g:FE}
end
section
variable {L:Lc} {M:Mm} {EX:D->Mm->Prop}
end
end EV
namespace EV
open PySem
theorem exS {P:List Value->Prop} {k:Nat} (h:∀ a us,us.length=k->P (a::us)):∀ us:List Value,us.length=k+1->P us
 | a::us,e=>h a us (Nat.succ.inj e)
theorem ex0 {P:List Value->Prop} (h:P []) (us:List Value) (e:us.length=0):P us:=by rw [List.eq_nil_of_length_eq_zero e]; exact h
theorem ex1 {P:List Value->Prop} (h:∀ a,P [a]):∀ us:List Value,us.length=1->P us:=exS fun a=>ex0 (P:=fun us=>P (a::us)) (h a)
theorem ex2 {P:List Value->Prop} (h:∀ a b,P [a,b]):∀ us:List Value,us.length=2->P us:=exS fun a=>ex1 (P:=fun us=>P (a::us)) (h a)
theorem ex3 {P:List Value->Prop} (h:∀ a b c,P [a,b,c]):∀ us:List Value,us.length=3->P us:=exS fun a=>ex2 (P:=fun us=>P (a::us)) (h a)
theorem ex4 {P:List Value->Prop} (h:∀ a b c d,P [a,b,c,d]):∀ us:List Value,us.length=4->P us:=exS fun a=>ex3 (P:=fun us=>P (a::us)) (h a)
theorem ex5 {P:List Value->Prop} (h:∀ a b c d e,P [a,b,c,d,e]):∀ us:List Value,us.length=5->P us:=exS fun a=>ex4 (P:=fun us=>P (a::us)) (h a)
end EV
set_option maxHeartbeats 400000
namespace ZP
open PySem PySem.Spec PyProof.Rows
section
variable {prog:Program} {w:World} {A:Around} {E:Value->Shared->Prop} {s:Shared}
noncomputable abbrev IsTrip (h:Heap) (T:Addr) (a b c:Value):Prop:=h.get? T=some { cls:=.type "tuple",data:=.seq #[a,b,c] }
set_option genSizeOf false in
set_option genInjectivity false in
structure Ap3 (z TI TO i1 i2 i3 l1 l2 l3:Addr):Prop where
 z_TI:z≠TI
 z_TO:z≠TO
 z_i1:z≠i1
 z_i2:z≠i2
 z_i3:z≠i3
 TI_z:TI≠z
 TI_TO:TI≠TO
 TI_i1:TI≠i1
 TI_i2:TI≠i2
 TI_i3:TI≠i3
 TO_z:TO≠z
 TO_TI:TO≠TI
 TO_i1:TO≠i1
 TO_i2:TO≠i2
 TO_i3:TO≠i3
 i1_z:i1≠z
 i1_TI:i1≠TI
 i1_TO:i1≠TO
 i1_i2:i1≠i2
 i1_i3:i1≠i3
 i2_z:i2≠z
 i2_TI:i2≠TI
 i2_TO:i2≠TO
 i2_i1:i2≠i1
 i2_i3:i2≠i3
 i3_z:i3≠z
 i3_TI:i3≠TI
 i3_TO:i3≠TO
 i3_i1:i3≠i1
 i3_i2:i3≠i2
 l1_z:l1≠z
 l1_TI:l1≠TI
 l1_TO:l1≠TO
 l1_i1:l1≠i1
 l1_i2:l1≠i2
 l1_i3:l1≠i3
 l2_z:l2≠z
 l2_TI:l2≠TI
 l2_TO:l2≠TO
 l2_i1:l2≠i1
 l2_i2:l2≠i2
 l2_i3:l2≠i3
 l3_z:l3≠z
 l3_TI:l3≠TI
 l3_TO:l3≠TO
 l3_i1:l3≠i1
 l3_i2:l3≠i2
 l3_i3:l3≠i3
structure Zs3 (h:Heap) (z TI TO i1 i2 i3 l1 l2 l3:Addr) (i:Nat) (xs ys us:Array Value):Prop where
 z:∃ f0 f1,h.get? z=some (zobj TI TO f0 f1)/\(f0=.none\/∃ T:Nat,f0=rawInt T)
 ti:IsTrip h TI (.ref i1) (.ref i2) (.ref i3)
 to:∃ a b c,IsTrip h TO a b c
 a:It1 h i1 l1 i xs
 b:It1 h i2 l2 i ys
 c:It1 h i3 l3 i us
end
end ZP
namespace L2
open PySem PySem.Spec PyProof.Rows
theorem Vals.three:∀ {x y z:V} {us:List Value},Vals [x,y,z] us->∃ u v w,us=[u,v,w]/\RelV x u/\RelV y v/\RelV z w
 | _,_,_,_,.cons r (.cons q (.cons p .nil))=>⟨_,_,_,rfl,r,q,p⟩
end L2
namespace EV
open PySem PySem.Spec PyProof.Rows L2
variable {EX:D->Mm->Prop}
section
variable {X:Cx} {K:PySem.W.Frag} {Z:Zt} {μ:List Addr} {H:Hp} {M:Mm} {a b c:Expr} {pos:Pos} {f g k:FE} {tg:Expr}
end
section
variable {L:Lc} {M:Mm} {f g k:FE}
end
end EV
namespace RT
open PySem PySem.Spec PyProof.Rows
section
variable {prog:Program} {w:World} {A:Around} {E:Value->Shared->Prop} {s:Shared}
end
end RT
namespace L2
open PySem PySem.Spec PyProof.Rows
end L2
namespace EV
open PySem PySem.Spec PyProof.Rows L2
section
variable {X:Cx} {K:PySem.W.Frag} {Z:Zt} {μ:List Addr} {H:Hp} {M:Mm} {a:Expr} {pos pos2:Pos} {f:FE}
end
section
variable {L:Lc} {M:Mm} {EX:D->Mm->Prop}
end
end EV
namespace EV
open PySem
end EV
namespace L2
open PySem PySem.Spec PyProof.Rows
structure CompOkC (p:Str) (N0:List Str) (sc0:Scope) (scope:Scope) (Nc:List Str) (js:List (Option Nat)):Prop where
 kind:scope.kind=.function
 one:scope.names.filter (fun y=>y.2==.cell)=[(p,.cell)]
 pc:scope.names.lookup p=some .cell
 names:∀ y∈scope.names,y.2=.local->scope.names.lookup y.1=some .local
 free:∀ y∈scope.names,y.2=.free->sc0.names.lookup y.1=some .cell
 len:js.length=Nc.length
 slots:∀ p∈Nc.zip js,∀ j∈p.2,N0[j]?=some p.1/\scope.names.lookup p.1=some .free/\sc0.names.lookup p.1=some .cell
noncomputable def compOkCB (p:Str) (N0:List Str) (sc0 scope:Scope) (Nc:List Str) (js:List (Option Nat)):Bool :=
 decide (scope.kind=.function)&&(scope.names.filter (fun y=>y.2==.cell)==[(p,.cell)])&&(scope.names.lookup p==some .cell)&&scope.names.all (fun y=>y.2 != .local || scope.names.lookup y.1==some .local)&&scope.names.all (fun y=>y.2 != .free || sc0.names.lookup y.1==some .cell) &&
  (js.length==Nc.length)&&(Nc.zip js).all (fun p=>match p.2 with | none=>true | some j=>N0[j]?==some p.1&&scope.names.lookup p.1==some .free&&sc0.names.lookup p.1==some .cell)
theorem CompOkC.of {p:Str} {N0:List Str} {sc0 scope:Scope} {Nc:List Str} {js:List (Option Nat)} (h:compOkCB p N0 sc0 scope Nc js=true):CompOkC p N0 sc0 scope Nc js:=by
 unfold compOkCB at h
 simp only [Bool.and_eq_true,List.all_eq_true,beq_iff_eq,decide_eq_true_eq] at h
 obtain ⟨⟨⟨⟨⟨⟨h1,h2⟩,h7⟩,h3⟩,h4⟩,h5⟩,h6⟩:=h
 refine ⟨h1,h2,h7,fun y hy e=>?_,fun y hy e=>?_,h5,fun p hp j hj=>?_⟩
 ·have:=h3 y hy
  simpa [e] using this
 ·have:=h4 y hy
  simpa [e] using this
 ·have:=h6 p hp
  have hj:p.2=some j:=hj
  rw [hj] at this
  simpa [and_assoc] using this
section
variable {X:Cx} {pins:List (Addr×Obj)} {σ:St} {H₂:Hp} {s₂:Shared} {fp:List Addr} {Nc:List Str} {scope:Scope} {js:List (Option Nat)} {cl:List (Str×Addr)} {C Cc:Addr} {p:Str}
end
section
variable {X:Cx} {tg iter elt:Expr} {ifs:List Expr} {scope:Scope} {pos:Pos} {Nc:List Str} {js:List (Option Nat)} {g:TG} {ti:TT} {te:TE} {wi:TI} {pn:Str}
end
end L2
namespace EV
open PySem PySem.Spec PyProof.Rows L2
section
variable {X:Cx} {K:PySem.W.Frag} {Z:Zt} {pos:Pos} {pn:Str}
end
end EV
namespace L2
open PySem PySem.Spec PyProof.Rows
section
variable {X:Cx}
end
end L2
namespace EV
open PySem PySem.Spec PyProof.Rows L2
section
variable {X:Cx} {K:PySem.W.Frag} {Z:Zt}
end
section
variable {M:Mm} {EX:D->Mm->Prop}
end
end EV
namespace L2
open PySem PySem.Spec PySem.W PySem.Calls PyProof.Rows Builtin Builtin.ObjectAttr
section
variable {X:Cx} {C LE:Addr} {e:Expr} {pos:Pos}
end
end L2
namespace L2
open PySem PySem.Spec PyProof.Rows
section
variable {X:Cx}
end
end L2
namespace EV
open PySem PySem.Spec PyProof.Rows L2
section
variable {X:Cx} {K:PySem.W.Frag} {Z:Zt}
variable {R:Addr->Hp->Prop} {μ:List Addr} {H:Hp} {M:Mm} {a:Expr} {pos:Pos} {fa:FE}
end
section
variable {M:Mm} {EX:D->Mm->Prop}
end
end EV
namespace EV
open PySem
section
variable {EX:D->Mm->Prop} {L:Lc} {M:Mm} {f:FE} {gg:FG} {Q:W->Mm->Prop}
end
end EV
namespace L2
open PySem PySem.Spec PyProof.Rows
noncomputable def XRs (P:Addr->Prop) (H:Hp) (h:Heap) (e C:Addr) (d:Option Addr):Prop :=
 ∃ vs sl T cT dT ts sT,h.get? e=some ⟨.ref C,d,.fields vs,sl⟩/\1 < vs.size/\vs[1]?=some (.ref T)/\P T/\H T=none/\h.get? T=some ⟨cT,dT,.fields ts,sT⟩/\3 < ts.size
section
variable {M:Model} {A A':Around} {E:Value->Shared->Prop} {s:Shared} {env env':Env} {outer:List Env} {base:Heap} {L e C:Addr} {d:Option Addr} {H:Hp} {P:Addr->Prop} {Q:Unit->Shared->Prop}
theorem pY {vs:Array Value} {sl:Array (Option Value)} {head:Value} {hb:Bool} (hfr:A.frames=some (env::outer)) (hl:s.heap.FunFrames base (env::outer)) (hf:env.frame=some L)
  (he:s.heap.get? e=some ⟨.ref C,d,.fields vs,sl⟩) (hz:1 < vs.size) (hP:∀ T,s.heap.objs.size<=T->P T) (hN:∀ T,s.heap.objs.size<=T->H T=none)
  (hQ:∀ h',(∀ b o,b≠e->b∉frs (env::outer)->s.heap.get? b=some o->h'.get? b=some o)->(∀ b o,b∈frs (env::outer)->s.heap.get? b=some o->∃ sl,h'.get? b=some { o with slots:=sl }) ->
   XRs P H h' e C d->Q () { s with heap:=h' }) :
  wpAny M A (do let a <- frameOf env; let pl <- entryPlaceOf L hb; let t <- EntryCells.newEntry head a .none (rawInt L) .none pl; setField (.ref e) 1 t) Q E s:=by
 have nfr:e∉frs (env::outer):=fun z=>by
  obtain ⟨_,o,q,n⟩:=hl.mem z
  rw [he] at q; cases q; exact n vs rfl
 refine wpAny_bind (wpAny_frameOf_fun hfr hl hf fun h1 so=>?_)
 refine wpAny_bind (wpAny_entryPlaceOf fun pl isp=>wpAny_bind ?_)
 unfold EntryCells.newEntry newFields
 refine wpAny_newObj_type ?_ (isp.sizeOk5 _ _ _ _ _)
 generalize eT:([head,Value.ref L,.none,rawInt L,.none]++(if pl.isEmpty then List.replicate 6 Value.none else pl)).toArray=tv
 have hsz:3 < tv.size:=by rw [<- eT]; simp only [List.size_toArray,List.length_append,List.length_cons]; omega
 have e1:h1.get? e=some ⟨.ref C,d,.fields vs,sl⟩:=(so.2.1 e nfr).trans he
 have ne:e≠h1.objs.size:=Nat.ne_of_lt (Heap.lt_size e1)
 generalize eo:({ cls:=.type "traceback",dict:=none,data:=.fields tv }:Obj)=oT
 have e2:(h1.push oT).get? e=some ⟨.ref C,d,.fields vs,sl⟩:=Heap.get?_push_of_some _ e1
 have t3:((h1.push oT).update e (Obj.mapFields (·.setIfInBounds 1 (.ref h1.objs.size)))).get? h1.objs.size=some ⟨.type "traceback",none,.fields tv,#[]⟩:=by
  rw [cZ (Ne.symm ne),<- eo]; exact Heap.get?_push_size h1 rfl
 refine wpAny_setField e2 rfl hz (hQ _ (fun b o nb nf q=>?_) (fun b o bf q=>?_) ⟨_,sl,h1.objs.size,_,_,tv,_,gM e2,by simpa using hz,by simp [hz],hP _ (by rw [so.1]; exact Nat.le_refl _),hN _ (by rw [so.1]; exact Nat.le_refl _),t3,hsz⟩)
 ·rw [cZ nb]
  exact Heap.get?_push_of_some _ ((so.2.1 b nf).trans q)
 ·obtain ⟨sl',q1⟩:=so.2.2 b o q
  have nb:b≠e:=fun z=>nfr (z▸bf)
  exact ⟨sl',by rw [cZ nb]; exact Heap.get?_push_of_some _ q1⟩
theorem noted (hfr:A.frames=some (env::outer)) (hl:s.heap.FunFrames base (env::outer)) (hf:env.frame=some L) (hfe:env'.frame=env.frame) (x:XRec P H s.heap e C d) (he:H e≠none)
  (hP:∀ T,s.heap.objs.size<=T->P T) (hN:∀ T,s.heap.objs.size<=T->H T=none)
  (hQ:∀ (h':Heap) (ch:List Addr),(∀ b∈ch,P b/\H b=none/\b∉frs (env::outer))->(∀ b o,b≠e->b∉frs (env::outer)->b∉ch->s.heap.get? b=some o->h'.get? b=some o)->(∀ b o,b∈frs (env::outer)->s.heap.get? b=some o->∃ sl,h'.get? b=some { o with slots:=sl }) ->
   (∀ b o,s.heap.get? b=some o->∃ o',h'.get? b=some o')->XRs P H h' e C d->Q () { s with heap:=h' }) :
  wpAny M A (noteFrame (.ref e) env') Q E s:=by
 have ef:noteFrame (.ref e) env'=noteFrame (.ref e) env:=by unfold noteFrame PySem.frameOf; rw [hfe]
 rw [ef]
 obtain ⟨vs,sl,h1,h2,h3 | ⟨T,cT,dT,ts,sT,a1,a2,a3,a4,a5⟩⟩:=x
 ·unfold noteFrame
  simp only [hf]
  refine wpAny_bind (wpAny_field h1 rfl h3 ?_)
  rw [if_neg (by decide)]
  refine pY (P:=P) (H:=H) hfr hl hf h1 h2 hP hN fun h' k1 k2 r=>hQ h' [] (fun _ z=>nomatch z) (fun b o n nf _ q=>k1 b o n nf q) k2 (fun b o q=>?_) r
  by_cases hb:b∈frs (env::outer)
  ·obtain ⟨sl,q⟩:=k2 b o hb q; exact ⟨_,q⟩
  ·by_cases hbe:b=e
   ·subst hbe; obtain ⟨_,_,_,_,_,_,_,r,_⟩:=r; exact ⟨_,r⟩
   ·exact ⟨_,k1 b o hbe hb q⟩
 ·have ne:e≠T:=fun z=>he (z▸a3)
  have nfr:T∉frs (env::outer):=fun z=>by
   obtain ⟨_,o,q,n⟩:=hl.mem z
   rw [a4] at q; cases q; exact n ts rfl
  unfold noteFrame
  simp only [hf]
  refine wpAny_bind (wpAny_field h1 rfl a1 ?_)
  rw [if_pos (show (Value.ref T != Value.none)=true by simp)]
  refine wpAny_bind (wpAny_field a4 rfl (Array.getElem?_eq_getElem a5) ?_)
  by_cases here:(ts[3]==rawInt L)=true
  ·rw [if_pos here]
   exact wpAny_pure (hQ s.heap [] (fun _ z=>nomatch z) (fun _ _ _ _ _ q=>q) (fun b o _ q=>⟨o.slots,q⟩) (fun b o q=>⟨o,q⟩) ⟨vs,sl,T,cT,dT,ts,sT,h1,h2,a1,a2,a3,a4,a5⟩)
  rw [if_neg here]
  refine wpAny_bind (wpAny_setField a4 rfl a5 ?_)
  have hsz:(s.heap.update T (Obj.mapFields (·.setIfInBounds 3 Value.none))).objs.size=s.heap.objs.size:=Heap.size_after_update ..
  refine pY (P:=P) (H:=H) hfr (hl.of_keeps fun b o q n=>⟨o,(cZ fun z=>?_).trans q,rfl⟩) hf ((cZ ne).trans h1) h2 (fun U hU=>hP U (by rw [<- hsz]; exact hU)) (fun U hU=>hN U (by rw [<- hsz]; exact hU)) fun h' k1 k2 r=>hQ h' [T] (fun b hb=>?_) (fun b o n nf nc q=>k1 b o n nf ((cZ fun z=>nc (by simp [z])).trans q)) (fun b o bf q=>k2 b o bf ((cZ (a:=T) (fun (z:b=T)=>nfr (z▸bf))).trans q)) (fun b o q=>?_) r
  ·subst z; rw [a4] at q; cases q; exact n ts rfl
  ·rw [List.mem_singleton] at hb; subst hb; exact ⟨a2,a3,nfr⟩
  ·have:∃ o1,(s.heap.update T (Obj.mapFields (·.setIfInBounds 3 Value.none))).get? b=some o1:=by
    by_cases z:b=T
    ·subst z; exact ⟨_,gM a4⟩
    ·exact ⟨o,(cZ z).trans q⟩
   obtain ⟨o1,q⟩:=this
   by_cases hb:b∈frs (env::outer)
   ·obtain ⟨sl,q⟩:=k2 b o1 hb q; exact ⟨_,q⟩
   ·by_cases hbe:b=e
    ·subst hbe; obtain ⟨_,_,_,_,_,_,_,r,_⟩:=r; exact ⟨_,r⟩
    ·exact ⟨_,k1 b o1 hbe hb q⟩
end
section
variable {X:Cx} {pins:List (Addr×Obj)} {σ:List (Option V)} {H H':Hp} {s s':Shared} {e C:Addr} {d:Option Addr} {M:Model} {A A':Around} {E:Value->Shared->Prop}
variable {R:Addr->Hp->Prop} {Nc:List Str} {scope:Scope} {cl:List (Str×Addr)} {fp:List Addr} {H₂:Hp} {s₂:Shared}
end
section
variable {X:Cx} {tg iter elt:Expr} {ifs:List Expr} {scope:Scope} {pos:Pos} {Nc:List Str} {js:List (Option Nat)} {g:TG} {ti:TT} {te:TE} {wi:TI}
end
end L2
namespace EV
open PySem PySem.Spec PyProof.Rows L2
section
variable {X:Cx} {K:PySem.W.Frag} {R:Addr->Hp->Prop} {pos:Pos} {μ:List Addr} {H:Hp} {M:Mm}
end
end EV
namespace L2
open PySem PySem.Spec PyProof.Rows
structure RoomH (k:Nat) (A:Around):Prop where
 dp:A.depth+3*k+5 < recursionLimit
 un:A.units+16*k+200 < cLine
theorem RoomH.mono {j k:Nat} {A:Around} (r:RoomH k A) (h:j<=k):RoomH j A:=⟨by have:=r.dp; omega,by have:=r.un; omega⟩
theorem RoomH.deeper {k:Nat} {A:Around} (r:RoomH (k+1) A) (env:Env):RoomH k (A.deeper env) :=
 ⟨by have:=r.dp; show A.depth+1+3*k+5 < _; omega,by have:=r.un; show A.units+3+16*k+200 < _; omega⟩
structure FnOkH (P:Program) (w:World) (K:PySem.W.Frag) (mg:Str->Option Value) (base:Heap) (k:Nat) (f:Addr) (fd:FuncData) (ps:List Str) (sp:Sp):Prop where
 len:∀ vs H Q E,sp vs H Q E->vs.length=ps.length
 run:∀ (A:Around) (outer:List Env) (s:Shared) (H:Hp) (args:Args) (us:List Value) (vs:List V) (Q:VK) (E:XK),RoomH k A->Env0 P w K mg base A outer s H->BindsTo s fd args (ps.zip us)->Vals vs us->sp vs H Q E ->
  codeAny (model P w) A (.call (.ref f) args) (CR CX0 outer P w H s Q E) s
section
variable {X:Cx} {k:Nat} {f:Addr} {fd:FuncData} {ps:List Str} {sp:Sp} {x:Str} {p pos:Pos} {e:Expr} {es:List Expr} {t:TA}
end
end L2
namespace EV
open PySem PySem.Spec PyProof.Rows L2
section
variable {X:Cx} {K:PySem.W.Frag} {Z:Zt} {e:Expr} {es:List Expr} {pos:Pos} {fs:FA}
end
section
variable {EX:D->Mm->Prop} {L:Lc} {M:Mm} {Q:W->Mm->Prop} {f:FE} {gg:FG}
end
end EV
namespace L2
open PySem PySem.Spec PyProof.Rows
section
variable {s:Shared} {A:Around} {prog:Program} {w:World} {E:Value->Shared->Prop}
end
end L2
namespace EV
open PySem PySem.Spec PyProof.Rows L2
section
variable {X:Cx} {K:PySem.W.Frag} {Z:Zt}
variable {EX:D->Mm->Prop} {M:Mm} {Q:W->Mm->Prop}
end
end EV
set_option maxHeartbeats 4000000
namespace L2
open PySem PySem.Spec PyProof.Rows
section
variable {prog:Program} {w:World} {A:Around} {E:Value->Shared->Prop} {s:Shared}
end
section
variable {X:Cx} {tg:Expr}
noncomputable def ItE2 (b:Int) (n:Nat):It:=⟨fun i _=>i < n,fun i H x H'=>H'=H/\x=.int (b - 1 - i),fun i _=>n<=i⟩
theorem vS {P:Program} {w:World} {K:PySem.W.Frag} {tg:Expr} (it:Addr) (z:Int) (n:Nat):Turn P w K tg (ItE2 z n) [it] it (fun i h=>IsRangeIter h it (z - 1+(i:Nat)*(-1)) ((n:Int) - (i:Nat)) (-1)) where
 mem:=by simp
 obj:=fun i h st b hb=>by
  have e:b=it:=by simpa using hb
  subst e
  exact ⟨_,st,fun v z=>by
   have z':Data.fields _=Data.cell v:=z
   cases z'⟩
 keep:=fun i h h' st k=>k it (by simp) _ st
 item:=by
  intro X hP hw hK hc i pins s σ H E I hf st hg
  subst hP hw hK
  obtain ⟨f0,f1,f2,f3,f4,f5⟩:=hf it (by simp)
  have W:=Walks.range (prog:=X.prog) (w:=X.w) (I.ok.hd hc) it (z - 1) (-1) n
  refine W.item i s _ _ hg st fun v h' tk hv st' kk=>?_
  obtain ⟨t,rfl⟩:=hv
  have I1:Inv X pins σ H { s with heap:=h',toks:=tk }:=I.turned (fun b o hb e=>kk b o (by simpa using hb) e) f0 f1 f3 f4 f5
  refine ⟨_,rfl,pJ (s:={ s with heap:=h',toks:=tk }) (n:="range_iterator") st' rfl rfl (by decide) ⟨.int (z - 1 - i),H,I1,⟨t,?_⟩,⟨rfl,rfl⟩,st',fun b hb=>(hf b hb).1⟩⟩
  rw [show z - 1+(i:Int) * -1=z - 1 - i by omega]
 done:=by
  intro X hP hw hK hc i pins s σ H E I hf st hg
  subst hP hw hK
  obtain ⟨f0,f1,f2,f3,f4,f5⟩:=hf it (by simp)
  exact wpAny_pyNext_range_end (I.ok.hd hc) st (by have:n<=i:=hg; omega) fun h' eb=>⟨rfl,I.turned (t':=s.toks) (fun b o hb e=>eb b o hb e) f0 f1 f3 f4 f5⟩
 self:=fun _ _ _ _ _ st h=>wpAny_pyIter_rangeiter st h
end
end L2
namespace EV
open PySem PySem.Spec PyProof.Rows L2
variable {EX:D->Mm->Prop}
section
variable {X:Cx} {K:PySem.W.Frag} {Z:Zt} {μ:List Addr} {H:Hp} {M:Mm} {a b tg:Expr} {pos pos2:Pos} {f g:FE}
noncomputable def downE (b:Int) (n:Nat):List D:=(List.range n).map fun i=>D.int (b - 1 - (i:Nat))
theorem lX {b:Int} {n i:Nat} {d:D} (h:(downE b n)[i]?=some d):i < n/\d=.int (b - 1 - (i:Nat)):=by
 unfold downE at h
 rw [List.getElem?_map,Option.map_eq_some_iff] at h
 obtain ⟨k,h1,rfl⟩:=h
 obtain ⟨h2,h3⟩:=List.getElem?_eq_some_iff.mp h1
 simp only [List.length_range] at h2
 simp only [List.getElem_range] at h3
 subst h3
 exact ⟨h2,rfl⟩
theorem gC {b:Int} {n:Nat}:(downE b n).length=n:=by simp [downE]
theorem aEa {b:Int} {n:Nat}:ItOk K μ H ⟨downE b n,none⟩ (ItE2 b n) :=
 ⟨fun _ _=>True,trivial,fun _ _ _ _ _ _ _=>trivial,fun μ1 H1 M1 i hr _ _=>⟨fun d hd=>by
  obtain ⟨h1,rfl⟩:=lX hd
  refine ⟨h1,fun x H2 y=>?_⟩
  obtain ⟨rfl,rfl⟩:=y
  exact ⟨.refl,hr,by simp [Rp]⟩,fun h=>by rw [show (Src.ds ⟨downE b n,none⟩)=downE b n from rfl,gC] at h; exact h⟩⟩
end
section
variable {L:Lc} {M:Mm} {f g:FE}
end
end EV
namespace EV
open PySem
section
variable {EX:D->Mm->Prop} {L:Lc} {M:Mm} {f:FE} {gg:FG} {Q:W->Mm->Prop}
theorem Okx.self {α:Type} {o:Oc α} {Q:α->Mm->Prop} (h:Okx EX o Q):Okx EX o fun a M=>o=.ok a M/\Q a M:=by
 unfold Okx at h ⊢
 cases o with
 | ok a M=>exact ⟨rfl,h⟩
 | ex x M=>exact h
 | bad=>exact h
theorem Chk.app {s:Src} {M:Mm} {J:Mm} (h:Chk s M):Chk s (M++J):=fun t e=>by
 have:=h t e
 rw [List.getElem?_append_left (List.getElem?_eq_some_iff.mp this).1]
 exact this
end
end EV
namespace EV
open PySem PySem.Spec PyProof.Rows L2
section
variable {X:Cx} {K:PySem.W.Frag} {Z:Zt}
variable {EX:D->Mm->Prop} {M:Mm} {Q:W->Mm->Prop}
end
end EV
namespace L2
open PySem PySem.Spec PyProof.Rows
section
variable {X:Cx} {e st:Expr} {te:TE} {ts:TO} {pos p2:Pos}
end
end L2
namespace EV
open PySem PySem.Spec PyProof.Rows L2
section
variable {X:Cx} {K:PySem.W.Frag} {Z:Zt} {e st:Expr} {f:FE} {fs:FO} {pos p2:Pos}
variable {EX:D->Mm->Prop} {M:Mm} {L:Lc} {Q:W->Mm->Prop}
end
end EV
namespace EV
open PySem
end EV
namespace L2
open PySem PySem.Spec PyProof.Rows
section
variable {X:Cx} {o i:Expr} {to ti:TE} {pos tpos:Pos}
theorem rD (its:List Value) (n j:Nat):∃ m,Obj.mapSeq (fun xs=>xs.eraseIdxIfInBounds j) { cls:=.type "list",data:=.seq its.toArray n }={ cls:=.type "list",data:=.seq (its.eraseIdx j).toArray m }:=by
 have e:its.toArray.eraseIdxIfInBounds j=(its.eraseIdx j).toArray:=by
  unfold Array.eraseIdxIfInBounds
  split
  ·simp
  ·rename_i h
   rw [List.eraseIdx_of_length_le (by simpa using h)]
 unfold Obj.mapSeq
 simp only [e]
 exact ⟨_,rfl⟩
noncomputable def sDelL (to ti:TE):TS:=fun D σ H=>to σ H fun x H1=>ti σ H1 fun y H2=>∃ p xs k j,x=.ref p/\y=.int k/\H2 p=some (.lst xs) /\ -9223372036854775808<=k/\k < 9223372036854775808/\ixN xs.length k=some j/\D.nx σ (upd H2 p (.lst (xs.eraseIdx j)))
theorem aJl (ho:PE X o to) (hi:PE X i ti):PS X (.Delete [.Subscript o i tpos] pos) (sDelL to ti):=by
 intro pins s σ H D I h
 refine wpAny_Delete (wpAny_deleteEach_cons (wpAny_delete_Subscript (thn (ho pins s σ H _ I h) fun u s1 ⟨x,H1,I1,rx,q1⟩=>thn (hi pins s1 σ H1 _ I1 q1) fun iv s2 ⟨y,H2,I2,ry,p,xs,k,j,ex,ey,hp,k0,k1,hj,q2⟩=>?_)))
 subst ex ey
 cases rx
 obtain ⟨t,rfl⟩:=ry
 obtain ⟨its,n,r,ho',hz⟩:=I2.lst hp
 obtain ⟨h1,h2,h3,h4⟩:=sI hj
 have hl:=r.length
 obtain ⟨m,hm⟩:=rD its n j
 refine PySem.P.delItem_list (items:=its.toArray) (n:=n) (k:=j) ho' ?_ (by rw [List.size_toArray,<- hl]; exact h1) ?_ (by rw [List.size_toArray,<- hl]; exact hz)
 ·unfold Builtin.List.listFitsIndex
  simp only [Bool.and_eq_true,decide_eq_true_eq]
  omega
 ·refine wpAny_deleteEach_nil ⟨σ,_,I2.lstUpd (ys:=xs.eraseIdx j) hp ho' hm (r.eraseIdx j) (by rw [List.length_eraseIdx]; split <;> omega) s2.toks,q2⟩
end
end L2
namespace EV
open PySem PySem.Spec PyProof.Rows L2
section
variable {X:Cx} {K:PySem.W.Frag} {Z:Zt} {o i:Expr} {fo fi:FE} {pos tpos:Pos}
noncomputable def sDel (fo fi:FE):FS:=fun L M=>(fo L M).bind fun o M1=>(fi L M1).bind fun i M2=>match o,i with
 | .ref k,.d (.int j)=>match M2[k]? with
  | some xs=>if -9223372036854775808<=j/\j < 9223372036854775808 then (match ixN xs.length j with
   | some t=>.ok (.nx L) (M2.set k (xs.eraseIdx t))
   | none=>.bad) else .bad
  | none=>.bad
 | _,_=>.bad
theorem aIw (ho:Ev X K Z o fo) (hi:Ev X K Z i fi):Es X K Z (.Delete [.Subscript o i tpos] pos) (sDel fo fi):=by
 refine ⟨ho.k,cqS (aJl ho.h hi.h) ?_⟩
 rintro E σ H ⟨μ,M,L,hr,lr,p⟩
 refine ⟨μ,M,L,hr,lr,p.bind.imp fun μ1 H1 M1 x e1 hr1 _ p1 vo ro=>?_⟩
 refine ⟨μ1,M1,L,hr1,lr.ext hr.lsts e1,p1.bind.imp fun μ2 H2 M2 y e2 hr2 _ p2 vi ri=>?_⟩
 cases x with
 | d x=>exact p2.elim
 | ref k=>cases y with
  | ref j=>exact p2.elim
  | d y=>cases y with
   | int j =>
    simp only at p2
    cases q1:M2[k]? with
    | none=>simp only [q1] at p2; exact p2.elim
    | some xs =>
     simp only [q1] at p2
     split at p2
     ·rename_i hz
      cases q2:ixN xs.length j with
      | none=>simp only [q2] at p2; exact p2.elim
      | some t =>
       simp only [q2] at p2
       have ro:=ro.ext hr1.lsts e2
       obtain ⟨a,qa,rfl⟩:=ro
       obtain ⟨a',vs,qa',h1,r1⟩:=hr2.at q1
       rw [qa] at qa'; cases qa'
       simp only [Rw,Rp] at ri
       subst ri
       refine ⟨a,vs,j,t,rfl,rfl,h1,hz.1,hz.2,by rw [<- r1.length]; exact q2,?_⟩
       exact p2 μ2 _ (bV qa) (hr2.set qa (r1.eraseIdx t)) σ ((lr.ext hr.lsts (e1.trans e2)).ext hr2.lsts (bV qa))
     ·exact p2.elim
   | _=>exact p2.elim
variable {EX:D->Mm->Prop} {M:Mm} {L:Lc} {Q:Out->Mm->Prop}
theorem aDq (h:Okx EX (fo L M) fun x M1=>Okx EX (fi L M1) fun y M2=>∃ k j xs t,x=.ref k/\y=.d (.int j)/\M2[k]?=some xs/\(-9223372036854775808<=j/\j < 9223372036854775808)/\ixN xs.length j=some t/\Q (.nx L) (M2.set k (xs.eraseIdx t))):Okx EX (sDel fo fi L M) Q :=
 aL (h.mono fun x M1 z=>aL (z.mono fun y M2 ⟨k,j,xs,t,e1,e2,q1,hz,q2,q⟩=>by
  subst e1; subst e2; simp only [q1]; rw [if_pos hz]; simp only [q2]; exact aN q))
end
end EV
namespace L2
open PySem PySem.Spec PyProof.Rows
section
variable {prog:Program} {w:World} {A:Around} {E:Value->Shared->Prop} {s:Shared}
theorem nM:typeLookup (.type "slice") (Str.ofString "__index__")=pure none:=by first | rfl | kernel_rfl | (rw [typeLookup_type]; kernel_rfl)
theorem lR {l sl b:Addr} {its new:List Value} {n m:Nat} {vl vu:Value} {lo hi:Option Int} {Q:Unit->Shared->Prop}
  (hl:s.heap.get? l=some { cls:=.type "list",data:=.seq its.toArray n }) (hb:s.heap.get? b=some { cls:=.type "list",data:=.seq new.toArray m })
  (hs:s.heap.IsSliceOf sl vl vu .none) (pl:IsPart vl lo) (pu:IsPart vu hi) (hne:l≠b) (hz:its.length+new.length<=sizeLine)
  (h:Q () { s with heap:=s.heap.update l (Obj.mapSeq fun xs=>xs.extract 0 (sliceBounds lo hi none its.length).1.toNat++new.toArray++xs.extract (max (sliceBounds lo hi none its.length).1 (sliceBounds lo hi none its.length).2.1).toNat) }) :
  wpAny (model prog w) A (setItem (.ref l) (.ref sl) (.ref b)) Q E s:=by
 obtain ⟨os,hos,hcs,hds⟩:=id hs
 have hTl:s.TypeIs (.ref l) "list":=⟨_,hl,rfl⟩
 have hTb:s.TypeIs (.ref b) "list":=⟨_,hb,rfl⟩
 have hTs:s.TypeIs (.ref sl) "slice":=⟨os,hos,hcs⟩
 unfold setItem
 refine wpAny_holding ?_
 refine wpAny_bind (wpAny_sequenceKey hTl (by decide) ?_)
 refine wpAny_bind (wpAny_callSpecial?_slot (name:=Str.ofString "__setitem__") hTl slot_list_setitem (wpAny_call_entry slot_list_setitem hTl entry_list_setitem ?_ (args_list_setitem _ _ _)))
 unfold Builtin.«list.__setitem__»
 refine wpAny_bind (wpAny_of_eq (a:=(Value.ref l,[Value.ref sl,Value.ref b])) (by first | rfl | kernel_rfl) ?_)
 dsimp only
 unfold Builtin.List.listSubscript?
 refine wpAny_bind (wpAny_bind (wpAny_specialOf hTs nM ?_))
 rw [if_pos (show (none:Option Value).isNone=true from rfl)]
 refine wpAny_pure ?_
 dsimp only
 refine wpAny_bind (wpAny_typeOf hTs ?_)
 rw [if_neg (by decide)]
 rw [listSliceParts_eq]
 refine wpAny_bind (wpAny_bind (wpAny_field hos hds (x:=.none) rfl (wpAny_bind (wpAny_listPart .none ?_))))
 dsimp only [rawPart]
 rw [if_neg (by decide)]
 refine wpAny_bind (wpAny_field hos hds (x:=vl) rfl (wpAny_bind (wpAny_listPart pl ?_)))
 refine wpAny_bind (wpAny_field hos hds (x:=vu) rfl (wpAny_bind (wpAny_listPart pu (wpAny_pure ?_))))
 dsimp only
 rw [if_neg (by unfold Builtin.List.listSameRef; simpa using hne)]
 unfold Builtin.List.listAllItems
 refine wpAny_bind (wpAny_bind (wpAny_typeOf hTb ?_))
 rw [if_pos (by decide)]
 refine listItems_at hb rfl ?_
 refine wpAny_bind (listItems_at hl rfl ?_)
 refine wpAny_bind (wpAny_of_eq (sliceIndices_raw lo hi none its.toArray.size (by simp)) ?_)
 dsimp only
 obtain ⟨b1,b2,b3⟩:=gO lo hi its.toArray.size
 rw [b3,if_pos (by decide)]
 refine wpAny_bind (wpAny_rule ?_)
 rw [if_neg (by rw [notLongL (by simpa using hz)]; exact Bool.false_ne_true)]
 refine wpAny_bind (listUpdate_at hl rfl (wpAny_bind (wpAny_letGo (wpAny_pure ⟨.none,rfl,wpAny_pure ?_⟩))) (by simp; omega) ?_)
 ·exact h
 ·simp only [Array.size_append,Array.size_extract,List.size_toArray]
  omega
end
section
variable {X:Cx} {o:Expr} {lo hi:Option Expr} {to:TE} {tl th:TO} {pos p2:Pos}
noncomputable def putV (xs ys:List V) (lo hi:Option Int):List V:=xs.take (HT.sIx xs.length 0 lo)++ys++xs.drop (max (HT.sIx xs.length 0 lo) (HT.sIx xs.length xs.length hi))
theorem vB (its new:List Value) (n a b:Nat):∃ m,Obj.mapSeq (fun xs=>xs.extract 0 a++new.toArray++xs.extract b) { cls:=.type "list",data:=.seq its.toArray n }={ cls:=.type "list",data:=.seq (its.take a++new++its.drop b).toArray m }:=by
 have e:its.toArray.extract 0 a++new.toArray++its.toArray.extract b=(its.take a++new++its.drop b).toArray:=by
  apply Array.ext'
  simp
  exact List.take_of_length_le (by simp)
 unfold Obj.mapSeq
 simp only [e]
 exact ⟨_,rfl⟩
noncomputable def gCut (to:TE) (tl th:TO):TG:=fun v σ H Q=>to σ H fun x H1=>tl σ H1 fun l H2=>th σ H2 fun u H3=>∃ p q xs ys,x=.ref p/\v=.ref q/\p≠q/\H3 p=some (.lst xs)/\H3 q=some (.lst ys)/\xs.length+ys.length<=sizeLine/\Q σ (upd H3 p (.lst (putV xs ys l u)))
theorem aIa (ho:PE X o to) (hl:PO X lo tl) (hh:PO X hi th)
  (ha:∀ v,assign (.Subscript o (.Slice lo hi none p2) pos) X.env v=(do
   let ov <- holding [v] (eval o X.env)
   let iv <- holding [v,ov] (eval (.Slice lo hi none p2) X.env)
   standAt pos
   holding [v,ov,iv] (setItem ov iv v)
   release [iv,v,ov] []):=by intro _; rfl):PG X (.Subscript o (.Slice lo hi none p2) pos) (gCut to tl th):=by
 intro pins s σ H v u Q I r h
 rw [ha]
 refine wpAny_bind (wpAny_holding (thn (ho pins s σ H _ I h) fun ov s1 ⟨x,H1,I1,r1,q1⟩=>?_))
 refine wpAny_bind (wpAny_holding (wpAny_Slice (thn (hl pins s1 σ H1 _ I1 q1) fun vl s2 ⟨l,H2,I2,pl,q2⟩=>thn (hh pins s2 σ H2 _ I2 q2) fun vu s3 ⟨m,H3,I3,pu,q3⟩=>?_)))
 rw [evalPart_none]
 refine wpAny_pure ?_
 have I4:Inv X pins σ H3 { s3 with heap:=s3.heap.push { cls:=.type "slice",data:=.fields #[vl,vu,.none] } }:=I3.kept (t':=s3.toks) fun b ob q=>Heap.get?_push_of_some _ q
 obtain ⟨p,q,xs,ys,rfl,rfl,hpq,hp,hq,hz,qq⟩:=q3
 cases r1
 cases r
 obtain ⟨its,n,rx,ox,zx⟩:=I4.lst hp
 obtain ⟨new,n',ry,oy,zy⟩:=I4.lst hq
 have lx:=rx.length
 have ly:=ry.length
 obtain ⟨b1,b2,b3⟩:=gO l m its.length
 refine wpAny_bind (wpAny_standAt (wpAny_bind (wpAny_holding (lR ox oy (Heap.IsSliceOf.new ..) pl pu hpq (by omega) ?_))))
 rw [b1,b2]
 obtain ⟨k,hk⟩:=vB its new n (HT.sIx its.length 0 l) (max (HT.sIx its.length 0 l) (HT.sIx its.length its.length m))
 have e1:((HT.sIx its.length 0 l:Nat):Int).toNat=HT.sIx its.length 0 l:=Int.toNat_natCast _
 have e2:(max ((HT.sIx its.length 0 l:Nat):Int) ((HT.sIx its.length its.length m:Nat):Int)).toNat=max (HT.sIx its.length 0 l) (HT.sIx its.length its.length m):=by omega
 rw [e1,e2]
 refine wpAny_release ⟨σ,_,I4.lstUpd (ys:=putV xs ys l m) hp ox hk ?_ ?_ s3.toks,qq⟩
 ·unfold putV
  rw [lx]
  exact ((rx.take _).append ry).append (rx.drop _)
 ·unfold putV
  simp only [List.length_append,List.length_take,List.length_drop]
  omega
end
end L2
namespace EV
open PySem PySem.Spec PyProof.Rows L2
section
variable {X:Cx} {K:PySem.W.Frag} {Z:Zt} {o:Expr} {lo hi:Option Expr} {fo:FE} {fl fh:FO} {pos p2:Pos}
noncomputable def putD (xs ys:List D) (lo hi:Option Int):List D:=xs.take (HT.sIx xs.length 0 lo)++ys++xs.drop (max (HT.sIx xs.length 0 lo) (HT.sIx xs.length xs.length hi))
noncomputable def gCutD (fo:FE) (fl fh:FO):FG:=fun w L M=>(fo L M).bind fun o M1=>(fl L M1).bind fun l M2=>(fh L M2).bind fun h M3=>match o,w with
 | .ref k,.d (.lst ys)=>match M3[k]? with
  | some xs=>if xs.length+ys.length<=16777216 then .ok L (M3.set k (putD xs ys l h)) else .bad
  | none=>.bad
 | _,_=>.bad
theorem aIt (ho:Ev X K Z o fo) (hl:Eo X K Z lo fl) (hh:Eo X K Z hi fh)
  (ha:∀ v,assign (.Subscript o (.Slice lo hi none p2) pos) X.env v=(do
   let ov <- holding [v] (eval o X.env)
   let iv <- holding [v,ov] (eval (.Slice lo hi none p2) X.env)
   standAt pos
   holding [v,ov,iv] (setItem ov iv v)
   release [iv,v,ov] []):=by intro _; rfl):Eg X K Z (.Subscript o (.Slice lo hi none p2) pos) (gCutD fo fl fh):=by
 refine ⟨ho.k,cqG (aIa ho.h hl.h hh.h ha) fun v σ H Q ⟨μ,M,L,w,hr,lr,rx,p⟩=>?_⟩
 refine ⟨μ,M,L,hr,lr,p.bind.imp fun μ1 H1 M1 x e1 hr1 _ p1 vo ro=>?_⟩
 refine ⟨μ1,M1,L,hr1,lr.ext hr.lsts e1,p1.bind.imp fun μ2 H2 M2 l e2 hr2 _ p2=>?_⟩
 refine ⟨μ2,M2,L,hr2,lr.ext hr.lsts (e1.trans e2),p2.bind.imp fun μ3 H3 M3 h e3 hr3 _ p3=>?_⟩
 cases x with
 | d x=>exact p3.elim
 | ref k=>cases w with
  | ref q=>exact p3.elim
  | d z=>cases z with
   | lst ys =>
    simp only at p3
    cases q1:M3[k]? with
    | none=>simp only [q1] at p3; exact p3.elim
    | some xs =>
     simp only [q1] at p3
     split at p3
     ·rename_i hz
      have ro:=ro.ext hr1.lsts (e2.trans e3)
      obtain ⟨a,qa,rfl⟩:=ro
      obtain ⟨a',vs,qa',h1,r1⟩:=hr3.at q1
      rw [qa] at qa'; cases qa'
      have rz:=Rw.ext hr.lsts (e1.trans (e2.trans e3)) rx
      simp only [Rw,Rp] at rz
      obtain ⟨b,us,rfl,h2,hb,r2⟩:=rz
      have hab:a≠b:=fun e=>hb (e▸List.mem_of_getElem? qa)
      refine ⟨a,b,vs,us,rfl,rfl,hab,h1,h2,by rw [sizeLine_eq,<- r1.length,<- r2.length]; exact hz,?_⟩
      refine p3 μ3 _ (bV qa) (hr3.set qa (ds:=putD xs ys l h) ?_) σ ((lr.ext hr.lsts (e1.trans (e2.trans e3))).ext hr3.lsts (bV qa))
      unfold putD putV
      rw [r1.length]
      exact ((r1.take _).append r2).append (r1.drop _)
     ·exact p3.elim
   | _=>exact p3.elim
variable {EX:D->Mm->Prop} {M:Mm} {L:Lc} {QG:Lc->Mm->Prop}
theorem aEo {ys:List D} (h:Okx EX (fo L M) fun x M1=>Okx EX (fl L M1) fun l M2=>Okx EX (fh L M2) fun u M3=>∃ k xs,x=.ref k/\M3[k]?=some xs/\xs.length+ys.length<=16777216/\QG L (M3.set k (putD xs ys l u))):Okx EX (gCutD fo fl fh (.d (.lst ys)) L M) QG :=
 aL (h.mono fun x M1 z=>aL (z.mono fun l M2 z=>aL (z.mono fun u M3 ⟨k,xs,e1,q1,hz,q⟩=>by
  subst e1; simp only [q1]; rw [if_pos hz]; exact aN q)))
end
end EV
namespace L2
open PySem PySem.Spec PyProof.Rows
theorem kY {a b:Int}:Builtin.Range.rangeSize a b (-1)=((a - b).toNat:Nat):=by
 unfold Builtin.Range.rangeSize
 rw [if_neg (by decide)]
 split
 ·rw [show - (-1:Int)=1 from rfl,Int.ediv_one]; omega
 ·omega
theorem zU {a b:Int} (h1 : -(2 ^ 61)<=a) (h2:a < 2 ^ 61) (h3 : -(2 ^ 61)<=b) (h4:b < 2 ^ 61):Builtin.Range.small a b (-1)=true:=by
 unfold Builtin.Range.small
 rw [kY,fits62 (a:=a) (by omega) (by omega),fits62 (a:=b) (by omega) (by omega),fits62 (a := -1) (by decide) (by decide),fits62 (a:=((a - b).toNat:Nat)) (by omega) (by omega),if_neg (by decide),fits62 (a:=b+(-1+1)) (by omega) (by omega)]
 simp
section
variable {X:Cx} {tg:Expr}
theorem uU {pins:List (Addr×Obj)} {σ:St} {H:Hp} {s:Shared} {R:It->Hp->Prop} {E:Value->Shared->Prop} {lo hi:Int} {t u v:Tok} {tk:Nat} (I:Inv X pins σ H s) (h1 : -(2 ^ 61)<=lo) (h2:lo < 2 ^ 61) (h3 : -(2 ^ 61)<=hi) (h4:hi < 2 ^ 61)
  (q:R (ItE2 (lo+1) (lo - hi).toNat) H):wpAny (model X.prog X.w) X.A (pyIter (.ref s.heap.objs.size)) (PIE X pins σ tg R) E { s with heap:=s.heap.push { cls:=.type "range",data:=.fields #[.int lo t,.int hi u,.int (-1) v] },toks:=tk }:=by
 refine wpAny_pyIter_range (IsRange.new ..) (zU h1 h2 h3 h4) ?_
 have I1:Inv X pins σ H { s with heap:=s.heap.push { cls:=.type "range",data:=.fields #[.int lo t,.int hi u,.int (-1) v] },toks:=tk }:=I.kept fun b o e=>Heap.get?_push_of_some _ e
 refine ⟨(s.heap.push { cls:=.type "range",data:=.fields #[.int lo t,.int hi u,.int (-1) v] }).objs.size,[(s.heap.push { cls:=.type "range",data:=.fields #[.int lo t,.int hi u,.int (-1) v] }).objs.size],_,_,H,rfl,
  I1.kept (t':=tk) fun b o e=>Heap.get?_push_of_some _ e,vS _ (lo+1) (lo - hi).toNat,?_,fun b hb=>?_,q⟩
 ·have e1:lo+1 - 1+((0:Nat):Int)*(-1)=lo:=by omega
  have e2:(((lo - hi).toNat:Nat):Int) - ((0:Nat):Int)=Builtin.Range.rangeSize lo hi (-1):=by rw [kY]; omega
  show IsRangeIter _ _ (lo+1 - 1+((0:Nat):Int)*(-1)) ((((lo - hi).toNat:Nat):Int) - ((0:Nat):Int)) (-1)
  rw [e1,e2]
  exact Heap.get?_push_size _ rfl
 ·have e:b=(s.heap.push { cls:=.type "range",data:=.fields #[.int lo t,.int hi u,.int (-1) v] }).objs.size:=by simpa using hb
  subst e
  exact I1.fpOk (Nat.le_refl _) (I1.hok.fresh (Nat.le_refl _))
noncomputable def iRng3 (ta:TA):TI:=fun σ H R=>ta σ H fun vs H1=>∃ i j:Int,vs=[.int i,.int j,.int (-1)]/\(-(2 ^ 61)<=i/\i < 2 ^ 61 /\ -(2 ^ 61)<=j/\j < 2 ^ 61)/\R (ItE2 (i+1) (i - j).toNat) H1
theorem yQ {a b c:Expr} {ta:TA} {p pos:Pos} (hg:Gl X "range") (hm:X.mg "range"=none) (ha:PA X [a,b,c] ta) (hs:starEach [a,b,c] X.env=(false,eval a X.env)::starEach [b,c] X.env:=by rfl) (hs2:((backTo pos (starEach [b,c] X.env)).any fun x=>x.fst)=false:=by rfl) :
  PI X tg (.Call (.Name "range" p) [a,b,c] [] pos) (iRng3 ta):=by
 intro pins s σ H R I h
 refine Call_ (gL I hg hm boot_range (PyProof.Rows.callWith_type1 (thn (ha pos pins s σ H _ I h) fun us s1 ⟨vs,H1,I1,r1,q1⟩=>?_) hs hs2))
 obtain ⟨i,j,e,⟨q1,q2,q3,q4⟩,q⟩:=q1
 subst e
 cases r1 with
 | cons r rr =>
  cases rr with
  | cons r' rr =>
   cases rr with
   | cons r'' rr =>
    cases rr
    obtain ⟨t,rfl⟩:=r
    obtain ⟨t',rfl⟩:=r'
    obtain ⟨t'',rfl⟩:=r''
    exact call_range_3 (by decide) (uU I1 q1 q2 q3 q4 q) (.inl (by unfold Builtin.divisionGoesByPylong; rw [Bool.and_eq_false_iff]; exact .inl (by decide)))
end
end L2
namespace EV
open PySem PySem.Spec PyProof.Rows L2
variable {EX:D->Mm->Prop}
section
variable {X:Cx} {K:PySem.W.Frag} {Z:Zt} {a b c tg:Expr} {pos:Pos} {fa fb fc:FE}
noncomputable def iR3 (fa fb fc:FE):FI:=fun L M=>(fa L M).bind fun w M1=>(fb L M1).bind fun u M2=>(fc L M2).bind fun z M3=>match w,u,z with
 | .d (.int i),.d (.int j),.d (.int (-1))=>if -2305843009213693952<=i/\i < 2305843009213693952 /\ -2305843009213693952<=j/\j < 2305843009213693952 then .ok ⟨downE (i+1) (i - j).toNat,none⟩ M3 else .bad
 | _,_,_=>.bad
theorem qH {p:Pos} (hm:X.mg "range"=none) (ha:Ev X K Z a fa) (hb:Ev X K Z b fb) (hc:Ev X K Z c fc) (hg:Gl X "range":=by rfl) (hs:starEach [a,b,c] X.env=(false,eval a X.env)::starEach [b,c] X.env:=by rfl) (hs1:starEach [b,c] X.env=(false,eval b X.env)::starEach [c] X.env:=by rfl) (hs3:starEach [c] X.env=(false,eval c X.env)::starEach [] X.env:=by rfl) (hs2:((backTo pos (starEach [b,c] X.env)).any fun x=>x.fst)=false:=by rfl) :
  Ei X K Z tg (.Call (.Name "range" p) [a,b,c] [] pos) (iR3 fa fb fc):=by
 refine ⟨ha.k,cqI (yQ (tg:=tg) (p:=p) (pos:=pos) hg hm (cY ha.h (cY hb.h (cY hc.h fN hs3) hs1) hs) hs hs2) ?_⟩
 rintro σ H R ⟨μ,M,L,hr,lr,p⟩
 refine ⟨μ,M,L,hr,lr,p.bind.imp fun μ1 H1 M1 w e1 hr1 _ p1 v rw'=>?_⟩
 refine ⟨μ1,M1,L,hr1,lr.ext hr.lsts e1,p1.bind.imp fun μ2 H2 M2 u e2 hr2 _ p2 v2 ru=>?_⟩
 refine ⟨μ2,M2,L,hr2,lr.ext hr.lsts (e1.trans e2),p2.bind.imp fun μ3 H3 M3 z e3 hr3 _ p3 v3 rz=>?_⟩
 have rw':=rw'.ext hr1.lsts (e2.trans e3)
 have ru:=ru.ext hr2.lsts e3
 split at p3
 ·skip
  split at p3
  ·rename_i hz
   simp only [Rw,Rp] at rw' ru rz
   subst rw' ru rz
   exact ⟨_,_,rfl,⟨by simpa using hz.1,by simpa using hz.2.1,by simpa using hz.2.2.1,by simpa using hz.2.2.2⟩,p3 μ3 H3 .refl hr3 _ aEa⟩
  ·exact p3.elim
 ·exact p3.elim
end
section
variable {L:Lc} {M:Mm} {fa fb fc:FE}
theorem aHu {QI:Src->Mm->Prop} (h:Okx EX (fa L M) fun x M1=>∃ i:Int,x=.d (.int i)/\Okx EX (fb L M1) fun y M2=>∃ j:Int,y=.d (.int j)/\Okx EX (fc L M2) fun z M3=>z=.d (.int (-1))/\(-2305843009213693952<=i/\i < 2305843009213693952 /\ -2305843009213693952<=j/\j < 2305843009213693952)/\QI ⟨downE (i+1) (i - j).toNat,none⟩ M3):Okx EX (iR3 fa fb fc L M) QI :=
 aL (h.mono fun x M1 ⟨i,e,h2⟩=>aL (h2.mono fun y M2 ⟨j,e',h3⟩=>aL (h3.mono fun z M3 ⟨e'',hz,q⟩=>by subst e; subst e'; subst e''; simp only; rw [if_pos hz]; exact aN q)))
end
end EV
namespace HT
open PySem PyProof.Rows
noncomputable def RcLt (A:Around) (s:Shared) (v w:Value) (r:Bool):Prop:=∀ (prog:Program) (wo:World) (E:Value->Shared->Prop) (Q:Value->Shared->Prop),Q (.bool r) s->wpAny (model prog wo) A (richCompare .Lt v w) Q E s
inductive LtOk (A:Around) (s:Shared):List Value->List Value->Bool->Prop where
 | nn:LtOk A s [] [] false
 | nc {w ws}:LtOk A s [] (w::ws) true
 | cn {v vs}:LtOk A s (v::vs) [] false
 | eq {v w vs ws r}:SeqAt.EqAt A s v w true->LtOk A s vs ws r->LtOk A s (v::vs) (w::ws) r
 | ne {v w vs ws r}:SeqAt.EqAt A s v w false->RcLt A s v w r->LtOk A s (v::vs) (w::ws) r
section
open PySem.SeqAt
open PySem.AutoSeq1 (wpAny_loadPart')
open PySem.MeetsSeq PySem.MeetsSeq2 PySem.MeetsSeq3
theorem qV (l b:Addr) (items items2:Array Value) (n n2:Nat) (dd dd2:Option Addr) (sl sl2:Array (Option Value)) (r:Bool) :
  Meets (Builtin.«tuple.__lt__» ⟨[.ref l,.ref b],[]⟩)
   (fun A R s=>s.heap.get? l=some { cls:=.type "tuple",dict:=dd,data:=.seq items n,slots:=sl }/\s.heap.get? b=some { cls:=.type "tuple",dict:=dd2,data:=.seq items2 n2,slots:=sl2 } /\
    LtOk A.in1 s items.toList items2.toList r/\R (.ok (.ret (.bool r))) s) :=
 .of_wp fun prog w A R s h=>by
  obtain ⟨hp,g,d,tk,os⟩:=s; obtain ⟨hl,hb,hok,h⟩:=h
  have f2:=AutoSeq1.sub_tuple_tuple
  wp_walk using wpAny_loadPart' hl,wpAny_loadPart' hb,wpAny_forIn_list _ (fun rest b s'=>b.1=none/\s'=⟨hp,g,d,tk,os⟩/\∃ (vs ws:List Value),rest=vs.zip ws /\
   vs.length+items2.size=ws.length+items.size/\LtOk A.in1 ⟨hp,g,d,tk,os⟩ vs ws r) _
  case turn =>
   rintro ⟨y,x⟩ rest b s' ⟨hb',rfl,vs,ws,hz,hlen,hR⟩
   cases hR with
   | nn=>cases hz
   | nc=>cases hz
   | cn=>cases hz
   | eq he ht =>
    rw [List.zip_cons_cons] at hz
    injection hz with hyx hrest
    injection hyx with hy hx
    subst hy hx
    simp only [List.length_cons] at hlen
    refine wpAny_bind (he prog w _ _ ?_)
    wp_walk
    exact ⟨rfl,rfl,_,_,hrest,by omega,ht⟩
   | ne he ht =>
    rw [List.zip_cons_cons] at hz
    injection hz with hyx hrest
    injection hyx with hy hx
    subst hy hx
    refine wpAny_bind (he prog w _ _ ?_)
    have hri:=ht prog w
    wp_walk using hri
    exact ⟨_,rfl,by simpa using h⟩
  case fin =>
   rintro ⟨b1,b2⟩ s' ⟨hb',rfl,vs,ws,hz,hlen,hR⟩
   simp only at hb'
   subst hb'
   have hv:r=decide (items.size < items2.size):=by
    cases hR with
    | nn=>simp only [List.length_nil] at hlen; exact (decide_eq_false (by omega)).symm
    | nc=>simp only [List.length_nil,List.length_cons] at hlen; exact (decide_eq_true (by omega)).symm
    | cn=>simp only [List.length_nil,List.length_cons] at hlen; exact (decide_eq_false (by omega)).symm
    | eq he ht=>rw [List.zip_cons_cons] at hz; cases hz
    | ne he ht=>rw [List.zip_cons_cons] at hz; cases hz
   rw [hv] at h
   wp_walk
   exact ⟨_,rfl,by simpa [Builtin.Tuple.tupleCompareSizes] using h⟩
  case h =>
   exact ⟨rfl,rfl,items.toList,items2.toList,rfl,by simp; omega,hok⟩
end
section
variable {prog:Program} {w:World} {A:Around} {E:Value->Shared->Prop} {s:Shared}
theorem lt_tupGen {l b:Addr} {items items2:Array Value} {r:Bool} {Q:Value->Shared->Prop} (hl:IsTup s.heap l items) (hb:IsTup s.heap b items2) (hok:LtOk A.in1 s items.toList items2.toList r)
  (hu:A.units < cLine) (h:Q (.bool r) s):wpAny (model prog w) A (compareOp .Lt (.ref l) (.ref b)) Q E s:=by
 obtain ⟨⟨cls,dd,data,sl⟩,ho,hc,n,hd⟩:=id hl
 obtain ⟨⟨cls2,dd2,data2,sl2⟩,ho2,hc2,n2,hd2⟩:=id hb
 simp only at hc hd hc2 hd2
 subst hc hd hc2 hd2
 exact richCompare_meets_room (op:=.Lt) ⟨_,ho,rfl⟩ ⟨_,ho2,rfl⟩ PySem.F.slot_tuple_lt PySem.F.entry_tuple_lt (PySem.F.args_tuple_lt_2 _ _) (qV l b items items2 n n2 dd dd2 sl sl2 r)
  ⟨ho,ho2,hok,show Value.bool r≠Value.notImplemented/\Q (.bool r) s from ⟨(fun x=>nomatch x),h⟩⟩ hu
end
end HT
namespace EV
open PySem PySem.Spec PyProof.Rows L2
section
variable {X:Cx} {K:PySem.W.Frag} {Z:Zt}
noncomputable def ltE (x y:D):Option Bool:=match x,y with
 | .int a,.int b=>some (decide (a < b))
 | .bl a,.bl b=>some (decide (b2i a < b2i b))
 | .tup xs,.tup ys=>match intsOf xs,intsOf ys with
  | some ns,some ms=>some (HT.lexLt ns ms)
  | _,_=>none
 | _,_=>none
noncomputable def ltT:List D->List D->Option Bool
 | [],[]=>some false
 | [],_::_=>some true
 | _::_,[]=>some false
 | x::xs,y::ys=>if eqD x y=true then ltT xs ys else ltE x y
theorem aIk {pins:List (Addr×Obj)} {σ:St} {μ:List Addr} {H:Hp} {s:Shared} {A:Around} (I:L2.Inv X pins σ H s) (hk:X.K=K) (hu:A.units < cLine) {x y:D} {v u:V} {v' u':Value} {r:Bool} (hx:Rp K μ H x v) (hy:Rp K μ H y u) (qx:RelV v v') (qy:RelV u u') (h:ltE x y=some r):HT.RcLt A s v' u' r:=by
 unfold ltE at h
 split at h
 ·simp only [Rp] at hx hy
  subst hx hy
  obtain ⟨t,rfl⟩:=qx
  obtain ⟨t',rfl⟩:=qy
  cases h
  exact fun prog w E Q q=>HT.rcLt_int A s _ _ _ _ prog w E Q q
 ·simp only [Rp] at hx hy
  subst hx hy
  cases qx
  cases qy
  cases h
  exact fun prog w E Q q=>(lt_bool q:wpAny (model prog w) A (compareOp .Lt _ _) Q E s)
 ·rename_i xs ys
  split at h
  ·rename_i ns ms q1 q2
   cases h
   have e1:=iO q1
   have e2:=iO q2
   subst e1 e2
   simp only [Rp] at hx hy
   obtain ⟨a,vs,rfl,h1,r1⟩:=hx
   obtain ⟨b,us,rfl,h2,r2⟩:=hy
   have e1:=lG r1
   have e2:=lG r2
   subst e1 e2
   cases qx
   cases qy
   obtain ⟨its,t1,p1,_⟩:=I.tuple (SqT.of h1)
   obtain ⟨its2,t2,p2,_⟩:=I.tuple (SqT.of h2)
   exact fun prog w E Q q=>(HT.lt_tupInts p1 p2 (by simpa using gB t1) (by simpa using gB t2) hu q:wpAny (model prog w) A (compareOp .Lt _ _) Q E s)
  ·cases h
 ·cases h
theorem aAq {pins:List (Addr×Obj)} {σ:St} {μ:List Addr} {H:Hp} {s:Shared} {A:Around} {r:Bool} (I:L2.Inv X pins σ H s) (hk:X.K=K) (hu:A.units+60 < cLine):∀ {xs ys:List D} {vs us:List V} {vs' us':List Value},Rps K μ H xs vs->Rps K μ H ys us->Vals vs vs'->Vals us us'->deps xs<=50->deps ys<=50->ltT xs ys=some r->HT.LtOk A s vs' us' r
 | [],[],_,_,_,_,hx,hy,qx,qy,_,_,h=>by
  simp only [Rps] at hx hy; subst hx hy; cases qx; cases qy; cases h; exact .nn
 | [],_::_,_,_,_,_,hx,hy,qx,qy,_,_,h=>by
  simp only [Rps] at hx hy; obtain ⟨_,_,rfl,_,_⟩:=hy; subst hx; cases qx; cases qy; cases h; exact .nc
 | _::_,[],_,_,_,_,hx,hy,qx,qy,_,_,h=>by
  simp only [Rps] at hx hy; obtain ⟨_,_,rfl,_,_⟩:=hx; subst hy; cases qx; cases qy; cases h; exact .cn
 | x::xs,y::ys,_,_,_,_,hx,hy,qx,qy,mx,my,h=>by
  simp only [Rps] at hx hy
  obtain ⟨v,vr,rfl,e1,e2⟩:=hx
  obtain ⟨u,ur,rfl,f1,f2⟩:=hy
  simp only [deps] at mx my
  cases qx with
  | cons q1 q2 =>
   cases qy with
   | cons p1 p2 =>
    have he:=aBc I hk x A y v u _ _ (by omega) (by omega) (by omega) e1 f1 q1 p1
    simp only [ltT] at h
    split at h
    ·rename_i hq
     rw [hq] at he
     exact .eq he (aAq I hk hu e2 f2 q2 p2 (by omega) (by omega) h)
    ·rename_i hq
     rw [Bool.not_eq_true] at hq
     rw [hq] at he
     exact .ne he (aIk I hk (by omega) e1 f1 q1 p1 h)
noncomputable def rLtN (K:PySem.W.Frag):R2:=fun v u H Q=>∃ a b vs us μ xs ys r,v=.ref a/\u=.ref b/\SqT K H a vs/\SqT K H b us/\Rps K μ H xs vs/\Rps K μ H ys us/\(deps xs<=50/\deps ys<=50)/\ltT xs ys=some r/\Q (.bl r) H
theorem aJx (hu:X.A.units+101 < cLine):OpR X (compareOp .Lt) (rLtN X.K):=by
 intro pins s σ H x y v u Q I rx ry h
 obtain ⟨a,b,vs,us,μ,xs,ys,r,rfl,rfl,h1,h2,r1,r2,m,hl,q⟩:=h
 cases rx
 cases ry
 obtain ⟨its,t1,p1,_⟩:=I.tuple h1
 obtain ⟨its2,t2,p2,_⟩:=I.tuple h2
 refine HT.lt_tupGen p1 p2 (aAq I rfl (by show X.A.units+1+60 < cLine; omega) r1 r2 (by simpa using t1) (by simpa using t2) m.1 m.2 hl) (by omega) ⟨.bl r,H,I,rfl,q⟩
noncomputable def pLtN (x y:W) (M:Mm):Oc W:=match x,y with
 | .d (.tup xs),.d (.tup ys)=>if deps xs<=50/\deps ys<=50 then (match ltT xs ys with
  | some r=>okD (.bl r) M
  | none=>.bad) else .bad
 | x,y=>pLt x y M
theorem opLtN (hu:X.A.units+101 < cLine):OpG X K Z (compareOp .Lt) pLtN:=fun hk=>by
 obtain ⟨r,h1,h2⟩:=(opLt (X:=X) (K:=K) (Z:=Z)) hk
 refine ⟨_,OpR.or h1 (hk▸aJx hu),?_⟩
 intro μ H M x y v u Q hr rx ry p
 by_cases hxy:∃ xs ys,x=.d (.tup xs)/\y=.d (.tup ys)
 ·obtain ⟨xs,ys,rfl,rfl⟩:=hxy
  simp only [pLtN] at p
  split at p
  ·rename_i hz
   cases q1:ltT xs ys with
   | none=>simp only [q1] at p; exact p.elim
   | some r =>
    simp only [q1] at p
    simp only [Rw,Rp] at rx ry
    obtain ⟨a,vs,rfl,h3,r3⟩:=rx
    obtain ⟨b,us,rfl,h4,r4⟩:=ry
    exact .inr ⟨a,b,vs,us,μ,xs,ys,r,rfl,rfl,SqT.of h3,SqT.of h4,r3,r4,hz,q1,p μ H .refl hr _ (by simp [Rw,Rp])⟩
  ·exact p.elim
 ·refine .inl (h2 μ H M x y v u Q hr rx ry ?_)
  have:pLtN x y M=pLt x y M:=by
   unfold pLtN
   split
   ·exact (hxy ⟨_,_,rfl,rfl⟩).elim
   ·rfl
  rwa [this] at p
variable {EX:D->Mm->Prop} {M:Mm} {Q:W->Mm->Prop}
theorem aHn {xs ys:List D} {r:Bool} (h1:deps xs<=50) (h2:deps ys<=50) (h:ltT xs ys=some r) (q:Q (.d (.bl r)) M):Okx EX (pLtN (.d (.tup xs)) (.d (.tup ys)) M) Q:=by
 unfold pLtN
 simp only
 rw [if_pos ⟨h1,h2⟩]
 simp only [h]
 exact aN q
end
end EV
namespace K64
open PySem L2 EV
noncomputable def top (i:Nat):Stmt:=PySem.Challenge.pw_lentshelf_k64_whole_moved_about.main.body.getD i (.Pass ⟨0,0,0,0⟩)
noncomputable abbrev cQ:Stmt:=top 4
noncomputable abbrev bY:Stmt:=top 5
noncomputable abbrev fM:Stmt:=top 6
noncomputable abbrev eI:Stmt:=top 8
noncomputable abbrev jD:Stmt:=top 9
noncomputable abbrev bJ:Stmt:=top 10
noncomputable abbrev cS:Stmt:=top 11
noncomputable abbrev cM:Stmt:=top 12
noncomputable abbrev dM:Stmt:=top 13
noncomputable abbrev fK:Stmt:=top 14
noncomputable abbrev cV:Stmt:=top 15
noncomputable abbrev pC:Stmt:=top 16
noncomputable abbrev cD:Stmt:=top 17
noncomputable abbrev cB:Stmt:=top 18
noncomputable abbrev fO:Stmt:=top 19
noncomputable abbrev iY:Stmt:=top 21
noncomputable abbrev fJ:Stmt:=top 22
noncomputable abbrev bO:Stmt:=top 23
noncomputable abbrev eG:Stmt:=top 25
noncomputable abbrev dN:Stmt:=top 26
noncomputable abbrev jE:Stmt:=top 27
noncomputable abbrev dH:Stmt:=top 28
noncomputable abbrev cA:Stmt:=top 29
noncomputable abbrev dJ:Stmt:=top 30
noncomputable abbrev cF:Stmt:=top 31
noncomputable abbrev cP:Stmt:=top 32
noncomputable abbrev bS:Stmt:=top 33
noncomputable abbrev bG:Stmt:=top 34
noncomputable abbrev bK:Stmt:=top 35
noncomputable abbrev dL:Stmt:=top 36
noncomputable abbrev bZ:Stmt:=top 37
noncomputable abbrev bH:Stmt:=top 38
noncomputable abbrev cO:Stmt:=top 39
noncomputable abbrev cG:Stmt:=top 40
noncomputable abbrev cR:Stmt:=top 41
noncomputable abbrev cN:Stmt:=top 42
noncomputable abbrev eJ:Stmt:=top 43
noncomputable abbrev iW:Stmt:=top 44
noncomputable def b_hangs_on:FS :=
 (sSeq (sIf (EV.tB (e2 pEq (e2 pIx (eV 0) (eC (.int 0))) (eC (.str "scale"))))
  (sRt (eC (.bl false)))
  sNil)
  (sSeq (sIf (EV.tAnd (EV.tB (e2 pEq (e2 pIx (eV 1) (eC (.int 0))) (eC (.str "scale")))) (EV.tB (e2 pEq (e2 pIx (eV 1) (eC (.int 1))) (e2 pIx (eV 0) (eC (.int 1))))))
  (sRt (eC (.bl true)))
  sNil)
  (sRt (e2 pIn (e2 pIx (eV 1) (eC (.int 1))) (e2 pIx (eV 0) (eC (.int 4)))))))
noncomputable def eB:Fn:=fnD 2 2 b_hangs_on
theorem jW {ws:List W} {M:Mm} (h:ws.length≠2):eB ws M=.bad:=if_neg h
noncomputable def b_go_past:FS :=
 (sRt (eAnd (e1 pNot (eA eB (aCons (eV 0) (aCons (eV 1) aNil)))) (e1 pNot (eA eB (aCons (eV 1) (aCons (eV 0) aNil))))))
noncomputable def eY:Fn:=fnD 2 2 b_go_past
theorem mM {ws:List W} {M:Mm} (h:ws.length≠2):eY ws M=.bad:=if_neg h
noncomputable def b_kind:FS :=
 (sSeq (sIf (EV.tB (e2 pEq (e2 pIx (eV 0) (eC (.int 0))) (eC (.str "scale"))))
  (sRt (eA mkT (aCons (eC (.str "scale")) (aCons (e2 pIx (eV 0) (eC (.int 1))) aNil))))
  sNil)
  (sRt (eA mkT (aCons (eC (.str "add")) (aCons (e2 pIx (eV 0) (eC (.int 1))) (aCons (e2 pIx (eV 0) (eC (.int 3))) (aCons (e2 pIx (eV 0) (eC (.int 4))) aNil)))))))
noncomputable def gG:Fn:=fnD 1 1 b_kind
theorem kL {ws:List W} {M:Mm} (h:ws.length≠1):gG ws M=.bad:=if_neg h
noncomputable def b_one_of:FS :=
 (sSeq (sIf (EV.tB (e2 pEq (e2 pIx (eV 1) (eC (.int 0))) (eC (.str "scale"))))
  (sRt (eA mkT (aCons (eC (.str "scale")) (aCons (e2 pIx (eV 1) (eC (.int 1))) (aCons (e2 pMod (e2 pMulA (e2 pIx (eV 1) (eC (.int 2))) (e2 pIx (eV 2) (eC (.int 2)))) (eV 0)) aNil)))))
  sNil)
  (sRt (eA mkT (aCons (eC (.str "add")) (aCons (e2 pIx (eV 1) (eC (.int 1))) (aCons (e2 pMod (e2 pAdd (e2 pIx (eV 1) (eC (.int 2))) (e2 pIx (eV 2) (eC (.int 2)))) (eV 0)) (aCons (e2 pIx (eV 1) (eC (.int 3))) (aCons (e2 pIx (eV 1) (eC (.int 4))) aNil))))))))
noncomputable def fP:Fn:=fnD 3 3 b_one_of
theorem vK {ws:List W} {M:Mm} (h:ws.length≠3):fP ws M=.bad:=if_neg h
noncomputable def b_do_move:FS :=
 (sSeq (sAs (eV 2) (gT 2 (gsCons (gN 3) (gsCons (gN 4) gsNil))))
  (sIf (EV.tB (e2 pEq (eV 3) (eC (.str "past"))))
  (sAs (eA mkT (aCons (e2 pIx (eV 1) (e2 pAdd (eV 4) (eC (.int 1)))) (aCons (e2 pIx (eV 1) (eV 4)) aNil))) (gT 2 (gsCons (gS (eV 1) (eV 4)) (gsCons (gS (eV 1) (e2 pAdd (eV 4) (eC (.int 1)))) gsNil))))
  (sIf (EV.tB (e2 pEq (eV 3) (eC (.str "one"))))
  (sAs (eA mkL (aCons (eA fP (aCons (eV 0) (aCons (e2 pIx (eV 1) (eV 4)) (aCons (e2 pIx (eV 1) (e2 pAdd (eV 4) (eC (.int 1)))) aNil)))) aNil)) (gCutD (eV 1) (oAt (eV 4)) (oAt (e2 pAdd (eV 4) (eC (.int 2))))))
  (sDel (eV 1) (eV 4)))))
noncomputable def cE:Fn:=fnD 3 5 b_do_move
theorem mG {ws:List W} {M:Mm} (h:ws.length≠3):cE ws M=.bad:=if_neg h
noncomputable def b_is_idle:FS :=
 (sRt (e2 pEq (e2 pIx (eV 0) (eC (.int 2))) (eIf (EV.tB (e2 pEq (e2 pIx (eV 0) (eC (.int 0))) (eC (.str "scale")))) (eC (.int 1)) (eC (.int 0)))))
noncomputable def dR:Fn:=fnD 1 1 b_is_idle
theorem hV {ws:List W} {M:Mm} (h:ws.length≠1):dR ws M=.bad:=if_neg h
noncomputable def b_can_be_done:FS :=
 (sSeq (sAs (eV 1) (gT 2 (gsCons (gN 2) (gsCons (gN 3) gsNil))))
  (sSeq (sIf (EV.tB (e2 pEq (eV 2) (eC (.str "out"))))
  (sRt (eAnd (e3c pLe pLt (eC (.int 0)) (eV 3) (eA cLen (aCons (eV 0) aNil))) (eA dR (aCons (e2 pIx (eV 0) (eV 3)) aNil))))
  sNil)
  (sSeq (sIf (EV.tNot (EV.tB (e3c pLe pLt (eC (.int 0)) (eV 3) (e2 pSub (eA cLen (aCons (eV 0) aNil)) (eC (.int 1))))))
  (sRt (eC (.bl false)))
  sNil)
  (sSeq (sIf (EV.tB (e2 pEq (eV 2) (eC (.str "past"))))
  (sRt (eA eY (aCons (e2 pIx (eV 0) (eV 3)) (aCons (e2 pIx (eV 0) (e2 pAdd (eV 3) (eC (.int 1)))) aNil))))
  sNil)
  (sRt (e2 pEq (eA gG (aCons (e2 pIx (eV 0) (eV 3)) aNil)) (eA gG (aCons (e2 pIx (eV 0) (e2 pAdd (eV 3) (eC (.int 1)))) aNil))))))))
noncomputable def cC:Fn:=fnD 2 4 b_can_be_done
theorem mT {ws:List W} {M:Mm} (h:ws.length≠2):cC ws M=.bad:=if_neg h
noncomputable def b_led:FS :=
 (sSeq (sAs (eV 0) (gT 4 (gsCons (gN 2) (gsCons (gN 3) (gsCons (gN 4) (gsCons (gN 5) gsNil))))))
  (sSeq (sAs (eA cListR (aCons (eV 5) aNil)) (gN 6))
  (sSeq (sFor (iEnum (eV 1)) (gT 2 (gsCons (gN 7) (gsCons (gN 8) gsNil)))
  (sSeq (sIf (EV.tNot (tV (eA cC (aCons (eV 6) (aCons (eV 8) aNil)))))
  sBad
  sNil)
  (sEx (eA cE (aCons (eV 2) (aCons (eV 6) (aCons (eV 8) aNil)))))))
  (sRt (eA mkT (aCons (eV 2) (aCons (eV 3) (aCons (eV 4) (aCons (eA cTup (aCons (eV 6) aNil)) aNil)))))))))
noncomputable def tU:Fn:=fnD 2 9 b_led
theorem aFn {ws:List W} {M:Mm} (h:ws.length≠2):tU ws M=.bad:=if_neg h
noncomputable def b_rank:FS :=
 (sRt (e2 pAdd (eA mkT (aCons (e2 pIx (eV 0) (eC (.int 1))) (aCons (e2 pEq (e2 pIx (eV 0) (eC (.int 0))) (eC (.str "scale"))) aNil))) (eSl (eV 0) (oAt (eC (.int 3))) oNo)))
noncomputable def jH:Fn:=fnD 1 1 b_rank
theorem tK {ws:List W} {M:Mm} (h:ws.length≠1):jH ws M=.bad:=if_neg h
noncomputable def b_where_to:FS :=
 (sSeq (sAs (e2 pIx (eV 0) (eV 1)) (gN 2))
  (sSeq (sAs (eV 1) (gN 3))
  (sSeq (sFor (iR3 (e2 pSub (eV 1) (eC (.int 1))) (e1 pNeg (eC (.int 1))) (e1 pNeg (eC (.int 1)))) (gN 4)
  (sSeq (sIf (EV.tB (e2 pEq (eA gG (aCons (e2 pIx (eV 0) (eV 4)) aNil)) (eA gG (aCons (eV 2) aNil))))
  (sRt (eA mkT (aCons (eV 4) (aCons (eV 1) aNil))))
  sNil)
  (sSeq (sIf (EV.tNot (tV (eA eY (aCons (e2 pIx (eV 0) (eV 4)) (aCons (eV 2) aNil)))))
  (sRt (eA mkT (aCons (eC .non) (aCons (eV 3) aNil))))
  sNil)
  (sIf (EV.tB (e2 pLtN (eA jH (aCons (eV 2) aNil)) (eA jH (aCons (e2 pIx (eV 0) (eV 4)) aNil))))
  (sAs (eV 4) (gN 3))
  sNil))))
  (sRt (eA mkT (aCons (eC .non) (aCons (eV 3) aNil)))))))
noncomputable def eZ:Fn:=fnD 2 5 b_where_to
theorem qL {ws:List W} {M:Mm} (h:ws.length≠2):eZ ws M=.bad:=if_neg h
noncomputable def b_go:FS :=
 (sSeq (sEx (eA cE (aCons (eV 0) (aCons (eV 1) (aCons (eV 2) aNil)))))
  (sEx (eM1 pAppend (eV 3) (eV 2))))
noncomputable def uQ:Fn:=fnD 4 4 b_go
theorem qN {ws:List W} {M:Mm} (h:ws.length≠4):uQ ws M=.bad:=if_neg h
noncomputable def b_go_ahead:FS :=
 (sFor (iR3 (e2 pSub (eV 2) (eC (.int 1))) (e2 pSub (eV 3) (eC (.int 1))) (e1 pNeg (eC (.int 1)))) (gN 5)
  (sEx (eA uQ (aCons (eV 0) (aCons (eV 1) (aCons (eA mkT (aCons (eC (.str "past")) (aCons (eV 5) aNil))) (aCons (eV 4) aNil)))))))
noncomputable def eD:Fn:=fnD 5 6 b_go_ahead
theorem kQ {ws:List W} {M:Mm} (h:ws.length≠5):eD ws M=.bad:=if_neg h
noncomputable def b_take_in:FS :=
 (sSeq (sIf (tV (eA dR (aCons (e2 pIx (eV 1) (eV 2)) aNil)))
  (sSeq (sEx (eA uQ (aCons (eV 0) (aCons (eV 1) (aCons (eA mkT (aCons (eC (.str "out")) (aCons (eV 2) aNil))) (aCons (eV 3) aNil))))))
  (sRt (eV 2)))
  sNil)
  (sSeq (sAs (eA eZ (aCons (eV 1) (aCons (eV 2) aNil))) (gT 2 (gsCons (gN 4) (gsCons (gN 5) gsNil))))
  (sSeq (sIf (EV.tB (e2 pIs (eV 4) (eC .non)))
  (sSeq (sEx (eA eD (aCons (eV 0) (aCons (eV 1) (aCons (eV 2) (aCons (eV 5) (aCons (eV 3) aNil)))))))
  (sRt (e2 pAdd (eV 2) (eC (.int 1)))))
  sNil)
  (sSeq (sEx (eA eD (aCons (eV 0) (aCons (eV 1) (aCons (eV 2) (aCons (e2 pAdd (eV 4) (eC (.int 1))) (aCons (eV 3) aNil)))))))
  (sSeq (sEx (eA uQ (aCons (eV 0) (aCons (eV 1) (aCons (eA mkT (aCons (eC (.str "one")) (aCons (eV 4) aNil))) (aCons (eV 3) aNil))))))
  (sSeq (sIf (tV (eA dR (aCons (e2 pIx (eV 1) (eV 4)) aNil)))
  (sSeq (sEx (eA uQ (aCons (eV 0) (aCons (eV 1) (aCons (eA mkT (aCons (eC (.str "out")) (aCons (eV 4) aNil))) (aCons (eV 3) aNil))))))
  (sRt (e2 pSub (eV 2) (eC (.int 1)))))
  sNil)
  (sRt (eV 2))))))))
noncomputable def fZ:Fn:=fnD 4 6 b_take_in
theorem tM {ws:List W} {M:Mm} (h:ws.length≠4):fZ ws M=.bad:=if_neg h
noncomputable def b_road:FS :=
 (sSeq (sAs (e2 pIx (eV 0) (eC (.int 0))) (gN 1))
  (sSeq (sAs (eA cListR (aCons (e2 pIx (eV 0) (eC (.int 3))) aNil)) (gN 2))
  (sSeq (sAs (eA mkR aNil) (gN 3))
  (sSeq (sAs (eC (.int 0)) (gN 4))
  (sSeq (whileD (EV.tB (e2 pLt (eV 4) (eA cLen (aCons (eV 2) aNil))))
  (sAs (eA fZ (aCons (eV 1) (aCons (eV 2) (aCons (eV 4) (aCons (eV 3) aNil))))) (gN 4)) NW)
  (sRt (eA cTup (aCons (eV 3) aNil))))))))
noncomputable def oG:Fn:=fnD 1 5 b_road
theorem aBa {ws:List W} {M:Mm} (h:ws.length≠1):oG ws M=.bad:=if_neg h
noncomputable def b_short:FS :=
 (sRt (eA tU (aCons (eV 0) (aCons (eA oG (aCons (eV 0) aNil)) aNil))))
noncomputable def iP:Fn:=fnD 1 1 b_short
theorem pQ {ws:List W} {M:Mm} (h:ws.length≠1):iP ws M=.bad:=if_neg h
noncomputable def b_product_of:FS :=
 (sSeq (sAs (eC (.int 1)) (gN 2))
  (sSeq (sFor (iE (eV 0)) (gN 3)
  (sAs (e2 pMulA (eV 2) (e2 pIx (eV 1) (eV 3))) (gN 2)))
  (sRt (eV 2))))
noncomputable def dC:Fn:=fnD 2 4 b_product_of
theorem gX {ws:List W} {M:Mm} (h:ws.length≠2):dC ws M=.bad:=if_neg h
noncomputable def b_done:FS :=
 (sSeq (sPar 4 5 (aCons (e2 pIx (eV 1) (eC (.int 1))) (aCons (e2 pIx (eV 1) (eC (.int 2))) aNil)))
  (sSeq (sAs (e2 pIx (eV 3) (eV 4)) (gN 6))
  (sSeq (sIf (EV.tB (e2 pEq (e2 pIx (eV 1) (eC (.int 0))) (eC (.str "scale"))))
  (sAs (e2 pMulA (eV 6) (eV 5)) (gN 6))
  (sAs (e2 pAdd (eV 6) (e2 pMulA (e2 pMulA (eV 5) (eA dC (aCons (e2 pIx (eV 1) (eC (.int 3))) (aCons (eV 2) aNil)))) (eA dC (aCons (e2 pIx (eV 1) (eC (.int 4))) (aCons (eV 3) aNil))))) (gN 6)))
  (sRt (e2 pAdd (e2 pAdd (eSl (eV 3) oNo (oAt (eV 4))) (eA mkT (aCons (e2 pMod (eV 6) (eV 0)) aNil))) (eSl (eV 3) (oAt (e2 pAdd (eV 4) (eC (.int 1)))) oNo))))))
noncomputable def lN:Fn:=fnD 4 7 b_done
theorem aBv {ws:List W} {M:Mm} (h:ws.length≠4):lN ws M=.bad:=if_neg h
noncomputable def b_run:FS :=
 (sSeq (sFor (iE (e2 pIx (eV 0) (eC (.int 3)))) (gN 3)
  (sAs (eA lN (aCons (e2 pIx (eV 0) (eC (.int 0))) (aCons (eV 3) (aCons (eV 1) (aCons (eV 2) aNil))))) (gN 2)))
  (sRt (eV 2)))
noncomputable def qA:Fn:=fnD 3 4 b_run
theorem xY {ws:List W} {M:Mm} (h:ws.length≠3):qA ws M=.bad:=if_neg h
noncomputable def b_l_box:FS :=
 (sSeq (sAs (e2 pAdd (e2 pMulA (eC (.int 7919)) (eV 1)) (eC (.int 11))) (gN 2))
  (sSeq (sIf (EV.tB (e2 pLt (eV 1) (eA cLen (aCons (eV 0) aNil))))
  (sAs (e2 pIx (eV 0) (eV 1)) (gN 2))
  (sIf (EV.tB (e2 pGt (eA cLen (aCons (eV 0) aNil)) (eC (.int 0))))
  (sAs (e2 pAdd (eV 2) (e2 pMulA (e2 pMod (e2 pIx (eV 0) (e2 pMod (eV 1) (eA cLen (aCons (eV 0) aNil)))) (eC (.int 2147483629))) (eC (.int 69623)))) (gN 2))
  sNil))
  (sSeq (sAs (e2 pAdd (e2 pMod (e2 pAdd (e2 pMulA (e2 pMod (eV 2) (eC (.int 2147483629))) (eC (.int 48271))) (e2 pMulA (eC (.int 40692)) (eV 1))) (eC (.int 2147483629))) (eC (.int 1))) (gN 3))
  (sRt (eA mkR (aCons (e2 pIx (eA mkL (aCons (eC (.int 0)) (aCons (eV 2) aNil))) (eA cInt (aCons (e2 pGe (eV 2) (e2 pPow (eC (.int 10)) (eC (.int 18)))) aNil))) (aCons (eV 3) (aCons (eC (.int 0)) aNil))))))))
noncomputable def mZ:Fn:=fnR 2 4 b_l_box
theorem yT {ws:List W} {M:Mm} (h:ws.length≠2):mZ ws M=.bad:=if_neg h
noncomputable def b_l_take:FS :=
 (sSeq (sIf (EV.tB (e2 pGt (e2 pIx (eV 0) (eC (.int 0))) (eC (.int 0))))
  (sSeq (sAs (e2 pMod (e2 pIx (eV 0) (eC (.int 0))) (eV 1)) (gN 2))
  (sSeq (sAs (e2 pDiv (e2 pIx (eV 0) (eC (.int 0))) (eV 1)) (gS (eV 0) (eC (.int 0))))
  (sRt (eV 2))))
  sNil)
  (sSeq (sAs (e2 pAdd (e2 pIx (eV 0) (eC (.int 2))) (eC (.int 1))) (gS (eV 0) (eC (.int 2))))
  (sSeq (sAs (e2 pMod (e2 pMulA (e2 pAdd (e2 pIx (eV 0) (eC (.int 1))) (e2 pMulA (eC (.int 104729)) (e2 pIx (eV 0) (eC (.int 2))))) (eC (.int 69623))) (eC (.int 2147483647))) (gN 3))
  (sSeq (sAs (e2 pAdd (e2 pMod (e2 pAdd (e2 pMulA (eV 3) (eC (.int 48271))) (eC (.int 30103))) (eC (.int 2147483629))) (eC (.int 1))) (gS (eV 0) (eC (.int 1))))
  (sRt (e2 pMod (e2 pDiv (e2 pAdd (e2 pMulA (eV 3) (eC (.int 2147483647))) (e2 pIx (eV 0) (eC (.int 1)))) (eC (.int 8191))) (eV 1)))))))
noncomputable def aU:Fn:=fnD 2 4 b_l_take
theorem aP {ws:List W} {M:Mm} (h:ws.length≠2):aU ws M=.bad:=if_neg h
noncomputable def b_l_n:FS :=
 (sSeq (sAs (eA aU (aCons (eV 0) (aCons (eC (.int 6)) aNil))) (gN 1))
  (sSeq (sAs (eInts [2,3,4,5,6,7,8,9,12,16,30,36,49,64,91,97,210,1009,65536,999983,999999,1000000]) (gN 2))
  (sSeq (sAs (e2 pIx (eV 2) (eA aU (aCons (eV 0) (aCons (eC (.int 22)) aNil)))) (gN 3))
  (sSeq (sIf (EV.tB (e2 pEq (eV 1) (eC (.int 0))))
  (sRt (e2 pAdd (eC (.int 2)) (eA aU (aCons (eV 0) (aCons (eC (.int 999999)) aNil)))))
  sNil)
  (sSeq (sIf (EV.tB (e2 pLt (eV 1) (eC (.int 3))))
  (sRt (e2 pAdd (eC (.int 2)) (eA aU (aCons (eV 0) (aCons (eC (.int 11)) aNil)))))
  sNil)
  (sRt (eV 3)))))))
noncomputable def sO:Fn:=fnD 1 4 b_l_n
theorem aDf {ws:List W} {M:Mm} (h:ws.length≠1):sO ws M=.bad:=if_neg h
noncomputable def b_l_rest:FS :=
 (sSeq (sAs (eA aU (aCons (eV 0) (aCons (eC (.int 4)) aNil))) (gN 2))
  (sSeq (sIf (EV.tB (e2 pEq (eV 2) (eC (.int 0))))
  (sRt (e2 pIx (eA mkL (aCons (eC (.int 0)) (aCons (e2 pMod (eC (.int 1)) (eV 1)) (aCons (e2 pSub (eV 1) (eC (.int 1))) (aCons (e2 pMod (e2 pSub (eV 1) (eC (.int 2))) (eV 1)) aNil))))) (eA aU (aCons (eV 0) (aCons (eC (.int 4)) aNil)))))
  sNil)
  (sRt (eA aU (aCons (eV 0) (aCons (eV 1) aNil))))))
noncomputable def eM:Fn:=fnD 2 3 b_l_rest
theorem gJ {ws:List W} {M:Mm} (h:ws.length≠2):eM ws M=.bad:=if_neg h
noncomputable def b_l_shared:FS :=
 (sSeq (whileD (EV.tB (e2 pGt (eV 1) (eC (.int 0))))
  (sPar 0 1 (aCons (eV 1) (aCons (e2 pMod (eV 0) (eV 1)) aNil))) NW)
  (sRt (eV 0)))
noncomputable def fB:Fn:=fnD 2 2 b_l_shared
theorem rZ {ws:List W} {M:Mm} (h:ws.length≠2):fB ws M=.bad:=if_neg h
noncomputable def b_l_unit:FS :=
 (sSeq (sAs (eA aU (aCons (eV 0) (aCons (eV 1) aNil))) (gN 2))
  (sSeq (whileD (EV.tB (e2 pNe (eA fB (aCons (eV 2) (aCons (eV 1) aNil))) (eC (.int 1))))
  (sAs (e2 pMod (e2 pAdd (eV 2) (eC (.int 1))) (eV 1)) (gN 2)) NW)
  (sRt (eV 2))))
noncomputable def fA:Fn:=fnD 2 3 b_l_unit
theorem jG {ws:List W} {M:Mm} (h:ws.length≠2):fA ws M=.bad:=if_neg h
noncomputable def b_l_deed:FS :=
 (sSeq (sAs (eA aU (aCons (eV 0) (aCons (eV 3) aNil))) (gN 4))
  (sSeq (sAs (eA aU (aCons (eV 0) (aCons (eC (.int 5)) aNil))) (gN 5))
  (sSeq (sIf (EV.tB (e2 pEq (eV 5) (eC (.int 0))))
  (sRt (eA mkT (aCons (eC (.str "scale")) (aCons (eV 4) (aCons (eA fA (aCons (eV 0) (aCons (eV 1) aNil))) aNil)))))
  sNil)
  (sSeq (sAs (e2 pMulA (eA aU (aCons (eV 0) (aCons (e2 pIx (eA mkL (aCons (eC (.int 3)) (aCons (eC (.int 3)) (aCons (eC (.int 5)) aNil)))) (eA aU (aCons (eV 0) (aCons (eC (.int 3)) aNil)))) aNil))) (eA cInt (aCons (e2 pGt (eV 2) (eC (.int 0))) aNil))) (gN 6))
  (sSeq (sAs (eA cSorted (aCons (eComp [none,some 0,some 2] (iR1 (eV 6)) (gN 0) EV.tYes (eA aU (aCons (eV 1) (aCons (eV 2) aNil)))) aNil)) (gN 7))
  (sSeq (sAs (eComp [none,some 4] (iR1 (eV 3)) (gN 0) (EV.tB (e2 pNe (eV 0) (eV 1))) (eV 0)) (gN 8))
  (sSeq (sAs (eA mkL aNil) (gN 9))
  (sSeq (sIf (EV.tB (e2 pNe (eV 8) (eA mkL aNil)))
  (sAs (eA cSorted (aCons (eComp [none,some 8,some 0] (iR1 (eA aU (aCons (eV 0) (aCons (e2 pIx (eA mkL (aCons (eC (.int 2)) (aCons (eC (.int 3)) (aCons (eC (.int 5)) aNil)))) (eA aU (aCons (eV 0) (aCons (eC (.int 3)) aNil)))) aNil)))) (gN 0) EV.tYes (e2 pIx (eV 1) (eA aU (aCons (eV 2) (aCons (eA cLen (aCons (eV 1) aNil)) aNil))))) aNil)) (gN 9))
  sNil)
  (sRt (eA mkT (aCons (eC (.str "add")) (aCons (eV 4) (aCons (eA eM (aCons (eV 0) (aCons (eV 1) aNil))) (aCons (eA cTup (aCons (eV 7) aNil)) (aCons (eA cTup (aCons (eV 9) aNil)) aNil)))))))))))))))
noncomputable def fY:Fn:=fnD 4 10 b_l_deed
theorem oN {ws:List W} {M:Mm} (h:ws.length≠4):fY ws M=.bad:=if_neg h
noncomputable def b_l_sizes:FS :=
 (sSeq (sAs (eA aU (aCons (eV 0) (aCons (eC (.int 3)) aNil))) (gN 1))
  (sSeq (sAs (eA sO (aCons (eV 0) aNil)) (gN 2))
  (sRt (eA mkT (aCons (eV 2) (aCons (eA aU (aCons (eV 0) (aCons (e2 pIx (eA mkL (aCons (eC (.int 4)) (aCons (eC (.int 4)) (aCons (eC (.int 9)) aNil)))) (eV 1)) aNil))) (aCons (e2 pAdd (eC (.int 1)) (eA aU (aCons (eV 0) (aCons (e2 pIx (eA mkL (aCons (eC (.int 4)) (aCons (eC (.int 4)) (aCons (eC (.int 9)) aNil)))) (eV 1)) aNil)))) aNil)))))))
noncomputable def fQ:Fn:=fnD 1 3 b_l_sizes
theorem sV {ws:List W} {M:Mm} (h:ws.length≠1):fQ ws M=.bad:=if_neg h
noncomputable def b_l_inverse:FS :=
 (sSeq (sAs (eA mkT (aCons (eV 0) (aCons (e2 pMod (eV 1) (eV 0)) (aCons (eC (.int 0)) (aCons (eC (.int 1)) aNil))))) (gT 4 (gsCons (gN 2) (gsCons (gN 3) (gsCons (gN 4) (gsCons (gN 5) gsNil))))))
  (sSeq (whileD (EV.tB (e2 pGt (eV 3) (eC (.int 0))))
  (sSeq (sAs (e2 pDiv (eV 2) (eV 3)) (gN 6))
  (sSeq (sPar 2 3 (aCons (eV 3) (aCons (e2 pSub (eV 2) (e2 pMulA (eV 6) (eV 3))) aNil)))
  (sPar 4 5 (aCons (eV 5) (aCons (e2 pSub (eV 4) (e2 pMulA (eV 6) (eV 5))) aNil))))) NW)
  (sRt (e2 pMod (eV 4) (eV 0)))))
noncomputable def dU:Fn:=fnD 2 7 b_l_inverse
theorem iZ {ws:List W} {M:Mm} (h:ws.length≠2):dU ws M=.bad:=if_neg h
noncomputable def b_l_deeds_back:FS :=
 (sSeq (sAs (eA mkR aNil) (gN 2))
  (sSeq (sFor (iRv (eV 1)) (gN 3)
  (sIf (EV.tB (e2 pEq (e2 pIx (eV 3) (eC (.int 0))) (eC (.str "scale"))))
  (sEx (eM1 pAppend (eV 2) (eA mkT (aCons (eC (.str "scale")) (aCons (e2 pIx (eV 3) (eC (.int 1))) (aCons (eA dU (aCons (eV 0) (aCons (e2 pIx (eV 3) (eC (.int 2))) aNil))) aNil))))))
  (sEx (eM1 pAppend (eV 2) (e2 pAdd (e2 pAdd (eSl (eV 3) oNo (oAt (eC (.int 2)))) (eA mkT (aCons (e2 pMod (e2 pSub (eC (.int 0)) (e2 pIx (eV 3) (eC (.int 2)))) (eV 0)) aNil))) (eSl (eV 3) (oAt (eC (.int 3))) oNo))))))
  (sRt (eA cTup (aCons (eV 2) aNil)))))
noncomputable def dA:Fn:=fnD 2 4 b_l_deeds_back
theorem lZ {ws:List W} {M:Mm} (h:ws.length≠2):dA ws M=.bad:=if_neg h
noncomputable def b_l_few_kinds:FS :=
 (sSeq (sAs (eA mkR aNil) (gN 5))
  (sSeq (sFor (iR1 (e2 pAdd (eC (.int 2)) (eA aU (aCons (eV 0) (aCons (eC (.int 4)) aNil))))) (gN 6)
  (sEx (eM1 pAppend (eV 5) (eA fY (aCons (eV 0) (aCons (eV 1) (aCons (eV 2) (aCons (eV 3) aNil))))))))
  (sSeq (sAs (eA mkR aNil) (gN 7))
  (sSeq (sFor (iR1 (eV 4)) (gN 6)
  (sSeq (sAs (eA aU (aCons (eV 0) (aCons (eC (.int 6)) aNil))) (gN 8))
  (sSeq (sAs (e2 pIx (eV 5) (eA aU (aCons (eV 0) (aCons (eA cLen (aCons (eV 5) aNil)) aNil)))) (gN 9))
  (sSeq (sIf (EV.tB (e2 pEq (e2 pIx (eV 9) (eC (.int 0))) (eC (.str "scale"))))
  (sAs (e2 pIx (eA mkL (aCons (eA fA (aCons (eV 0) (aCons (eV 1) aNil))) (aCons (eC (.int 1)) aNil))) (eA cInt (aCons (e2 pEq (eV 8) (eC (.int 5))) aNil))) (gN 10))
  (sAs (e2 pIx (eA mkL (aCons (eA eM (aCons (eV 0) (aCons (eV 1) aNil))) (aCons (eC (.int 0)) aNil))) (eA cInt (aCons (e2 pEq (eV 8) (eC (.int 5))) aNil))) (gN 10)))
  (sSeq (sEx (eM1 pAppend (eV 7) (e2 pAdd (e2 pAdd (eSl (eV 9) oNo (oAt (eC (.int 2)))) (eA mkT (aCons (eV 10) aNil))) (eSl (eV 9) (oAt (eC (.int 3))) oNo))))
  (sIf (EV.tAnd (EV.tB (e2 pEq (eV 8) (eC (.int 4)))) (EV.tB (e2 pGt (eV 6) (eC (.int 0)))))
  (sAs (e2 pIx (eA dA (aCons (eV 1) (aCons (eA mkT (aCons (e2 pIx (eV 7) (eA aU (aCons (eV 0) (aCons (eV 6) aNil)))) aNil)) aNil))) (eC (.int 0))) (gS (eV 7) (e1 pNeg (eC (.int 1)))))
  sNil))))))
  (sRt (eA cTup (aCons (eV 7) aNil)))))))
noncomputable def dI:Fn:=fnD 5 11 b_l_few_kinds
theorem mW {ws:List W} {M:Mm} (h:ws.length≠5):dI ws M=.bad:=if_neg h
noncomputable def b_l_kind:FS :=
 (sSeq (sIf (EV.tB (e2 pEq (e2 pIx (eV 0) (eC (.int 0))) (eC (.str "scale"))))
  (sRt (eA mkT (aCons (eC (.str "scale")) (aCons (e2 pIx (eV 0) (eC (.int 1))) aNil))))
  sNil)
  (sRt (eA mkT (aCons (eC (.str "add")) (aCons (e2 pIx (eV 0) (eC (.int 1))) (aCons (e2 pIx (eV 0) (eC (.int 3))) (aCons (e2 pIx (eV 0) (eC (.int 4))) aNil)))))))
noncomputable def fD:Fn:=fnD 1 1 b_l_kind
theorem nU {ws:List W} {M:Mm} (h:ws.length≠1):fD ws M=.bad:=if_neg h
noncomputable def b_l_passes:FS :=
 (sSeq (sIf (EV.tAnd (EV.tB (e2 pEq (e2 pIx (eV 0) (eC (.int 0))) (eC (.str "scale")))) (EV.tB (e2 pEq (e2 pIx (eV 1) (eC (.int 0))) (eC (.str "scale")))))
  (sRt (eC (.bl true)))
  sNil)
  (sSeq (sIf (EV.tAnd (EV.tB (e2 pEq (e2 pIx (eV 0) (eC (.int 0))) (eC (.str "add")))) (EV.tB (e2 pEq (e2 pIx (eV 1) (eC (.int 0))) (eC (.str "add")))))
  (sRt (eAnd (e2 pNotIn (e2 pIx (eV 0) (eC (.int 1))) (e2 pIx (eV 1) (eC (.int 4)))) (e2 pNotIn (e2 pIx (eV 1) (eC (.int 1))) (e2 pIx (eV 0) (eC (.int 4))))))
  sNil)
  (sSeq (sAs (e2 pIx (eA mkL (aCons (eA mkT (aCons (eV 0) (aCons (eV 1) aNil))) (aCons (eA mkT (aCons (eV 1) (aCons (eV 0) aNil))) aNil))) (eA cInt (aCons (e2 pEq (e2 pIx (eV 0) (eC (.int 0))) (eC (.str "scale"))) aNil))) (gT 2 (gsCons (gN 2) (gsCons (gN 3) gsNil))))
  (sRt (e2 pNotIn (e2 pIx (eV 3) (eC (.int 1))) (e2 pAdd (e2 pIx (eV 2) (eC (.int 4))) (eA mkT (aCons (e2 pIx (eV 2) (eC (.int 1))) aNil))))))))
noncomputable def fC:Fn:=fnD 2 4 b_l_passes
theorem sB {ws:List W} {M:Mm} (h:ws.length≠2):fC ws M=.bad:=if_neg h
noncomputable def b_l_is_nothing:FS :=
 (sRt (e2 pEq (e2 pIx (eV 0) (eC (.int 2))) (e2 pIx (eA mkL (aCons (eC (.int 0)) (aCons (eC (.int 1)) aNil))) (eA cInt (aCons (e2 pEq (e2 pIx (eV 0) (eC (.int 0))) (eC (.str "scale"))) aNil)))))
noncomputable def cH:Fn:=fnD 1 1 b_l_is_nothing
theorem mD {ws:List W} {M:Mm} (h:ws.length≠1):cH ws M=.bad:=if_neg h
noncomputable def b_l_moved:FS :=
 (sSeq (sAs (eV 2) (gT 2 (gsCons (gN 3) (gsCons (gN 4) gsNil))))
  (sSeq (sIf (EV.tOr (EV.tB (e2 pLt (eV 4) (eC (.int 0)))) (EV.tOr (EV.tB (e2 pGe (eV 4) (eA cLen (aCons (eV 1) aNil)))) (EV.tAnd (EV.tB (e2 pNe (eV 3) (eC (.str "out")))) (EV.tB (e2 pGe (e2 pAdd (eV 4) (eC (.int 1))) (eA cLen (aCons (eV 1) aNil)))))))
  (sRt (eC .non))
  sNil)
  (sSeq (sIf (EV.tB (e2 pEq (eV 3) (eC (.str "out"))))
  (sRt (e2 pIx (eA mkL (aCons (eC .non) (aCons (e2 pAdd (eSl (eV 1) oNo (oAt (eV 4))) (eSl (eV 1) (oAt (e2 pAdd (eV 4) (eC (.int 1)))) oNo)) aNil))) (eA cInt (aCons (eA cH (aCons (e2 pIx (eV 1) (eV 4)) aNil)) aNil))))
  sNil)
  (sSeq (sAs (eSl (eV 1) (oAt (eV 4)) (oAt (e2 pAdd (eV 4) (eC (.int 2))))) (gT 2 (gsCons (gN 5) (gsCons (gN 6) gsNil))))
  (sSeq (sIf (EV.tB (e2 pEq (eV 3) (eC (.str "past"))))
  (sRt (e2 pIx (eA mkL (aCons (eC .non) (aCons (e2 pAdd (e2 pAdd (eSl (eV 1) oNo (oAt (eV 4))) (eA mkT (aCons (eV 6) (aCons (eV 5) aNil)))) (eSl (eV 1) (oAt (e2 pAdd (eV 4) (eC (.int 2)))) oNo)) aNil))) (eA cInt (aCons (eA fC (aCons (eV 5) (aCons (eV 6) aNil))) aNil))))
  sNil)
  (sSeq (sIf (EV.tB (e2 pNe (eA fD (aCons (eV 5) aNil)) (eA fD (aCons (eV 6) aNil))))
  (sRt (eC .non))
  sNil)
  (sSeq (sAs (e2 pMod (e2 pMulA (e2 pIx (eV 5) (eC (.int 2))) (e2 pIx (eV 6) (eC (.int 2)))) (eV 0)) (gN 7))
  (sSeq (sIf (EV.tB (e2 pEq (e2 pIx (eV 5) (eC (.int 0))) (eC (.str "add"))))
  (sAs (e2 pMod (e2 pAdd (e2 pIx (eV 5) (eC (.int 2))) (e2 pIx (eV 6) (eC (.int 2)))) (eV 0)) (gN 7))
  sNil)
  (sRt (e2 pAdd (e2 pAdd (eSl (eV 1) oNo (oAt (eV 4))) (eA mkT (aCons (e2 pAdd (e2 pAdd (eSl (eV 5) oNo (oAt (eC (.int 2)))) (eA mkT (aCons (eV 7) aNil))) (eSl (eV 5) (oAt (eC (.int 3))) oNo)) aNil))) (eSl (eV 1) (oAt (e2 pAdd (eV 4) (eC (.int 2)))) oNo)))))))))))
noncomputable def cU:Fn:=fnD 3 8 b_l_moved
theorem sX {ws:List W} {M:Mm} (h:ws.length≠3):cU ws M=.bad:=if_neg h
noncomputable def b_l_rests:FS :=
 (sRt (eA cTup (aCons (eComp [none,some 0,some 1] (iR1 (eV 2)) (gN 0) EV.tYes (eA eM (aCons (eV 1) (aCons (eV 2) aNil)))) aNil)))
noncomputable def eX:Fn:=fnD 3 3 b_l_rests
theorem mL {ws:List W} {M:Mm} (h:ws.length≠3):eX ws M=.bad:=if_neg h
noncomputable def b_l_alike:FS :=
 (sSeq (sAs (eA mkR (aCons (eA mkT (aCons (eV 0) (aCons (eV 1) aNil))) aNil)) (gN 2))
  (sSeq (whileD (EV.tB (e2 pGt (eA cLen (aCons (eV 2) aNil)) (eC (.int 0))))
  (sSeq (sAs (e1 pPop (eV 2)) (gT 2 (gsCons (gN 3) (gsCons (gN 4) gsNil))))
  (sIf (tV (e1 (pIsI "tuple") (eV 4)))
  (sSeq (sIf (EV.tOr (EV.tNot (tV (e1 (pIsI "tuple") (eV 3)))) (EV.tB (e2 pNe (eA cLen (aCons (eV 3) aNil)) (eA cLen (aCons (eV 4) aNil)))))
  (sRt (eC (.bl false)))
  sNil)
  (sEx (eM1 pExtendA (eV 2) (e2 pZip (eV 3) (eV 4)))))
  (sIf (EV.tOr (EV.tB (e2 pNe (e1 (pIsI "bool") (eV 3)) (e1 (pIsI "bool") (eV 4)))) (EV.tB (e2 pNe (e1 (pIsI "int") (eV 3)) (e1 (pIsI "int") (eV 4)))))
  (sRt (eC (.bl false)))
  (sIf (EV.tOr (tV (e1 (pIsI "tuple") (eV 3))) (EV.tB (e2 pNe (eV 3) (eV 4))))
  (sRt (eC (.bl false)))
  sNil)))) NW)
  (sRt (eC (.bl true)))))
noncomputable def iF:Fn:=fnD 2 5 b_l_alike
theorem sN {ws:List W} {M:Mm} (h:ws.length≠2):iF ws M=.bad:=if_neg h
noncomputable def b_l_split:FS :=
 (sSeq (sIf (EV.tB (e2 pEq (e2 pIx (eV 2) (eC (.int 0))) (eC (.str "scale"))))
  (sSeq (sAs (eA fA (aCons (eV 0) (aCons (eV 1) aNil))) (gN 3))
  (sRt (eA mkT (aCons (eA mkT (aCons (eC (.str "scale")) (aCons (e2 pIx (eV 2) (eC (.int 1))) (aCons (e2 pMod (e2 pMulA (e2 pIx (eV 2) (eC (.int 2))) (eA dU (aCons (eV 1) (aCons (eV 3) aNil)))) (eV 1)) aNil)))) (aCons (eA mkT (aCons (eC (.str "scale")) (aCons (e2 pIx (eV 2) (eC (.int 1))) (aCons (eV 3) aNil)))) aNil)))))
  sNil)
  (sSeq (sAs (eA eM (aCons (eV 0) (aCons (eV 1) aNil))) (gN 4))
  (sRt (eA mkT (aCons (e2 pAdd (e2 pAdd (eSl (eV 2) oNo (oAt (eC (.int 2)))) (eA mkT (aCons (e2 pMod (e2 pSub (e2 pIx (eV 2) (eC (.int 2))) (eV 4)) (eV 1)) aNil))) (eSl (eV 2) (oAt (eC (.int 3))) oNo)) (aCons (e2 pAdd (e2 pAdd (eSl (eV 2) oNo (oAt (eC (.int 2)))) (eA mkT (aCons (eV 4) aNil))) (eSl (eV 2) (oAt (eC (.int 3))) oNo)) aNil))))))
noncomputable def fW:Fn:=fnD 3 5 b_l_split
theorem sP {ws:List W} {M:Mm} (h:ws.length≠3):fW ws M=.bad:=if_neg h
noncomputable def b_l_led:FS :=
 (sSeq (sPar 5 6 (aCons (eA aU (aCons (eV 0) (aCons (eC (.int 8)) aNil))) (aCons (eA aU (aCons (eV 0) (aCons (e2 pAdd (eA cLen (aCons (eV 4) aNil)) (eC (.int 1))) aNil))) aNil)))
  (sSeq (sIf (EV.tB (e2 pEq (eV 5) (eC (.int 0))))
  (sSeq (sAs (eA fY (aCons (eV 0) (aCons (eV 1) (aCons (eV 2) (aCons (eV 3) aNil))))) (gN 7))
  (sSeq (sAs (e2 pAdd (e2 pAdd (eSl (eV 7) oNo (oAt (eC (.int 2)))) (eA mkT (aCons (e2 pIx (eA mkL (aCons (eC (.int 0)) (aCons (eC (.int 1)) aNil))) (eA cInt (aCons (e2 pEq (e2 pIx (eV 7) (eC (.int 0))) (eC (.str "scale"))) aNil))) aNil))) (eSl (eV 7) (oAt (eC (.int 3))) oNo)) (gN 7))
  (sRt (e2 pAdd (e2 pAdd (eSl (eV 4) oNo (oAt (eV 6))) (eA mkT (aCons (eV 7) aNil))) (eSl (eV 4) (oAt (eV 6)) oNo)))))
  sNil)
  (sSeq (sIf (EV.tAnd (EV.tB (e2 pEq (eV 5) (eC (.int 1)))) (EV.tB (e2 pLt (eV 6) (eA cLen (aCons (eV 4) aNil)))))
  (sRt (e2 pAdd (e2 pAdd (eSl (eV 4) oNo (oAt (eV 6))) (eA fW (aCons (eV 0) (aCons (eV 1) (aCons (e2 pIx (eV 4) (eV 6)) aNil))))) (eSl (eV 4) (oAt (e2 pAdd (eV 6) (eC (.int 1)))) oNo)))
  sNil)
  (sSeq (sAs (e2 pIx (eA mkL (aCons (eC (.str "past")) (aCons (eC (.str "past")) (aCons (eC (.str "past")) (aCons (eC (.str "past")) (aCons (eC (.str "one")) (aCons (eC (.str "out")) aNil))))))) (eA aU (aCons (eV 0) (aCons (eC (.int 6)) aNil)))) (gN 8))
  (sSeq (sAs (eA cU (aCons (eV 1) (aCons (eV 4) (aCons (eA mkT (aCons (eV 8) (aCons (eV 6) aNil))) aNil)))) (gN 9))
  (sRt (e2 pIx (eA mkL (aCons (eV 9) (aCons (eV 4) aNil))) (eA cInt (aCons (e2 pIs (eV 9) (eC .non)) aNil)))))))))
noncomputable def kU:Fn:=fnD 5 10 b_l_led
theorem zA {ws:List W} {M:Mm} (h:ws.length≠5):kU ws M=.bad:=if_neg h
noncomputable def b_law:FS :=
 (sSeq (sFor (iR1 (eA cMax2 (aCons (eC (.int 2)) (aCons (eA cMin2 (aCons (eC (.int 5)) (aCons (eA cLen (aCons (eV 0) aNil)) aNil))) aNil)))) (gN 1)
  (sSeq (sAs (eA mZ (aCons (eV 0) (aCons (eV 1) aNil))) (gN 2))
  (sSeq (sAs (eA fQ (aCons (eV 2) aNil)) (gT 3 (gsCons (gN 3) (gsCons (gN 4) (gsCons (gN 5) gsNil)))))
  (sSeq (sAs (eA dI (aCons (eV 2) (aCons (eV 3) (aCons (eV 4) (aCons (eV 5) (aCons (eA aU (aCons (eV 2) (aCons (eC (.int 11)) aNil))) aNil)))))) (gN 6))
  (sSeq (sAs (eA iP (aCons (eA mkT (aCons (eV 3) (aCons (eV 4) (aCons (eV 5) (aCons (eV 6) aNil))))) aNil)) (gN 7))
  (sSeq (sPar 8 9 (aCons (eA eX (aCons (eV 2) (aCons (eV 3) (aCons (eV 4) aNil)))) (aCons (eA eX (aCons (eV 2) (aCons (eV 3) (aCons (eV 5) aNil)))) aNil)))
  (sSeq (sAs (eA qA (aCons (eA mkT (aCons (eV 3) (aCons (eV 4) (aCons (eV 5) (aCons (eV 6) aNil))))) (aCons (eV 8) (aCons (eV 9) aNil)))) (gN 10))
  (sSeq (sFor (iR1 (eA aU (aCons (eV 2) (aCons (eC (.int 13)) aNil)))) (gN 11)
  (sSeq (sAs (eA kU (aCons (eV 2) (aCons (eV 3) (aCons (eV 4) (aCons (eV 5) (aCons (eV 6) aNil)))))) (gN 6))
  (sIf (EV.tB (e2 pLt (eA cLen (aCons (eV 6) aNil)) (eA cLen (aCons (e2 pIx (eV 7) (eC (.int 3))) aNil))))
  (sRt (eC (.bl false)))
  sNil)))
  (sSeq (sIf (EV.tNot (tV (eA iF (aCons (eA iP (aCons (eA mkT (aCons (eV 3) (aCons (eV 4) (aCons (eV 5) (aCons (eV 6) aNil))))) aNil)) (aCons (eV 7) aNil)))))
  (sRt (eC (.bl false)))
  sNil)
  (sIf (EV.tB (e2 pNe (eA qA (aCons (eA mkT (aCons (eV 3) (aCons (eV 4) (aCons (eV 5) (aCons (eV 6) aNil))))) (aCons (eV 8) (aCons (eV 9) aNil)))) (eV 10)))
  (sRt (eC (.bl false)))
  sNil))))))))))
  (sRt (eC (.bl true))))
noncomputable def nG:Fn:=fnD 1 12 b_law
set_option genInjectivity false in
set_option genSizeOf false in
structure Adr where
 a_go_past:Addr
 d_go_past:FuncData
 a_hangs_on:Addr
 d_hangs_on:FuncData
 a_kind:Addr
 d_kind:FuncData
 a_short:Addr
 d_short:FuncData
 a_led:Addr
 d_led:FuncData
 a_can_be_done:Addr
 d_can_be_done:FuncData
 a_is_idle:Addr
 d_is_idle:FuncData
 a_do_move:Addr
 d_do_move:FuncData
 a_one_of:Addr
 d_one_of:FuncData
 a_road:Addr
 d_road:FuncData
 a_take_in:Addr
 d_take_in:FuncData
 a_go:Addr
 d_go:FuncData
 a_go_ahead:Addr
 d_go_ahead:FuncData
 a_where_to:Addr
 d_where_to:FuncData
 a_rank:Addr
 d_rank:FuncData
 a_run:Addr
 d_run:FuncData
 a_done:Addr
 d_done:FuncData
 a_product_of:Addr
 d_product_of:FuncData
 a_l_box:Addr
 d_l_box:FuncData
 a_l_take:Addr
 d_l_take:FuncData
 a_l_n:Addr
 d_l_n:FuncData
 a_l_rest:Addr
 d_l_rest:FuncData
 a_l_shared:Addr
 d_l_shared:FuncData
 a_l_unit:Addr
 d_l_unit:FuncData
 a_l_deed:Addr
 d_l_deed:FuncData
 a_l_sizes:Addr
 d_l_sizes:FuncData
 a_l_inverse:Addr
 d_l_inverse:FuncData
 a_l_deeds_back:Addr
 d_l_deeds_back:FuncData
 a_l_few_kinds:Addr
 d_l_few_kinds:FuncData
 a_l_kind:Addr
 d_l_kind:FuncData
 a_l_passes:Addr
 d_l_passes:FuncData
 a_l_is_nothing:Addr
 d_l_is_nothing:FuncData
 a_l_moved:Addr
 d_l_moved:FuncData
 a_l_rests:Addr
 d_l_rests:FuncData
 a_l_alike:Addr
 d_l_alike:FuncData
 a_l_split:Addr
 d_l_split:FuncData
 a_l_led:Addr
 d_l_led:FuncData
 a_law:Addr
 d_law:FuncData
structure Tx (K:PySem.W.Frag) (mg:Str->Option Value) (a:Adr):Prop where
 f_go_past:Fun K "go_past" "go_past" cQ a.a_go_past a.d_go_past
 b_go_past:Binds K a.d_go_past ["one","other"] []
 k_go_past:PySem.W.keepIn K (.ref a.a_go_past)=true
 m_go_past:mg "go_past"=some (.ref a.a_go_past)
 f_hangs_on:Fun K "hangs_on" "hangs_on" bY a.a_hangs_on a.d_hangs_on
 b_hangs_on:Binds K a.d_hangs_on ["one","other"] []
 k_hangs_on:PySem.W.keepIn K (.ref a.a_hangs_on)=true
 m_hangs_on:mg "hangs_on"=some (.ref a.a_hangs_on)
 f_kind:Fun K "kind" "kind" fM a.a_kind a.d_kind
 b_kind:Binds K a.d_kind ["deed"] []
 k_kind:PySem.W.keepIn K (.ref a.a_kind)=true
 m_kind:mg "kind"=some (.ref a.a_kind)
 f_short:Fun K "short" "short" eI a.a_short a.d_short
 b_short:Binds K a.d_short ["program"] []
 k_short:PySem.W.keepIn K (.ref a.a_short)=true
 m_short:mg "short"=some (.ref a.a_short)
 f_led:Fun K "led" "led" jD a.a_led a.d_led
 b_led:Binds K a.d_led ["program","moves"] []
 k_led:PySem.W.keepIn K (.ref a.a_led)=true
 m_led:mg "led"=some (.ref a.a_led)
 f_can_be_done:Fun K "can_be_done" "can_be_done" bJ a.a_can_be_done a.d_can_be_done
 b_can_be_done:Binds K a.d_can_be_done ["row","move"] []
 k_can_be_done:PySem.W.keepIn K (.ref a.a_can_be_done)=true
 m_can_be_done:mg "can_be_done"=some (.ref a.a_can_be_done)
 f_is_idle:Fun K "is_idle" "is_idle" cS a.a_is_idle a.d_is_idle
 b_is_idle:Binds K a.d_is_idle ["deed"] []
 k_is_idle:PySem.W.keepIn K (.ref a.a_is_idle)=true
 m_is_idle:mg "is_idle"=some (.ref a.a_is_idle)
 f_do_move:Fun K "do_move" "do_move" cM a.a_do_move a.d_do_move
 b_do_move:Binds K a.d_do_move ["n","row","move"] []
 k_do_move:PySem.W.keepIn K (.ref a.a_do_move)=true
 m_do_move:mg "do_move"=some (.ref a.a_do_move)
 f_one_of:Fun K "one_of" "one_of" dM a.a_one_of a.d_one_of
 b_one_of:Binds K a.d_one_of ["n","deed","other"] []
 k_one_of:PySem.W.keepIn K (.ref a.a_one_of)=true
 m_one_of:mg "one_of"=some (.ref a.a_one_of)
 f_road:Fun K "road" "road" fK a.a_road a.d_road
 b_road:Binds K a.d_road ["program"] []
 k_road:PySem.W.keepIn K (.ref a.a_road)=true
 m_road:mg "road"=some (.ref a.a_road)
 f_take_in:Fun K "take_in" "take_in" cV a.a_take_in a.d_take_in
 b_take_in:Binds K a.d_take_in ["n","row","at","moves"] []
 k_take_in:PySem.W.keepIn K (.ref a.a_take_in)=true
 m_take_in:mg "take_in"=some (.ref a.a_take_in)
 f_go:Fun K "go" "go" pC a.a_go a.d_go
 b_go:Binds K a.d_go ["n","row","move","moves"] []
 k_go:PySem.W.keepIn K (.ref a.a_go)=true
 m_go:mg "go"=some (.ref a.a_go)
 f_go_ahead:Fun K "go_ahead" "go_ahead" cD a.a_go_ahead a.d_go_ahead
 b_go_ahead:Binds K a.d_go_ahead ["n","row","at","place","moves"] []
 k_go_ahead:PySem.W.keepIn K (.ref a.a_go_ahead)=true
 m_go_ahead:mg "go_ahead"=some (.ref a.a_go_ahead)
 f_where_to:Fun K "where_to" "where_to" cB a.a_where_to a.d_where_to
 b_where_to:Binds K a.d_where_to ["row","at"] []
 k_where_to:PySem.W.keepIn K (.ref a.a_where_to)=true
 m_where_to:mg "where_to"=some (.ref a.a_where_to)
 f_rank:Fun K "rank" "rank" fO a.a_rank a.d_rank
 b_rank:Binds K a.d_rank ["deed"] []
 k_rank:PySem.W.keepIn K (.ref a.a_rank)=true
 m_rank:mg "rank"=some (.ref a.a_rank)
 f_run:Fun K "run" "run" iY a.a_run a.d_run
 b_run:Binds K a.d_run ["program","givens","contents"] []
 k_run:PySem.W.keepIn K (.ref a.a_run)=true
 m_run:mg "run"=some (.ref a.a_run)
 f_done:Fun K "done" "done" fJ a.a_done a.d_done
 b_done:Binds K a.d_done ["n","deed","givens","contents"] []
 k_done:PySem.W.keepIn K (.ref a.a_done)=true
 m_done:mg "done"=some (.ref a.a_done)
 f_product_of:Fun K "product_of" "product_of" bO a.a_product_of a.d_product_of
 b_product_of:Binds K a.d_product_of ["places","numbers"] []
 k_product_of:PySem.W.keepIn K (.ref a.a_product_of)=true
 m_product_of:mg "product_of"=some (.ref a.a_product_of)
 f_l_box:Fun K "_law_box" "_law_box" eG a.a_l_box a.d_l_box
 b_l_box:Binds K a.d_l_box ["_law_script","_law_k"] []
 k_l_box:PySem.W.keepIn K (.ref a.a_l_box)=true
 m_l_box:mg "_law_box"=some (.ref a.a_l_box)
 f_l_take:Fun K "_law_take" "_law_take" dN a.a_l_take a.d_l_take
 b_l_take:Binds K a.d_l_take ["_law_box_here","_law_many"] []
 k_l_take:PySem.W.keepIn K (.ref a.a_l_take)=true
 m_l_take:mg "_law_take"=some (.ref a.a_l_take)
 f_l_n:Fun K "_law_n" "_law_n" jE a.a_l_n a.d_l_n
 b_l_n:Binds K a.d_l_n ["_law_box_here"] []
 k_l_n:PySem.W.keepIn K (.ref a.a_l_n)=true
 m_l_n:mg "_law_n"=some (.ref a.a_l_n)
 f_l_rest:Fun K "_law_rest" "_law_rest" dH a.a_l_rest a.d_l_rest
 b_l_rest:Binds K a.d_l_rest ["_law_box_here","_law_n_here"] []
 k_l_rest:PySem.W.keepIn K (.ref a.a_l_rest)=true
 m_l_rest:mg "_law_rest"=some (.ref a.a_l_rest)
 f_l_shared:Fun K "_law_shared" "_law_shared" cA a.a_l_shared a.d_l_shared
 b_l_shared:Binds K a.d_l_shared ["_law_one","_law_other"] []
 k_l_shared:PySem.W.keepIn K (.ref a.a_l_shared)=true
 m_l_shared:mg "_law_shared"=some (.ref a.a_l_shared)
 f_l_unit:Fun K "_law_unit" "_law_unit" dJ a.a_l_unit a.d_l_unit
 b_l_unit:Binds K a.d_l_unit ["_law_box_here","_law_n_here"] []
 k_l_unit:PySem.W.keepIn K (.ref a.a_l_unit)=true
 m_l_unit:mg "_law_unit"=some (.ref a.a_l_unit)
 f_l_deed:Fun K "_law_deed" "_law_deed" cF a.a_l_deed a.d_l_deed
 b_l_deed:Binds K a.d_l_deed ["_law_box_here","_law_n_here","_law_givens","_law_shelves"] []
 k_l_deed:PySem.W.keepIn K (.ref a.a_l_deed)=true
 m_l_deed:mg "_law_deed"=some (.ref a.a_l_deed)
 f_l_sizes:Fun K "_law_sizes" "_law_sizes" cP a.a_l_sizes a.d_l_sizes
 b_l_sizes:Binds K a.d_l_sizes ["_law_box_here"] []
 k_l_sizes:PySem.W.keepIn K (.ref a.a_l_sizes)=true
 m_l_sizes:mg "_law_sizes"=some (.ref a.a_l_sizes)
 f_l_inverse:Fun K "_law_inverse" "_law_inverse" bS a.a_l_inverse a.d_l_inverse
 b_l_inverse:Binds K a.d_l_inverse ["_law_n_here","_law_u"] []
 k_l_inverse:PySem.W.keepIn K (.ref a.a_l_inverse)=true
 m_l_inverse:mg "_law_inverse"=some (.ref a.a_l_inverse)
 f_l_deeds_back:Fun K "_law_deeds_back" "_law_deeds_back" bG a.a_l_deeds_back a.d_l_deeds_back
 b_l_deeds_back:Binds K a.d_l_deeds_back ["_law_n_here","_law_deeds"] []
 k_l_deeds_back:PySem.W.keepIn K (.ref a.a_l_deeds_back)=true
 m_l_deeds_back:mg "_law_deeds_back"=some (.ref a.a_l_deeds_back)
 f_l_few_kinds:Fun K "_law_few_kinds" "_law_few_kinds" bK a.a_l_few_kinds a.d_l_few_kinds
 b_l_few_kinds:Binds K a.d_l_few_kinds ["_law_box_here","_law_n_here","_law_givens","_law_shelves","_law_many"] []
 k_l_few_kinds:PySem.W.keepIn K (.ref a.a_l_few_kinds)=true
 m_l_few_kinds:mg "_law_few_kinds"=some (.ref a.a_l_few_kinds)
 f_l_kind:Fun K "_law_kind" "_law_kind" dL a.a_l_kind a.d_l_kind
 b_l_kind:Binds K a.d_l_kind ["_law_deed_here"] []
 k_l_kind:PySem.W.keepIn K (.ref a.a_l_kind)=true
 m_l_kind:mg "_law_kind"=some (.ref a.a_l_kind)
 f_l_passes:Fun K "_law_passes" "_law_passes" bZ a.a_l_passes a.d_l_passes
 b_l_passes:Binds K a.d_l_passes ["_law_one","_law_other"] []
 k_l_passes:PySem.W.keepIn K (.ref a.a_l_passes)=true
 m_l_passes:mg "_law_passes"=some (.ref a.a_l_passes)
 f_l_is_nothing:Fun K "_law_is_nothing" "_law_is_nothing" bH a.a_l_is_nothing a.d_l_is_nothing
 b_l_is_nothing:Binds K a.d_l_is_nothing ["_law_deed_here"] []
 k_l_is_nothing:PySem.W.keepIn K (.ref a.a_l_is_nothing)=true
 m_l_is_nothing:mg "_law_is_nothing"=some (.ref a.a_l_is_nothing)
 f_l_moved:Fun K "_law_moved" "_law_moved" cO a.a_l_moved a.d_l_moved
 b_l_moved:Binds K a.d_l_moved ["_law_n_here","_law_deeds","_law_move"] []
 k_l_moved:PySem.W.keepIn K (.ref a.a_l_moved)=true
 m_l_moved:mg "_law_moved"=some (.ref a.a_l_moved)
 f_l_rests:Fun K "_law_rests" "_law_rests" cG a.a_l_rests a.d_l_rests
 b_l_rests:Binds K a.d_l_rests ["_law_box_here","_law_n_here","_law_many"] []
 k_l_rests:PySem.W.keepIn K (.ref a.a_l_rests)=true
 m_l_rests:mg "_law_rests"=some (.ref a.a_l_rests)
 f_l_alike:Fun K "_law_alike" "_law_alike" cR a.a_l_alike a.d_l_alike
 b_l_alike:Binds K a.d_l_alike ["_law_found","_law_due"] []
 k_l_alike:PySem.W.keepIn K (.ref a.a_l_alike)=true
 m_l_alike:mg "_law_alike"=some (.ref a.a_l_alike)
 f_l_split:Fun K "_law_split" "_law_split" cN a.a_l_split a.d_l_split
 b_l_split:Binds K a.d_l_split ["_law_box_here","_law_n_here","_law_deed_here"] []
 k_l_split:PySem.W.keepIn K (.ref a.a_l_split)=true
 m_l_split:mg "_law_split"=some (.ref a.a_l_split)
 f_l_led:Fun K "_law_led" "_law_led" eJ a.a_l_led a.d_l_led
 b_l_led:Binds K a.d_l_led ["_law_box_here","_law_n_here","_law_givens","_law_shelves","_law_deeds"] []
 k_l_led:PySem.W.keepIn K (.ref a.a_l_led)=true
 m_l_led:mg "_law_led"=some (.ref a.a_l_led)
 f_law:Fun K "law" "law" iW a.a_law a.d_law
 b_law:Binds K a.d_law ["_law_script"] []
 k_law:PySem.W.keepIn K (.ref a.a_law)=true
 m_law:mg "law"=some (.ref a.a_law)
 z_bool:mg "bool"=none
 z_enumerate:mg "enumerate"=none
 z_int:mg "int"=none
 z_isinstance:mg "isinstance"=none
 z_len:mg "len"=none
 z_list:mg "list"=none
 z_max:mg "max"=none
 z_min:mg "min"=none
 z_range:mg "range"=none
 z_reversed:mg "reversed"=none
 z_sorted:mg "sorted"=none
 z_tuple:mg "tuple"=none
 z_zip:mg "zip"=none
theorem uX:FnScope ["one","other"] ["one","other"] (defScope cQ):=⟨rfl,rfl,rfl,by decide +kernel,rfl,by decide +kernel,by decide +kernel⟩
theorem tY:FnScope ["one","other"] ["one","other"] (defScope bY):=⟨rfl,rfl,rfl,by decide +kernel,rfl,by decide +kernel,by decide +kernel⟩
theorem aDl:FnScope ["deed"] ["deed"] (defScope fM):=⟨rfl,rfl,rfl,by decide +kernel,rfl,by decide +kernel,by decide +kernel⟩
theorem aBm:FnScope ["program"] ["program"] (defScope eI):=⟨rfl,rfl,rfl,by decide +kernel,rfl,by decide +kernel,by decide +kernel⟩
theorem gY:FnScope ["program","moves","n","givens","shelves","deeds","row","at","move"] ["program","moves"] (defScope jD):=⟨rfl,rfl,rfl,by decide +kernel,rfl,by decide +kernel,by decide +kernel⟩
theorem fE:FnScope ["row","move","word","i"] ["row","move"] (defScope bJ):=⟨rfl,rfl,rfl,by decide +kernel,rfl,by decide +kernel,by decide +kernel⟩
theorem wD:FnScope ["deed"] ["deed"] (defScope cS):=⟨rfl,rfl,rfl,by decide +kernel,rfl,by decide +kernel,by decide +kernel⟩
theorem jF:FnScope ["n","row","move","word","i"] ["n","row","move"] (defScope cM):=⟨rfl,rfl,rfl,by decide +kernel,rfl,by decide +kernel,by decide +kernel⟩
theorem zQ:FnScope ["n","deed","other"] ["n","deed","other"] (defScope dM):=⟨rfl,rfl,rfl,by decide +kernel,rfl,by decide +kernel,by decide +kernel⟩
theorem iG:FnScope ["program","n","row","moves","many"] ["program"] (defScope fK):=⟨rfl,rfl,rfl,by decide +kernel,rfl,by decide +kernel,by decide +kernel⟩
theorem jU:FnScope ["n","row","at","moves","like","place"] ["n","row","at","moves"] (defScope cV):=⟨rfl,rfl,rfl,by decide +kernel,rfl,by decide +kernel,by decide +kernel⟩
theorem aLj:FnScope ["n","row","move","moves"] ["n","row","move","moves"] (defScope pC):=⟨rfl,rfl,rfl,by decide +kernel,rfl,by decide +kernel,by decide +kernel⟩
theorem mP:FnScope ["n","row","at","place","moves","i"] ["n","row","at","place","moves"] (defScope cD):=⟨rfl,rfl,rfl,by decide +kernel,rfl,by decide +kernel,by decide +kernel⟩
theorem eN:FnScope ["row","at","deed","place","i"] ["row","at"] (defScope cB):=⟨rfl,rfl,rfl,by decide +kernel,rfl,by decide +kernel,by decide +kernel⟩
theorem aDt:FnScope ["deed"] ["deed"] (defScope fO):=⟨rfl,rfl,rfl,by decide +kernel,rfl,by decide +kernel,by decide +kernel⟩
theorem vP:FnScope ["program","givens","contents","deed"] ["program","givens","contents"] (defScope iY):=⟨rfl,rfl,rfl,by decide +kernel,rfl,by decide +kernel,by decide +kernel⟩
theorem lF:FnScope ["n","deed","givens","contents","shelf","number","lies"] ["n","deed","givens","contents"] (defScope fJ):=⟨rfl,rfl,rfl,by decide +kernel,rfl,by decide +kernel,by decide +kernel⟩
theorem eH:FnScope ["places","numbers","told","place"] ["places","numbers"] (defScope bO):=⟨rfl,rfl,rfl,by decide +kernel,rfl,by decide +kernel,by decide +kernel⟩
theorem gZ:FnScope ["_law_script","_law_k","_law_cell","_law_seed"] ["_law_script","_law_k"] (defScope eG):=⟨rfl,rfl,rfl,by decide +kernel,rfl,by decide +kernel,by decide +kernel⟩
theorem mE:FnScope ["_law_box_here","_law_many","_law_digit","_law_one"] ["_law_box_here","_law_many"] (defScope dN):=⟨rfl,rfl,rfl,by decide +kernel,rfl,by decide +kernel,by decide +kernel⟩
theorem qR:FnScope ["_law_box_here","_law_mode","_law_some","_law_number"] ["_law_box_here"] (defScope jE):=⟨rfl,rfl,rfl,by decide +kernel,rfl,by decide +kernel,by decide +kernel⟩
theorem pW:FnScope ["_law_box_here","_law_n_here","_law_mode"] ["_law_box_here","_law_n_here"] (defScope dH):=⟨rfl,rfl,rfl,by decide +kernel,rfl,by decide +kernel,by decide +kernel⟩
theorem mR:FnScope ["_law_one","_law_other"] ["_law_one","_law_other"] (defScope cA):=⟨rfl,rfl,rfl,by decide +kernel,rfl,by decide +kernel,by decide +kernel⟩
theorem lW:FnScope ["_law_box_here","_law_n_here","_law_u"] ["_law_box_here","_law_n_here"] (defScope dJ):=⟨rfl,rfl,rfl,by decide +kernel,rfl,by decide +kernel,by decide +kernel⟩
theorem dW:FnScope ["_law_box_here","_law_n_here","_law_givens","_law_shelves","_law_ks","_law_mode","_law_many","_law_gs","_law_others","_law_ts"] ["_law_box_here","_law_n_here","_law_givens","_law_shelves"] (defScope cF):=⟨rfl,rfl,rfl,by decide +kernel,rfl,by decide +kernel,by decide +kernel⟩
theorem jQ:FnScope ["_law_box_here","_law_wide","_law_n_here"] ["_law_box_here"] (defScope cP):=⟨rfl,rfl,rfl,by decide +kernel,rfl,by decide +kernel,by decide +kernel⟩
theorem bU:FnScope ["_law_n_here","_law_u","_law_one","_law_other","_law_before","_law_here","_law_many"] ["_law_n_here","_law_u"] (defScope bS):=⟨rfl,rfl,rfl,by decide +kernel,rfl,by decide +kernel,by decide +kernel⟩
theorem eP:FnScope ["_law_n_here","_law_deeds","_law_found","_law_deed_here"] ["_law_n_here","_law_deeds"] (defScope bG):=⟨rfl,rfl,rfl,by decide +kernel,rfl,by decide +kernel,by decide +kernel⟩
theorem bL:FnScope ["_law_box_here","_law_n_here","_law_givens","_law_shelves","_law_many","_law_some","_law_k","_law_deeds","_law_mode","_law_deed_here","_law_number"] ["_law_box_here","_law_n_here","_law_givens","_law_shelves","_law_many"] (defScope bK):=⟨rfl,rfl,rfl,by decide +kernel,rfl,by decide +kernel,by decide +kernel⟩
theorem yG:FnScope ["_law_deed_here"] ["_law_deed_here"] (defScope dL):=⟨rfl,rfl,rfl,by decide +kernel,rfl,by decide +kernel,by decide +kernel⟩
theorem iD:FnScope ["_law_one","_law_other","_law_add","_law_scale"] ["_law_one","_law_other"] (defScope bZ):=⟨rfl,rfl,rfl,by decide +kernel,rfl,by decide +kernel,by decide +kernel⟩
theorem mV:FnScope ["_law_deed_here"] ["_law_deed_here"] (defScope bH):=⟨rfl,rfl,rfl,by decide +kernel,rfl,by decide +kernel,by decide +kernel⟩
theorem dQ:FnScope ["_law_n_here","_law_deeds","_law_move","_law_word","_law_i","_law_one","_law_other","_law_number"] ["_law_n_here","_law_deeds","_law_move"] (defScope cO):=⟨rfl,rfl,rfl,by decide +kernel,rfl,by decide +kernel,by decide +kernel⟩
theorem vY:FnScope ["_law_box_here","_law_n_here","_law_many"] ["_law_box_here","_law_n_here","_law_many"] (defScope cG):=⟨rfl,rfl,rfl,by decide +kernel,rfl,by decide +kernel,by decide +kernel⟩
theorem gH:FnScope ["_law_found","_law_due","_law_left","_law_one","_law_other"] ["_law_found","_law_due"] (defScope cR):=⟨rfl,rfl,rfl,by decide +kernel,rfl,by decide +kernel,by decide +kernel⟩
theorem jN:FnScope ["_law_box_here","_law_n_here","_law_deed_here","_law_u","_law_c"] ["_law_box_here","_law_n_here","_law_deed_here"] (defScope cN):=⟨rfl,rfl,rfl,by decide +kernel,rfl,by decide +kernel,by decide +kernel⟩
theorem fS:FnScope ["_law_box_here","_law_n_here","_law_givens","_law_shelves","_law_deeds","_law_way","_law_at","_law_deed_here","_law_word","_law_there"] ["_law_box_here","_law_n_here","_law_givens","_law_shelves","_law_deeds"] (defScope eJ):=⟨rfl,rfl,rfl,by decide +kernel,rfl,by decide +kernel,by decide +kernel⟩
theorem eS:FnScope ["_law_script","_law_k","_law_box_here","_law_n_here","_law_givens","_law_shelves","_law_deeds","_law_due","_law_given","_law_contents","_law_lies","_law_turn"] ["_law_script"] (defScope iW):=⟨rfl,rfl,rfl,by decide +kernel,rfl,by decide +kernel,by decide +kernel⟩
section
variable {P:Program} {w:World} {K:PySem.W.Frag} {mg:Str->Option Value} {base:Heap} {a:Adr}
theorem mK (T:Tx K mg a):FnOk P w K mg base CX0 1 a.a_hangs_on a.d_hangs_on ["one","other"] (spF K Z0 2 eB) :=
 bN (k:=0) T.f_hangs_on tY fun cdv A outer s H E hr=>show Ess _ K Z0 (defBody bY) b_hangs_on from
  (aE (bC (aQ (opEq (aM hr)) (aH (aA 0) aC) aW (nomark _))
  (aF (aK gR))
  aV)
  (aE (bC (pG (mB (aQ (opEq (aM hr)) (aH (aA 1) aC) aW (nomark _)) (iK (aQ (opEq (aM hr)) (aH (aA 1) aC) (aH (aA 0) aC) (nomark _)))))
  (aF (aK gR))
  aV)
  (aF (aK (dD opIn (aH (aA 1) aC) (aH (aA 0) aC) (by with_unfolding_all rfl))))))
theorem oB (T:Tx K mg a):FnOk P w K mg base CX0 2 a.a_go_past a.d_go_past ["one","other"] (spF K Z0 2 eY) :=
 bN (k:=1) T.f_go_past uX fun cdv A outer s H E hr=>show Ess _ K Z0 (defBody cQ) b_go_past from
  (aF (aK (vO (aBx (aG ((mK T).mono (by omega)) hr T.m_hangs_on T.k_hangs_on T.b_hangs_on (aB (aA 0) (aB (aA 1) aD)) (hlen:=fun _ _ h=>jW h))) (wY (aBx (aG ((mK T).mono (by omega)) hr T.m_hangs_on T.k_hangs_on T.b_hangs_on (aB (aA 1) (aB (aA 0) aD)) (hlen:=fun _ _ h=>jW h)))))))
theorem nF (T:Tx K mg a):FnOk P w K mg base CX0 1 a.a_kind a.d_kind ["deed"] (spF K Z0 1 gG) :=
 bN (k:=0) T.f_kind aDl fun cdv A outer s H E hr=>show Ess _ K Z0 (defBody fM) b_kind from
  (aE (bC (aQ (opEq (aM hr)) (aH (aA 0) aC) aW (nomark _))
  (aF (aK (aY (aB aW (aB (aH (aA 0) aC) aD)))))
  aV)
  (aF (aK (aY (aB aW (aB (aH (aA 0) aC) (aB (aH (aA 0) aC) (aB (aH (aA 0) aC) aD))))))))
theorem zF (T:Tx K mg a):FnOk P w K mg base CX0 1 a.a_one_of a.d_one_of ["n","deed","other"] (spF K Z0 3 fP) :=
 bN (k:=0) T.f_one_of zQ fun cdv A outer s H E hr=>show Ess _ K Z0 (defBody dM) b_one_of from
  (aE (bC (aQ (opEq (aM hr)) (aH (aA 1) aC) aW (nomark _))
  (aF (aK (aY (aB aW (aB (aH (aA 1) aC) (aB (aI opMod (aI opMulA (aH (aA 1) aC) (aH (aA 2) aC)) (aA 0)) aD))))))
  aV)
  (aF (aK (aY (aB aW (aB (aH (aA 1) aC) (aB (aI opMod (aI opAdd (aH (aA 1) aC) (aH (aA 2) aC)) (aA 0)) (aB (aH (aA 1) aC) (aB (aH (aA 1) aC) aD)))))))))
theorem nT (T:Tx K mg a):FnOk P w K mg base CX0 2 a.a_do_move a.d_do_move ["n","row","move"] (spF K Z0 3 cE) :=
 bN (k:=1) T.f_do_move jF fun cdv A outer s H E hr=>show Ess _ K Z0 (defBody cM) b_do_move from
  (aE (dF (aA 2) (eO rfl (aZ (aR (i:=3) jF.nd) (aZ (aR (i:=4) jF.nd) dP))))
  (aF (bC (aQ (opEq (aM hr)) (aA 3) aW (nomark _))
  (aF (dF (aY (aB (aH (aA 1) (aI opAdd (aA 4) aC)) (aB (aH (aA 1) (aA 4)) aD))) (eO rfl (aZ (lV (aA 1) (aA 4)) (aZ (lV (aA 1) (aI opAdd (aA 4) aC)) dP)))))
  (aF (bC (aQ (opEq (aM hr)) (aA 3) aW (nomark _))
  (aF (dF (cW (aB (aG ((zF T).mono (by omega)) hr T.m_one_of T.k_one_of T.b_one_of (aB (aA 0) (aB (aH (aA 1) (aA 4)) (aB (aH (aA 1) (aI opAdd (aA 4) aC)) aD))) (hlen:=fun _ _ h=>vK h)) aD)) (aIt (aA 1) (bX (aA 4)) (bX (aI opAdd (aA 4) aC)))))
  (aF (aIw (aA 1) (aA 4))))))))
theorem jL (T:Tx K mg a):FnOk P w K mg base CX0 1 a.a_is_idle a.d_is_idle ["deed"] (spF K Z0 1 dR) :=
 bN (k:=0) T.f_is_idle wD fun cdv A outer s H E hr=>show Ess _ K Z0 (defBody cS) b_is_idle from
  (aF (aK (dD (opEq (aM hr)) (aH (aA 0) aC) (aKt (aQ (opEq (aM hr)) (aH (aA 0) aC) aW (nomark _)) aC aC) (nomark _))))
theorem oO (T:Tx K mg a):FnOk P w K mg base CX0 3 a.a_can_be_done a.d_can_be_done ["row","move"] (spF K Z0 2 cC) :=
 bN (k:=2) T.f_can_be_done fE fun cdv A outer s H E hr=>show Ess _ K Z0 (defBody bJ) b_can_be_done from
  (aE (dF (aA 1) (eO rfl (aZ (aR (i:=2) fE.nd) (aZ (aR (i:=3) fE.nd) dP))))
  (aE (bC (aQ (opEq (aM hr)) (aA 2) aW (nomark _))
  (aF (aK (vO (aDb opLe opLt aC (aA 3) (bE callLen rfl T.z_len PySem.boot_len (aB (aA 0) aD))) (wY (aG ((jL T).mono (by omega)) hr T.m_is_idle T.k_is_idle T.b_is_idle (aB (aH (aA 0) (aA 3)) aD) (hlen:=fun _ _ h=>hV h))))))
  aV)
  (aE (bC (oM (zV opLe opLt aC (aA 3) (aI opSub (bE callLen rfl T.z_len PySem.boot_len (aB (aA 0) aD)) aC)))
  (aF (aK gR))
  aV)
  (aE (bC (aQ (opEq (aM hr)) (aA 2) aW (nomark _))
  (aF (aK (aG ((oB T).mono (by omega)) hr T.m_go_past T.k_go_past T.b_go_past (aB (aH (aA 0) (aA 3)) (aB (aH (aA 0) (aI opAdd (aA 3) aC)) aD)) (hlen:=fun _ _ h=>mM h))))
  aV)
  (aF (aK (dD (opEq (aM hr)) (aG ((nF T).mono (by omega)) hr T.m_kind T.k_kind T.b_kind (aB (aH (aA 0) (aA 3)) aD) (hlen:=fun _ _ h=>kL h)) (aG ((nF T).mono (by omega)) hr T.m_kind T.k_kind T.b_kind (aB (aH (aA 0) (aI opAdd (aA 3) aC)) aD) (hlen:=fun _ _ h=>kL h)) (nomark _))))))))
theorem aHd (T:Tx K mg a):FnOk P w K mg base CX0 4 a.a_led a.d_led ["program","moves"] (spF K Z0 2 tU) :=
 bN (k:=3) T.f_led gY fun cdv A outer s H E hr=>show Ess _ K Z0 (defBody jD) b_led from
  (aE (dF (aA 0) (eO rfl (aZ (aR (i:=2) gY.nd) (aZ (aR (i:=3) gY.nd) (aZ (aR (i:=4) gY.nd) (aZ (aR (i:=5) gY.nd) dP))))))
  (aE (aO (i:=6) gY.nd (bM callListR rfl T.z_list rE (aB (aA 5) aD)))
  (aE (fL PassesOwn.never rfl (aFt T.z_enumerate (aA 1)) (eO rfl (aZ (aR (i:=7) gY.nd) (aZ (aR (i:=8) gY.nd) dP)))
  (aE (bC (oM (gU (aG ((oO T).mono (by omega)) hr T.m_can_be_done T.k_can_be_done T.b_can_be_done (aB (aA 6) (aB (aA 8) aD)) (hlen:=fun _ _ h=>mT h))))
  (aF aGl)
  aV)
  (aF (cX (aG ((nT T).mono (by omega)) hr T.m_do_move T.k_do_move T.b_do_move (aB (aA 2) (aB (aA 6) (aB (aA 8) aD))) (hlen:=fun _ _ h=>mG h))))))
  (aF (aK (aY (aB (aA 2) (aB (aA 3) (aB (aA 4) (aB (bM callTup rfl T.z_tuple dO (aB (aA 6) aD)) aD))))))))))
theorem xZ (T:Tx K mg a):FnOk P w K mg base CX0 1 a.a_rank a.d_rank ["deed"] (spF K Z0 1 jH) :=
 bN (k:=0) T.f_rank aDt fun cdv A outer s H E hr=>show Ess _ K Z0 (defBody fO) b_rank from
  (aF (aK (aI opAdd (aY (aB (aH (aA 0) aC) (aB (dD (opEq (aM hr)) (aH (aA 0) aC) aW (nomark _)) aD))) (bA (aA 0) (bX aC) cL))))
theorem tZ (T:Tx K mg a):FnOk P w K mg base CX0 3 a.a_where_to a.d_where_to ["row","at"] (spF K Z0 2 eZ) :=
 bN (k:=2) T.f_where_to eN fun cdv A outer s H E hr=>show Ess _ K Z0 (defBody cB) b_where_to from
  (aE (aO (i:=2) eN.nd (aH (aA 0) (aA 1)))
  (aE (aO (i:=3) eN.nd (aA 1))
  (aE (fL PassesOwn.never rfl (qH T.z_range (aI opSub (aA 1) aC) (sA aC) (sA aC)) (aR (i:=4) eN.nd)
  (aE (bC (aQ (opEq (aM hr)) (aG ((nF T).mono (by omega)) hr T.m_kind T.k_kind T.b_kind (aB (aH (aA 0) (aA 4)) aD) (hlen:=fun _ _ h=>kL h)) (aG ((nF T).mono (by omega)) hr T.m_kind T.k_kind T.b_kind (aB (aA 2) aD) (hlen:=fun _ _ h=>kL h)) (nomark _))
  (aF (aK (aY (aB (aA 4) (aB (aA 1) aD)))))
  aV)
  (aE (bC (oM (gU (aG ((oB T).mono (by omega)) hr T.m_go_past T.k_go_past T.b_go_past (aB (aH (aA 0) (aA 4)) (aB (aA 2) aD)) (hlen:=fun _ _ h=>mM h))))
  (aF (aK (aY (aB iC (aB (aA 3) aD)))))
  aV)
  (aF (bC (aQ (opLtN (aM hr)) (aG ((xZ T).mono (by omega)) hr T.m_rank T.k_rank T.b_rank (aB (aA 2) aD) (hlen:=fun _ _ h=>tK h)) (aG ((xZ T).mono (by omega)) hr T.m_rank T.k_rank T.b_rank (aB (aH (aA 0) (aA 4)) aD) (hlen:=fun _ _ h=>tK h)) (nomark _))
  (aF (aO (i:=3) eN.nd (aA 4)))
  aV)))))
  (aF (aK (aY (aB iC (aB (aA 3) aD))))))))
theorem xS (T:Tx K mg a):FnOk P w K mg base CX0 3 a.a_go a.d_go ["n","row","move","moves"] (spF K Z0 4 uQ) :=
 bN (k:=2) T.f_go aLj fun cdv A outer s H E hr=>show Ess _ K Z0 (defBody pC) b_go from
  (aE (cX (aG ((nT T).mono (by omega)) hr T.m_do_move T.k_do_move T.b_do_move (aB (aA 0) (aB (aA 1) (aB (aA 2) aD))) (hlen:=fun _ _ h=>mG h)))
  (aF (cX (fV (aA 3) (aA 2)))))
theorem mI (T:Tx K mg a):FnOk P w K mg base CX0 4 a.a_go_ahead a.d_go_ahead ["n","row","at","place","moves"] (spF K Z0 5 eD) :=
 bN (k:=3) T.f_go_ahead mP fun cdv A outer s H E hr=>show Ess _ K Z0 (defBody cD) b_go_ahead from
  (aF (fL PassesOwn.never rfl (qH T.z_range (aI opSub (aA 2) aC) (aI opSub (aA 3) aC) (sA aC)) (aR (i:=5) mP.nd)
  (aF (cX (aG ((xS T).mono (by omega)) hr T.m_go T.k_go T.b_go (aB (aA 0) (aB (aA 1) (aB (aY (aB aW (aB (aA 5) aD))) (aB (aA 4) aD)))) (hlen:=fun _ _ h=>qN h))))))
theorem wP (T:Tx K mg a):FnOk P w K mg base CX0 5 a.a_take_in a.d_take_in ["n","row","at","moves"] (spF K Z0 4 fZ) :=
 bN (k:=4) T.f_take_in jU fun cdv A outer s H E hr=>show Ess _ K Z0 (defBody cV) b_take_in from
  (aE (bC (gU (aG ((jL T).mono (by omega)) hr T.m_is_idle T.k_is_idle T.b_is_idle (aB (aH (aA 1) (aA 2)) aD) (hlen:=fun _ _ h=>hV h)))
  (aE (cX (aG ((xS T).mono (by omega)) hr T.m_go T.k_go T.b_go (aB (aA 0) (aB (aA 1) (aB (aY (aB aW (aB (aA 2) aD))) (aB (aA 3) aD)))) (hlen:=fun _ _ h=>qN h)))
  (aF (aK (aA 2))))
  aV)
  (aE (dF (aG ((tZ T).mono (by omega)) hr T.m_where_to T.k_where_to T.b_where_to (aB (aA 1) (aB (aA 2) aD)) (hlen:=fun _ _ h=>qL h)) (eO rfl (aZ (aR (i:=4) jU.nd) (aZ (aR (i:=5) jU.nd) dP))))
  (aE (bC (aQ opIs (aA 4) iC (nomark _))
  (aE (cX (aG ((mI T).mono (by omega)) hr T.m_go_ahead T.k_go_ahead T.b_go_ahead (aB (aA 0) (aB (aA 1) (aB (aA 2) (aB (aA 5) (aB (aA 3) aD))))) (hlen:=fun _ _ h=>kQ h)))
  (aF (aK (aI opAdd (aA 2) aC))))
  aV)
  (aE (cX (aG ((mI T).mono (by omega)) hr T.m_go_ahead T.k_go_ahead T.b_go_ahead (aB (aA 0) (aB (aA 1) (aB (aA 2) (aB (aI opAdd (aA 4) aC) (aB (aA 3) aD))))) (hlen:=fun _ _ h=>kQ h)))
  (aE (cX (aG ((xS T).mono (by omega)) hr T.m_go T.k_go T.b_go (aB (aA 0) (aB (aA 1) (aB (aY (aB aW (aB (aA 4) aD))) (aB (aA 3) aD)))) (hlen:=fun _ _ h=>qN h)))
  (aE (bC (gU (aG ((jL T).mono (by omega)) hr T.m_is_idle T.k_is_idle T.b_is_idle (aB (aH (aA 1) (aA 4)) aD) (hlen:=fun _ _ h=>hV h)))
  (aE (cX (aG ((xS T).mono (by omega)) hr T.m_go T.k_go T.b_go (aB (aA 0) (aB (aA 1) (aB (aY (aB aW (aB (aA 4) aD))) (aB (aA 3) aD)))) (hlen:=fun _ _ h=>qN h)))
  (aF (aK (aI opSub (aA 2) aC))))
  aV)
  (aF (aK (aA 2)))))))))
theorem aEl (T:Tx K mg a):FnOk P w K mg base CX0 6 a.a_road a.d_road ["program"] (spF K Z0 1 oG) :=
 bN (k:=5) T.f_road iG fun cdv A outer s H E hr=>show Ess _ K Z0 (defBody fK) b_road from
  (aE (aO (i:=1) iG.nd (aH (aA 0) aC))
  (aE (aO (i:=2) iG.nd (bM callListR rfl T.z_list rE (aB (aH (aA 0) aC) aD)))
  (aE (aO (i:=3) iG.nd (iH aD))
  (aE (aO (i:=4) iG.nd aC)
  (aE (gW NW PassesOwn.never (aQ opLt (aA 4) (bE callLen rfl T.z_len PySem.boot_len (aB (aA 2) aD)) (nomark _))
  (aF (aO (i:=4) iG.nd (aG ((wP T).mono (by omega)) hr T.m_take_in T.k_take_in T.b_take_in (aB (aA 1) (aB (aA 2) (aB (aA 4) (aB (aA 3) aD)))) (hlen:=fun _ _ h=>tM h)))))
  (aF (aK (bM callTup rfl T.z_tuple dO (aB (aA 3) aD)))))))))
theorem uT (T:Tx K mg a):FnOk P w K mg base CX0 7 a.a_short a.d_short ["program"] (spF K Z0 1 iP) :=
 bN (k:=6) T.f_short aBm fun cdv A outer s H E hr=>show Ess _ K Z0 (defBody eI) b_short from
  (aF (aK (aG ((aHd T).mono (by omega)) hr T.m_led T.k_led T.b_led (aB (aA 0) (aB (aG ((aEl T).mono (by omega)) hr T.m_road T.k_road T.b_road (aB (aA 0) aD) (hlen:=fun _ _ h=>aBa h)) aD)) (hlen:=fun _ _ h=>aFn h))))
theorem iV (T:Tx K mg a):FnOk P w K mg base CX0 1 a.a_product_of a.d_product_of ["places","numbers"] (spF K Z0 2 dC) :=
 bN (k:=0) T.f_product_of eH fun cdv A outer s H E hr=>show Ess _ K Z0 (defBody bO) b_product_of from
  (aE (aO (i:=2) eH.nd aC)
  (aE (fL PassesOwn.never rfl (aLm (aA 0)) (aR (i:=3) eH.nd)
  (aF (aO (i:=2) eH.nd (aI opMulA (aA 2) (aH (aA 1) (aA 3))))))
  (aF (aK (aA 2)))))
theorem aDj (T:Tx K mg a):FnOk P w K mg base CX0 2 a.a_done a.d_done ["n","deed","givens","contents"] (spF K Z0 4 lN) :=
 bN (k:=1) T.f_done lF fun cdv A outer s H E hr=>show Ess _ K Z0 (defBody fJ) b_done from
  (aE (mF (i:=4) (j:=5) rfl lF.nd (aB (aH (aA 1) aC) (aB (aH (aA 1) aC) aD)))
  (aE (aO (i:=6) lF.nd (aH (aA 3) (aA 4)))
  (aE (bC (aQ (opEq (aM hr)) (aH (aA 1) aC) aW (nomark _))
  (aF (aO (i:=6) lF.nd (aI opMulA (aA 6) (aA 5))))
  (aF (aO (i:=6) lF.nd (aI opAdd (aA 6) (aI opMulA (aI opMulA (aA 5) (aG ((iV T).mono (by omega)) hr T.m_product_of T.k_product_of T.b_product_of (aB (aH (aA 1) aC) (aB (aA 2) aD)) (hlen:=fun _ _ h=>gX h))) (aG ((iV T).mono (by omega)) hr T.m_product_of T.k_product_of T.b_product_of (aB (aH (aA 1) aC) (aB (aA 3) aD)) (hlen:=fun _ _ h=>gX h)))))))
  (aF (aK (aI opAdd (aI opAdd (bA (aA 3) cL (bX (aA 4))) (aY (aB (aI opMod (aA 6) (aA 0)) aD))) (bA (aA 3) (bX (aI opAdd (aA 4) aC)) cL)))))))
theorem aAe (T:Tx K mg a):FnOk P w K mg base CX0 3 a.a_run a.d_run ["program","givens","contents"] (spF K Z0 3 qA) :=
 bN (k:=2) T.f_run vP fun cdv A outer s H E hr=>show Ess _ K Z0 (defBody iY) b_run from
  (aE (fL PassesOwn.never rfl (aLm (aH (aA 0) aC)) (aR (i:=3) vP.nd)
  (aF (aO (i:=2) vP.nd (aG ((aDj T).mono (by omega)) hr T.m_done T.k_done T.b_done (aB (aH (aA 0) aC) (aB (aA 3) (aB (aA 1) (aB (aA 2) aD)))) (hlen:=fun _ _ h=>aBv h)))))
  (aF (aK (aA 2))))
theorem aCs (T:Tx K mg a):FnOk P w K mg base CX0 1 a.a_l_box a.d_l_box ["_law_script","_law_k"] (spF K Z0 2 mZ) :=
 aIs (k:=0) T.f_l_box gZ fun cdv A outer s H E hr=>show Ess _ K Z0 (defBody eG) b_l_box from
  (aE (aO (i:=2) gZ.nd (aI opAdd (aI opMulA aC (aA 1)) aC))
  (aE (bC (aQ opLt (aA 1) (bE callLen rfl T.z_len PySem.boot_len (aB (aA 0) aD)) (nomark _))
  (aF (aO (i:=2) gZ.nd (aH (aA 0) (aA 1))))
  (aF (bC (aQ opGt (bE callLen rfl T.z_len PySem.boot_len (aB (aA 0) aD)) aC (nomark _))
  (aF (aO (i:=2) gZ.nd (aI opAdd (aA 2) (aI opMulA (aI opMod (aH (aA 0) (aI opMod (aA 1) (bE callLen rfl T.z_len PySem.boot_len (aB (aA 0) aD)))) aC) aC))))
  aV)))
  (aE (aO (i:=3) gZ.nd (aI opAdd (aI opMod (aI opAdd (aI opMulA (aI opMod (aA 2) aC) aC) (aI opMulA aC (aA 1))) aC) aC))
  (aF (aK (iH (aB (aH (cW (aB aC (aB (aA 2) aD))) (bM callInt rfl T.z_int eQ (aB (dD opGe (aA 2) (aI opPow aC aC) (nomark _)) aD))) (aB (aA 3) (aB aC aD)))))))))
theorem aS (T:Tx K mg a):FnOk P w K mg base CX0 1 a.a_l_take a.d_l_take ["_law_box_here","_law_many"] (spF K Z0 2 aU) :=
 bN (k:=0) T.f_l_take mE fun cdv A outer s H E hr=>show Ess _ K Z0 (defBody dN) b_l_take from
  (aE (bC (aQ opGt (aH (aA 0) aC) aC (nomark _))
  (aE (aO (i:=2) mE.nd (aI opMod (aH (aA 0) aC) (aA 1)))
  (aE (dF (aI opDiv (aH (aA 0) aC) (aA 1)) (lV (aA 0) aC))
  (aF (aK (aA 2)))))
  aV)
  (aE (dF (aI opAdd (aH (aA 0) aC) aC) (lV (aA 0) aC))
  (aE (aO (i:=3) mE.nd (aI opMod (aI opMulA (aI opAdd (aH (aA 0) aC) (aI opMulA aC (aH (aA 0) aC))) aC) aC))
  (aE (dF (aI opAdd (aI opMod (aI opAdd (aI opMulA (aA 3) aC) aC) aC) aC) (lV (aA 0) aC))
  (aF (aK (aI opMod (aI opDiv (aI opAdd (aI opMulA (aA 3) aC) (aH (aA 0) aC)) aC) (aA 1))))))))
theorem aKk (T:Tx K mg a):FnOk P w K mg base CX0 2 a.a_l_n a.d_l_n ["_law_box_here"] (spF K Z0 1 sO) :=
 bN (k:=1) T.f_l_n qR fun cdv A outer s H E hr=>show Ess _ K Z0 (defBody jE) b_l_n from
  (aE (aO (i:=1) qR.nd (aG ((aS T).mono (by omega)) hr T.m_l_take T.k_l_take T.b_l_take (aB (aA 0) (aB aC aD)) (hlen:=fun _ _ h=>aP h)))
  (aE (aO (i:=2) qR.nd (aFm (ns:=[2,3,4,5,6,7,8,9,12,16,30,36,49,64,91,97,210,1009,65536,999983,999999,1000000]) (by repeat constructor)))
  (aE (aO (i:=3) qR.nd (aH (aA 2) (aG ((aS T).mono (by omega)) hr T.m_l_take T.k_l_take T.b_l_take (aB (aA 0) (aB aC aD)) (hlen:=fun _ _ h=>aP h))))
  (aE (bC (aQ (opEq (aM hr)) (aA 1) aC (nomark _))
  (aF (aK (aI opAdd aC (aG ((aS T).mono (by omega)) hr T.m_l_take T.k_l_take T.b_l_take (aB (aA 0) (aB aC aD)) (hlen:=fun _ _ h=>aP h)))))
  aV)
  (aE (bC (aQ opLt (aA 1) aC (nomark _))
  (aF (aK (aI opAdd aC (aG ((aS T).mono (by omega)) hr T.m_l_take T.k_l_take T.b_l_take (aB (aA 0) (aB aC aD)) (hlen:=fun _ _ h=>aP h)))))
  aV)
  (aF (aK (aA 3))))))))
theorem iJ (T:Tx K mg a):FnOk P w K mg base CX0 2 a.a_l_rest a.d_l_rest ["_law_box_here","_law_n_here"] (spF K Z0 2 eM) :=
 bN (k:=1) T.f_l_rest pW fun cdv A outer s H E hr=>show Ess _ K Z0 (defBody dH) b_l_rest from
  (aE (aO (i:=2) pW.nd (aG ((aS T).mono (by omega)) hr T.m_l_take T.k_l_take T.b_l_take (aB (aA 0) (aB aC aD)) (hlen:=fun _ _ h=>aP h)))
  (aE (bC (aQ (opEq (aM hr)) (aA 2) aC (nomark _))
  (aF (aK (aH (cW (aB aC (aB (aI opMod aC (aA 1)) (aB (aI opSub (aA 1) aC) (aB (aI opMod (aI opSub (aA 1) aC) (aA 1)) aD))))) (aG ((aS T).mono (by omega)) hr T.m_l_take T.k_l_take T.b_l_take (aB (aA 0) (aB aC aD)) (hlen:=fun _ _ h=>aP h)))))
  aV)
  (aF (aK (aG ((aS T).mono (by omega)) hr T.m_l_take T.k_l_take T.b_l_take (aB (aA 0) (aB (aA 1) aD)) (hlen:=fun _ _ h=>aP h))))))
theorem uB (T:Tx K mg a):FnOk P w K mg base CX0 1 a.a_l_shared a.d_l_shared ["_law_one","_law_other"] (spF K Z0 2 fB) :=
 bN (k:=0) T.f_l_shared mR fun cdv A outer s H E hr=>show Ess _ K Z0 (defBody cA) b_l_shared from
  (aE (gW NW PassesOwn.never (aQ opGt (aA 1) aC (nomark _))
  (aF (mF (i:=0) (j:=1) rfl mR.nd (aB (aA 1) (aB (aI opMod (aA 0) (aA 1)) aD)))))
  (aF (aK (aA 0))))
theorem lP (T:Tx K mg a):FnOk P w K mg base CX0 2 a.a_l_unit a.d_l_unit ["_law_box_here","_law_n_here"] (spF K Z0 2 fA) :=
 bN (k:=1) T.f_l_unit lW fun cdv A outer s H E hr=>show Ess _ K Z0 (defBody dJ) b_l_unit from
  (aE (aO (i:=2) lW.nd (aG ((aS T).mono (by omega)) hr T.m_l_take T.k_l_take T.b_l_take (aB (aA 0) (aB (aA 1) aD)) (hlen:=fun _ _ h=>aP h)))
  (aE (gW NW PassesOwn.never (aQ (opNe (aM hr)) (aG ((uB T).mono (by omega)) hr T.m_l_shared T.k_l_shared T.b_l_shared (aB (aA 2) (aB (aA 1) aD)) (hlen:=fun _ _ h=>rZ h)) aC (nomark _))
  (aF (aO (i:=2) lW.nd (aI opMod (aI opAdd (aA 2) aC) (aA 1)))))
  (aF (aK (aA 2)))))
theorem pN (T:Tx K mg a):FnOk P w K mg base CX0 3 a.a_l_deed a.d_l_deed ["_law_box_here","_law_n_here","_law_givens","_law_shelves"] (spF K Z0 4 fY) :=
 bN (k:=2) T.f_l_deed dW fun cdv A outer s H E hr=>show Ess _ K Z0 (defBody cF) b_l_deed from
  (aE (aO (i:=4) dW.nd (aG ((aS T).mono (by omega)) hr T.m_l_take T.k_l_take T.b_l_take (aB (aA 0) (aB (aA 3) aD)) (hlen:=fun _ _ h=>aP h)))
  (aE (aO (i:=5) dW.nd (aG ((aS T).mono (by omega)) hr T.m_l_take T.k_l_take T.b_l_take (aB (aA 0) (aB aC aD)) (hlen:=fun _ _ h=>aP h)))
  (aE (bC (aQ (opEq (aM hr)) (aA 5) aC (nomark _))
  (aF (aK (aY (aB aW (aB (aA 4) (aB (aG ((lP T).mono (by omega)) hr T.m_l_unit T.k_l_unit T.b_l_unit (aB (aA 0) (aB (aA 1) aD)) (hlen:=fun _ _ h=>jG h)) aD))))))
  aV)
  (aE (aO (i:=6) dW.nd (aI opMulA (aG ((aS T).mono (by omega)) hr T.m_l_take T.k_l_take T.b_l_take (aB (aA 0) (aB (aH (cW (aB aC (aB aC (aB aC aD)))) (aG ((aS T).mono (by omega)) hr T.m_l_take T.k_l_take T.b_l_take (aB (aA 0) (aB aC aD)) (hlen:=fun _ _ h=>aP h))) aD)) (hlen:=fun _ _ h=>aP h)) (bM callInt rfl T.z_int eQ (aB (dD opGt (aA 2) aC (nomark _)) aD))))
  (aE (aO (i:=7) dW.nd (bE (callSorted rfl) rfl T.z_sorted qG (aB (nB rfl (CompOk.of (N0:=["_law_box_here","_law_n_here","_law_givens","_law_shelves","_law_ks","_law_mode","_law_many","_law_gs","_law_others","_law_ts"]) (sc0:=defScope cF) (Nc:=["_law_k","_law_box_here","_law_givens"]) (js:=[none,some 0,some 2]) (by decide +kernel)) (dS T.z_range (aA 6)) (fun _ _ _ _ _ _=>(aR (i:=0) (show (["_law_k","_law_box_here","_law_givens"]:List Str).Nodup by decide +kernel))) (fun _ _ _ _ _ _=>rK) (fun _ _ _ _ _ _=>(aG ((aS T).mono (by omega)) hr T.m_l_take T.k_l_take T.b_l_take (aB (aA 1) (aB (aA 2) aD)) (hlen:=fun _ _ h=>aP h)))) aD)))
  (aE (aO (i:=8) dW.nd (nB rfl (CompOk.of (N0:=["_law_box_here","_law_n_here","_law_givens","_law_shelves","_law_ks","_law_mode","_law_many","_law_gs","_law_others","_law_ts"]) (sc0:=defScope cF) (Nc:=["_law_kt","_law_ks"]) (js:=[none,some 4]) (by decide +kernel)) (dS T.z_range (aA 3)) (fun _ _ _ _ _ _=>(aR (i:=0) (show (["_law_kt","_law_ks"]:List Str).Nodup by decide +kernel))) (fun _ _ _ _ _ _=>(aEh (aQ (opNe (aM hr)) (aA 0) (aA 1) (nomark _)))) (fun _ _ _ _ _ _=>(aA 0))))
  (aE (aO (i:=9) dW.nd (cW aD))
  (aE (bC (aQ (opNe (aM hr)) (aA 8) (cW aD) (nomark _))
  (aF (aO (i:=9) dW.nd (bE (callSorted rfl) rfl T.z_sorted qG (aB (nB rfl (CompOk.of (N0:=["_law_box_here","_law_n_here","_law_givens","_law_shelves","_law_ks","_law_mode","_law_many","_law_gs","_law_others","_law_ts"]) (sc0:=defScope cF) (Nc:=["_law_k","_law_others","_law_box_here"]) (js:=[none,some 8,some 0]) (by decide +kernel)) (dS T.z_range (aG ((aS T).mono (by omega)) hr T.m_l_take T.k_l_take T.b_l_take (aB (aA 0) (aB (aH (cW (aB aC (aB aC (aB aC aD)))) (aG ((aS T).mono (by omega)) hr T.m_l_take T.k_l_take T.b_l_take (aB (aA 0) (aB aC aD)) (hlen:=fun _ _ h=>aP h))) aD)) (hlen:=fun _ _ h=>aP h))) (fun _ _ _ _ _ _=>(aR (i:=0) (show (["_law_k","_law_others","_law_box_here"]:List Str).Nodup by decide +kernel))) (fun _ _ _ _ _ _=>rK) (fun _ _ _ _ _ _=>(aH (aA 1) (aG ((aS T).mono (by omega)) hr T.m_l_take T.k_l_take T.b_l_take (aB (aA 2) (aB (bE callLen rfl T.z_len PySem.boot_len (aB (aA 1) aD)) aD)) (hlen:=fun _ _ h=>aP h))))) aD))))
  aV)
  (aF (aK (aY (aB aW (aB (aA 4) (aB (aG ((iJ T).mono (by omega)) hr T.m_l_rest T.k_l_rest T.b_l_rest (aB (aA 0) (aB (aA 1) aD)) (hlen:=fun _ _ h=>gJ h)) (aB (bM callTup rfl T.z_tuple dO (aB (aA 7) aD)) (aB (bM callTup rfl T.z_tuple dO (aB (aA 9) aD)) aD))))))))))))))))
theorem vI (T:Tx K mg a):FnOk P w K mg base CX0 3 a.a_l_sizes a.d_l_sizes ["_law_box_here"] (spF K Z0 1 fQ) :=
 bN (k:=2) T.f_l_sizes jQ fun cdv A outer s H E hr=>show Ess _ K Z0 (defBody cP) b_l_sizes from
  (aE (aO (i:=1) jQ.nd (aG ((aS T).mono (by omega)) hr T.m_l_take T.k_l_take T.b_l_take (aB (aA 0) (aB aC aD)) (hlen:=fun _ _ h=>aP h)))
  (aE (aO (i:=2) jQ.nd (aG ((aKk T).mono (by omega)) hr T.m_l_n T.k_l_n T.b_l_n (aB (aA 0) aD) (hlen:=fun _ _ h=>aDf h)))
  (aF (aK (aY (aB (aA 2) (aB (aG ((aS T).mono (by omega)) hr T.m_l_take T.k_l_take T.b_l_take (aB (aA 0) (aB (aH (cW (aB aC (aB aC (aB aC aD)))) (aA 1)) aD)) (hlen:=fun _ _ h=>aP h)) (aB (aI opAdd aC (aG ((aS T).mono (by omega)) hr T.m_l_take T.k_l_take T.b_l_take (aB (aA 0) (aB (aH (cW (aB aC (aB aC (aB aC aD)))) (aA 1)) aD)) (hlen:=fun _ _ h=>aP h))) aD))))))))
theorem lI (T:Tx K mg a):FnOk P w K mg base CX0 1 a.a_l_inverse a.d_l_inverse ["_law_n_here","_law_u"] (spF K Z0 2 dU) :=
 bN (k:=0) T.f_l_inverse bU fun cdv A outer s H E hr=>show Ess _ K Z0 (defBody bS) b_l_inverse from
  (aE (dF (aY (aB (aA 0) (aB (aI opMod (aA 1) (aA 0)) (aB aC (aB aC aD))))) (eO rfl (aZ (aR (i:=2) bU.nd) (aZ (aR (i:=3) bU.nd) (aZ (aR (i:=4) bU.nd) (aZ (aR (i:=5) bU.nd) dP))))))
  (aE (gW NW PassesOwn.never (aQ opGt (aA 3) aC (nomark _))
  (aE (aO (i:=6) bU.nd (aI opDiv (aA 2) (aA 3)))
  (aE (mF (i:=2) (j:=3) rfl bU.nd (aB (aA 3) (aB (aI opSub (aA 2) (aI opMulA (aA 6) (aA 3))) aD)))
  (aF (mF (i:=4) (j:=5) rfl bU.nd (aB (aA 5) (aB (aI opSub (aA 4) (aI opMulA (aA 6) (aA 5))) aD)))))))
  (aF (aK (aI opMod (aA 4) (aA 0))))))
theorem mX (T:Tx K mg a):FnOk P w K mg base CX0 2 a.a_l_deeds_back a.d_l_deeds_back ["_law_n_here","_law_deeds"] (spF K Z0 2 dA) :=
 bN (k:=1) T.f_l_deeds_back eP fun cdv A outer s H E hr=>show Ess _ K Z0 (defBody bG) b_l_deeds_back from
  (aE (aO (i:=2) eP.nd (iH aD))
  (aE (fL PassesOwn.never rfl (aIr T.z_reversed (aA 1)) (aR (i:=3) eP.nd)
  (aF (bC (aQ (opEq (aM hr)) (aH (aA 3) aC) aW (nomark _))
  (aF (cX (fV (aA 2) (aY (aB aW (aB (aH (aA 3) aC) (aB (aG ((lI T).mono (by omega)) hr T.m_l_inverse T.k_l_inverse T.b_l_inverse (aB (aA 0) (aB (aH (aA 3) aC) aD)) (hlen:=fun _ _ h=>iZ h)) aD)))))))
  (aF (cX (fV (aA 2) (aI opAdd (aI opAdd (bA (aA 3) cL (bX aC)) (aY (aB (aI opMod (aI opSub aC (aH (aA 3) aC)) (aA 0)) aD))) (bA (aA 3) (bX aC) cL))))))))
  (aF (aK (bM callTup rfl T.z_tuple dO (aB (aA 2) aD))))))
theorem nK (T:Tx K mg a):FnOk P w K mg base CX0 4 a.a_l_few_kinds a.d_l_few_kinds ["_law_box_here","_law_n_here","_law_givens","_law_shelves","_law_many"] (spF K Z0 5 dI) :=
 bN (k:=3) T.f_l_few_kinds bL fun cdv A outer s H E hr=>show Ess _ K Z0 (defBody bK) b_l_few_kinds from
  (aE (aO (i:=5) bL.nd (iH aD))
  (aE (fL PassesOwn.never rfl (dS T.z_range (aI opAdd aC (aG ((aS T).mono (by omega)) hr T.m_l_take T.k_l_take T.b_l_take (aB (aA 0) (aB aC aD)) (hlen:=fun _ _ h=>aP h)))) (aR (i:=6) bL.nd)
  (aF (cX (fV (aA 5) (aG ((pN T).mono (by omega)) hr T.m_l_deed T.k_l_deed T.b_l_deed (aB (aA 0) (aB (aA 1) (aB (aA 2) (aB (aA 3) aD)))) (hlen:=fun _ _ h=>oN h))))))
  (aE (aO (i:=7) bL.nd (iH aD))
  (aE (fL PassesOwn.never rfl (dS T.z_range (aA 4)) (aR (i:=6) bL.nd)
  (aE (aO (i:=8) bL.nd (aG ((aS T).mono (by omega)) hr T.m_l_take T.k_l_take T.b_l_take (aB (aA 0) (aB aC aD)) (hlen:=fun _ _ h=>aP h)))
  (aE (aO (i:=9) bL.nd (aH (aA 5) (aG ((aS T).mono (by omega)) hr T.m_l_take T.k_l_take T.b_l_take (aB (aA 0) (aB (bE callLen rfl T.z_len PySem.boot_len (aB (aA 5) aD)) aD)) (hlen:=fun _ _ h=>aP h))))
  (aE (bC (aQ (opEq (aM hr)) (aH (aA 9) aC) aW (nomark _))
  (aF (aO (i:=10) bL.nd (aH (cW (aB (aG ((lP T).mono (by omega)) hr T.m_l_unit T.k_l_unit T.b_l_unit (aB (aA 0) (aB (aA 1) aD)) (hlen:=fun _ _ h=>jG h)) (aB aC aD))) (bM callInt rfl T.z_int eQ (aB (dD (opEq (aM hr)) (aA 8) aC (nomark _)) aD)))))
  (aF (aO (i:=10) bL.nd (aH (cW (aB (aG ((iJ T).mono (by omega)) hr T.m_l_rest T.k_l_rest T.b_l_rest (aB (aA 0) (aB (aA 1) aD)) (hlen:=fun _ _ h=>gJ h)) (aB aC aD))) (bM callInt rfl T.z_int eQ (aB (dD (opEq (aM hr)) (aA 8) aC (nomark _)) aD))))))
  (aE (cX (fV (aA 7) (aI opAdd (aI opAdd (bA (aA 9) cL (bX aC)) (aY (aB (aA 10) aD))) (bA (aA 9) (bX aC) cL))))
  (aF (bC (pG (mB (aQ (opEq (aM hr)) (aA 8) aC (nomark _)) (iK (aQ opGt (aA 6) aC (nomark _)))))
  (aF (dF (aH (aG ((mX T).mono (by omega)) hr T.m_l_deeds_back T.k_l_deeds_back T.b_l_deeds_back (aB (aA 1) (aB (aY (aB (aH (aA 7) (aG ((aS T).mono (by omega)) hr T.m_l_take T.k_l_take T.b_l_take (aB (aA 0) (aB (aA 6) aD)) (hlen:=fun _ _ h=>aP h))) aD)) aD)) (hlen:=fun _ _ h=>lZ h)) aC) (lV (aA 7) (sA aC))))
  aV)))))))
  (aF (aK (bM callTup rfl T.z_tuple dO (aB (aA 7) aD))))))))
theorem qK (T:Tx K mg a):FnOk P w K mg base CX0 1 a.a_l_kind a.d_l_kind ["_law_deed_here"] (spF K Z0 1 fD) :=
 bN (k:=0) T.f_l_kind yG fun cdv A outer s H E hr=>show Ess _ K Z0 (defBody dL) b_l_kind from
  (aE (bC (aQ (opEq (aM hr)) (aH (aA 0) aC) aW (nomark _))
  (aF (aK (aY (aB aW (aB (aH (aA 0) aC) aD)))))
  aV)
  (aF (aK (aY (aB aW (aB (aH (aA 0) aC) (aB (aH (aA 0) aC) (aB (aH (aA 0) aC) aD))))))))
theorem tP (T:Tx K mg a):FnOk P w K mg base CX0 1 a.a_l_passes a.d_l_passes ["_law_one","_law_other"] (spF K Z0 2 fC) :=
 bN (k:=0) T.f_l_passes iD fun cdv A outer s H E hr=>show Ess _ K Z0 (defBody bZ) b_l_passes from
  (aE (bC (pG (mB (aQ (opEq (aM hr)) (aH (aA 0) aC) aW (nomark _)) (iK (aQ (opEq (aM hr)) (aH (aA 1) aC) aW (nomark _)))))
  (aF (aK gR))
  aV)
  (aE (bC (pG (mB (aQ (opEq (aM hr)) (aH (aA 0) aC) aW (nomark _)) (iK (aQ (opEq (aM hr)) (aH (aA 1) aC) aW (nomark _)))))
  (aF (aK (vO (dD opNotIn (aH (aA 0) aC) (aH (aA 1) aC) (by with_unfolding_all rfl)) (wY (dD opNotIn (aH (aA 1) aC) (aH (aA 0) aC) (by with_unfolding_all rfl))))))
  aV)
  (aE (dF (aH (cW (aB (aY (aB (aA 0) (aB (aA 1) aD))) (aB (aY (aB (aA 1) (aB (aA 0) aD))) aD))) (bM callInt rfl T.z_int eQ (aB (dD (opEq (aM hr)) (aH (aA 0) aC) aW (nomark _)) aD))) (eO rfl (aZ (aR (i:=2) iD.nd) (aZ (aR (i:=3) iD.nd) dP))))
  (aF (aK (dD opNotIn (aH (aA 3) aC) (aI opAdd (aH (aA 2) aC) (aY (aB (aH (aA 2) aC) aD))) (by with_unfolding_all rfl)))))))
theorem mY (T:Tx K mg a):FnOk P w K mg base CX0 1 a.a_l_is_nothing a.d_l_is_nothing ["_law_deed_here"] (spF K Z0 1 cH) :=
 bN (k:=0) T.f_l_is_nothing mV fun cdv A outer s H E hr=>show Ess _ K Z0 (defBody bH) b_l_is_nothing from
  (aF (aK (dD (opEq (aM hr)) (aH (aA 0) aC) (aH (cW (aB aC (aB aC aD))) (bM callInt rfl T.z_int eQ (aB (dD (opEq (aM hr)) (aH (aA 0) aC) aW (nomark _)) aD))) (nomark _))))
theorem vZ (T:Tx K mg a):FnOk P w K mg base CX0 2 a.a_l_moved a.d_l_moved ["_law_n_here","_law_deeds","_law_move"] (spF K Z0 3 cU) :=
 bN (k:=1) T.f_l_moved dQ fun cdv A outer s H E hr=>show Ess _ K Z0 (defBody cO) b_l_moved from
  (aE (dF (aA 2) (eO rfl (aZ (aR (i:=3) dQ.nd) (aZ (aR (i:=4) dQ.nd) dP))))
  (aE (bC (pG (sQ (aQ opLt (aA 4) aC (nomark _)) (sQ (aQ opGe (aA 4) (bE callLen rfl T.z_len PySem.boot_len (aB (aA 1) aD)) (nomark _)) (rB (pG (mB (aQ (opNe (aM hr)) (aA 3) aW (nomark _)) (iK (aQ opGe (aI opAdd (aA 4) aC) (bE callLen rfl T.z_len PySem.boot_len (aB (aA 1) aD)) (nomark _)))))))))
  (aF (aK iC))
  aV)
  (aE (bC (aQ (opEq (aM hr)) (aA 3) aW (nomark _))
  (aF (aK (aH (cW (aB iC (aB (aI opAdd (bA (aA 1) cL (bX (aA 4))) (bA (aA 1) (bX (aI opAdd (aA 4) aC)) cL)) aD))) (bM callInt rfl T.z_int eQ (aB (aG ((mY T).mono (by omega)) hr T.m_l_is_nothing T.k_l_is_nothing T.b_l_is_nothing (aB (aH (aA 1) (aA 4)) aD) (hlen:=fun _ _ h=>mD h)) aD)))))
  aV)
  (aE (dF (bA (aA 1) (bX (aA 4)) (bX (aI opAdd (aA 4) aC))) (eO rfl (aZ (aR (i:=5) dQ.nd) (aZ (aR (i:=6) dQ.nd) dP))))
  (aE (bC (aQ (opEq (aM hr)) (aA 3) aW (nomark _))
  (aF (aK (aH (cW (aB iC (aB (aI opAdd (aI opAdd (bA (aA 1) cL (bX (aA 4))) (aY (aB (aA 6) (aB (aA 5) aD)))) (bA (aA 1) (bX (aI opAdd (aA 4) aC)) cL)) aD))) (bM callInt rfl T.z_int eQ (aB (aG ((tP T).mono (by omega)) hr T.m_l_passes T.k_l_passes T.b_l_passes (aB (aA 5) (aB (aA 6) aD)) (hlen:=fun _ _ h=>sB h)) aD)))))
  aV)
  (aE (bC (aQ (opNe (aM hr)) (aG ((qK T).mono (by omega)) hr T.m_l_kind T.k_l_kind T.b_l_kind (aB (aA 5) aD) (hlen:=fun _ _ h=>nU h)) (aG ((qK T).mono (by omega)) hr T.m_l_kind T.k_l_kind T.b_l_kind (aB (aA 6) aD) (hlen:=fun _ _ h=>nU h)) (nomark _))
  (aF (aK iC))
  aV)
  (aE (aO (i:=7) dQ.nd (aI opMod (aI opMulA (aH (aA 5) aC) (aH (aA 6) aC)) (aA 0)))
  (aE (bC (aQ (opEq (aM hr)) (aH (aA 5) aC) aW (nomark _))
  (aF (aO (i:=7) dQ.nd (aI opMod (aI opAdd (aH (aA 5) aC) (aH (aA 6) aC)) (aA 0))))
  aV)
  (aF (aK (aI opAdd (aI opAdd (bA (aA 1) cL (bX (aA 4))) (aY (aB (aI opAdd (aI opAdd (bA (aA 5) cL (bX aC)) (aY (aB (aA 7) aD))) (bA (aA 5) (bX aC) cL)) aD))) (bA (aA 1) (bX (aI opAdd (aA 4) aC)) cL))))))))))))
theorem nI (T:Tx K mg a):FnOk P w K mg base CX0 3 a.a_l_rests a.d_l_rests ["_law_box_here","_law_n_here","_law_many"] (spF K Z0 3 eX) :=
 bN (k:=2) T.f_l_rests vY fun cdv A outer s H E hr=>show Ess _ K Z0 (defBody cG) b_l_rests from
  (aF (aK (bM callTup rfl T.z_tuple dO (aB (nB rfl (CompOk.of (N0:=["_law_box_here","_law_n_here","_law_many"]) (sc0:=defScope cG) (Nc:=["_law_k","_law_box_here","_law_n_here"]) (js:=[none,some 0,some 1]) (by decide +kernel)) (dS T.z_range (aA 2)) (fun _ _ _ _ _ _=>(aR (i:=0) (show (["_law_k","_law_box_here","_law_n_here"]:List Str).Nodup by decide +kernel))) (fun _ _ _ _ _ _=>rK) (fun _ _ _ _ _ _=>(aG ((iJ T).mono (by omega)) hr T.m_l_rest T.k_l_rest T.b_l_rest (aB (aA 1) (aB (aA 2) aD)) (hlen:=fun _ _ h=>gJ h)))) aD))))
theorem wJ (T:Tx K mg a):FnOk P w K mg base CX0 1 a.a_l_alike a.d_l_alike ["_law_found","_law_due"] (spF K Z0 2 iF) :=
 bN (k:=0) T.f_l_alike gH fun cdv A outer s H E hr=>show Ess _ K Z0 (defBody cR) b_l_alike from
  (aE (aO (i:=2) gH.nd (iH (aB (aY (aB (aA 0) (aB (aA 1) aD))) aD)))
  (aE (gW NW PassesOwn.never (aQ opGt (bE callLen rfl T.z_len PySem.boot_len (aB (aA 2) aD)) aC (nomark _))
  (aE (dF (aJc (aA 2)) (eO rfl (aZ (aR (i:=3) gH.nd) (aZ (aR (i:=4) gH.nd) dP))))
  (aF (bC (gU (jS oI T.z_isinstance T.z_tuple dO (aA 4)))
  (aE (bC (pG (sQ (oM (gU (jS oI T.z_isinstance T.z_tuple dO (aA 3)))) (rB (aQ (opNe (aM hr)) (bE callLen rfl T.z_len PySem.boot_len (aB (aA 3) aD)) (bE callLen rfl T.z_len PySem.boot_len (aB (aA 4) aD)) (nomark _)))))
  (aF (aK gR))
  aV)
  (aF (cX (vU (aA 2) (wI rfl T.z_list T.z_zip (aA 3) (aA 4))))))
  (aF (bC (pG (sQ (aQ (opNe (aM hr)) (jS xL T.z_isinstance T.z_bool xE (aA 3)) (jS xL T.z_isinstance T.z_bool xE (aA 4)) (nomark _)) (rB (aQ (opNe (aM hr)) (jS aCa T.z_isinstance T.z_int eQ (aA 3)) (jS aCa T.z_isinstance T.z_int eQ (aA 4)) (nomark _)))))
  (aF (aK gR))
  (aF (bC (pG (sQ (gU (jS oI T.z_isinstance T.z_tuple dO (aA 3))) (rB (aQ (opNe (aM hr)) (aA 3) (aA 4) (nomark _)))))
  (aF (aK gR))
  aV))))))))
  (aF (aK gR))))
theorem wF (T:Tx K mg a):FnOk P w K mg base CX0 3 a.a_l_split a.d_l_split ["_law_box_here","_law_n_here","_law_deed_here"] (spF K Z0 3 fW) :=
 bN (k:=2) T.f_l_split jN fun cdv A outer s H E hr=>show Ess _ K Z0 (defBody cN) b_l_split from
  (aE (bC (aQ (opEq (aM hr)) (aH (aA 2) aC) aW (nomark _))
  (aE (aO (i:=3) jN.nd (aG ((lP T).mono (by omega)) hr T.m_l_unit T.k_l_unit T.b_l_unit (aB (aA 0) (aB (aA 1) aD)) (hlen:=fun _ _ h=>jG h)))
  (aF (aK (aY (aB (aY (aB aW (aB (aH (aA 2) aC) (aB (aI opMod (aI opMulA (aH (aA 2) aC) (aG ((lI T).mono (by omega)) hr T.m_l_inverse T.k_l_inverse T.b_l_inverse (aB (aA 1) (aB (aA 3) aD)) (hlen:=fun _ _ h=>iZ h))) (aA 1)) aD)))) (aB (aY (aB aW (aB (aH (aA 2) aC) (aB (aA 3) aD)))) aD))))))
  aV)
  (aE (aO (i:=4) jN.nd (aG ((iJ T).mono (by omega)) hr T.m_l_rest T.k_l_rest T.b_l_rest (aB (aA 0) (aB (aA 1) aD)) (hlen:=fun _ _ h=>gJ h)))
  (aF (aK (aY (aB (aI opAdd (aI opAdd (bA (aA 2) cL (bX aC)) (aY (aB (aI opMod (aI opSub (aH (aA 2) aC) (aA 4)) (aA 1)) aD))) (bA (aA 2) (bX aC) cL)) (aB (aI opAdd (aI opAdd (bA (aA 2) cL (bX aC)) (aY (aB (aA 4) aD))) (bA (aA 2) (bX aC) cL)) aD)))))))
theorem aCk (T:Tx K mg a):FnOk P w K mg base CX0 4 a.a_l_led a.d_l_led ["_law_box_here","_law_n_here","_law_givens","_law_shelves","_law_deeds"] (spF K Z0 5 kU) :=
 bN (k:=3) T.f_l_led fS fun cdv A outer s H E hr=>show Ess _ K Z0 (defBody eJ) b_l_led from
  (aE (mF (i:=5) (j:=6) rfl fS.nd (aB (aG ((aS T).mono (by omega)) hr T.m_l_take T.k_l_take T.b_l_take (aB (aA 0) (aB aC aD)) (hlen:=fun _ _ h=>aP h)) (aB (aG ((aS T).mono (by omega)) hr T.m_l_take T.k_l_take T.b_l_take (aB (aA 0) (aB (aI opAdd (bE callLen rfl T.z_len PySem.boot_len (aB (aA 4) aD)) aC) aD)) (hlen:=fun _ _ h=>aP h)) aD)))
  (aE (bC (aQ (opEq (aM hr)) (aA 5) aC (nomark _))
  (aE (aO (i:=7) fS.nd (aG ((pN T).mono (by omega)) hr T.m_l_deed T.k_l_deed T.b_l_deed (aB (aA 0) (aB (aA 1) (aB (aA 2) (aB (aA 3) aD)))) (hlen:=fun _ _ h=>oN h)))
  (aE (aO (i:=7) fS.nd (aI opAdd (aI opAdd (bA (aA 7) cL (bX aC)) (aY (aB (aH (cW (aB aC (aB aC aD))) (bM callInt rfl T.z_int eQ (aB (dD (opEq (aM hr)) (aH (aA 7) aC) aW (nomark _)) aD))) aD))) (bA (aA 7) (bX aC) cL)))
  (aF (aK (aI opAdd (aI opAdd (bA (aA 4) cL (bX (aA 6))) (aY (aB (aA 7) aD))) (bA (aA 4) (bX (aA 6)) cL))))))
  aV)
  (aE (bC (pG (mB (aQ (opEq (aM hr)) (aA 5) aC (nomark _)) (iK (aQ opLt (aA 6) (bE callLen rfl T.z_len PySem.boot_len (aB (aA 4) aD)) (nomark _)))))
  (aF (aK (aI opAdd (aI opAdd (bA (aA 4) cL (bX (aA 6))) (aG ((wF T).mono (by omega)) hr T.m_l_split T.k_l_split T.b_l_split (aB (aA 0) (aB (aA 1) (aB (aH (aA 4) (aA 6)) aD))) (hlen:=fun _ _ h=>sP h))) (bA (aA 4) (bX (aI opAdd (aA 6) aC)) cL))))
  aV)
  (aE (aO (i:=8) fS.nd (aH (cW (aB aW (aB aW (aB aW (aB aW (aB aW (aB aW aD))))))) (aG ((aS T).mono (by omega)) hr T.m_l_take T.k_l_take T.b_l_take (aB (aA 0) (aB aC aD)) (hlen:=fun _ _ h=>aP h))))
  (aE (aO (i:=9) fS.nd (aG ((vZ T).mono (by omega)) hr T.m_l_moved T.k_l_moved T.b_l_moved (aB (aA 1) (aB (aA 4) (aB (aY (aB (aA 8) (aB (aA 6) aD))) aD))) (hlen:=fun _ _ h=>sX h)))
  (aF (aK (aH (cW (aB (aA 9) (aB (aA 4) aD))) (bM callInt rfl T.z_int eQ (aB (dD opIs (aA 9) iC (nomark _)) aD))))))))))
theorem aJo (T:Tx K mg a):FnOk P w K mg base CX0 8 a.a_law a.d_law ["_law_script"] (spF K Z0 1 nG) :=
 bN (k:=7) T.f_law eS fun cdv A outer s H E hr=>show Ess _ K Z0 (defBody iW) b_law from
  (aE (fL PassesOwn.never rfl (dS T.z_range (bE (callMax2 rfl) rfl T.z_max aHw (aB aC (aB (bE (callMin2 rfl) rfl T.z_min aJn (aB aC (aB (bE callLen rfl T.z_len PySem.boot_len (aB (aA 0) aD)) aD))) aD)))) (aR (i:=1) eS.nd)
  (aE (aO (i:=2) eS.nd (aG ((aCs T).mono (by omega)) hr T.m_l_box T.k_l_box T.b_l_box (aB (aA 0) (aB (aA 1) aD)) (hlen:=fun _ _ h=>yT h)))
  (aE (dF (aG ((vI T).mono (by omega)) hr T.m_l_sizes T.k_l_sizes T.b_l_sizes (aB (aA 2) aD) (hlen:=fun _ _ h=>sV h)) (eO rfl (aZ (aR (i:=3) eS.nd) (aZ (aR (i:=4) eS.nd) (aZ (aR (i:=5) eS.nd) dP)))))
  (aE (aO (i:=6) eS.nd (aG ((nK T).mono (by omega)) hr T.m_l_few_kinds T.k_l_few_kinds T.b_l_few_kinds (aB (aA 2) (aB (aA 3) (aB (aA 4) (aB (aA 5) (aB (aG ((aS T).mono (by omega)) hr T.m_l_take T.k_l_take T.b_l_take (aB (aA 2) (aB aC aD)) (hlen:=fun _ _ h=>aP h)) aD))))) (hlen:=fun _ _ h=>mW h)))
  (aE (aO (i:=7) eS.nd (aG ((uT T).mono (by omega)) hr T.m_short T.k_short T.b_short (aB (aY (aB (aA 3) (aB (aA 4) (aB (aA 5) (aB (aA 6) aD))))) aD) (hlen:=fun _ _ h=>pQ h)))
  (aE (mF (i:=8) (j:=9) rfl eS.nd (aB (aG ((nI T).mono (by omega)) hr T.m_l_rests T.k_l_rests T.b_l_rests (aB (aA 2) (aB (aA 3) (aB (aA 4) aD))) (hlen:=fun _ _ h=>mL h)) (aB (aG ((nI T).mono (by omega)) hr T.m_l_rests T.k_l_rests T.b_l_rests (aB (aA 2) (aB (aA 3) (aB (aA 5) aD))) (hlen:=fun _ _ h=>mL h)) aD)))
  (aE (aO (i:=10) eS.nd (aG ((aAe T).mono (by omega)) hr T.m_run T.k_run T.b_run (aB (aY (aB (aA 3) (aB (aA 4) (aB (aA 5) (aB (aA 6) aD))))) (aB (aA 8) (aB (aA 9) aD))) (hlen:=fun _ _ h=>xY h)))
  (aE (fL PassesOwn.never rfl (dS T.z_range (aG ((aS T).mono (by omega)) hr T.m_l_take T.k_l_take T.b_l_take (aB (aA 2) (aB aC aD)) (hlen:=fun _ _ h=>aP h))) (aR (i:=11) eS.nd)
  (aE (aO (i:=6) eS.nd (aG ((aCk T).mono (by omega)) hr T.m_l_led T.k_l_led T.b_l_led (aB (aA 2) (aB (aA 3) (aB (aA 4) (aB (aA 5) (aB (aA 6) aD))))) (hlen:=fun _ _ h=>zA h)))
  (aF (bC (aQ opLt (bE callLen rfl T.z_len PySem.boot_len (aB (aA 6) aD)) (bE callLen rfl T.z_len PySem.boot_len (aB (aH (aA 7) aC) aD)) (nomark _))
  (aF (aK gR))
  aV))))
  (aE (bC (oM (gU (aG ((wJ T).mono (by omega)) hr T.m_l_alike T.k_l_alike T.b_l_alike (aB (aG ((uT T).mono (by omega)) hr T.m_short T.k_short T.b_short (aB (aY (aB (aA 3) (aB (aA 4) (aB (aA 5) (aB (aA 6) aD))))) aD) (hlen:=fun _ _ h=>pQ h)) (aB (aA 7) aD)) (hlen:=fun _ _ h=>sN h))))
  (aF (aK gR))
  aV)
  (aF (bC (aQ (opNe (aM hr)) (aG ((aAe T).mono (by omega)) hr T.m_run T.k_run T.b_run (aB (aY (aB (aA 3) (aB (aA 4) (aB (aA 5) (aB (aA 6) aD))))) (aB (aA 8) (aB (aA 9) aD))) (hlen:=fun _ _ h=>xY h)) (aA 10) (nomark _))
  (aF (aK gR))
  aV)))))))))))
  (aF (aK gR)))
end
open PySem L2 EV LS
local macro_rules | `(tactic| clean_wf) => `(tactic| repeat decreasing_trivial_pre_omega)
local macro_rules | `(tactic| decreasing_trivial_pre_omega) => `(tactic| with_reducible first
 | apply gD
 | apply aHz
 | apply aGc
 | apply aLn
 | refine aMj (by with_unfolding_all exact rfl) ?_
 | apply aMh
 | apply aMg
 | apply aLo
 | apply aLy
 | apply aLw
 | apply lT
 | apply aLe
 | apply aIg
 | apply aLx
 | apply aKv
 | apply aGj
 | apply aGr
 | apply aHq
 | (refine aMe ?hz ?_; case hz=>(with_unfolding_all first | exact rfl | decide | ((try simp only [decide_eq_true_eq,true_and,and_true,List.length_map,List.length_cons,List.length_nil,List.length_append,List.length_replicate]) <;> omega)))
 | (refine sF ?hz ?_; case hz=>(with_unfolding_all first | decide | ((try simp only [mulOk,decide_eq_true_eq,List.length_map,List.length_cons,List.length_nil,List.length_append,List.length_replicate]) <;> omega)))
 | apply aKl
 | apply aKo
 | apply aJf
 | apply aKx
 | apply aJm
 | apply aJg
 | refine lK (by with_unfolding_all exact rfl) ?_
 | refine dE (by with_unfolding_all exact rfl) ?_
 | refine wV (by with_unfolding_all exact rfl) ?_
 | refine cJ (by assumption) (by with_unfolding_all exact rfl) ?_
 | refine cJ (List.getElem?_set_self (by simpa only [List.length_set])) (by with_unfolding_all exact rfl) ?_
 | apply aEr
 | apply aDr
 | apply aIc
 | apply aLh
 | apply aDn
 | apply aLa
 | apply aIe
 | refine aJe (by with_unfolding_all exact rfl) (by with_unfolding_all simp) ?_
 | refine aJy (by with_unfolding_all exact rfl) (by with_unfolding_all simp) ?_
 | refine aJb (by with_unfolding_all exact rfl) (by with_unfolding_all simp) ?_
 | apply aEe
 | apply aDi
 | apply aFf
 | apply aDg
 | refine aFh (by assumption) ?_
 | apply aEf
 | apply aGv
 | apply aJs
 | apply aKs
 | apply aKu
 | apply aHi
 | apply aGx
 | apply aIp
 | apply aKa
 | apply aJk
 | refine aLd (s:=⟨[],none⟩) ?_
 | apply aIu
 | apply aDq
 | apply aHu
 | apply aEo
 | apply aBf
 | apply aFg
 | apply aLc
 | apply aJr
 | apply aHv
 | refine aKd (by with_unfolding_all exact rfl) ?_
 | apply aDx
 | refine aMc (by with_unfolding_all exact rfl) ?_
 | refine ⟨_,rfl,?_⟩
 | refine ⟨_,_,_,_,rfl,rfl,by assumption,by with_unfolding_all exact rfl,?_⟩
 | refine ⟨_,_,_,_,rfl,rfl,List.getElem?_set_self (by simpa only [List.length_set]),by with_unfolding_all exact rfl,?_⟩
 | refine aGu (by with_unfolding_all decide) ?_
 | refine jR (by with_unfolding_all decide) ?_
 | refine ⟨fun h=>absurd h (by with_unfolding_all decide),fun _=>?_⟩
 | refine ⟨fun _=>?_,fun h=>absurd h (by with_unfolding_all decide)⟩
 | refine ⟨_,_,rfl,?_⟩
 | refine ⟨_,_,_,rfl,?_⟩)
theorem aT {M:Mm} {b:Nat} {m:Int} (h:Bx M b) (h0:0 < m) (h1:m < 18446744073709551616):Ok (aU [.ref b,.d (.int m)] M) fun w M'=>∃ d:Int,w=.d (.int d)/\0<=d/\d < m/\Nx b M M':=by
 have hb:=h.lt
 obtain ⟨x,y,z,e⟩:=h
 refine bB rfl ?_
 unfold b_l_take
 clean_wf
 refine eF (fun hx=>?_) (fun hx=>?_)
 ·clean_wf
  refine ⟨Int.emod_nonneg _ (by omega),Int.emod_lt_of_pos _ h0,x / m,y,z,?_⟩
  rw [List.take_of_length_le (by simp)]; rfl
 ·clean_wf
  refine ⟨Int.emod_nonneg _ (by omega),Int.emod_lt_of_pos _ h0,?_⟩
  rw [List.take_of_length_le (by simp)]
  exact ⟨_,_,_,by rw [List.set_set]; rfl⟩
theorem aAd {M:Mm} {ns:List Int} {k:Int} (h0:0<=k) (hl:ns.length<=63):Ok (mZ [.d (.fz (ns.map D.int)),.d (.int k)] M) fun w M'=>∃ x y z,w=.ref M.length/\M'=M++[[.int x,.int y,.int z]]:=by
 refine aGq rfl ?_
 have at_:∀ i:Int,0<=i->i < (ns.length:Int)->∃ n,atI (ns.map D.int) i=some (.int n):=fun i a b=>by
  have hi:i.toNat < ns.length:=by omega
  refine ⟨ns[i.toNat],?_⟩
  simp only [atI,ixN,List.length_map]
  rw [if_pos a,if_pos b]
  simp [hi]
 unfold b_l_box
 clean_wf
 refine eF (fun hx=>?_) (fun hx=>?_)
 ·rw [List.length_map] at hx
  obtain ⟨n,e⟩:=at_ k h0 hx
  clean_wf
  refine wV e ?_
  clean_wf
  refine dE (atBox _) ?_
  clean_wf
  exact ⟨M.length,[.int _,.int _,.int _],rfl,Nat.le_refl _,List.getElem?_concat_length,_,_,_,rfl,by rw [List.take_left]⟩
 ·clean_wf
  refine eF (fun hy=>?_) (fun hy=>?_)
  ·rw [List.length_map] at hy
   obtain ⟨n,e⟩:=at_ (k % ns.length) (Int.emod_nonneg _ (by omega)) (Int.emod_lt_of_pos _ hy)
   clean_wf
   rw [List.length_map]
   refine wV e ?_
   clean_wf
   refine dE (atBox _) ?_
   clean_wf
   exact ⟨M.length,[.int _,.int _,.int _],rfl,Nat.le_refl _,List.getElem?_concat_length,_,_,_,rfl,by rw [List.take_left]⟩
  ·clean_wf
   refine dE (atBox _) ?_
   clean_wf
   exact ⟨M.length,[.int _,.int _,.int _],rfl,Nat.le_refl _,List.getElem?_concat_length,_,_,_,rfl,by rw [List.take_left]⟩
theorem aJp {M:Mm} {b:Nat} (hb:Bx M b):Ok (sO [.ref b] M) fun w M'=>∃ n:Int,w=.d (.int n)/\2<=n/\n<=1000000/\Nx b M M':=by
 have n:=Nx.refl hb
 unfold sO
 refine bB rfl ?_
 unfold b_l_n
 clean_wf
 (refine (aT hb (by omega) (by omega)).mono ?_; rintro _ _ ⟨d1,rfl,l_d1,u_d1,n'⟩; replace n:=n.trans n'; replace hb:=n'.bx hb; clear n')
 clean_wf
 (refine (aT hb (by omega) (by omega)).mono ?_; rintro _ _ ⟨d2,rfl,l_d2,u_d2,n'⟩; replace n:=n.trans n'; replace hb:=n'.bx hb; clear n')
 obtain ⟨v,ev,mv⟩:=atInts (ns:=[2,3,4,5,6,7,8,9,12,16,30,36,49,64,91,97,210,1009,65536,999983,999999,1000000]) l_d2 (by simpa using u_d2)
 have hv:∀ x∈[2,3,4,5,6,7,8,9,12,16,30,36,49,64,91,97,210,1009,65536,999983,999999,(1000000:Int)],2<=x/\x<=1000000:=by decide
 refine dE ev ?_
 clean_wf
 refine eF (fun _=>?_) (fun _=>?_)
 ·clean_wf
  (refine (aT hb (by omega) (by omega)).mono ?_; rintro _ _ ⟨d3,rfl,l_d3,u_d3,n'⟩; replace n:=n.trans n'; replace hb:=n'.bx hb; clear n')
  clean_wf
  rw [n.take]
  exact ⟨by omega,by omega,n⟩
 ·clean_wf
  refine eF (fun _=>?_) (fun _=>?_)
  ·clean_wf
   (refine (aT hb (by omega) (by omega)).mono ?_; rintro _ _ ⟨d3,rfl,l_d3,u_d3,n'⟩; replace n:=n.trans n'; replace hb:=n'.bx hb; clear n')
   clean_wf
   rw [n.take]
   exact ⟨by omega,by omega,n⟩
  ·clean_wf
   rw [n.take]
   exact ⟨(hv v mv).1,(hv v mv).2,n⟩
theorem iM {M:Mm} {b:Nat} {m:Int} (hb:Bx M b) (h2:2<=m) (hn:m<=1000000):Ok (eM [.ref b,.d (.int m)] M) fun w M'=>∃ r:Int,w=.d (.int r)/\0<=r/\r < m/\Nx b M M':=by
 have n:=Nx.refl hb
 unfold eM
 refine bB rfl ?_
 unfold b_l_rest
 clean_wf
 (refine (aT hb (by omega) (by omega)).mono ?_; rintro _ _ ⟨d1,rfl,l_d1,u_d1,n'⟩; replace n:=n.trans n'; replace hb:=n'.bx hb; clear n')
 clean_wf
 refine eF (fun _=>?_) (fun _=>?_)
 ·clean_wf
  (refine (aT hb (by omega) (by omega)).mono ?_; rintro _ _ ⟨d2,rfl,l_d2,u_d2,n'⟩; replace n:=n.trans n'; replace hb:=n'.bx hb; clear n')
  have e1:(1:Int) % m=1:=Int.emod_eq_of_lt (by omega) (by omega)
  obtain ⟨w,ew,hw⟩:=at4 l_d2 u_d2 (.int 0) (.int (1 % m)) (.int (m - 1)) (.int ((m - 2) % m))
  refine dE ew ?_
  rcases hw with rfl | rfl | rfl | rfl
  ·clean_wf
   rw [n.take]
   exact ⟨by omega,by omega,n⟩
  ·clean_wf
   rw [n.take]
   exact ⟨by omega,by omega,n⟩
  ·clean_wf
   rw [n.take]
   exact ⟨by omega,by omega,n⟩
  ·clean_wf
   rw [n.take]
   exact ⟨Int.emod_nonneg _ (by omega),Int.emod_lt_of_pos _ (by omega),n⟩
 ·clean_wf
  (refine (aT hb (by omega) (by omega)).mono ?_; rintro _ _ ⟨d2,rfl,l_d2,u_d2,n'⟩; replace n:=n.trans n'; replace hb:=n'.bx hb; clear n')
  clean_wf
  rw [n.take]
  exact ⟨l_d2,u_d2,n⟩
theorem oF {M:Mm} {b:Nat} {n m:Int} (hb:Bx M b) (h2:2<=n) (hn:n<=1000000) (m0:0<=m) (m1:m < 1000):Ok (eX [.ref b,.d (.int n),.d (.int m)] M) fun w M'=>∃ cs:List Int,w=.d (intsD cs)/\(cs.length:Int)=m/\Rs n cs/\Nx b M M':=by
 unfold eX
 refine bB rfl ?_
 unfold b_l_rests
 clean_wf
 refine kS (fun i acc L' M'=>∃ cs:List Int,acc=cs.map D.int/\cs.length=i/\Rs n cs/\Nx b M M'/\Bx M' b/\∃ a,L'=[a,some (.ref b),some (.d (.int n))]) ?_
 clean_wf
 refine ⟨by simp only [in62,decide_eq_true_eq]; omega,⟨[],rfl,rfl,(fun c h=>by cases h),Nx.refl hb,hb,none,rfl⟩,?_,by simp only [rngD,List.length_map,List.length_range]; omega,?_,?_⟩
 ·rintro i acc L' M' hi ⟨cs,rfl,hl,_,n',_⟩
  exact ⟨n'.len,(fun t e=>by cases e),by simp [hl]⟩
 ·rintro i d acc _ M1 hx ⟨cs,rfl,hl,hr,n',hb',a,rfl⟩
  obtain ⟨hi,rfl⟩:=eL hx
  clean_wf
  refine (iM (hb'.app (J:=[cs.map D.int])) h2 hn).mono ?_
  rintro _ _ ⟨r,rfl,l,u,n2⟩
  obtain ⟨M2,rfl,n3⟩:=n2.unapp hb'.lt
  refine ⟨_,M2,rfl,rfl,cs++[r],by simp,by simp [hl],?_,n'.trans n3,n3.bx hb',_,rfl⟩
  intro c hc
  rcases List.mem_append.mp hc with hc | hc
  ·exact hr c hc
  ·rw [List.mem_singleton.mp hc]; exact ⟨l,u⟩
 ·rintro acc _ M1 ⟨cs,rfl,hl,hr,n',hb',a,rfl⟩
  clean_wf
  refine jK (xs:=cs.map D.int) rfl ?_
  clean_wf
  rw [n'.take]
  simp only [rngD,List.length_map,List.length_range] at hl
  exact ⟨by omega,hr,n'⟩
theorem uC {a b:Int} {M:Mm} (ha:0<=a) (hb:0<=b) (hb2:b<=1000000):Ok (fB [.d (.int a),.d (.int b)] M) fun w M'=>M'=M/\∃ g:Int,w=.d (.int g)/\0<=g/\g ∣ a/\g ∣ b/\∃ x y,a*x+b*y=g:=by
 unfold fB
 refine bB rfl ?_
 unfold b_l_shared
 clean_wf
 refine (fU (QS:=fun o M'=>M'=M/\∃ g t,o=.nx [some (.d (.int g)),t]/\0<=g/\g ∣ a/\g ∣ b/\∃ x y,a*x+b*y=g)
  (I:=fun m L M'=>M'=M/\∃ (h l:Int),L=[some (.d (.int h)),some (.d (.int l))]/\m=l.toNat/\0<=h/\0<=l/\l<=1000000/\(∃ x y,a*x+b*y=h)/\(∃ x y,a*x+b*y=l)/\∀ c:Int,c ∣ h->c ∣ l->c ∣ a/\c ∣ b) ?_ NW b.toNat _ _
  ⟨rfl,a,b,rfl,rfl,ha,hb,hb2,⟨1,0,by omega⟩,⟨0,1,by omega⟩,fun c h1 h2=>⟨h1,h2⟩⟩ (by rw [tX]; omega)).mono ?_
 ·rintro m L _ ⟨rfl,h,l,rfl,rfl,h0,l0,l1,⟨x1,y1,e1⟩,⟨x2,y2,e2⟩,hd⟩
  clean_wf
  refine ⟨fun hl=>?_,fun hl=>?_⟩
  ·have hl:0 < l:=by simpa using hl
   have em1:=Int.emod_nonneg h (by omega:l≠0)
   have em2:=Int.emod_lt_of_pos h hl
   have e:h - l*(h / l)=h % l:=by rw [Int.emod_def]
   clean_wf
   refine ⟨(h % l).toNat,by omega,rfl,l,h % l,rfl,rfl,by omega,em1,by omega,⟨x2,y2,e2⟩,⟨x1 - x2*(h / l),y1 - y2*(h / l),?_⟩,?_⟩
   ·rw [<- e,<- e1,<- e2]; grind
   ·intro c g1 g2
    refine hd c ?_ g1
    have:=Int.dvd_add g2 (Int.dvd_trans g1 (Int.dvd_mul_right l (h / l)))
    rwa [<- e,show h - l*(h / l)+l*(h / l)=h by omega] at this
  ·have hl:l=0:=by simp at hl; omega
   subst hl
   have:=hd h (Int.dvd_refl h) (Int.dvd_zero h)
   exact ⟨rfl,h,_,rfl,h0,this.1,this.2,x1,y1,e1⟩
 ·rintro _ _ ⟨rfl,g,t,rfl,h0,d1,d2,x,y,e⟩
  clean_wf
  exact ⟨by simp,_,rfl,h0,d1,d2,x,y,e⟩
theorem lU {M:Mm} {b:Nat} {m:Int} (hb:Bx M b) (h2:2<=m) (hn:m<=1000000):Ok (fA [.ref b,.d (.int m)] M) fun w M'=>∃ u:Int,w=.d (.int u)/\Un m u/\Nx b M M':=by
 have n:=Nx.refl hb
 unfold fA
 refine bB rfl ?_
 unfold b_l_unit
 clean_wf
 (refine (aT hb (by omega) (by omega)).mono ?_; rintro _ _ ⟨d1,rfl,l_d1,u_d1,n'⟩; replace n:=n.trans n'; replace hb:=n'.bx hb; clear n')
 rename_i M1
 clean_wf
 refine (fU (QS:=fun o M'=>M'=M1/\∃ u,o=.nx [some (.ref b),some (.d (.int m)),some (.d (.int u))]/\Un m u)
  (I:=fun k L M'=>M'=M1/\∃ u:Int,L=[some (.ref b),some (.d (.int m)),some (.d (.int u))]/\0<=u/\u < m/\k=(if u<=1 then 1 - u else m+1 - u).toNat) ?_ NW (if d1<=1 then 1 - d1 else m+1 - d1).toNat _ _
  ⟨rfl,d1,rfl,l_d1,u_d1,rfl⟩ (by rw [tX]; split <;> omega)).mono ?_
 ·rintro k L _ ⟨rfl,u,rfl,u0,u1,rfl⟩
  clean_wf
  refine (uC u0 (by omega) hn).mono ?_
  rintro _ _ ⟨rfl,g,rfl,g0,q1,q2,x,y,e⟩
  clean_wf
  refine ⟨fun hg=>?_,fun hg=>?_⟩
  ·have hg:g≠1:=by simpa using hg
   have hu:u≠1:=by
    rintro rfl
    have:=Int.le_of_dvd (by omega) q1
    have:g≠0:=by rintro rfl; have:=Int.zero_dvd.mp q1; omega
    omega
   clean_wf
   by_cases hm:u+1=m
   ·rw [hm,Int.emod_self]
    refine ⟨_,?_,rfl,0,rfl,by omega,by omega,rfl⟩
    split <;> split <;> omega
   ·rw [Int.emod_eq_of_lt (by omega) (by omega)]
    refine ⟨_,?_,rfl,u+1,rfl,by omega,by omega,rfl⟩
    split <;> split <;> omega
  ·have hg:g=1:=by simpa using hg
   subst hg
   refine ⟨rfl,u,rfl,u0,u1,x % m,Int.emod_nonneg _ (by omega),Int.emod_lt_of_pos _ (by omega),?_⟩
   refine Cg.emod ((Cg.mul Cg.rfl Cg.mod).trans ⟨-y,?_⟩)
   rw [<- e]; grind
 ·rintro _ _ ⟨rfl,u,rfl,hu⟩
  clean_wf
  rw [n.take]
  exact ⟨hu,n⟩
theorem yH {M:Mm} {b:Nat} {m k:Int} (hb:Bx M b) (hk:0<=k) (hk2:k < 60) (hm:0 < k->0 < m) (hm2:m < 1000) {js:List (Option Nat)} {fi:FI} {L:Lc} {Q:W->Mm->Prop} (e:outL js L=[none,some (.ref b),some (.d (.int m))]) (hi:Ok (fi L M) fun s M1=>s=⟨rngD 0 k.toNat,none⟩/\M1=M)
  (q:∀ (ns:List Nat) M',(ns.length:Int)=k->(∀ x∈ns,(x:Int) < m)->Nx b M M'->Bx M' b->Q (.d (.lst (ns.map fun x=>.int (x:Nat)))) M'):Ok (eComp js fi (gN 0) EV.tYes (eA aU (aCons (eV 1) (aCons (eV 2) aNil))) L M) Q:=by
 refine kS (fun i acc L' M'=>∃ ns:List Nat,acc=ns.map (fun x=>.int (x:Nat))/\ns.length=i/\(∀ x∈ns,(x:Int) < m)/\Nx b M M'/\Bx M' b/\∃ a,L'=[a,some (.ref b),some (.d (.int m))]) ?_
 refine hi.mono ?_
 rintro _ _ ⟨rfl,rfl⟩
 refine ⟨⟨[],rfl,rfl,(fun _ h=>by cases h),Nx.refl hb,hb,none,e⟩,?_,by simp only [rngD,List.length_map,List.length_range]; omega,?_,?_⟩
 ·rintro i acc L' M' hi ⟨ns,rfl,hl,_,n',_⟩
  exact ⟨n'.len,(fun t e=>by cases e),by simp [hl]⟩
 ·rintro i d acc _ M1 hx ⟨ns,rfl,hl,hr,n',hb',a,rfl⟩
  obtain ⟨hi,rfl⟩:=eL hx
  clean_wf
  have q1:=aT (hb'.app (J:=[ns.map fun x=>D.int (x:Nat)])) (hm (by omega)) (by omega)
  refine q1.mono ?_
  rintro _ _ ⟨r,rfl,l,u,n2⟩
  obtain ⟨M2,rfl,n3⟩:=n2.unapp hb'.lt
  obtain ⟨r,rfl⟩:∃ k:Nat,r=k:=⟨r.toNat,by omega⟩
  refine ⟨_,M2,rfl,rfl,ns++[r],by simp,by simp [hl],?_,n'.trans n3,n3.bx hb',_,rfl⟩
  intro c hc
  rcases List.mem_append.mp hc with hc | hc
  ·exact hr c hc
  ·rw [List.mem_singleton.mp hc]; exact u
 ·rintro acc _ M1 ⟨ns,rfl,hl,hr,n',hb',a,rfl⟩
  simp only [rngD,List.length_map,List.length_range] at hl
  exact q ns M1 (by omega) hr n' hb'
theorem qI {M:Mm} {b G S:Nat} {m:Int} (hb:Bx M b) (h2:2<=m) (hn:m<=1000000) (hG:G<=8) (hS:1<=S) (hS2:S<=9):Ok (fY [.ref b,.d (.int m),.d (.int G),.d (.int S)] M) fun w M'=>∃ d:Dd,w=.d (encD d)/\OkD m G S d/\SrtD d/\Nx b M M':=by
 have n:=Nx.refl hb
 unfold fY
 refine bB rfl ?_
 unfold b_l_deed
 clean_wf
 (refine (aT hb (by omega) (by omega)).mono ?_; rintro _ _ ⟨d1,rfl,l_d1,u_d1,n'⟩; replace n:=n.trans n'; replace hb:=n'.bx hb; clear n')
 obtain ⟨ks,rfl⟩:∃ k:Nat,d1=k:=⟨d1.toNat,by omega⟩
 clean_wf
 (refine (aT hb (by omega) (by omega)).mono ?_; rintro _ _ ⟨d2,rfl,l_d2,u_d2,n'⟩; replace n:=n.trans n'; replace hb:=n'.bx hb; clear n')
 clean_wf
 refine eF (fun _=>?_) (fun _=>?_)
 ·clean_wf
  refine (lU hb h2 hn).mono ?_
  rintro _ _ ⟨u,rfl,hu,n'⟩
  replace n:=n.trans n'
  clean_wf
  rw [n.take]
  exact ⟨.scale ks u,rfl,⟨by omega,hu⟩,trivial,n⟩
 clean_wf
 (refine (aT hb (by omega) (by omega)).mono ?_; rintro _ _ ⟨d3,rfl,l_d3,u_d3,n'⟩; replace n:=n.trans n'; replace hb:=n'.bx hb; clear n')
 obtain ⟨w3,e3,h3⟩:=at3 l_d3 u_d3 (.int 3) (.int 3) (.int 5)
 obtain ⟨k3,rfl,k30,k31⟩:∃ k:Int,w3=.int k/\3<=k/\k<=5:=by
  rcases h3 with rfl | rfl | rfl
  ·exact ⟨_,rfl,by omega,by omega⟩
  ·exact ⟨_,rfl,by omega,by omega⟩
  ·exact ⟨_,rfl,by omega,by omega⟩
 refine dE e3 ?_
 clean_wf
 (refine (aT hb (by omega) (by omega)).mono ?_; rintro _ _ ⟨d4,rfl,l_d4,u_d4,n'⟩; replace n:=n.trans n'; replace hb:=n'.bx hb; clear n')
 clean_wf
 have hmany:∃ k:Int,d4*(if decide (0 < (G:Int))=true then 1 else 0)=k/\0<=k/\k<=4/\(0 < k->0 < (G:Int)):=by
  by_cases hg:0 < (G:Int)
  ·exact ⟨d4,by rw [if_pos (by simpa using hg),Int.mul_one],by omega,by omega,fun _=>hg⟩
  ·exact ⟨0,by rw [if_neg (by simpa using hg),Int.mul_zero],by omega,by omega,fun h=>by omega⟩
 obtain ⟨k,ek,hk0,hk1,hkG⟩:=hmany
 rw [ek]
 clean_wf
 refine yH hb hk0 (by omega) hkG (by omega) rfl ?_ ?_
 ·clean_wf
  refine ⟨by simp only [in62,decide_eq_true_eq]; omega,rfl,rfl⟩
 intro gs M1 gl gr n' hb'
 replace n:=n.trans n'
 clear hb n'
 have hb:=hb'
 clear hb'
 obtain ⟨g,eg,pg,og⟩:=uL gs
 clean_wf
 refine qE (ns:=gs.map fun k:Nat=>(k:Int)) rfl (fF gs) (by simp; omega) ?_
 rw [eg]
 clean_wf
 refine kS (fun i acc L' M'=>acc=((List.range i).filter (·≠ks)).map (fun x=>.int (x:Nat))/\M'=M1/\∃ a,L'=[a,some (.d (.int ks))]) ?_
 clean_wf
 refine ⟨by simp only [in62,decide_eq_true_eq]; omega,⟨rfl,rfl,none,rfl⟩,?_,by simp only [rngD,List.length_map,List.length_range]; omega,?_,?_⟩
 ·rintro i acc L' M' hi ⟨rfl,rfl,_⟩
  exact ⟨rfl,(fun t e=>by cases e),by simp only [List.length_map]; exact Nat.le_trans (List.length_filter_le _ _) (by simp)⟩
 ·rintro i d acc _ _ hx ⟨rfl,rfl,a,rfl⟩
  obtain ⟨hi,rfl⟩:=eL hx
  clean_wf
  refine ⟨fun h=>?_,fun h=>?_⟩
  ·clean_wf
   have hne:i≠ks:=by simp at h; omega
   refine ⟨_,_,rfl,rfl,?_,rfl,_,rfl⟩
   rw [List.range_succ,List.filter_append]
   simp [hne]
  ·have hne:i=ks:=by simp at h; omega
   refine ⟨_,rfl,?_,rfl,_,rfl⟩
   rw [List.range_succ,List.filter_append]
   simp [hne]
 rintro acc _ _ ⟨rfl,rfl,a,rfl⟩
 simp only [rngD,List.length_map,List.length_range,Int.toNat_natCast]
 rw [show (List.range S).filter (·≠ks)=othersL S ks from rfl]
 have hts:∀ x∈othersL S ks,x < S/\x≠ks:=fun x hx=>vQ.mp hx
 have hle:(othersL S ks).length<=9:=Nat.le_trans (List.length_filter_le _ _) (by simp; omega)
 generalize othersL S ks=os at hts hle
 clean_wf
 refine nS rfl rfl (by simp [dep,deps]; have:=yP os; omega) ?_
 rw [aCz]
 clean_wf
 refine Ok.mono (Q:=fun o M2=>∃ (ts:List Nat),o=.nx [some (.ref b),some (.d (.int m)),some (.d (.int G)),some (.d (.int S)),some (.d (.int ks)),some (.d (.int d2)),some (.d (.int k)),some (.d (.lst ((g.map fun k:Nat=>(k:Int)).map D.int))),some (.d (.lst (os.map fun x=>.int (x:Nat)))),some (.d (.lst ((ts.map fun k:Nat=>(k:Int)).map D.int)))]/\(∀ x∈ts,x < S/\x≠ks)/\ts.length<=4/\ts.Pairwise (·<=·)/\Nx b M M2/\Bx M2 b) ?_ ?_
 ·refine eF (fun hos=>?_) (fun _=>?_)
  ·have hos:os≠[]:=by simpa using hos
   have hpos:0 < os.length:=List.length_pos_iff.mpr hos
   clean_wf
   refine kS (fun i acc L' M'=>∃ ns:List Nat,acc=ns.map (fun x=>.int (x:Nat))/\ns.length=i/\(∀ x∈ns,x∈os)/\Nx b M M'/\Bx M' b/\∃ a,L'=[a,some (.d (.lst (os.map fun x=>.int (x:Nat)))),some (.ref b)]) ?_
   clean_wf
   (refine (aT hb (by omega) (by omega)).mono ?_; rintro _ _ ⟨d5,rfl,l_d5,u_d5,n'⟩; replace n:=n.trans n'; replace hb:=n'.bx hb; clear n')
   obtain ⟨w5,e5,h5⟩:=at3 l_d5 u_d5 (.int 2) (.int 3) (.int 5)
   obtain ⟨k5,rfl,k50,k51⟩:∃ k:Int,w5=.int k/\2<=k/\k<=5:=by
    rcases h5 with rfl | rfl | rfl
    ·exact ⟨_,rfl,by omega,by omega⟩
    ·exact ⟨_,rfl,by omega,by omega⟩
    ·exact ⟨_,rfl,by omega,by omega⟩
   refine dE e5 ?_
   clean_wf
   (refine (aT hb (by omega) (by omega)).mono ?_; rintro _ _ ⟨d6,rfl,l_d6,u_d6,n'⟩; replace n:=n.trans n'; replace hb:=n'.bx hb; clear n')
   clean_wf
   refine ⟨by simp only [in62,decide_eq_true_eq]; omega,⟨[],rfl,rfl,(fun _ h=>by cases h),n,hb,none,rfl⟩,?_,by simp only [rngD,List.length_map,List.length_range]; omega,?_,?_⟩
   ·rintro i acc L' M' hi ⟨ns,rfl,hl,_,n',_⟩
    exact ⟨by rw [n'.len,n.len],(fun t e=>by cases e),by simp [hl]⟩
   ·rintro i d acc _ M2 hx ⟨ns,rfl,hl,hr,n',hb',a,rfl⟩
    clean_wf
    have q1:=aT (hb'.app (J:=[ns.map fun x=>D.int (x:Nat)])) (m:=((os.map fun x=>D.int (x:Nat)).length:Int)) (by simp; omega) (by simp; omega)
    refine q1.mono ?_
    rintro _ _ ⟨r,rfl,l,u,n2⟩
    obtain ⟨M3,rfl,n3⟩:=n2.unapp hb'.lt
    obtain ⟨x,hx1,hx2⟩:=aEu l (by simpa using u)
    refine dE hx2 ?_
    refine ⟨_,M3,rfl,rfl,ns++[x],by simp,by simp [hl],?_,n'.trans n3,n3.bx hb',_,rfl⟩
    intro c hc
    rcases List.mem_append.mp hc with hc | hc
    ·exact hr c hc
    ·rw [List.mem_singleton.mp hc]; exact hx1
   ·rintro acc _ M2 ⟨ns,rfl,hl,hr,n',hb',a,rfl⟩
    simp only [rngD,List.length_map,List.length_range] at hl
    obtain ⟨ts,et,pt,ot⟩:=uL ns
    clean_wf
    refine qE (ns:=ns.map fun k:Nat=>(k:Int)) rfl (fF ns) (by simp; omega) ?_
    rw [et]
    clean_wf
    exact ⟨fun x hx=>hts x (hr x (pt.mem_iff.mp hx)),by rw [pt.length_eq]; omega,ot,n',hb'⟩
  ·clean_wf
   exact ⟨[],rfl,by simp,by simp,.nil,n,hb⟩
 clear n hb
 rintro _ M2 ⟨ts,rfl,ht1,ht2,ht3,n,hb⟩
 clean_wf
 refine (iM hb h2 hn).mono ?_
 rintro _ _ ⟨c,rfl,c0,c1,n'⟩
 replace n:=n.trans n'
 clean_wf
 refine jK (xs:=(g.map fun k:Nat=>(k:Int)).map D.int) rfl ?_
 clean_wf
 refine jK (xs:=(ts.map fun k:Nat=>(k:Int)).map D.int) rfl ?_
 clean_wf
 rw [n.take]
 refine ⟨.add ks c g ts,by simp only [encD,natsD]; rw [fF,fF],⟨by omega,c0,c1,?_,fun x hx=>(ht1 x hx).1,fun hk=>(ht1 ks hk).2 rfl,by rw [pg.length_eq]; omega,ht2⟩,⟨og,ht3⟩,n⟩
 intro i hi
 have:=gr i (pg.mem_iff.mp hi)
 omega
theorem vR {M:Mm} {b:Nat} (hb:Bx M b):Ok (fQ [.ref b] M) fun w M'=>∃ (m:Int) (G S:Nat),w=.d (.tup [.int m,.int G,.int S])/\2<=m/\m<=1000000/\G<=8/\1<=S/\S<=9/\Nx b M M':=by
 have n:=Nx.refl hb
 unfold fQ
 refine bB rfl ?_
 unfold b_l_sizes
 clean_wf
 (refine (aT hb (by omega) (by omega)).mono ?_; rintro _ _ ⟨d1,rfl,l_d1,u_d1,n'⟩; replace n:=n.trans n'; replace hb:=n'.bx hb; clear n')
 clean_wf
 refine (aJp hb).mono ?_
 rintro _ _ ⟨m,rfl,m2,m1,n'⟩
 replace n:=n.trans n'
 replace hb:=n'.bx hb
 clear n'
 obtain ⟨w3,e3,h3⟩:=at3 l_d1 u_d1 (.int 4) (.int 4) (.int 9)
 obtain ⟨k3,rfl,k30,k31⟩:∃ k:Int,w3=.int k/\4<=k/\k<=9:=by
  rcases h3 with rfl | rfl | rfl
  ·exact ⟨_,rfl,by omega,by omega⟩
  ·exact ⟨_,rfl,by omega,by omega⟩
  ·exact ⟨_,rfl,by omega,by omega⟩
 clean_wf
 refine dE e3 ?_
 clean_wf
 (refine (aT hb (by omega) (by omega)).mono ?_; rintro _ _ ⟨d2,rfl,l_d2,u_d2,n'⟩; replace n:=n.trans n'; replace hb:=n'.bx hb; clear n')
 clean_wf
 refine dE e3 ?_
 clean_wf
 (refine (aT hb (by omega) (by omega)).mono ?_; rintro _ _ ⟨d3,rfl,l_d3,u_d3,n'⟩; replace n:=n.trans n'; replace hb:=n'.bx hb; clear n')
 clean_wf
 rw [n.take]
 obtain ⟨G,rfl⟩:∃ k:Nat,d2=k:=⟨d2.toNat,by omega⟩
 obtain ⟨S,hS⟩:∃ k:Nat,1+d3=k:=⟨(1+d3).toNat,by omega⟩
 rw [hS]
 exact ⟨m,G,S,rfl,m2,m1,by omega,by omega,by omega,n⟩
theorem hW {n k:Int} {M:Mm} (hn:2<=n) (hn2:n<=1000000) (hu:∃ v,IsIv n k v):Ok (dU [.d (.int n),.d (.int k)] M) fun w M'=>w=.d (.int (iv n k))/\M'=M:=by
 unfold dU
 refine bB rfl ?_
 unfold b_l_inverse
 clean_wf
 refine (fU (QS:=fun o M'=>M'=M/\∃ h p q t,o=.nx [some (.d (.int n)),some (.d (.int k)),some (.d (.int h)),some (.d (.int 0)),some (.d (.int p)),some (.d (.int q)),t]/\0 < h/\h<=n/\Cg n (p*k) h/\h ∣ n/\h ∣ k)
  (I:=fun m L M'=>M'=M/\∃ (h l p q:Int) (t:Option W),L=[some (.d (.int n)),some (.d (.int k)),some (.d (.int h)),some (.d (.int l)),some (.d (.int p)),some (.d (.int q)),t]/\m=l.toNat/\0 < h/\h<=n/\0<=l/\l<=n/\Cg n (p*k) h/\Cg n (q*k) l/\∀ c:Int,c ∣ h->c ∣ l->c ∣ n/\c ∣ k) ?_ NW (k % n).toNat _ _
  ⟨rfl,n,k % n,0,1,none,rfl,rfl,by omega,by omega,Int.emod_nonneg _ (by omega),Int.le_of_lt (Int.emod_lt_of_pos _ (by omega)),⟨-1,by grind⟩,?_,?_⟩ ?_).mono ?_
 ·rintro m L _ ⟨rfl,h,l,p,q,t,rfl,rfl,h0,h1,l0,l1,c1,c2,hd⟩
  clean_wf
  refine ⟨fun hl=>?_,fun hl=>?_⟩
  ·have hl:0 < l:=by simpa using hl
   have e:h - h / l*l=h % l:=by rw [Int.emod_def,Int.mul_comm]
   have ht0:0<=h / l:=Int.ediv_nonneg (by omega) (by omega)
   have ht1:h / l<=h:=Int.ediv_le_self _ (by omega)
   clean_wf
   rw [e]
   have em1:=Int.emod_nonneg h (by omega:l≠0)
   have em2:=Int.emod_lt_of_pos h hl
   refine ⟨(h % l).toNat,by omega,rfl,l,h % l,q,p - h / l*q,_,rfl,rfl,hl,by omega,em1,by omega,c2,?_,?_⟩
   ·rw [<- e]
    exact (Cg.of_eq (by grind)).trans (Cg.sub c1 (Cg.mul (Cg.rfl (a:=h / l)) c2))
   ·intro c g1 g2
    refine hd c ?_ g1
    have:=Int.dvd_add g2 (Int.dvd_trans g1 (Int.dvd_mul_left (h / l) l))
    rwa [<- e,show h - h / l*l+h / l*l=h by omega] at this
  ·have hl:l=0:=by simp at hl; omega
   subst hl
   have:=hd h (Int.dvd_refl h) (Int.dvd_zero h)
   exact ⟨rfl,h,p,q,t,rfl,h0,h1,c1,this.1,this.2⟩
 ·exact (Cg.of_eq (by grind)).trans (Cg.mod (a:=k)).symm
 ·intro c g1 g2
  refine ⟨g1,?_⟩
  have:=Int.dvd_add g2 (Int.dvd_trans g1 (Int.dvd_mul_right n (k / n)))
  rwa [Int.emod_add_mul_ediv] at this
 ·rw [tX]; have:=Int.emod_lt_of_pos k (by omega:0 < n); omega
 ·rintro _ _ ⟨rfl,h,p,q,t,rfl,h0,h1,c1,d1,d2⟩
  have pn:=Int.emod_nonneg p (by omega:n≠0)
  have pl:=Int.emod_lt_of_pos p (by omega:0 < n)
  have h1:h=1:=by
   obtain ⟨v,v0,v1,e⟩:=hu
   obtain ⟨z,hz⟩:=Cg.of e
   have:h ∣ 1:=by
    have g1:h ∣ k*v:=Int.dvd_mul_of_dvd_left d2
    rw [hz] at g1
    exact (Int.dvd_add_left (Int.dvd_mul_of_dvd_left d1)).mp g1
   have:=Int.le_of_dvd (by omega) this
   omega
  subst h1
  clean_wf
  rw [aAy (n:=n) (u:=k) (v:=p % n) ⟨pn,pl,Cg.emod ((Cg.mul Cg.rfl Cg.mod).trans ((Cg.of_eq (Int.mul_comm _ _)).trans c1))⟩]
  exact ⟨rfl,by simp⟩
theorem kX {n:Int} {G S:Nat} {ds:List Dd} {M:Mm} (hn:2<=n) (hn2:n<=1000000) (hd:∀ d∈ds,OkD n G S d) (hl:ds.length<=16777216):Ok (dA [.d (.int n),.d (.tup (ds.map encD))] M) fun w M'=>w=.d (.tup ((bDs n ds).map encD))/\M'=M:=by
 unfold dA
 refine bB rfl ?_
 unfold b_l_deeds_back
 clean_wf
 refine ⟨ds.map encD,.inl rfl,?_⟩
 refine dG (fun i L M'=>M'=M++[((ds.reverse.take i).map (bD n)).map encD]/\∃ a,L=[some (.d (.int n)),some (.d (.tup (ds.map encD))),some (.ref M.length),a]) ⟨rfl,none,rfl⟩ (fun i L M _ _ t e=>by cases e) ?_ ?_
 ·rintro i d _ _ hx ⟨rfl,a,rfl⟩
  simp only at hx
  rw [<- List.map_reverse] at hx
  simp only [List.getElem?_map,Option.map_eq_some_iff] at hx
  obtain ⟨k,hk,rfl⟩:=hx
  have hm:k∈ds:=List.mem_reverse.mp (List.mem_of_getElem? hk)
  have hok:=hd k hm
  have hi:i < ds.length:=by have:=(List.getElem?_eq_some_iff.mp hk).1; simpa using this
  have e1:ds.reverse.take (i+1)=ds.reverse.take i++[k]:=by rw [List.take_add_one,hk]; rfl
  rw [e1]
  cases k with
  | scale s u =>
   simp only [encD]
   clean_wf
   refine (hW hn hn2 hok.2.2.2).mono ?_
   rintro _ _ ⟨rfl,rfl⟩
   clean_wf
   refine fX (xs:=((ds.reverse.take i).map (bD n)).map encD) (by simp) (by simp; omega) ?_
   clean_wf
   exact ⟨by simp [bD,encD],_,rfl⟩
  | add s c g t =>
   simp only [encD]
   clean_wf
   refine aX (by simp [cut,HT.sIx]) ?_
   clean_wf
   refine aX (by simp [cut,HT.sIx]) ?_
   refine fX (xs:=((ds.reverse.take i).map (bD n)).map encD) (by simp) (by simp; omega) ?_
   clean_wf
   exact ⟨by simp [bD,encD,cut,HT.sIx],_,rfl⟩
 ·rintro _ _ ⟨rfl,a,rfl⟩
  rw [List.take_of_length_le (by simp)]
  clean_wf
  refine jK (xs:=(bDs n ds).map encD) ?_ ?_
  ·simp [sv,lr,lv,bDs]
  clean_wf
  exact ⟨rfl,by simp⟩
theorem aBb {m:Int} (h:2<=m):Un m 1:=⟨by omega,by omega,1,by omega,by omega,by rw [Int.one_mul]⟩
theorem aBl {M:Mm} {b G S:Nat} {m:Int} {k:Nat} (hb:Bx M b) (h2:2<=m) (hn:m<=1000000) (hG:G<=8) (hS:1<=S) (hS2:S<=9) (k1:k < 1000):Ok (dI [.ref b,.d (.int m),.d (.int G),.d (.int S),.d (.int k)] M) fun w M'=>∃ ds:List Dd,w=.d (.tup (ds.map encD))/\(∀ d∈ds,OkD m G S d)/\(∀ d∈ds,SrtD d)/\ds.length=k/\Nx b M M':=by
 unfold dI
 refine bB rfl ?_
 unfold b_l_few_kinds
 have hb1:Bx (M++[[]]) b:=hb.app
 have n:=Nx.refl hb1
 clean_wf
 refine (aT hb1 (by omega) (by omega)).mono ?_
 rintro _ _ ⟨d1,rfl,l_d1,u_d1,n'⟩
 replace n:=n.trans n'
 obtain ⟨M1,rfl,n1⟩:=n.unapp hb.lt
 have hb':=n1.bx hb
 clear hb1 n n'
 clean_wf
 refine ⟨by simp only [in62,decide_eq_true_eq]; omega,?_⟩
 refine dG (fun i L M'=>∃ (Mi:Mm) (ds:List Dd) (o1:Option W),M'=Mi++[ds.map encD]/\Nx b M Mi/\Bx Mi b/\ds.length=i/\(∀ d∈ds,OkD m G S d)/\(∀ d∈ds,SrtD d)/\L=[some (.ref b),some (.d (.int m)),some (.d (.int G)),some (.d (.int S)),some (.d (.int k)),some (.ref M.length),o1,none,none,none,none])
  ⟨M1,[],_,rfl,n1,hb',rfl,by simp,by simp,rfl⟩ (fun i L M _ _ t e=>by cases e) ?_ ?_
 ·rintro i d _ _ hx ⟨Mi,ds,o1,rfl,n,hb,hl,hd,hs,rfl⟩
  obtain ⟨hi,rfl⟩:=eL hx
  clean_wf
  refine (qI (hb.app (J:=[ds.map encD])) h2 hn hG hS hS2).mono ?_
  rintro _ _ ⟨d3,rfl,ok3,sr3,n'⟩
  obtain ⟨M3,rfl,n2⟩:=n'.unapp hb.lt
  replace n:=n.trans n2
  replace hb:=n2.bx hb
  have e1:M.length=M3.length:=n.len.symm
  refine fX (xs:=ds.map encD) (by rw [e1]; simp) (by simp; omega) ?_
  clean_wf
  refine ⟨M3,ds++[d3],_,by rw [e1]; simp,n,hb,by simp [hl],?_,?_,rfl⟩
  ·intro x hx
   rcases List.mem_append.mp hx with hx | hx
   ·exact hd x hx
   ·rw [List.mem_singleton.mp hx]; exact ok3
  ·intro x hx
   rcases List.mem_append.mp hx with hx | hx
   ·exact hs x hx
   ·rw [List.mem_singleton.mp hx]; exact sr3
 ·rintro _ _ ⟨Mi,sm,o1,rfl,n,hb,hl,hd,hs,rfl⟩
  simp only [rngD,List.length_map,List.length_range] at hl
  have hsm:0 < sm.length:=by omega
  have hsm2:sm.length < 10:=by omega
  clear hl
  have e0:(Mi++[sm.map encD]).length=M.length+1:=by simp [n.len]
  clean_wf
  refine ⟨by simp only [in62,decide_eq_true_eq]; omega,?_⟩
  rw [e0]
  refine dG (fun i L M'=>∃ (Mi:Mm) (ds:List Dd) (o1 o2 o3 o4:Option W),M'=Mi++[sm.map encD,ds.map encD]/\Nx b M Mi/\Bx Mi b/\ds.length=i/\(∀ d∈ds,OkD m G S d)/\(∀ d∈ds,SrtD d)/\L=[some (.ref b),some (.d (.int m)),some (.d (.int G)),some (.d (.int S)),some (.d (.int k)),some (.ref M.length),o1,some (.ref (M.length+1)),o2,o3,o4])
   ⟨Mi,[],_,_,_,_,by simp,n,hb,rfl,by simp,by simp,rfl⟩ (fun i L M _ _ t e=>by cases e) ?_ ?_
  ·clear n hb e0
   rintro i d _ _ hx ⟨Mi,ds,o1,o2,o3,o4,rfl,n,hb,hl,hdd,hss,rfl⟩
   obtain ⟨hi,rfl⟩:=eL hx
   have hik:i < 1000:=by omega
   clean_wf
   refine (aT (hb.app (J:=[sm.map encD,ds.map encD])) (by omega) (by omega)).mono ?_
   rintro _ _ ⟨d2,rfl,l_d2,u_d2,n'⟩
   obtain ⟨M2,rfl,n2⟩:=n'.unapp hb.lt
   replace n:=n.trans n2
   replace hb:=n2.bx hb
   clear n' n2
   have e1:M.length=M2.length:=n.len.symm
   have g1:(M2++[sm.map encD,ds.map encD])[M.length]?=some (sm.map encD):=by rw [e1]; simp
   clean_wf
   refine (aT (hb.app (J:=[sm.map encD,ds.map encD])) (m:=((sm.map encD).length:Int)) (by simp; omega) (by simp; omega)).mono ?_
   rintro _ _ ⟨r,rfl,l,u,n'⟩
   obtain ⟨M3,rfl,n2⟩:=n'.unapp hb.lt
   replace n:=n.trans n2
   replace hb:=n2.bx hb
   clear n' n2 e1 g1
   have e1:M.length=M3.length:=n.len.symm
   have hr:r.toNat < sm.length:=by simp at u; omega
   refine cJ (xs:=sm.map encD) (d:=encD sm[r.toNat]) (by rw [e1]; simp) ?_ ?_
   ·simp only [atI,ixN,List.length_map]
    rw [if_pos l,if_pos (by simpa using u)]
    simp [hr]
   have okr:=hd _ (List.getElem_mem hr)
   have srr:=hs _ (List.getElem_mem hr)
   generalize sm[r.toNat]=dr at okr srr
   -- the number,and the deed with it
   refine aGc (gD (Ok.mono (Q:=fun o M4=>∃ (M5:Mm) (v:Int),M4=M5++[sm.map encD,ds.map encD]/\Nx b M M5/\Bx M5 b/\(∃ d4,OkD m G S d4/\SrtD d4/\encD d4=.tup (match encD dr with | .tup xs=>xs.take 2++[.int v]++xs.drop 3 | _=>[]))/\o=.nx [some (.ref b),some (.d (.int m)),some (.d (.int G)),some (.d (.int S)),some (.d (.int k)),some (.ref M.length),some (.d (.int (0+i))),some (.ref (M.length+1)),some (.d (.int d2)),some (.d (encD dr)),some (.d (.int v))]) ?_ ?_))
   ·cases dr with
    | scale s u0 =>
     simp only [encD]
     clean_wf
     refine (lU (hb.app (J:=[sm.map encD,ds.map encD])) h2 hn).mono ?_
     rintro _ _ ⟨v,rfl,hv,n'⟩
     obtain ⟨M4,rfl,n2⟩:=n'.unapp hb.lt
     clean_wf
     refine dE (at2I _ _ _) ?_
     clean_wf
     refine ⟨M4,_,rfl,n.trans n2,n2.bx hb,⟨.scale s (if decide (d2=5)=true then 1 else v),⟨okr.1,?_⟩,trivial,rfl⟩,rfl⟩
     split
     ·exact aBb h2
     ·exact hv
    | add s c g t =>
     simp only [encD]
     clean_wf
     refine (iM (hb.app (J:=[sm.map encD,ds.map encD])) h2 hn).mono ?_
     rintro _ _ ⟨v,rfl,v0,v1,n'⟩
     obtain ⟨M4,rfl,n2⟩:=n'.unapp hb.lt
     clean_wf
     refine dE (at2I _ _ _) ?_
     clean_wf
     obtain ⟨a1,a2,a3,a4⟩:=okr
     refine ⟨M4,_,rfl,n.trans n2,n2.bx hb,⟨.add s (if decide (d2=5)=true then 0 else v) g t,⟨a1,?_,?_,a4⟩,srr,rfl⟩,rfl⟩
     ·split <;> omega
     ·split <;> omega
   clear n hb e1
   rintro _ _ ⟨M4,v,rfl,n,hb,⟨d4,ok4,sr4,e4⟩,rfl⟩
   have e1:M.length=M4.length:=n.len.symm
   have g2:(M4++[sm.map encD,ds.map encD])[M.length+1]?=some (ds.map encD):=by rw [e1]; simp
   have ed:∃ xs,encD dr=.tup xs/\3<=xs.length/\xs.length<=5:=by cases dr <;> exact ⟨_,rfl,by simp,by simp⟩
   obtain ⟨xs,ex,lx,lx2⟩:=ed
   rw [ex] at e4 ⊢
   simp only at e4
   have c1:cut xs none (some 2)=xs.take 2:=qT (s:=2) (by omega)
   have c2:cut xs (some 3) none=xs.drop 3:=rF (s:=3) (by omega)
   clean_wf
   refine aX (by simp [c1]; omega) ?_
   clean_wf
   refine aX (by simp [c1,c2]; omega) ?_
   rw [c1,c2,<- e4]
   refine fX (xs:=ds.map encD) g2 (by simp; omega) ?_
   rw [show (M4++[sm.map encD,ds.map encD]).set (M.length+1) (ds.map encD++[encD d4])=M4++[sm.map encD,(ds++[d4]).map encD] by rw [e1]; simp]
   have okl:∀ x∈ds++[d4],OkD m G S x:=by
    intro x hx
    rcases List.mem_append.mp hx with hx | hx
    ·exact hdd x hx
    ·rw [List.mem_singleton.mp hx]; exact ok4
   have srl:∀ x∈ds++[d4],SrtD x:=by
    intro x hx
    rcases List.mem_append.mp hx with hx | hx
    ·exact hss x hx
    ·rw [List.mem_singleton.mp hx]; exact sr4
   refine lT (Ok.mono (Q:=fun c M5=>M5=M4++[sm.map encD,(ds++[d4]).map encD]/\(c=true->0 < i)) ?_ ?_)
   ·clean_wf
    refine ⟨fun _=>?_,fun _=>⟨rfl,by simp⟩⟩
    clean_wf
    exact ⟨rfl,fun h=>by simp at h; omega⟩
   rintro c _ ⟨rfl,hc⟩
   refine mH (fun h=>?_) (fun _=>?_)
   ·have hi0:=hc h
    clean_wf
    refine (aT (hb.app (J:=[sm.map encD,(ds++[d4]).map encD])) (m:=(0+(i:Int))) (by omega) (by omega)).mono ?_
    rintro _ _ ⟨q,rfl,l_q,u_q,n'⟩
    obtain ⟨M5,rfl,n2⟩:=n'.unapp hb.lt
    have n5:=n.trans n2
    have hb5:=n2.bx hb
    have e5:M.length=M5.length:=n5.len.symm
    have hq:q.toNat < (ds++[d4]).length:=by simp; omega
    have g5:(M5++[sm.map encD,(ds++[d4]).map encD])[M.length+1]?=some ((ds++[d4]).map encD):=by rw [e5]; simp
    refine cJ (xs:=(ds++[d4]).map encD) (d:=encD (ds++[d4])[q.toNat]) g5 (aAk l_q hq) ?_
    have okq:=okl _ (List.getElem_mem hq)
    have srq:=srl _ (List.getElem_mem hq)
    generalize (ds++[d4])[q.toNat]=dq at okq srq
    clean_wf
    refine (kX (ds:=[dq]) h2 hn (fun d hd=>by rw [List.mem_singleton.mp hd]; exact okq) (by simp)).mono ?_
    rintro _ _ ⟨rfl,rfl⟩
    clean_wf
    refine ⟨_,_,_,ds.length,rfl,rfl,g5,?_,?_⟩
    ·simp [ixN]; omega
    refine ⟨M5,ds++[bD m dq],_,_,_,_,?_,n5,hb5,by simp [hl],?_,?_,rfl⟩
    ·rw [e5]; simp
    ·intro x hx
     rcases List.mem_append.mp hx with hx | hx
     ·exact hdd x hx
     ·rw [List.mem_singleton.mp hx]; exact okq.back (by omega)
    ·intro x hx
     rcases List.mem_append.mp hx with hx | hx
     ·exact hss x hx
     ·rw [List.mem_singleton.mp hx]; cases dq <;> exact srq
   ·clean_wf
    exact ⟨M4,ds++[d4],_,_,_,_,rfl,n,hb,by simp [hl],okl,srl,rfl⟩
  ·clear n hb e0
   rintro _ _ ⟨Mi,ds,o1,o2,o3,o4,rfl,n,hb,hl,hdd,hss,rfl⟩
   have e1:M.length=Mi.length:=n.len.symm
   simp only [rngD,List.length_map,List.length_range] at hl
   clean_wf
   refine jK (xs:=ds.map encD) (by simp [sv,lr,lv,e1]) ?_
   clean_wf
   exact ⟨hdd,hss,by omega,by rw [e1]; simpa using n⟩
theorem iI {neg:Bool} {s:Nat} {t:List Nat} {M:Mm} {Q:W->Mm->Prop} (q:Q (.d (.bl (if neg then !decide (s∈t) else decide (s∈t)))) M):Ok (pInG neg (.d (.int (s:Nat))) (.d (natsD t)) M) Q:=by
 refine aLk (xs:=t.map fun k=>D.int (k:Nat)) rfl rfl (zI t) ?_
 rw [aCf]
 exact q
theorem nO {a b:Dd} {M:Mm}:Ok (eB [.d (encD a),.d (encD b)] M) fun w M'=>w=.d (.bl (ho a b))/\M'=M:=by
 unfold eB
 refine bB rfl ?_
 unfold b_hangs_on
 cases a with
 | scale s u =>
  simp only [encD]
  clean_wf
  exact ⟨rfl,by simp⟩
 | add s c g t =>
  cases b with
  | scale s' u =>
   simp only [encD]
   clean_wf
   refine eF (fun h=>?_) (fun h=>?_)
   ·clean_wf
    have:s'=s:=by omega
    exact ⟨by simp [ho,this],by simp⟩
   ·clean_wf
    refine iI ?_
    clean_wf
    have:s'≠s:=by omega
    exact ⟨by simp [ho,this],by simp⟩
  | add s' c' g' t' =>
   simp only [encD]
   clean_wf
   refine iI ?_
   clean_wf
   exact ⟨by simp [ho],by simp⟩
theorem kM {a b:Dd} {M:Mm}:Ok (eY [.d (encD a),.d (encD b)] M) fun w M'=>w=.d (.bl (gp a b))/\M'=M:=by
 unfold eY
 refine bB rfl ?_
 unfold b_go_past
 clean_wf
 refine nO.mono ?_
 rintro _ _ ⟨rfl,rfl⟩
 unfold gp
 cases ho a b with
 | true =>
  clean_wf
  exact ⟨rfl,by simp⟩
 | false =>
  clean_wf
  refine nO.mono ?_
  rintro _ _ ⟨rfl,rfl⟩
  clean_wf
  exact ⟨by simp,by simp⟩
theorem gF {d:Dd} {M:Mm}:Ok (dR [.d (encD d)] M) fun w M'=>w=.d (.bl (idle d))/\M'=M:=by
 cases d with
 | add s c g t =>
  unfold dR
  refine bB rfl ?_
  unfold b_is_idle
  simp only [encD,idle]
  clean_wf
  exact ⟨rfl,by simp⟩
 | scale s u =>
  unfold dR
  refine bB rfl ?_
  unfold b_is_idle
  simp only [encD,idle]
  clean_wf
  exact ⟨rfl,by simp⟩
noncomputable def kiD:Dd->D
 | .add s _ g t=>.tup [.str "add",.int s,natsD g,natsD t]
 | .scale s _=>.tup [.str "scale",.int s]
theorem iU {d:Dd} {M:Mm}:Ok (gG [.d (encD d)] M) fun w M'=>w=.d (kiD d)/\M'=M:=by
 cases d with
 | add s c g t =>
  unfold gG
  refine bB rfl ?_
  unfold b_kind
  simp only [encD]
  clean_wf
  exact ⟨rfl,by simp⟩
 | scale s u =>
  unfold gG
  refine bB rfl ?_
  unfold b_kind
  simp only [encD]
  clean_wf
  exact ⟨rfl,by simp⟩
noncomputable def rkD:Dd->List D
 | .add s _ g t=>[.int s,.bl false,natsD g,natsD t]
 | .scale s _=>[.int s,.bl true]
theorem pX {d:Dd} {M:Mm}:Ok (jH [.d (encD d)] M) fun w M'=>w=.d (.tup (rkD d))/\M'=M:=by
 cases d with
 | add s c g t =>
  unfold jH
  refine bB rfl ?_
  unfold b_rank
  simp only [encD]
  clean_wf
  refine aX (xs:=[.int s,.bl false]) (ys:=[natsD g,natsD t]) (by simp) ?_
  clean_wf
  exact ⟨rfl,by simp⟩
 | scale s u =>
  unfold jH
  refine bB rfl ?_
  unfold b_rank
  simp only [encD]
  clean_wf
  refine aX (xs:=[.int s,.bl true]) (ys:=[]) (by simp) ?_
  clean_wf
  exact ⟨rfl,by simp⟩
theorem mJ {d:Dd} {M:Mm}:Ok (fD [.d (encD d)] M) fun w M'=>w=.d (kiD d)/\M'=M:=by
 cases d with
 | add s c g t =>
  unfold fD
  refine bB rfl ?_
  unfold b_l_kind
  simp only [encD]
  clean_wf
  exact ⟨rfl,by simp⟩
 | scale s u =>
  unfold fD
  refine bB rfl ?_
  unfold b_l_kind
  simp only [encD]
  clean_wf
  exact ⟨rfl,by simp⟩
theorem kD {d:Dd} {M:Mm}:Ok (cH [.d (encD d)] M) fun w M'=>w=.d (.bl (idle d))/\M'=M:=by
 cases d with
 | add s c g t =>
  unfold cH
  refine bB rfl ?_
  unfold b_l_is_nothing
  simp only [encD,idle]
  clean_wf
  exact ⟨rfl,by simp⟩
 | scale s u =>
  unfold cH
  refine bB rfl ?_
  unfold b_l_is_nothing
  simp only [encD,idle]
  clean_wf
  exact ⟨rfl,by simp⟩
theorem qB:∀ xs ys:List Nat,HT.lexLt (xs.map fun k:Nat=>(k:Int)) (ys.map fun k:Nat=>(k:Int))=lexN xs ys
 | [],[]=>rfl
 | [],_::_=>rfl
 | _::_,[]=>rfl
 | x::xs,y::ys=>by
  simp only [List.map_cons,HT.lexLt,lexN,qB xs ys]
  by_cases h:x=y
  ·subst h; simp
  ·have:¬ ((x:Int)=(y:Int)):=by omega
   rw [if_neg h,if_neg this]
   simp
theorem oE:∀ xs ys:List Nat,eqDs (xs.map fun k=>D.int (k:Nat)) (ys.map fun k=>D.int (k:Nat))=decide (xs=ys)
 | [],[]=>rfl
 | [],_::_=>by simp [eqDs]
 | _::_,[]=>by simp [eqDs]
 | x::xs,y::ys=>by
  simp only [List.map_cons,eqDs,eqD,oE xs ys]
  by_cases h:x=y
  ·subst h; simp
  ·have:¬ ((x:Int)=(y:Int)):=by omega
   simp [h,this]
theorem nR (a b:Dd):eqD (kiD a) (kiD b)=decide (kd a=kd b):=by
 cases a with
 | add s c g t =>
  cases b with
  | add s' c' g' t' =>
   simp only [kiD,natsD,eqD,eqDs,oE,kd,Prod.mk.injEq,true_and]
   by_cases h:s=s'
   ·subst h; simp
   ·have:¬ ((s:Int)=(s':Int)):=by omega
    simp [h,this]
  | scale s' u'=>simp [kiD,eqD,eqDs,kd]
 | scale s u =>
  cases b with
  | add s' c' g' t'=>simp [kiD,eqD,eqDs,kd]
  | scale s' u' =>
   simp only [kiD,eqD,eqDs,kd,Prod.mk.injEq,and_true]
   by_cases h:s=s'
   ·subst h; simp
   ·have:¬ ((s:Int)=(s':Int)):=by omega
    simp [h,this]
theorem qF (xs:List Nat):deps (xs.map fun k=>D.int (k:Nat))=0:=by induction xs with | nil=>rfl | cons x r ih=>simp [deps,dep,ih]
theorem iT (a:Dd):dep (kiD a)<=100:=by cases a <;> simp [kiD,natsD,dep,deps,qF]
theorem xM (a:Dd):deps (rkD a)<=50:=by cases a <;> simp [rkD,natsD,dep,deps,qF]
theorem vL (xs:List Nat):intsOf (xs.map fun k=>D.int (k:Nat))=some (xs.map fun k:Nat=>(k:Int)):=by
 have:=oD (xs.map fun k:Nat=>(k:Int))
 rw [List.map_map] at this
 exact this
theorem aEm (xs ys:List Nat):ltE (natsD xs) (natsD ys)=some (lexN xs ys):=by
 simp only [ltE,natsD,vL,qB]
theorem aDm (xs ys:List Nat):eqD (natsD xs) (natsD ys)=decide (xs=ys):=by
 simp only [natsD,eqD,oE]
theorem aDw (a b:Dd):ltT (rkD a) (rkD b)=some (rl (kd a) (kd b)):=by
 have tail:∀ g g' t t':List Nat,ltT [natsD g,natsD t] [natsD g',natsD t']=some (if g=g' then lexN t t' else lexN g g'):=by
  intro g g' t t'
  simp only [ltT,aDm,decide_eq_true_eq,aEm]
  by_cases h:g=g'
  ·rw [if_pos h,if_pos h]
   by_cases h2:t=t'
   ·subst h2; simp [fH]
   ·rw [if_neg h2]
  ·rw [if_neg h,if_neg h]
 have first:∀ (s s':Nat) (xs ys:List D),ltT (.int s::xs) (.int s'::ys)=if s=s' then ltT xs ys else some (decide (s < s')):=by
  intro s s' xs ys
  by_cases h:s=s'
  ·subst h; simp [ltT,eqD]
  ·have:¬ ((s:Int)=(s':Int)):=by omega
   simp [ltT,eqD,this,h,ltE]
 cases a with
 | add s c g t =>
  cases b with
  | add s' c' g' t' =>
   simp only [rkD,first]
   by_cases h:s=s'
   ·subst h
    rw [if_pos rfl,show ltT [.bl false,natsD g,natsD t] [.bl false,natsD g',natsD t']=ltT [natsD g,natsD t] [natsD g',natsD t'] from rfl,tail]
    by_cases hg:g=g'
    ·subst hg; simp [rl,kd]
    ·simp [rl,kd,hg]
   ·rw [if_neg h]; simp [rl,kd,h]; rfl
  | scale s' u' =>
   simp only [rkD,first]
   by_cases h:s=s'
   ·subst h; rw [if_pos rfl]; simp [rl,kd,ltT,eqD,ltE,PyProof.Rows.b2i]
   ·rw [if_neg h]; simp [rl,kd,h]; rfl
 | scale s u =>
  cases b with
  | add s' c' g' t' =>
   simp only [rkD,first]
   by_cases h:s=s'
   ·subst h; rw [if_pos rfl]; simp [rl,kd,ltT,eqD,ltE,PyProof.Rows.b2i]
   ·rw [if_neg h]; simp [rl,kd,h]; rfl
  | scale s' u' =>
   simp only [rkD,first]
   by_cases h:s=s'
   ·subst h; rw [if_pos rfl]; simp [rl,kd,ltT,eqD,lexN]
   ·rw [if_neg h]; simp [rl,kd,h]; rfl
noncomputable def wl (d:Dd):List Dd->Option Nat
 | []=>none
 | x::r=>if kd x=kd d then some 0 else if gp x d then (wl d r).map (·+1) else none
noncomputable def wp (d:Dd):List Dd->Option Nat
 | []=>none
 | x::r=>if gp x d then (match wp d r with
  | some k=>some (k+1)
  | none=>if rl (kd d) (kd x) then some 1 else none) else none
theorem bP {l:List Dd} {x:Dd} {k:Nat} (h:l[k]?=some x):atI (l.map encD) (k:Nat)=some (encD x):=by
 have hk:=(List.getElem?_eq_some_iff.mp h).1
 simp only [atI,ixN]
 rw [if_pos (by omega),if_pos (by simp; omega),Option.bind_some,Int.toNat_natCast,List.getElem?_map,h]
 rfl
theorem oW {R:List Dd} {a b:Nat} {d:Dd} {M:Mm} (hR:M[b]?=some (R.map encD)) (hz:R.length<=16777216) (hd:R[a]?=some d) :
  Ok (eZ [.ref b,.d (.int a)] M) fun w M'=>(w=.d (.tup (match wl d (R.take a).reverse with
   | some j=>[.int ((a:Int) - 1 - (j:Nat)),.int a]
   | none=>[.non,.int ((a:Int) - ((wp d (R.take a).reverse).getD 0:Nat))])))/\M'=M:=by
 have ha:a < R.length:=(List.getElem?_eq_some_iff.mp hd).1
 unfold eZ
 refine bB rfl ?_
 unfold b_where_to
 clean_wf
 refine cJ hR (bP hd) ?_
 clean_wf
 refine ⟨rfl,by omega,?_⟩
 obtain ⟨r,hr⟩:∃ r,r=(R.take a).reverse:=⟨_,rfl⟩
 rw [<- hr]
 have lr:r.length=a:=by rw [hr]; simp; omega
 refine dG (fun j L M'=>M'=M/\∃ k:Nat,k<=j/\wl d r=(wl d (r.drop j)).map (·+j)/\(wp d r=match wp d (r.drop j) with
  | some m=>some (m+j)
  | none=>if k=0 then none else some k)/\∃ o4,L=[some (.ref b),some (.d (.int a)),some (.d (encD d)),some (.d (.int ((a:Int) - (k:Nat)))),o4]) ⟨rfl,0,Nat.le_refl _,by simp,?_,none,by simp⟩ (fun i L M _ _ t e=>by cases e) ?_ ?_
 ·simp only [List.drop_zero,if_true]
  cases wp d r <;> simp
 ·rintro j i _ _ hi ⟨rfl,k,hk,h1,h2,o4,rfl⟩
  obtain ⟨hj,rfl⟩:=lX hi
  have hj:j < a:=by omega
  obtain ⟨x,hx⟩:∃ x,R[a - 1 - j]?=some x:=⟨_,List.getElem?_eq_getElem (by omega)⟩
  have hrx:r.drop j=x::r.drop (j+1):=by
   have hj':j < r.length:=by omega
   rw [List.drop_eq_getElem_cons hj']
   congr 1
   have:r[j]?=some x:=by
    rw [hr,List.getElem?_reverse (by simp; omega)]
    simp only [List.length_take]
    rw [Nat.min_eq_left (by omega),List.getElem?_take_of_lt (by omega),hx]
   rw [List.getElem?_eq_getElem hj'] at this
   exact Option.some.inj this
  rw [hrx] at h1 h2
  simp only [wl] at h1
  simp only [wp] at h2
  have ei:(a:Int) - 1+1 - 1 - (j:Nat)=((a - 1 - j:Nat):Int):=by omega
  rw [ei]
  clean_wf
  refine cJ hR (bP hx) ?_
  clean_wf
  refine iU.mono ?_
  rintro _ _ ⟨rfl,rfl⟩
  clean_wf
  refine iU.mono ?_
  rintro _ _ ⟨rfl,rfl⟩
  refine xK (a:=kiD x) (b:=kiD d) rfl rfl ⟨iT x,iT d⟩ ?_
  rw [nR]
  refine ⟨_,rfl,?_⟩
  refine mH (fun h=>?_) (fun h=>?_)
  ·rw [if_pos (by simpa using h)] at h1
   clean_wf
   refine ⟨?_,by simp⟩
   rw [h1]
   simp only [Option.map_some,Nat.zero_add]
   rw [show ((a - 1 - j:Nat):Int)=(a:Int) - 1 - (j:Nat) by omega]
  rw [if_neg (by simpa using h)] at h1
  clean_wf
  refine cJ hR (bP hx) ?_
  clean_wf
  refine kM.mono ?_
  rintro _ _ ⟨rfl,rfl⟩
  clean_wf
  refine mH (fun h'=>?_) (fun h'=>?_)
  ·have hg:¬ gp x d=true:=by simpa using h'
   rw [if_neg hg] at h1 h2
   clean_wf
   refine ⟨?_,by simp⟩
   rw [h1,h2]
   by_cases hk0:k=0
   ·subst hk0; simp
   ·simp [hk0]
  have hg:gp x d=true:=by simpa using h'
  rw [if_pos hg] at h1 h2
  clean_wf
  refine pX.mono ?_
  rintro _ _ ⟨rfl,rfl⟩
  clean_wf
  refine cJ hR (bP hx) ?_
  clean_wf
  refine pX.mono ?_
  rintro _ _ ⟨rfl,rfl⟩
  refine aHn (xM d) (xM x) (aDw d x) ?_
  refine ⟨_,rfl,?_⟩
  have h1':wl d r=(wl d (r.drop (j+1))).map (·+(j+1)):=by
   rw [h1,Option.map_map]
   congr 1
   funext z
   simp; omega
  refine mH (fun h3=>?_) (fun h3=>?_)
  ·rw [if_pos h3] at h2
   clean_wf
   refine ⟨rfl,j+1,Nat.le_refl _,h1',?_,_,by rw [show ((a - 1 - j:Nat):Int)=(a:Int) - ((j+1:Nat):Int) by omega]; rfl⟩
   rw [h2]
   cases wp d (r.drop (j+1)) with
   | some m=>simp; omega
   | none=>simp; omega
  ·rw [if_neg (by rw [h3]; exact Bool.false_ne_true)] at h2
   clean_wf
   refine ⟨rfl,k,by omega,h1',?_,_,rfl⟩
   rw [h2]
   cases wp d (r.drop (j+1)) with
   | some m=>simp; omega
   | none=>simp
 ·rintro _ _ ⟨rfl,k,hk,h1,h2,o4,rfl⟩
  have e0:r.drop (downE ((a:Int) - 1+1) ((a:Int) - 1 - -1).toNat).length=[]:=by rw [gC]; exact List.drop_eq_nil_of_le (by omega)
  simp only [e0,wl,wp] at h1 h2
  clean_wf
  rw [h1,h2]
  refine ⟨?_,by simp⟩
  by_cases hk0:k=0
  ·subst hk0; simp
  ·simp [hk0]
theorem aCm {d:Dd}:∀ r:List Dd,pcs d r=(wp d r).map fun k=>r.take k++d::r.drop k
 | []=>rfl
 | x::r=>by
  simp only [pcs,wp,aCm r]
  by_cases hg:gp x d=true
  ·rw [if_pos hg,if_pos hg]
   cases wp d r with
   | some k=>simp
   | none =>
    simp only [Option.map_none]
    by_cases h:rl (kd d) (kd x)=true
    ·rw [if_pos h,if_pos h]; simp
    ·rw [if_neg h,if_neg h]; rfl
  ·rw [if_neg hg,if_neg hg]; rfl
theorem aGf {n:Int} {d:Dd}:∀ r:List Dd,tk n d r=(wl d r).bind fun j=>(r[j]?).map fun x=>r.take j++(if idle (mg n x d) then r.drop (j+1) else mg n x d::r.drop (j+1))
 | []=>rfl
 | x::r=>by
  simp only [tk,wl,aGf r]
  by_cases hk:kd x=kd d
  ·rw [if_pos hk,if_pos hk]
   simp
  ·rw [if_neg hk,if_neg hk]
   by_cases hg:gp x d=true
   ·rw [if_pos hg,if_pos hg]
    cases wl d r with
    | none=>rfl
    | some j =>
     simp only [Option.bind_some,Option.map_some,List.getElem?_cons_succ,List.take_succ_cons,List.drop_succ_cons,List.cons_append]
     cases r[j]? with
     | none=>rfl
     | some y=>rfl
   ·rw [if_neg hg,if_neg hg]; rfl
theorem tD {n:Int} {G S:Nat} {x d:Dd} {M:Mm} (hn:2<=n) (hn2:n<=1000000) (hx:OkD n G S x) (hd:OkD n G S d) (h:kd x=kd d):Ok (fP [.d (.int n),.d (encD x),.d (encD d)] M) fun w M'=>w=.d (encD (mg n x d))/\M'=M:=by
 cases x with
 | add s c g t =>
  cases d with
  | add s' c' g' t' =>
   unfold fP
   refine bB rfl ?_
   unfold b_one_of
   simp only [encD,mg]
   clean_wf
   exact ⟨rfl,by simp⟩
  | scale s' u'=>simp [kd] at h
 | scale s u =>
  cases d with
  | add s' c' g' t'=>simp [kd] at h
  | scale s' u' =>
   obtain ⟨_,a1,a2,_⟩:=hx
   obtain ⟨_,b1,b2,_⟩:=hd
   unfold fP
   refine bB rfl ?_
   unfold b_one_of
   simp only [encD,mg]
   clean_wf
   exact ⟨rfl,by simp⟩
theorem nC {m i:Nat} (h:i < m):ixN m (i:Nat)=some i:=by
 simp only [ixN]
 rw [if_pos (by omega),if_pos (by omega),Int.toNat_natCast]
theorem aAi {n:Int} {R:List Dd} {b i:Nat} {M:Mm} (hR:M[b]?=some (R.map encD)) (hi:i < R.length) (hz:R.length<=16777216) :
  Ok (cE [.d (.int n),.ref b,.d (.tup [.str "out",.int i])] M) fun _ M'=>M'=M.set b ((R.eraseIdx i).map encD):=by
 unfold cE
 refine bB rfl ?_
 unfold b_do_move
 clean_wf
 refine ⟨b,i,_,i,rfl,rfl,hR,by omega,nC (by simpa using hi),?_⟩
 clean_wf
 rw [show (R.map encD).eraseIdx i=(R.eraseIdx i).map encD by rw [List.eraseIdx_eq_take_drop_succ,List.eraseIdx_eq_take_drop_succ]; simp [List.map_take,List.map_drop]]
 exact List.take_of_length_le (by simp)
theorem zS {n:Int} {R:List Dd} {b i:Nat} {x y:Dd} {M:Mm} (hR:M[b]?=some (R.map encD)) (hx:R[i]?=some x) (hy:R[i+1]?=some y) (hz:R.length<=16777216) :
  Ok (cE [.d (.int n),.ref b,.d (.tup [.str "past",.int i])] M) fun _ M'=>M'=M.set b (((R.set i y).set (i+1) x).map encD):=by
 have h1:=(List.getElem?_eq_some_iff.mp hy).1
 have hb:=(List.getElem?_eq_some_iff.mp hR).1
 have e1:(i:Int)+1=((i+1:Nat):Int):=by omega
 unfold cE
 refine bB rfl ?_
 unfold b_do_move
 clean_wf
 rw [e1]
 refine cJ hR (bP hy) ?_
 clean_wf
 refine cJ hR (bP hx) ?_
 clean_wf
 refine ⟨b,i,_,i,rfl,rfl,hR,nC (by simp; omega),?_⟩
 clean_wf
 refine ⟨b,_,_,i+1,rfl,rfl,List.getElem?_set_self hb,by rw [e1]; exact nC (by simp; omega),?_⟩
 clean_wf
 rw [List.set_set,<- List.map_set,<- List.map_set]
 exact List.take_of_length_le (by simp)
theorem aCl {n:Int} {G S:Nat} {R:List Dd} {b i:Nat} {x y:Dd} {M:Mm} (hn:2<=n) (hn2:n<=1000000) (ox:OkD n G S x) (oy:OkD n G S y) (hk:kd x=kd y) (hR:M[b]?=some (R.map encD)) (hx:R[i]?=some x) (hy:R[i+1]?=some y) (hz:R.length<=16777215) :
  Ok (cE [.d (.int n),.ref b,.d (.tup [.str "one",.int i])] M) fun _ M'=>M'=M.set b ((R.take i++mg n x y::R.drop (i+2)).map encD):=by
 have h1:=(List.getElem?_eq_some_iff.mp hy).1
 have hb:=(List.getElem?_eq_some_iff.mp hR).1
 have e1:(i:Int)+1=((i+1:Nat):Int):=by omega
 have e2:(i:Int)+2=((i+2:Nat):Int):=by omega
 unfold cE
 refine bB rfl ?_
 unfold b_do_move
 clean_wf
 refine cJ hR (bP hx) ?_
 clean_wf
 rw [e1]
 refine cJ hR (bP hy) ?_
 clean_wf
 refine (tD hn hn2 ox oy hk).mono ?_
 rintro _ _ ⟨rfl,rfl⟩
 clean_wf
 refine ⟨b,_,rfl,hR,by simp; omega,?_⟩
 rw [e2]
 have e3:putD (R.map encD) [encD (mg n x y)] (some ((i:Nat):Int)) (some ((i+2:Nat):Int))=(R.take i++mg n x y::R.drop (i+2)).map encD:=by
  unfold putD
  simp only [HT.sIx_nat,List.length_map]
  rw [Nat.min_eq_left (by omega),Nat.min_eq_left (by omega),Nat.max_eq_right (by omega)]
  simp [List.map_take,List.map_drop]
 show List.take _ (List.set _ b (putD (R.map encD) [encD (mg n x y)] (some ((i:Nat):Int)) (some ((i+2:Nat):Int))))=_
 rw [e3]
 exact List.take_of_length_le (by simp)
inductive Mv where
 | out (i:Nat)
 | past (i:Nat)
 | one (i:Nat)
noncomputable def encM:Mv->D
 | .out i=>.tup [.str "out",.int i]
 | .past i=>.tup [.str "past",.int i]
 | .one i=>.tup [.str "one",.int i]
noncomputable def Can (n:Int) (R R':List Dd):Mv->Prop
 | .out i=>∃ x,R[i]?=some x/\idle x=true/\R'=R.eraseIdx i
 | .past i=>∃ x y,R[i]?=some x/\R[i+1]?=some y/\gp x y=true/\R'=(R.set i y).set (i+1) x
 | .one i=>∃ x y,R[i]?=some x/\R[i+1]?=some y/\kd x=kd y/\R'=R.take i++mg n x y::R.drop (i+2)
noncomputable def Lds (n:Int):List Dd->List Mv->List Dd->Prop
 | R,[],R'=>R'=R
 | R,m::ms,R'=>∃ R1,Can n R R1 m/\Lds n R1 ms R'
theorem Lds.app {n:Int}:∀ {ms ms':List Mv} {R R1 R2:List Dd},Lds n R ms R1->Lds n R1 ms' R2->Lds n R (ms++ms') R2
 | [],_,_,_,_,h,g=>by cases h; exact g
 | _::_,_,_,_,_,⟨R3,h1,h2⟩,g=>⟨R3,h1,Lds.app h2 g⟩
theorem Lds.one {n:Int} {R R':List Dd} {m:Mv} (h:Can n R R' m):Lds n R [m] R':=⟨R',h,rfl⟩
noncomputable def AOk (n:Int) (G S:Nat) (R:List Dd):Prop:=∀ d∈R,OkD n G S d
theorem AOk.at {n:Int} {G S:Nat} {R:List Dd} (h:AOk n G S R) {i:Nat} {x:Dd} (hx:R[i]?=some x):OkD n G S x:=h x (List.mem_of_getElem? hx)
theorem AOk.can {n:Int} {G S:Nat} (hn:2<=n) {R R':List Dd} (h:AOk n G S R) {m:Mv} (c:Can n R R' m):AOk n G S R':=by
 cases m with
 | out i =>
  obtain ⟨x,_,_,rfl⟩:=c
  exact fun d hd=>h d (List.mem_of_mem_eraseIdx hd)
 | past i =>
  obtain ⟨x,y,hx,hy,_,rfl⟩:=c
  intro d hd
  rcases List.mem_or_eq_of_mem_set hd with hd | rfl
  ·rcases List.mem_or_eq_of_mem_set hd with hd | rfl
   ·exact h d hd
   ·exact h.at hy
  ·exact h.at hx
 | one i =>
  obtain ⟨x,y,hx,hy,hk,rfl⟩:=c
  intro d hd
  rcases List.mem_append.mp hd with hd | hd
  ·exact h d (List.mem_of_mem_take hd)
  ·rcases List.mem_cons.mp hd with rfl | hd
   ·exact uP hn (h.at hx) (h.at hy) hk
   ·exact h d (List.mem_of_mem_drop hd)
theorem Can.len {n:Int} {R R':List Dd} {m:Mv} (c:Can n R R' m):R'.length<=R.length:=by
 cases m with
 | out i =>
  obtain ⟨x,_,_,rfl⟩:=c
  exact List.length_eraseIdx_le ..
 | past i =>
  obtain ⟨x,y,hx,hy,_,rfl⟩:=c
  simp
 | one i =>
  obtain ⟨x,y,hx,hy,hk,rfl⟩:=c
  have h1:=(List.getElem?_eq_some_iff.mp hy).1
  simp; omega
theorem AOk.lds {n:Int} {G S:Nat} (hn:2<=n):∀ {ms:List Mv} {R R':List Dd},AOk n G S R->Lds n R ms R'->AOk n G S R'
 | [],_,_,h,g=>by cases g; exact h
 | _::_,_,_,h,⟨_,c,g⟩=>AOk.lds hn (h.can hn c) g
theorem lH {n:Int} {G S:Nat} {R R':List Dd} {b:Nat} {m:Mv} {M:Mm} (hn:2<=n) (hn2:n<=1000000) (ho:AOk n G S R) (c:Can n R R' m) (hR:M[b]?=some (R.map encD)) (hz:R.length<=16777215) :
  Ok (cE [.d (.int n),.ref b,.d (encM m)] M) fun _ M'=>M'=M.set b (R'.map encD):=by
 cases m with
 | out i =>
  obtain ⟨x,hx,_,rfl⟩:=c
  exact aAi hR (List.getElem?_eq_some_iff.mp hx).1 (by omega)
 | past i =>
  obtain ⟨x,y,hx,hy,_,rfl⟩:=c
  exact zS hR hx hy (by omega)
 | one i =>
  obtain ⟨x,y,hx,hy,hk,rfl⟩:=c
  exact aCl hn hn2 (ho.at hx) (ho.at hy) hk hR hx hy hz
theorem aCe {n:Int} {R R':List Dd} {b:Nat} {m:Mv} {M:Mm} (c:Can n R R' m) (hR:M[b]?=some (R.map encD)) (hz:R.length<=16777215) :
  Ok (cC [.ref b,.d (encM m)] M) fun w M'=>w=.d (.bl true)/\M'=M:=by
 cases m with
 | out i =>
  obtain ⟨x,hx,hi,rfl⟩:=c
  have h1:=(List.getElem?_eq_some_iff.mp hx).1
  unfold cC
  refine bB rfl ?_
  unfold b_can_be_done
  simp only [encM]
  clean_wf
  refine Okx.mono (Q:=fun w M1=>w=.d (.bl true)/\M1=M) ?_ ?_
  ·refine wZ ?_
   clean_wf
   refine ⟨fun _=>?_,fun h=>by simp at h⟩
   clean_wf
   exact ⟨by congr 2; simp; omega,rfl⟩
  rintro _ _ ⟨rfl,rfl⟩
  clean_wf
  refine cJ hR (bP hx) ?_
  clean_wf
  refine gF.mono ?_
  rintro _ _ ⟨rfl,rfl⟩
  clean_wf
  exact ⟨by rw [hi],by simp⟩
 | past i =>
  obtain ⟨x,y,hx,hy,hg,rfl⟩:=c
  have h1:=(List.getElem?_eq_some_iff.mp hy).1
  have e1:(i:Int)+1=((i+1:Nat):Int):=by omega
  unfold cC
  refine bB rfl ?_
  unfold b_can_be_done
  simp only [encM]
  clean_wf
  refine Okx.mono (Q:=fun w M1=>w=.d (.bl true)/\M1=M) ?_ ?_
  ·refine wZ ?_
   clean_wf
   refine ⟨fun _=>?_,fun h=>by simp at h⟩
   clean_wf
   exact ⟨by congr 2; simp; omega,rfl⟩
  rintro _ _ ⟨rfl,rfl⟩
  clean_wf
  refine cJ hR (bP hx) ?_
  clean_wf
  rw [e1]
  refine cJ hR (bP hy) ?_
  clean_wf
  refine kM.mono ?_
  rintro _ _ ⟨rfl,rfl⟩
  clean_wf
  exact ⟨by rw [hg],by simp⟩
 | one i =>
  obtain ⟨x,y,hx,hy,hk,rfl⟩:=c
  have h1:=(List.getElem?_eq_some_iff.mp hy).1
  have e1:(i:Int)+1=((i+1:Nat):Int):=by omega
  unfold cC
  refine bB rfl ?_
  unfold b_can_be_done
  simp only [encM]
  clean_wf
  refine Okx.mono (Q:=fun w M1=>w=.d (.bl true)/\M1=M) ?_ ?_
  ·refine wZ ?_
   clean_wf
   refine ⟨fun _=>?_,fun h=>by simp at h⟩
   clean_wf
   exact ⟨by congr 2; simp; omega,rfl⟩
  rintro _ _ ⟨rfl,rfl⟩
  clean_wf
  refine cJ hR (bP hx) ?_
  clean_wf
  refine iU.mono ?_
  rintro _ _ ⟨rfl,rfl⟩
  clean_wf
  rw [e1]
  refine cJ hR (bP hy) ?_
  clean_wf
  refine iU.mono ?_
  rintro _ _ ⟨rfl,rfl⟩
  refine xK (a:=kiD x) (b:=kiD y) rfl rfl ⟨iT x,iT y⟩ ?_
  rw [nR]
  clean_wf
  exact ⟨by simp [hk],by simp⟩
noncomputable def MM (M:Mm) (b c:Nat) (R:List Dd) (ms:List Mv):Mm:=(M.set b (R.map encD)).set c (ms.map encM)
structure Bc (M:Mm) (b c:Nat):Prop where
 hb:b < M.length
 hc:c < M.length
 ne:b≠c
theorem MM.atb {M:Mm} {b c:Nat} {R:List Dd} {ms:List Mv} (h:Bc M b c):(MM M b c R ms)[b]?=some (R.map encD):=by
 unfold MM
 rw [List.getElem?_set_ne h.ne.symm,List.getElem?_set_self h.hb]
theorem MM.atc {M:Mm} {b c:Nat} {R:List Dd} {ms:List Mv} (h:Bc M b c):(MM M b c R ms)[c]?=some (ms.map encM):=by
 unfold MM
 rw [List.getElem?_set_self (by simpa using h.hc)]
theorem MM.setb {M:Mm} {b c:Nat} {R R':List Dd} {ms:List Mv} (h:Bc M b c):(MM M b c R ms).set b (R'.map encD)=MM M b c R' ms:=by
 unfold MM
 rw [List.set_comm _ _ h.ne.symm,List.set_set]
theorem MM.setc {M:Mm} {b c:Nat} {R:List Dd} {ms ms':List Mv} (h:Bc M b c):(MM M b c R ms).set c (ms'.map encM)=MM M b c R ms':=by
 unfold MM
 rw [List.set_set]
theorem nE {n:Int} {G S:Nat} {R R':List Dd} {b c:Nat} {m:Mv} {ms:List Mv} {M:Mm} (hn:2<=n) (hn2:n<=1000000) (hB:Bc M b c) (ho:AOk n G S R) (hc:Can n R R' m) (hz:R.length<=16777215) (hm:ms.length<=16777215) :
  Ok (uQ [.d (.int n),.ref b,.d (encM m),.ref c] (MM M b c R ms)) fun _ M'=>M'=MM M b c R' (ms++[m]):=by
 unfold uQ
 refine bB rfl ?_
 unfold b_go
 clean_wf
 refine (lH hn hn2 ho hc (MM.atb hB) hz).mono ?_
 rintro _ _ rfl
 rw [MM.setb hB]
 have hg:=MM.atc (R:=R') (ms:=ms) hB
 clean_wf
 refine fX hg (by simp; omega) ?_
 show List.take _ _=_
 rw [show ms.map encM++[encM m]=(ms++[m]).map encM by simp,MM.setc hB]
 exact List.take_of_length_le (by simp [MM])
theorem getA {A B:List Dd} {x:Dd}:(A++x::B)[A.length]?=some x:=by simp
theorem getA1 {A B:List Dd} {x y:Dd}:(A++x::y::B)[A.length+1]?=some y:=by simp
theorem zW {n:Int} {A B:List Dd} {x y:Dd} {i:Nat} (hi:i=A.length) (h:gp x y=true):Can n (A++x::y::B) (A++y::x::B) (.past i):=by
 subst hi
 exact ⟨x,y,getA,getA1,h,by simp⟩
theorem aDy {n:Int} {A B:List Dd} {x y:Dd} {i:Nat} (hi:i=A.length) (h:kd x=kd y):Can n (A++x::y::B) (A++mg n x y::B) (.one i):=by
 subst hi
 exact ⟨x,y,getA,getA1,h,by simp [List.drop_append]⟩
theorem xT {n:Int} {A B:List Dd} {x:Dd} {i:Nat} (hi:i=A.length) (h:idle x=true):Can n (A++x::B) (A++B) (.out i):=by
 subst hi
 exact ⟨x,getA,h,by simp [List.eraseIdx_append_of_length_le]⟩
theorem sR {n:Int} {d:Dd}:∀ {r:List Dd} {j:Nat},wl d r=some j->∃ r1 x r2,r=r1++x::r2/\r1.length=j/\kd x=kd d/\(∀ y∈r1,gp y d=true)/\tk n d r=some (r1++if idle (mg n x d) then r2 else mg n x d::r2)
 | [],_,h=>by cases h
 | x::r,j,h=>by
  simp only [wl] at h
  simp only [tk]
  by_cases hk:kd x=kd d
  ·rw [if_pos hk] at h ⊢
   cases h
   exact ⟨[],x,r,rfl,rfl,hk,by simp,rfl⟩
  ·rw [if_neg hk] at h ⊢
   by_cases hg:gp x d=true
   ·rw [if_pos hg] at h ⊢
    rw [Option.map_eq_some_iff] at h
    obtain ⟨k,h,rfl⟩:=h
    obtain ⟨r1,y,r2,rfl,rfl,e,g,t⟩:=sR (n:=n) h
    refine ⟨x::r1,y,r2,rfl,rfl,e,?_,by rw [t]; rfl⟩
    intro z hz
    rcases List.mem_cons.mp hz with rfl | hz
    ·exact hg
    ·exact g z hz
   ·rw [if_neg hg] at h
    cases h
theorem xW {d:Dd}:∀ {r:List Dd} {k:Nat},wp d r=some k->k<=r.length/\∀ y∈r.take k,gp y d=true
 | [],_,h=>by cases h
 | x::r,k,h=>by
  simp only [wp] at h
  by_cases hg:gp x d=true
  ·rw [if_pos hg] at h
   cases hp:wp d r with
   | some m =>
    rw [hp] at h
    cases h
    obtain ⟨a,b⟩:=xW hp
    refine ⟨by simpa using a,?_⟩
    intro y hy
    rcases List.mem_cons.mp hy with rfl | hy
    ·exact hg
    ·exact b y hy
   | none =>
    rw [hp] at h
    simp only at h
    split at h
    ·cases h
     refine ⟨by simp,?_⟩
     intro y hy
     simp at hy
     subst hy
     exact hg
    ·cases h
  ·rw [if_neg hg] at h
   cases h
theorem iX {n:Int} {G S:Nat} {P Q T:List Dd} {d:Dd} {b c:Nat} {ms:List Mv} {M:Mm} {a p:Int} (hn:2<=n) (hn2:n<=1000000) (hB:Bc M b c) (ho:AOk n G S (P++(Q++d::T))) (hg:∀ x∈Q,gp x d=true) (hz:(P++(Q++d::T)).length<=16777215) (hm:ms.length+Q.length<=16777215) (ea:a=(P.length+Q.length:Nat)) (ep:p=(P.length:Nat)) :
  Ok (eD [.d (.int n),.ref b,.d (.int a),.d (.int p),.ref c] (MM M b c (P++(Q++d::T)) ms)) fun _ M'=>∃ ms',ms'.length=Q.length/\Lds n (P++(Q++d::T)) ms' (P++(d::(Q++T)))/\M'=MM M b c (P++(d::(Q++T))) (ms++ms'):=by
 subst ea ep
 unfold eD
 refine bB rfl ?_
 unfold b_go_ahead
 simp only [List.length_append,List.length_cons] at hz
 clean_wf
 refine ⟨rfl,by omega,?_⟩
 obtain ⟨q,hq⟩:∃ q,q=Q.length:=⟨_,rfl⟩
 refine dG (fun j L M'=>∃ ms',ms'.length=j/\Lds n (P++(Q++d::T)) ms' (P++(Q.take (q - j)++d::(Q.drop (q - j)++T)))/\M'=MM M b c (P++(Q.take (q - j)++d::(Q.drop (q - j)++T))) (ms++ms')/\∃ o5,L=[some (.d (.int n)),some (.ref b),some (.d (.int (P.length+Q.length:Nat))),some (.d (.int (P.length:Nat))),some (.ref c),o5]) ⟨[],rfl,?_,?_,none,?_⟩ (fun i L M _ _ t e=>by cases e) ?_ ?_
 ·subst hq; simp [Lds]
 ·subst hq; simp
 ·simp
 ·rintro j i _ _ hi ⟨ms',hj,hL,rfl,o5,rfl⟩
  obtain ⟨hj',rfl⟩:=lX hi
  have hj1:j < q:=by omega
  obtain ⟨k,hk⟩:∃ k,q - j=k+1:=⟨q - j - 1,by omega⟩
  obtain ⟨x,hx⟩:∃ x,Q[k]?=some x:=⟨_,List.getElem?_eq_getElem (by omega)⟩
  have e1:Q.take (k+1)=Q.take k++[x]:=by rw [List.take_add_one,hx]; rfl
  have e2:Q.drop k=x::Q.drop (k+1):=by
   have hk':=(List.getElem?_eq_some_iff.mp hx)
   rw [List.drop_eq_getElem_cons hk'.1,hk'.2]
  have hc:Can n (P++(Q.take (q - j)++d::(Q.drop (q - j)++T))) (P++(Q.take (q - (j+1))++d::(Q.drop (q - (j+1))++T))) (.past (P.length+k)):=by
   rw [hk,show q - (j+1)=k by omega,e1,e2]
   have:=zW (n:=n) (A:=P++Q.take k) (B:=Q.drop (k+1)++T) (x:=x) (y:=d) (i:=P.length+k) (by simp; omega) (hg x (List.mem_of_getElem? hx))
   simpa using this
  have hA:=ho.lds hn hL
  have hlen:(P++(Q.take (q - j)++d::(Q.drop (q - j)++T))).length<=16777215:=by simp; omega
  rw [show ((P.length+Q.length:Nat):Int) - 1+1 - 1 - (j:Nat)=((P.length+k:Nat):Int) by omega]
  clean_wf
  refine (nE (m:=.past (P.length+k)) hn hn2 hB hA hc hlen (by simp; omega)).mono ?_
  rintro _ _ rfl
  clean_wf
  exact ⟨ms'++[.past (P.length+k)],by simp; omega,hL.app (.one hc),by simp,_,rfl⟩
 ·rintro _ _ ⟨ms',hj,hL,rfl,o5,rfl⟩
  have e0:(downE (((P.length+Q.length:Nat):Int) - 1+1) (((P.length+Q.length:Nat):Int) - 1 - ((P.length:Nat) - 1)).toNat).length=q:=by rw [gC]; omega
  simp only [e0,Nat.sub_self,List.take_zero,List.drop_zero,List.nil_append] at hj hL ⊢
  exact ⟨ms',hj.trans hq,hL,List.take_of_length_le (by simp [MM])⟩
theorem aCr {A B:List Dd} {x:Dd} {i:Nat} (hi:i=A.length):atI ((A++x::B).map encD) (i:Nat)=some (encD x):=bP (by rw [hi]; exact getA)
theorem rA {n:Int} {G S:Nat} {r T:List Dd} {d:Dd} {b c:Nat} {ms:List Mv} {M:Mm} {a:Int} (hn:2<=n) (hn2:n<=1000000) (hB:Bc M b c) (ho:AOk n G S (r.reverse++d::T)) (hz:(r.reverse++d::T).length<=16777215) (hm:ms.length+r.length+2<=16777215) (ea:a=(r.length:Nat)) :
  Ok (fZ [.d (.int n),.ref b,.d (.int a),.ref c] (MM M b c (r.reverse++d::T) ms)) fun w M'=>∃ ms',ms'.length<=r.length+2/\w=.d (.int ((ins n d r).length:Nat))/\Lds n (r.reverse++d::T) ms' ((ins n d r).reverse++T)/\M'=MM M b c ((ins n d r).reverse++T) (ms++ms'):=by
 subst ea
 have tkl:∀ R ms',List.take (MM M b c (r.reverse++d::T) ms).length (MM M b c R ms')=MM M b c R ms':=fun R ms'=>List.take_of_length_le (by simp [MM])
 have hd:(r.reverse++d::T)[r.length]?=some d:=by have:=getA (A:=r.reverse) (B:=T) (x:=d); rwa [List.length_reverse] at this
 have hR:=MM.atb (R:=r.reverse++d::T) (ms:=ms) hB
 unfold fZ
 refine bB rfl ?_
 unfold b_take_in
 clean_wf
 refine cJ hR (bP hd) ?_
 clean_wf
 refine gF.mono ?_
 rintro _ _ ⟨rfl,rfl⟩
 clean_wf
 refine mH (fun hi=>?_) (fun hi=>?_)
 ·have hc:Can n (r.reverse++d::T) (r.reverse++T) (.out r.length):=xT (by simp) hi
  clean_wf
  refine (nE (m:=.out r.length) hn hn2 hB ho hc hz (by omega)).mono ?_
  rintro _ _ rfl
  clean_wf
  rw [show ins n d r=r by unfold ins; rw [if_pos hi],tkl]
  exact ⟨[.out r.length],by simp,rfl,.one hc,rfl⟩
 clean_wf
 refine (oW (R:=r.reverse++d::T) hR (by omega) hd).mono ?_
 rintro _ _ ⟨rfl,rfl⟩
 have et:((r.reverse++d::T).take r.length).reverse=r:=by rw [List.take_left' (by simp),List.reverse_reverse]
 rw [et]
 cases hw:wl d r with
 | none =>
  have tn:tk n d r=none:=by rw [aGf,hw]; rfl
  obtain ⟨k,hk⟩:∃ k,k=(wp d r).getD 0:=⟨_,rfl⟩
  have hkl:k<=r.length/\(∀ y∈r.take k,gp y d=true)/\ins n d r=r.take k++d::r.drop k:=by
   unfold ins
   rw [if_neg (by rw [hi]; exact Bool.false_ne_true),tn,aCm]
   cases hp:wp d r with
   | none=>rw [hp] at hk; subst hk; simp
   | some m =>
    rw [hp] at hk
    subst hk
    obtain ⟨q1,q2⟩:=xW hp
    exact ⟨q1,q2,rfl⟩
  obtain ⟨h1,h2,h3⟩:=hkl
  rw [<- hk]
  have eR:r.reverse++d::T=(r.drop k).reverse++((r.take k).reverse++d::T):=by
   rw [<- List.append_assoc,<- List.reverse_append,List.take_append_drop]
  have eR':(ins n d r).reverse++T=(r.drop k).reverse++(d::((r.take k).reverse++T)):=by
   rw [h3]; simp
  have el:(ins n d r).length=r.length+1:=by rw [h3]; simp; omega
  clean_wf
  rw [eR] at ho hz ⊢
  refine (iX (P:=(r.drop k).reverse) (Q:=(r.take k).reverse) (d:=d) (T:=T) hn hn2 hB ho (fun x hx=>h2 x (by simpa using hx)) hz (by simp; omega) (by simp; omega) (by simp; omega)).mono ?_
  rintro _ _ ⟨ms',l1,l2,rfl⟩
  clean_wf
  rw [<- eR,tkl,eR',el]
  exact ⟨ms',by rw [l1]; simp; omega,by simp,by rw [eR]; exact l2,rfl⟩
 | some j =>
  obtain ⟨r1,x,r2,rfl,rfl,hk,hg,ht⟩:=sR (n:=n) hw
  have eins:ins n d (r1++x::r2)=r1++if idle (mg n x d) then r2 else mg n x d::r2:=by
   unfold ins
   rw [if_neg (by rw [hi]; exact Bool.false_ne_true),ht]
  have elk:((r1++x::r2).length:Int) - 1 - (r1.length:Nat)=(r2.length:Nat):=by simp; omega
  have eR:(r1++x::r2).reverse++d::T=(r2.reverse++[x])++(r1.reverse++d::T):=by simp
  dsimp only
  rw [elk]
  clean_wf
  refine jR (by simp [isN]) ?_
  clean_wf
  have ho0:=ho
  rw [eR] at ho hz ⊢
  refine (iX (P:=r2.reverse++[x]) (Q:=r1.reverse) (d:=d) (T:=T) (ms:=ms) (a:=((r1++x::r2).length:Nat)) (p:=(r2.length:Nat)+1) hn hn2 hB ho (fun y hy=>hg y (by simpa using hy)) hz (by simp at hm ⊢; omega) (by simp; omega) (by simp)).mono ?_
  rintro _ _ ⟨ms',l1,l2,rfl⟩
  have hA1:=ho.lds hn l2
  have e1:(r2.reverse++[x])++(d::(r1.reverse++T))=r2.reverse++x::d::(r1.reverse++T):=by simp
  rw [e1] at hA1 l2 ⊢
  have c1:=aDy (n:=n) (A:=r2.reverse) (B:=r1.reverse++T) (i:=r2.length) (by simp) hk
  clean_wf
  refine (nE (m:=.one r2.length) hn hn2 hB hA1 c1 (by simp at hz ⊢; omega) (by simp at hm l1 ⊢; omega)).mono ?_
  rintro _ _ rfl
  have hA2:=hA1.can hn c1
  have hR2:=MM.atb (R:=r2.reverse++mg n x d::(r1.reverse++T)) (ms:=ms++ms'++[.one r2.length]) hB
  clean_wf
  refine cJ hR2 (aCr (by simp)) ?_
  clean_wf
  refine gF.mono ?_
  rintro _ _ ⟨rfl,rfl⟩
  clean_wf
  rw [<- eR]
  refine mH (fun hi2=>?_) (fun hi2=>?_)
  ·rw [if_pos hi2] at eins
   have c2:=xT (n:=n) (A:=r2.reverse) (B:=r1.reverse++T) (i:=r2.length) (by simp) hi2
   clean_wf
   refine (nE (m:=.out r2.length) hn hn2 hB hA2 c2 (by simp at hz ⊢; omega) (by simp at hm l1 ⊢; omega)).mono ?_
   rintro _ _ rfl
   clean_wf
   rw [tkl,eins]
   refine ⟨ms'++[.one r2.length]++[.out r2.length],by simp at l1 ⊢; omega,?_,?_,?_⟩
   ·simp; omega
   ·rw [show (r1++r2).reverse++T=r2.reverse++(r1.reverse++T) by simp]
    rw [eR]
    exact (l2.app (.one c1)).app (.one c2)
   ·simp
  ·rw [if_neg (by rw [hi2]; exact Bool.false_ne_true)] at eins
   clean_wf
   rw [tkl,eins]
   refine ⟨ms'++[.one r2.length],by simp at l1 ⊢; omega,?_,?_,?_⟩
   ·simp
   ·rw [show (r1++mg n x d::r2).reverse++T=r2.reverse++mg n x d::(r1.reverse++T) by simp]
    rw [eR]
    exact l2.app (.one c1)
   ·simp
theorem yW {n:Int} {G S:Nat} {g s:Int} {ds:List Dd} {M:Mm} (hn:2<=n) (hn2:n<=1000000) (ho:AOk n G S ds) (hz:ds.length<=3000) :
  Ok (oG [.d (encP n g s ds)] M) fun w M'=>∃ ms,w=.d (.tup (ms.map encM))/\ms.length<=9006000/\Lds n ds ms (nf n ds []).reverse/\M'=M:=by
 unfold oG
 refine bB rfl ?_
 unfold b_road encP
 clean_wf
 refine xP (xs:=ds.map encD) rfl ?_
 clean_wf
 have hB:Bc (M++[ds.map encD]++[[]]) M.length (M.length+1):=⟨by simp,by simp,by omega⟩
 refine (fU (QS:=fun o M'=>∃ ms,Lds n ds ms (nf n ds []).reverse/\ms.length<=9006000/\∃ a0 a1 a4,o=.nx [a0,a1,some (.ref M.length),some (.ref (M.length+1)),a4]/\M'=MM (M++[ds.map encD]++[[]]) M.length (M.length+1) (nf n ds []).reverse ms) (I:=fun m L M'=>∃ (r T pre:List Dd) (ms:List Mv),m=T.length/\ds=pre++T/\r=nf n pre []/\Lds n ds ms (r.reverse++T)/\ms.length<=pre.length*3002/\L=[some (.d (.tup [.int n,.int g,.int s,.tup (ds.map encD)])),some (.d (.int n)),some (.ref M.length),some (.ref (M.length+1)),some (.d (.int (r.length:Nat)))]/\M'=MM (M++[ds.map encD]++[[]]) M.length (M.length+1) (r.reverse++T) ms) ?_ NW ds.length _ _ ⟨[],ds,[],[],rfl,rfl,rfl,rfl,by simp,?_,?_⟩ (by rw [tX]; omega)).mono ?_
 ·rintro m L M' ⟨r,T,pre,ms,rfl,e1,e2,hL,hm,rfl,rfl⟩
  have hR:=MM.atb (R:=r.reverse++T) (ms:=ms) hB
  have hlen:ds.length=pre.length+T.length:=by rw [e1]; simp
  have hrl:r.length<=pre.length:=by rw [e2]; have:=rM (n:=n) pre []; simpa using this
  clean_wf
  refine ⟨fun h=>?_,fun h=>?_⟩
  ·cases T with
   | nil=>simp at h
   | cons d T =>
    have hA:=ho.lds hn hL
    clean_wf
    refine (rA (r:=r) (T:=T) (d:=d) (ms:=ms) hn hn2 hB hA (by simp at hlen ⊢; omega) (by simp at hlen; omega) rfl).mono ?_
    rintro _ _ ⟨ms',l1,rfl,l2,rfl⟩
    clean_wf
    refine ⟨T.length,by simp,ins n d r,T,pre++[d],ms++ms',rfl,by rw [e1]; simp,by rw [eE,<- e2]; rfl,hL.app l2,?_,rfl,rfl⟩
    simp at hlen ⊢
    omega
  ·cases T with
   | cons d T=>simp at h; omega
   | nil =>
    have:pre=ds:=by rw [e1]; simp
    subst this
    rw [List.append_nil,e2] at hL
    refine ⟨ms,hL,by omega,_,_,_,rfl,?_⟩
    rw [List.append_nil,e2]
 ·simp
 ·simp [MM]
 ·rintro _ _ ⟨ms,hL,hm,a0,a1,a4,rfl,rfl⟩
  have hc:=MM.atc (R:=(nf n ds []).reverse) (ms:=ms) hB
  clean_wf
  refine jK (xs:=ms.map encM) hc ?_
  clean_wf
  exact ⟨hm,hL,by simp [MM]⟩
theorem aCw {n:Int} {G S:Nat} {g s:Int} {ds R:List Dd} {ms:List Mv} {M:Mm} (hn:2<=n) (hn2:n<=1000000) (ho:AOk n G S ds) (hz:ds.length<=3000) (hm:ms.length<=9006000) (hL:Lds n ds ms R) :
  Ok (tU [.d (encP n g s ds),.d (.tup (ms.map encM))] M) fun w M'=>w=.d (encP n g s R)/\M'=M:=by
 unfold tU
 refine bB rfl ?_
 unfold b_led encP
 clean_wf
 refine xP (xs:=ds.map encD) rfl ?_
 clean_wf
 refine dG (fun j L M'=>∃ R1,Lds n R1 (ms.drop j) R/\AOk n G S R1/\R1.length<=3000/\M'=M++[R1.map encD]/\∃ o7 o8,L=[some (.d (.tup [.int n,.int g,.int s,.tup (ds.map encD)])),some (.d (.tup (ms.map encM))),some (.d (.int n)),some (.d (.int g)),some (.d (.int s)),some (.d (.tup (ds.map encD))),some (.ref M.length),o7,o8]) ⟨ds,hL,ho,hz,rfl,none,none,by simp⟩ (fun i L M _ _ t e=>by cases e) ?_ ?_
 ·rintro j i _ _ hi ⟨R1,h1,h2,h3,rfl,o7,o8,rfl⟩
  obtain ⟨e,he,rfl⟩:=pM hi
  rw [List.getElem?_map,Option.map_eq_some_iff] at he
  obtain ⟨m,hm1,rfl⟩:=he
  have hmm:=List.getElem?_eq_some_iff.mp hm1
  rw [List.drop_eq_getElem_cons hmm.1,hmm.2] at h1
  obtain ⟨R2,c,h1⟩:=h1
  have hR:(M++[R1.map encD])[M.length]?=some (R1.map encD):=by simp
  clean_wf
  refine (aCe c hR (by omega)).mono ?_
  rintro _ _ ⟨rfl,rfl⟩
  clean_wf
  refine (lH hn hn2 h2 c hR (by omega)).mono ?_
  rintro _ _ rfl
  clean_wf
  exact ⟨R2,h1,h2.can hn c,by have:=c.len; omega,by simp,_,_,rfl⟩
 ·rintro _ _ ⟨R1,h1,h2,h3,rfl,o7,o8,rfl⟩
  rw [show ms.drop (enumT 0 (ms.map encM)).length=[] by rw [kN]; simp] at h1
  cases h1
  have hR:(M++[R.map encD])[M.length]?=some (R.map encD):=by simp
  clean_wf
  refine jK (xs:=R.map encD) hR ?_
  clean_wf
  exact ⟨rfl,by simp⟩
theorem nN {n:Int} {G S:Nat} {g s:Int} {ds:List Dd} {M:Mm} (hn:2<=n) (hn2:n<=1000000) (ho:AOk n G S ds) (hz:ds.length<=3000) :
  Ok (iP [.d (encP n g s ds)] M) fun w M'=>w=.d (encP n g s (nf n ds []).reverse)/\M'=M:=by
 unfold iP
 refine bB rfl ?_
 unfold b_short
 clean_wf
 refine (yW hn hn2 ho hz).mono ?_
 rintro _ _ ⟨ms,rfl,hm,hL,rfl⟩
 clean_wf
 refine (aCw hn hn2 ho hz hm hL).mono ?_
 rintro _ _ ⟨rfl,rfl⟩
 clean_wf
 exact ⟨rfl,by simp⟩
theorem sL {n:Int} {G S:Nat} {a b:Dd} {M:Mm} (ha:OkD n G S a) (hb:OkD n G S b):Ok (fC [.d (encD a),.d (encD b)] M) fun w M'=>w=.d (.bl (gp a b))/\M'=M:=by
 unfold fC
 refine bB rfl ?_
 unfold b_l_passes
 cases a with
 | scale s u =>
  cases b with
  | scale s' u' =>
   simp only [encD]
   clean_wf
   exact ⟨by simp [gp,ho],by simp⟩
  | add s' c' g' t' =>
   obtain ⟨_,_,_,_,_,_,_,hl⟩:=hb
   simp only [encD]
   clean_wf
   unfold natsD
   refine aX (by simp; omega) ?_
   rw [show (t'.map fun k=>D.int (k:Nat))++[D.int (s':Nat)]=(t'++[s']).map fun k=>D.int (k:Nat) by simp]
   refine iI (t:=t'++[s']) ?_
   clean_wf
   refine ⟨?_,by simp⟩
   simp only [if_true,gp,ho]
   congr 2
   rw [Bool.eq_iff_iff]
   simp
   constructor
   ·rintro ⟨h1,h2⟩; exact ⟨h2,h1⟩
   ·rintro ⟨h1,h2⟩; exact ⟨h2,h1⟩
 | add s c g t =>
  obtain ⟨_,_,_,_,_,_,_,hl⟩:=ha
  cases b with
  | scale s' u' =>
   simp only [encD]
   clean_wf
   unfold natsD
   refine aX (by simp; omega) ?_
   rw [show (t.map fun k=>D.int (k:Nat))++[D.int (s:Nat)]=(t++[s]).map fun k=>D.int (k:Nat) by simp]
   refine iI (t:=t++[s]) ?_
   clean_wf
   refine ⟨?_,by simp⟩
   simp only [if_true,gp,ho]
   congr 2
   rw [Bool.eq_iff_iff]
   simp
   constructor
   ·rintro ⟨h1,h2⟩; exact ⟨h2,h1⟩
   ·rintro ⟨h1,h2⟩; exact ⟨h2,h1⟩
  | add s' c' g' t' =>
   simp only [encD]
   clean_wf
   refine iI ?_
   simp only [if_true]
   clean_wf
   refine ⟨fun h=>?_,fun h=>?_⟩
   ·clean_wf
    refine iI ?_
    simp only [if_true]
    clean_wf
    refine ⟨?_,by simp⟩
    simp at h
    simp [gp,ho,h]
   ·clean_wf
    refine ⟨?_,by simp⟩
    simp at h
    simp [gp,ho,h]
structure Same (n:Int) (G S:Nat) (ds es:List Dd):Prop where
 ok:AOk n G S es
 nf:nf n es []=nf n ds []
 len:es.length<=ds.length+1
theorem Same.refl {n:Int} {G S:Nat} {ds:List Dd} (h:AOk n G S ds):Same n G S ds ds:=⟨h,rfl,by omega⟩
noncomputable def Told (n:Int) (G S:Nat) (ds:List Dd) (w:W):Prop:=w=.d .non\/∃ es,w=.d (.tup (es.map encD))/\Same n G S ds es
theorem kB {R:List Dd} {i:Nat} {x:Dd} (h:R[i]?=some x):R=R.take i++x::R.drop (i+1):=by
 have h':=List.getElem?_eq_some_iff.mp h
 rw [<- h'.2,<- List.drop_eq_getElem_cons h'.1,List.take_append_drop]
theorem cutLo {R:List Dd} {i:Nat} (h:i<=R.length):cut (R.map encD) none (some (i:Int))=(R.take i).map encD:=by rw [qT (by simpa using h),List.map_take]
theorem cutHi {R:List Dd} {i:Nat} (h:i<=R.length):cut (R.map encD) (some (i:Int)) none=(R.drop i).map encD:=by rw [rF (by simpa using h),List.map_drop]
theorem at2b (x y:D) (b:Bool):atI [x,y] (if b=true then 1 else 0)=some (if b=true then y else x):=by cases b <;> rfl
theorem zC {n:Int} {G S:Nat} {ds:List Dd} {i:Nat} {M:Mm} (hn:2<=n) (hn2:n<=1000000) (ok:AOk n G S ds) (hl:ds.length<=1000) (hi:i<=ds.length) :
  Ok (cU [.d (.int n),.d (.tup (ds.map encD)),.d (.tup [.str "out",.int i])] M) fun w M'=>Told n G S ds w/\M'=M:=by
 unfold cU
 refine bB rfl ?_
 unfold b_l_moved
 refine gD (Ok.mono (Q:=fun o M1=>o=.nx [some (.d (.int n)),some (.d (.tup (ds.map encD))),some (.d (.tup [.str "out",.int i])),some (.d (.str "out")),some (.d (.int i)),none,none,none]/\M1=M) ?_ ?_)
 ·clean_wf
  exact ⟨rfl,rfl⟩
 rintro _ M ⟨rfl,rfl⟩
 refine gD (lT (Ok.mono (Q:=fun c M1=>c=decide (ds.length<=i)/\M1=M) ?_ ?_))
 ·clean_wf
  refine ⟨fun h=>by simp at h; omega,fun _=>?_⟩
  clean_wf
  refine ⟨fun h=>⟨by simp at h ⊢; omega,rfl⟩,fun h=>?_⟩
  clean_wf
  exact ⟨by simp at h ⊢; omega,rfl⟩
 rintro _ M ⟨rfl,rfl⟩
 refine eF (fun h=>?_) (fun h=>?_)
 ·clean_wf
  exact ⟨.inl rfl,by simp⟩
 have hi:i < ds.length:=by omega
 obtain ⟨x,hx⟩:∃ x,ds[i]?=some x:=⟨_,List.getElem?_eq_getElem hi⟩
 have e1:(i:Int)+1=((i+1:Nat):Int):=by omega
 clean_wf
 rw [e1,cutLo (by omega),cutHi (by omega)]
 refine aX (by simp; omega) ?_
 clean_wf
 refine lK (bP hx) ?_
 clean_wf
 refine kD.mono ?_
 rintro _ M ⟨rfl,rfl⟩
 clean_wf
 refine dE (at2b _ _ _) ?_
 clean_wf
 refine ⟨?_,by simp⟩
 cases hx2:idle x with
 | false=>exact .inl rfl
 | true =>
  refine .inr ⟨ds.take i++ds.drop (i+1),by simp,?_,?_,by simp; omega⟩
  ·exact pP (fun d hd=>ok d (List.mem_of_mem_take hd)) (fun d hd=>ok d (List.mem_of_mem_drop hd))
  ·conv=>rhs; rw [kB hx]
   exact (aDd hx2).symm
theorem gE {n:Int} {G S:Nat} {ds:List Dd} {i:Nat} {M:Mm} (hn:2<=n) (hn2:n<=1000000) (ok:AOk n G S ds) (hl:ds.length<=1000) (hi:i<=ds.length) :
  Ok (cU [.d (.int n),.d (.tup (ds.map encD)),.d (.tup [.str "past",.int i])] M) fun w M'=>Told n G S ds w/\M'=M:=by
 unfold cU
 refine bB rfl ?_
 unfold b_l_moved
 refine gD (Ok.mono (Q:=fun o M1=>o=.nx [some (.d (.int n)),some (.d (.tup (ds.map encD))),some (.d (.tup [.str "past",.int i])),some (.d (.str "past")),some (.d (.int i)),none,none,none]/\M1=M) ?_ ?_)
 ·clean_wf
  exact ⟨rfl,rfl⟩
 rintro _ M ⟨rfl,rfl⟩
 refine gD (lT (Ok.mono (Q:=fun c M1=>c=decide (ds.length - 1<=i)/\M1=M) ?_ ?_))
 ·clean_wf
  refine ⟨fun h=>by simp at h; omega,fun _=>?_⟩
  clean_wf
  refine ⟨fun h=>⟨by simp at h ⊢; omega,rfl⟩,fun h=>?_⟩
  clean_wf
  exact ⟨by simp at h ⊢; omega,rfl⟩
 rintro _ M ⟨rfl,rfl⟩
 refine eF (fun h=>?_) (fun h=>?_)
 ·clean_wf
  exact ⟨.inl rfl,by simp⟩
 have hi:i+1 < ds.length:=by omega
 obtain ⟨x,hx⟩:∃ x,ds[i]?=some x:=⟨_,List.getElem?_eq_getElem (by omega)⟩
 obtain ⟨y,hy⟩:∃ y,ds[i+1]?=some y:=⟨_,List.getElem?_eq_getElem hi⟩
 have ox:=ok.at hx
 have oy:=ok.at hy
 have e2:(i:Int)+2=((i+2:Nat):Int):=by omega
 have eds:ds=ds.take i++x::y::ds.drop (i+2):=by
  conv=>lhs; rw [kB hx]
  congr 2
  have h':=List.getElem?_eq_some_iff.mp hy
  rw [List.drop_eq_getElem_cons h'.1,h'.2]
 have ec:cut (ds.map encD) (some (i:Int)) (some (i+2:Int))=[encD x,encD y]:=by
  conv=>lhs; rw [eds]
  rw [e2]
  have l1:(ds.take i).length=i:=by simp; omega
  simp only [cut,HT.sIx_nat]
  rw [Nat.min_eq_left (by simp; omega),Nat.min_eq_left (by simp; omega),List.map_append,List.drop_left' (by simpa using l1)]
  simp
 have lo:=cutLo (R:=ds) (i:=i) (by omega)
 have hi2:=cutHi (R:=ds) (i:=i+2) (by omega)
 clean_wf
 rw [ec]
 clean_wf
 rw [lo]
 refine aX (by simp; omega) ?_
 clean_wf
 rw [e2,hi2]
 refine aX (by simp; omega) ?_
 clean_wf
 refine (sL ox oy).mono ?_
 rintro _ M ⟨rfl,rfl⟩
 clean_wf
 refine dE (at2b _ _ _) ?_
 clean_wf
 refine ⟨?_,by simp⟩
 cases hg:gp x y with
 | false=>exact .inl rfl
 | true =>
  refine .inr ⟨ds.take i++y::x::ds.drop (i+2),by simp,?_,?_,by simp; omega⟩
  ·intro d hd
   refine ok d ?_
   rw [eds]
   simp only [List.mem_append,List.mem_cons] at hd ⊢
   rcases hd with h | h | h | h <;> simp [h]
  ·conv=>rhs; rw [eds]
   exact aEw hn (by rw [<- eds]; exact ok) hg
theorem yS {n:Int} {G S:Nat} {ds:List Dd} {i:Nat} {M:Mm} (hn:2<=n) (hn2:n<=1000000) (ok:AOk n G S ds) (hl:ds.length<=1000) (hi:i<=ds.length) :
  Ok (cU [.d (.int n),.d (.tup (ds.map encD)),.d (.tup [.str "one",.int i])] M) fun w M'=>Told n G S ds w/\M'=M:=by
 unfold cU
 refine bB rfl ?_
 unfold b_l_moved
 refine gD (Ok.mono (Q:=fun o M1=>o=.nx [some (.d (.int n)),some (.d (.tup (ds.map encD))),some (.d (.tup [.str "one",.int i])),some (.d (.str "one")),some (.d (.int i)),none,none,none]/\M1=M) ?_ ?_)
 ·clean_wf
  exact ⟨rfl,rfl⟩
 rintro _ M ⟨rfl,rfl⟩
 refine gD (lT (Ok.mono (Q:=fun c M1=>c=decide (ds.length - 1<=i)/\M1=M) ?_ ?_))
 ·clean_wf
  refine ⟨fun h=>by simp at h; omega,fun _=>?_⟩
  clean_wf
  refine ⟨fun h=>⟨by simp at h ⊢; omega,rfl⟩,fun h=>?_⟩
  clean_wf
  exact ⟨by simp at h ⊢; omega,rfl⟩
 rintro _ M ⟨rfl,rfl⟩
 refine eF (fun h=>?_) (fun h=>?_)
 ·clean_wf
  exact ⟨.inl rfl,by simp⟩
 have hi:i+1 < ds.length:=by omega
 obtain ⟨x,hx⟩:∃ x,ds[i]?=some x:=⟨_,List.getElem?_eq_getElem (by omega)⟩
 obtain ⟨y,hy⟩:∃ y,ds[i+1]?=some y:=⟨_,List.getElem?_eq_getElem hi⟩
 have ox:=ok.at hx
 have oy:=ok.at hy
 have e2:(i:Int)+2=((i+2:Nat):Int):=by omega
 have eds:ds=ds.take i++x::y::ds.drop (i+2):=by
  conv=>lhs; rw [kB hx]
  congr 2
  have h':=List.getElem?_eq_some_iff.mp hy
  rw [List.drop_eq_getElem_cons h'.1,h'.2]
 have ec:cut (ds.map encD) (some (i:Int)) (some (i+2:Int))=[encD x,encD y]:=by
  conv=>lhs; rw [eds]
  rw [e2]
  have l1:(ds.take i).length=i:=by simp; omega
  simp only [cut,HT.sIx_nat]
  rw [Nat.min_eq_left (by simp; omega),Nat.min_eq_left (by simp; omega),List.map_append,List.drop_left' (by simpa using l1)]
  simp
 have lo:=cutLo (R:=ds) (i:=i) (by omega)
 have hi2:=cutHi (R:=ds) (i:=i+2) (by omega)
 clean_wf
 rw [ec]
 clean_wf
 refine mJ.mono ?_
 rintro _ M ⟨rfl,rfl⟩
 clean_wf
 refine mJ.mono ?_
 rintro _ M ⟨rfl,rfl⟩
 refine nS (a:=kiD x) (b:=kiD y) rfl rfl ⟨iT x,iT y⟩ ?_
 rw [nR]
 clean_wf
 refine mH (fun h=>?_) (fun h=>?_)
 ·clean_wf
  exact ⟨.inl rfl,by simp⟩
 have hk:kd x=kd y:=by simpa using h
 have fin:Same n G S ds (ds.take i++mg n x y::ds.drop (i+2)):=by
  refine ⟨?_,?_,by simp; omega⟩
  ·intro d hd
   rcases List.mem_append.mp hd with hd | hd
   ·exact ok d (List.mem_of_mem_take hd)
   ·rcases List.mem_cons.mp hd with rfl | hd
    ·exact uP hn ox oy hk
    ·exact ok d (List.mem_of_mem_drop hd)
  ·conv=>rhs; rw [eds]
   exact aAh hn (by rw [<- eds]; exact ok) hk
 cases x with
 | add s c g t =>
  cases y with
  | add s' c' g' t' =>
   obtain ⟨_,c0,c1,_⟩:=ox
   obtain ⟨_,d0,d1,_⟩:=oy
   simp only [encD]
   clean_wf
   refine aX (by simp [cut,HT.sIx]) ?_
   clean_wf
   refine aX (by simp [cut,HT.sIx]) ?_
   clean_wf
   rw [lo]
   refine aX (by simp; omega) ?_
   clean_wf
   rw [e2,hi2]
   refine aX (by simp; omega) ?_
   clean_wf
   exact ⟨.inr ⟨_,by simp [mg,encD,cut,HT.sIx],fin⟩,by simp⟩
  | scale s' u'=>simp [kd] at hk
 | scale s u =>
  cases y with
  | add s' c' g' t'=>simp [kd] at hk
  | scale s' u' =>
   obtain ⟨_,c0,c1,_⟩:=ox
   obtain ⟨_,d0,d1,_⟩:=oy
   simp only [encD]
   clean_wf
   refine aX (by simp [cut,HT.sIx]) ?_
   clean_wf
   refine aX (by simp [cut,HT.sIx]) ?_
   clean_wf
   rw [lo]
   refine aX (by simp; omega) ?_
   clean_wf
   rw [e2,hi2]
   refine aX (by simp; omega) ?_
   clean_wf
   exact ⟨.inr ⟨_,by simp [mg,encD,cut,HT.sIx],fin⟩,by simp⟩
theorem aIn {n u v:Int} (hn:2<=n) (hu:Un n u) (hv:Un n v):Un n (u*v % n):=by
 have:=uP (G:=0) (S:=1) hn (x:=.scale 0 u) (d:=.scale 0 v) ⟨by omega,hu⟩ ⟨by omega,hv⟩ rfl
 exact this.2
theorem wX {n:Int} {G S b:Nat} {d:Dd} {M:Mm} (hb:Bx M b) (hn:2<=n) (hn2:n<=1000000) (od:OkD n G S d) :
  Ok (fW [.ref b,.d (.int n),.d (encD d)] M) fun w M'=>∃ x y,w=.d (.tup [encD x,encD y])/\OkD n G S x/\OkD n G S y/\kd x=kd y/\mg n x y=d/\Nx b M M':=by
 have n1:=Nx.refl hb
 unfold fW
 refine bB rfl ?_
 unfold b_l_split
 cases d with
 | scale s u =>
  obtain ⟨o1,ou⟩:=od
  obtain ⟨u0,u1,_⟩:=id ou
  simp only [encD]
  clean_wf
  refine (lU hb hn hn2).mono ?_
  rintro _ _ ⟨v,rfl,hv,n'⟩
  replace n1:=n1.trans n'
  have hiv:=gI hv.2.2
  clean_wf
  refine (hW hn hn2 hv.2.2).mono ?_
  rintro _ _ ⟨rfl,rfl⟩
  clean_wf
  rw [n1.take]
  have hvi:Un n (iv n v):=hv.iv
  refine ⟨.scale s (u*iv n v % n),.scale s v,rfl,⟨o1,aIn hn ou hvi⟩,⟨o1,hv⟩,rfl,?_,n1⟩
  simp only [mg,Dd.scale.injEq,true_and]
  have e2:Cg n (v*iv n v) 1:=Cg.of hiv.2.2
  have:Cg n (u*iv n v % n*v) u:=(Cg.mul Cg.mod Cg.rfl).trans ((Cg.of_eq (by grind)).trans ((Cg.mul (Cg.rfl (a:=u)) e2).trans (Cg.of_eq (by omega))))
  rw [this.emod]
  exact Int.emod_eq_of_lt u0 u1
 | add s c g t =>
  obtain ⟨o1,c0,c1,o2⟩:=od
  simp only [encD]
  clean_wf
  refine (iM hb hn hn2).mono ?_
  rintro _ _ ⟨v,rfl,v0,v1,n'⟩
  replace n1:=n1.trans n'
  clean_wf
  refine aX (by simp [cut,HT.sIx]) ?_
  clean_wf
  refine aX (by simp [cut,HT.sIx]) ?_
  clean_wf
  refine aX (by simp [cut,HT.sIx]) ?_
  clean_wf
  refine aX (by simp [cut,HT.sIx]) ?_
  clean_wf
  rw [n1.take]
  refine ⟨.add s ((c - v) % n) g t,.add s v g t,by simp [cut,HT.sIx,encD],⟨o1,Int.emod_nonneg _ (by omega),Int.emod_lt_of_pos _ (by omega),o2⟩,⟨o1,v0,v1,o2⟩,rfl,?_,n1⟩
  simp only [mg,Dd.add.injEq,true_and,and_true]
  have:Cg n ((c - v) % n+v) c:=(Cg.add Cg.mod Cg.rfl).trans (Cg.of_eq (by omega))
  rw [this.emod]
  exact Int.emod_eq_of_lt c0 c1
theorem tN {m:Int} {G S i:Nat} {ds:List Dd} {d:Dd} (ok:AOk m G S ds) (od:OkD m G S d) (hd:idle d=true):Same m G S ds (ds.take i++d::ds.drop i):=by
 refine ⟨pP (fun x hx=>ok x (List.mem_of_mem_take hx)) ?_,?_,by simp; omega⟩
 ·intro x hx
  rcases List.mem_cons.mp hx with rfl | hx
  ·exact od
  ·exact ok x (List.mem_of_mem_drop hx)
 ·rw [aDd hd,List.take_append_drop]
theorem vH {m:Int} {G S i:Nat} {ds:List Dd} {d x y:Dd} (hn:2<=m) (ok:AOk m G S ds) (h:ds[i]?=some d) (ox:OkD m G S x) (oy:OkD m G S y) (hk:kd x=kd y) (e:mg m x y=d):Same m G S ds (ds.take i++x::y::ds.drop (i+1)):=by
 have hi:=(List.getElem?_eq_some_iff.mp h).1
 have oa:AOk m G S (ds.take i++x::y::ds.drop (i+1)):=by
  intro z hz
  simp only [List.mem_append,List.mem_cons] at hz
  rcases hz with hz | rfl | rfl | hz
  ·exact ok z (List.mem_of_mem_take hz)
  ·exact ox
  ·exact oy
  ·exact ok z (List.mem_of_mem_drop hz)
 refine ⟨oa,?_,by simp; omega⟩
 conv=>rhs; rw [kB h]
 rw [<- aAh hn oa hk,e]
theorem aDu {m:Int} {G S b:Nat} {ds:List Dd} {M:Mm} (hb:Bx M b) (hn:2<=m) (hn2:m<=1000000) (hG:G<=8) (hS:1<=S) (hS2:S<=9) (ok:AOk m G S ds) (hl:ds.length<=900) :
  Ok (kU [.ref b,.d (.int m),.d (.int G),.d (.int S),.d (.tup (ds.map encD))] M) fun w M'=>∃ es,w=.d (.tup (es.map encD))/\Same m G S ds es/\Nx b M M':=by
 have n:=Nx.refl hb
 unfold kU
 refine bB rfl ?_
 unfold b_l_led
 clean_wf
 (refine (aT hb (by omega) (by omega)).mono ?_; rintro _ _ ⟨d1,rfl,l_d1,u_d1,n'⟩; replace n:=n.trans n'; replace hb:=n'.bx hb; clear n')
 clean_wf
 refine (aT hb (m:=((ds.map encD).length:Int)+1) (by omega) (by simp; omega)).mono ?_
 rintro _ M0 ⟨d2,rfl,l_d2,u_d2,n'⟩
 replace n:=n.trans n'
 replace hb:=n'.bx hb
 clear n'
 obtain ⟨i,rfl⟩:∃ i:Nat,d2=(i:Nat):=⟨d2.toNat,by omega⟩
 have hi:i<=ds.length:=by simp at u_d2; omega
 have lo:=cutLo hi
 clean_wf
 refine eF (fun h=>?_) (fun h=>?_)
 ·clean_wf
  refine (qI hb hn hn2 hG hS hS2).mono ?_
  rintro _ M1 ⟨d3,rfl,ok3,sr3,n'⟩
  replace n:=n.trans n'
  have h2:=cutHi hi
  cases d3 with
  | scale s u =>
   have od:OkD m G S (.scale s 1):=⟨ok3.1,aBb hn⟩
   simp only [encD]
   clean_wf
   refine aX (by simp [cut,HT.sIx]) ?_
   clean_wf
   refine aX (by simp [cut,HT.sIx]) ?_
   clean_wf
   rw [lo]
   refine aX (by simp; omega) ?_
   clean_wf
   rw [h2]
   refine aX (by simp; omega) ?_
   clean_wf
   rw [n.take]
   exact ⟨ds.take i++.scale s 1::ds.drop i,by simp [encD,cut,HT.sIx],tN ok od rfl,n⟩
  | add s c g t =>
   obtain ⟨a1,a2,a3,a4⟩:=ok3
   have od:OkD m G S (.add s 0 g t):=⟨a1,by omega,by omega,a4⟩
   simp only [encD]
   clean_wf
   refine aX (by simp [cut,HT.sIx]) ?_
   clean_wf
   refine aX (by simp [cut,HT.sIx]) ?_
   clean_wf
   rw [lo]
   refine aX (by simp; omega) ?_
   clean_wf
   rw [h2]
   refine aX (by simp; omega) ?_
   clean_wf
   rw [n.take]
   exact ⟨ds.take i++.add s 0 g t::ds.drop i,by simp [encD,cut,HT.sIx],tN ok od rfl,n⟩
 decreasing_trivial_pre_omega
 refine gD (lT (Ok.mono (Q:=fun c M2=>M2=M0/\(c=true->i < ds.length)) ?_ ?_))
 ·clean_wf
  refine ⟨fun _=>?_,fun _=>⟨rfl,by simp⟩⟩
  clean_wf
  exact ⟨rfl,fun h=>by simp at h; omega⟩
 rintro c M1 ⟨e,hc⟩
 subst e
 refine mH (fun h3=>?_) (fun h3=>?_)
 ·have hi2:=hc h3
  obtain ⟨d,hd⟩:∃ d,ds[i]?=some d:=⟨_,List.getElem?_eq_getElem hi2⟩
  have h2:=cutHi (R:=ds) (i:=i+1) (by omega)
  clean_wf
  refine lK (bP hd) ?_
  clean_wf
  refine (wX hb hn hn2 (ok.at hd)).mono ?_
  rintro _ _ ⟨x,y,rfl,ox,oy,hk,e,n'⟩
  replace n:=n.trans n'
  rw [lo]
  refine aX (by simp; omega) ?_
  clean_wf
  rw [show (i:Int)+1=((i+1:Nat):Int) by omega,h2]
  refine aX (by simp; omega) ?_
  clean_wf
  rw [n.take]
  exact ⟨ds.take i++x::y::ds.drop (i+1),by simp,vH hn ok hd ox oy hk e,n⟩
 clean_wf
 (refine (aT hb (by omega) (by omega)).mono ?_; rintro _ _ ⟨d5,rfl,l_d5,u_d5,n'⟩; replace n:=n.trans n'; replace hb:=n'.bx hb; clear n')
 have l5:d5=0\/d5=1\/d5=2\/d5=3\/d5=4\/d5=5:=by omega
 obtain ⟨w,hw,hm⟩:∃ w:D,atI [.str "past",.str "past",.str "past",.str "past",.str "one",.str "out"] d5=some w/\∀ M,Ok (cU [.d (.int m),.d (.tup (ds.map encD)),.d (.tup [w,.int i])] M) fun w M'=>Told m G S ds w/\M'=M:=by
  rcases l5 with rfl | rfl | rfl | rfl | rfl | rfl
  ·exact ⟨_,rfl,fun M=>gE hn hn2 ok (by omega) hi⟩
  ·exact ⟨_,rfl,fun M=>gE hn hn2 ok (by omega) hi⟩
  ·exact ⟨_,rfl,fun M=>gE hn hn2 ok (by omega) hi⟩
  ·exact ⟨_,rfl,fun M=>gE hn hn2 ok (by omega) hi⟩
  ·exact ⟨_,rfl,fun M=>yS hn hn2 ok (by omega) hi⟩
  ·exact ⟨_,rfl,fun M=>zC hn hn2 ok (by omega) hi⟩
 refine dE hw ?_
 clean_wf
 refine (hm _).mono ?_
 rintro v M2 ⟨hT,rfl⟩
 rcases hT with rfl | ⟨es,rfl,hs⟩
 ·clean_wf
  rw [n.take]
  exact ⟨.refl ok,n⟩
 ·clean_wf
  rw [n.take]
  exact ⟨hs,n⟩
theorem vV {M:Mm} {d:D} (hl:noL d=true) (hs:sz d<=16777216):Ok (iF [.d d,.d d] M) fun w M'=>w=.d (.bl true)/\M'=M:=by
 refine bB rfl ?_
 unfold b_l_alike
 clean_wf
 refine (fU (QS:=fun o M'=>∃ a b,o=.nx [some (.d d),some (.d d),some (.ref M.length),a,b]/\∃ s,M'=M++[s]) (I:=fun m L M'=>∃ (ds:List D) (a b:Option W),m=szs ds/\(∀ x∈ds,noL x=true)/\m<=16777216/\M'=M++[ds.map fun x=>.tup [x,x]]/\L=[some (.d d),some (.d d),some (.ref M.length),a,b]) ?_ NW (sz d) _ _ ⟨[d],none,none,by simp [szs],by simpa using hl,hs,rfl,rfl⟩ (by rw [tX]; omega)).mono ?_
 ·rintro m L M' ⟨ds,a,b,rfl,hn,hm,rfl,rfl⟩
  have g:(M++[ds.map fun x=>D.tup [x,x]])[M.length]?=some (ds.map fun x=>.tup [x,x]):=by simp
  clean_wf
  refine ⟨fun h=>?_,fun h=>⟨a,b,rfl,_,rfl⟩⟩
  have hne:ds≠[]:=by rintro rfl; simp at h
  obtain ⟨ds',x,rfl⟩:∃ ds' x,ds=ds'++[x]:=⟨ds.dropLast,ds.getLast hne,(List.dropLast_concat_getLast hne).symm⟩
  have hx:noL x=true:=hn x (by simp)
  have hn':∀ y∈ds',noL y=true:=fun y hy=>hn y (by simp [hy])
  rw [jI] at hm ⊢
  have se:szs [x]=sz x:=by simp [szs]
  rw [se] at hm ⊢
  have hp:=aBs x
  clean_wf
  refine aHl (xs:=ds'.map fun x=>.tup [x,x]) (d:=.tup [x,x]) (by simp) ?_
  rw [show (M++[(ds'++[x]).map fun x=>D.tup [x,x]]).set M.length (ds'.map fun x=>.tup [x,x])=M++[ds'.map fun x=>.tup [x,x]] by simp]
  have g':(M++[ds'.map fun x=>D.tup [x,x]])[M.length]?=some (ds'.map fun x=>.tup [x,x]):=by simp
  clean_wf
  cases x with
  | tup xs =>
   clean_wf
   refine jR (by simp) ?_
   clean_wf
   have hz:szs xs+1=sz (.tup xs):=by simp [sz]
   refine aHb rfl rfl ?_
   have hle:=rH xs
   have hle':=rH ds'
   refine zB (xs:=ds'.map fun x=>.tup [x,x]) (ys:=zipT xs xs) g' rfl (by simp [zipT]; omega) ?_
   rw [show zipT xs xs=xs.map (fun x=>.tup [x,x]) by unfold zipT; clear hz hle hle' hx hn hm g h hne se hp; induction xs with | nil=>rfl | cons a t ih=>rw [List.zip_cons_cons,List.map_cons,List.map_cons,ih]]
   refine ⟨szs ds'+szs xs,by omega,ds'++xs,_,_,by rw [jI],?_,by omega,by simp,rfl⟩
   intro y hy
   rcases List.mem_append.mp hy with hy | hy
   ·exact hn' y hy
   ·exact aDk hx hy
  | non =>
   clean_wf
   refine nS (a:=.non) (b:=.non) rfl rfl (by simp [dep,deps]) ?_
   clean_wf
   exact ⟨szs ds',by omega,ds',_,_,rfl,hn',by omega,rfl,rfl⟩
  | bl b =>
   clean_wf
   refine jR (by simp) ?_
   clean_wf
   exact ⟨szs ds',by omega,ds',_,_,rfl,hn',by omega,rfl,rfl⟩
  | int b =>
   clean_wf
   refine jR (by simp) ?_
   clean_wf
   exact ⟨szs ds',by omega,ds',_,_,rfl,hn',by omega,rfl,rfl⟩
  | str b =>
   clean_wf
   refine jR (by simp) ?_
   clean_wf
   exact ⟨szs ds',by omega,ds',_,_,rfl,hn',by omega,rfl,rfl⟩
  | lst b=>simp [noL] at hx
  | fz b=>simp [noL] at hx
  | exn c f b=>simp [noL] at hx
 ·rintro o M' ⟨a,b,rfl,s,rfl⟩
  clean_wf
  exact by simp
theorem kH {xs:List Int} {is:List Nat} {n:Int} {M:Mm} (hx:Rs n xs) (hn:n<=1000000) (hi:∀ i∈is,i < xs.length):Ok (dC [.d (natsD is),.d (intsD xs)] M) fun w M'=>w=.d (.int (pr xs is))/\M'=M:=by
 unfold dC
 refine bB rfl ?_
 unfold b_product_of natsD intsD
 clean_wf
 refine dG (fun i L M'=>M'=M/\∃ a,L=[some (.d (.tup (is.map fun k=>.int (k:Nat)))),some (.d (.tup (xs.map .int))),some (.d (.int (pr xs (is.take i)))),a]) ⟨rfl,none,rfl⟩ (fun i L M _ _ t e=>by cases e) ?_ ?_
 ·rintro i d _ _ hd ⟨rfl,a,rfl⟩
  simp only [List.getElem?_map,Option.map_eq_some_iff] at hd
  obtain ⟨k,hk,rfl⟩:=hd
  have hm:=hi k (List.mem_of_getElem? hk)
  have hr:=hx.getD hm
  have hb:=aBj hr.1 hr.2 hn
  clean_wf
  refine lK (qY hm) ?_
  refine sF (by simp only [mulOk,decide_eq_true_eq]; exact .inr (.inl hb)) ?_
  clean_wf
  refine ⟨rfl,some (.d (.int k)),?_⟩
  rw [List.take_add_one,hk]
  simp [pr]
 ·rintro _ _ ⟨rfl,a,rfl⟩
  clean_wf
  rw [List.take_of_length_le (by simp)]
  exact ⟨rfl,by simp⟩
theorem yE {n:Int} {d:Dd} {gs cs:List Int} {M:Mm} (hn:2<=n) (hn2:n<=1000000) (hg:Rs n gs) (hc:Rs n cs) (h:OkD n gs.length cs.length d) (hz:cs.length<=1000):Ok (lN [.d (.int n),.d (encD d),.d (intsD gs),.d (intsD cs)] M) fun w M'=>w=.d (intsD (dn n gs cs d))/\M'=M:=by
 cases d with
 | add s c g t =>
  obtain ⟨hs,c0,c1,hgi,hti,_,hgl,htl⟩:=h
  have hr:=hc.getD hs
  unfold lN
  refine bB rfl ?_
  unfold b_done encD
  have e1:atI (cs.map D.int) (s:Int)=some (.int (cs.getD s 0)):=qY hs
  clean_wf
  simp only [intsD]
  refine lK e1 ?_
  clean_wf
  refine (kH (xs:=gs) (is:=g) hg hn2 hgi).mono ?_
  rintro _ _ ⟨rfl,rfl⟩
  refine sF (by simp only [mulOk,decide_eq_true_eq]; exact .inl (aBj c0 c1 hn2)) ?_
  clean_wf
  refine (kH (xs:=cs) (is:=t) hc hn2 hti).mono ?_
  rintro _ _ ⟨rfl,rfl⟩
  have b1:=zT hg (by omega) hn2 hgl
  have b2:=zT hc (by omega) hn2 htl
  have b3:=oH (a:=c) (x:=1000000) (by omega) b1
  refine sF (by simp only [mulOk,decide_eq_true_eq]; exact .inr (.inr ⟨aBy b3 (by decide),aBy b2 (by decide)⟩)) ?_
  clean_wf
  rw [qT (by simp; omega)]
  refine aX (by simp; omega) ?_
  clean_wf
  rw [show ((s:Int)+1)=((s+1:Nat):Int) by simp,rF (by simp; omega)]
  refine aX (by simp; omega) ?_
  clean_wf
  rw [yC hs]
  exact ⟨rfl,by simp⟩
 | scale s u =>
  obtain ⟨hs,hu⟩:=h
  have hr:=hc.getD hs
  unfold lN
  refine bB rfl ?_
  unfold b_done encD
  have e1:atI (cs.map D.int) (s:Int)=some (.int (cs.getD s 0)):=qY hs
  clean_wf
  simp only [intsD]
  refine lK e1 ?_
  clean_wf
  rw [qT (by simp; omega)]
  refine aX (by simp; omega) ?_
  clean_wf
  rw [show ((s:Int)+1)=((s+1:Nat):Int) by simp,rF (by simp; omega)]
  refine aX (by simp; omega) ?_
  clean_wf
  rw [yC hs]
  exact ⟨rfl,by simp⟩
theorem uE {n G S:Int} {ds:List Dd} {gs cs:List Int} {M:Mm} (hn:2<=n) (hn2:n<=1000000) (hg:Rs n gs) (hc:Rs n cs) (h:∀ d∈ds,OkD n gs.length cs.length d) (hz:cs.length<=1000):Ok (qA [.d (encP n G S ds),.d (intsD gs),.d (intsD cs)] M) fun w M'=>w=.d (intsD (rn n gs ds cs))/\M'=M:=by
 unfold qA
 refine bB rfl ?_
 unfold b_run encP
 clean_wf
 refine dG (fun i L M'=>M'=M/\∃ a,L=[some (.d (encP n G S ds)),some (.d (intsD gs)),some (.d (intsD (rn n gs (ds.take i) cs))),a]) ⟨rfl,none,rfl⟩ (fun i L M _ _ t e=>by cases e) ?_ ?_
 ·rintro i d _ _ hd ⟨rfl,a,rfl⟩
  simp only [List.getElem?_map,Option.map_eq_some_iff] at hd
  obtain ⟨k,hk,rfl⟩:=hd
  have hm:=h k (List.mem_of_getElem? hk)
  unfold encP
  clean_wf
  refine (yE (cs:=rn n gs (ds.take i) cs) hn hn2 hg (hc.rn (by omega)) (by rw [iR]; exact hm) (by rw [iR]; exact hz)).mono ?_
  rintro _ _ ⟨rfl,rfl⟩
  clean_wf
  refine ⟨rfl,some (.d (encD k)),?_⟩
  rw [List.take_add_one,hk]
  simp only [Option.toList_some,dB,qX,aJv]
  rfl
 ·rintro _ _ ⟨rfl,a,rfl⟩
  clean_wf
  rw [List.take_of_length_le (by simp)]
  exact ⟨rfl,by simp⟩
theorem aGw (ns:List Int) (hn:ns.length<=63):Ok (nG [.d (.fz (ns.map D.int))] []) fun w _=>w=.d (.bl true):=by
 unfold nG
 refine bB rfl ?_
 unfold b_law
 clean_wf
 refine ⟨by simp only [in62,decide_eq_true_eq]; repeat split <;> omega,?_⟩
 refine dG (fun i L M=>∃ (o1 o2 o3 o4 o5 o6 o7 o8 o9 o10 o11:Option W),L=[some (.d (.fz (ns.map D.int))),o1,o2,o3,o4,o5,o6,o7,o8,o9,o10,o11]) ⟨_,_,_,_,_,_,_,_,_,_,_,rfl⟩ (fun i L M _ _ t e=>by cases e) ?_ ?_
 ·rintro i d _ M hd ⟨o1,o2,o3,o4,o5,o6,o7,o8,o9,o10,o11,rfl⟩
  obtain ⟨hi,rfl⟩:=eL hd
  have hi5:i < 5:=by revert hi; repeat split <;> omega
  clean_wf
  refine (aAd (by omega) hn).mono ?_
  rintro _ _ ⟨x,y,z,rfl,rfl⟩
  have hb:Bx (M++[[.int x,.int y,.int z]]) M.length:=⟨x,y,z,by simp⟩
  have n:=Nx.refl hb
  clean_wf
  refine (vR hb).mono ?_
  rintro _ _ ⟨m,G,S,rfl,m2,m1,hG,hS,hS2,n'⟩
  replace n:=n.trans n'
  replace hb:=n'.bx hb
  clear n'
  clean_wf
  (refine (aT hb (by omega) (by omega)).mono ?_; rintro _ _ ⟨d1,rfl,l_d1,u_d1,n'⟩; replace n:=n.trans n'; replace hb:=n'.bx hb; clear n')
  clean_wf
  obtain ⟨k,rfl⟩:∃ k:Nat,d1=(k:Nat):=⟨d1.toNat,by omega⟩
  refine (aBl hb m2 m1 hG hS hS2 (by omega)).mono ?_
  rintro _ _ ⟨ds,rfl,ok,sr,hl,n'⟩
  replace hb:=n'.bx hb
  clear n' n
  have hl:ds.length<=10:=by omega
  clean_wf
  obtain ⟨r,hr⟩:∃ r,r=nf m ds []:=⟨_,rfl⟩
  have okr:AOk m G S r:=by rw [hr]; exact xN m2 ok (by simp)
  have okR:AOk m G S r.reverse:=fun d hd=>okr d (by simpa using hd)
  have hlr:r.length<=ds.length:=by rw [hr]; have:=rM (n:=m) ds []; simpa using this
  refine (nN (g:=G) (s:=S) m2 m1 ok (by omega)).mono ?_
  rintro _ M4 ⟨rfl,rfl⟩
  rw [<- hr]
  clean_wf
  refine (oF hb m2 m1 (by omega) (by omega)).mono ?_
  rintro _ _ ⟨gs,rfl,gl,gr,n'⟩
  replace hb:=n'.bx hb
  clear n'
  clean_wf
  refine (oF hb m2 m1 (by omega) (by omega)).mono ?_
  rintro _ M5 ⟨cs,rfl,cl,cr,n'⟩
  replace hb:=n'.bx hb
  clear n'
  have gl:gs.length=G:=by omega
  have cl:cs.length=S:=by omega
  clean_wf
  refine (uE (G:=G) (S:=S) (ds:=ds) m2 m1 gr cr (by rw [gl,cl]; exact ok) (by omega)).mono ?_
  rintro _ M5 ⟨rfl,rfl⟩
  have hrun:∀ es,AOk m G S es->nf m es []=r->rn m gs es cs=rn m gs r.reverse cs:=fun es oe he=>by
   rw [<- he]
   exact (aCy (G:=G) (ds:=es) (r:=[]) m2 cr (by rw [cl]; exact oe) (by simp)).symm
  have n:=Nx.refl hb
  clean_wf
  (refine (aT hb (by omega) (by omega)).mono ?_; rintro _ _ ⟨d2,rfl,l_d2,u_d2,n'⟩; replace n:=n.trans n'; replace hb:=n'.bx hb; clear n')
  clear n
  clean_wf
  refine ⟨by simp only [in62,decide_eq_true_eq]; omega,?_⟩
  refine dG (fun j L M6=>∃ (es:List Dd) (o11:Option W),AOk m G S es/\nf m es []=r/\es.length<=10+j/\Bx M6 M.length/\L=[some (.d (.fz (ns.map D.int))),some (.d (.int (0+i))),some (.ref M.length),some (.d (.int m)),some (.d (.int G)),some (.d (.int S)),some (.d (.tup (es.map encD))),some (.d (encP m G S r.reverse)),some (.d (intsD gs)),some (.d (intsD cs)),some (.d (intsD (rn m gs ds cs))),o11]) ⟨ds,_,ok,hr.symm,by omega,hb,rfl⟩ (fun i L M _ _ t e=>by cases e) ?_ ?_
  ·clear hb
   rintro j _ _ M6 hj ⟨es,o11,oe,he,le,hb,rfl⟩
   obtain ⟨hj,rfl⟩:=eL hj
   clean_wf
   refine (aDu hb m2 m1 hG hS hS2 oe (by omega)).mono ?_
   rintro _ M7 ⟨fs,rfl,hs,n'⟩
   have hfl:r.length<=fs.length:=by
    have:=rM (n:=m) fs []
    rw [hs.nf,he] at this
    simpa using this
   rw [show encP m G S r.reverse=.tup [.int m,.int G,.int S,.tup (r.reverse.map encD)] from rfl]
   clean_wf
   refine jR (by simp; omega) ?_
   clean_wf
   exact ⟨fs,_,hs.ok,hs.nf.trans he,by have:=hs.len; omega,n'.bx hb,rfl⟩
  ·clear hb
   rintro _ M6 ⟨es,o11,oe,he,le,hb,rfl⟩
   have le:es.length<=100:=by simp only [rngD,List.length_map,List.length_range] at le; omega
   clean_wf
   refine (nN (g:=G) (s:=S) m2 m1 oe (by omega)).mono ?_
   rintro _ M6 ⟨rfl,rfl⟩
   rw [he]
   clean_wf
   refine (vV (d:=encP m G S r.reverse) aBw (by have:=aEk (G:=G) (S:=S) okR; simp at this ⊢; omega)).mono ?_
   rintro _ M6 ⟨rfl,rfl⟩
   clean_wf
   refine (uE (G:=G) (S:=S) (ds:=es) m2 m1 gr cr (by rw [gl,cl]; exact oe) (by omega)).mono ?_
   rintro _ M6 ⟨rfl,rfl⟩
   clean_wf
   refine aHp (a:=intsD _) rfl rfl (by rw [hrun es oe he,hrun ds ok hr.symm]) (sK _) ?_
   clean_wf
   exact ⟨_,_,_,_,_,_,_,_,_,_,_,rfl⟩
 ·rintro _ _ ⟨o1,o2,o3,o4,o5,o6,o7,o8,o9,o10,o11,rfl⟩
  clean_wf
  exact rfl
theorem aAx (ns:List Int) (hn:ns.length<=63):∃ M',nG [.d (.fz (ns.map D.int))] []=.ok (.d (.bl true)) M':=by
 obtain ⟨_,M,e,rfl⟩:=qU.mp (aGw ns hn)
 exact ⟨M,e⟩
theorem aKc {l:PySem.W.OpenLaw} {w:World} {K:PySem.W.Frag} {h:Heap} {mg:Str->Option Value} {fa:Addr} {f1 f2 f3 f4 f5 f6 f7 f8 f9 f10 f11 f12 f13 f14 f15 f16 f17 f18 f19 f20 f21 f22 f23 f24 f25 f26 f27 f28 f29 f30 f31 f32 f33 f34 f35 f36 f37 f38:Addr} {od1 an1 od2 an2 od3 an3 od4 an4 od5 an5 od6 an6 od7 an7 od8 an8 od9 an9 od10 an10 od11 an11 od12 an12 od13 an13 od14 an14 od15 an15 od16 an16 od17 an17 od18 an18 od19 an19 od20 an20 od21 an21 od22 an22 od23 an23 od24 an24 od25 an25 od26 an26 od27 an27 od28 an28 od29 an29 od30 an30 od31 an31 od32 an32 od33 an33 od34 an34 od35 an35 od36 an36 od37 an37 od38 an38:Option Addr} {sl1 sl2 sl3 sl4 sl5 sl6 sl7 sl8 sl9 sl10 sl11 sl12 sl13 sl14 sl15 sl16 sl17 sl18 sl19 sl20 sl21 sl22 sl23 sl24 sl25 sl26 sl27 sl28 sl29 sl30 sl31 sl32 sl33 sl34 sl35 sl36 sl37 sl38:Array (Option Value)} {oc1 kV1 dc1 pm1 cd1 ct1 oc2 kV2 dc2 pm2 cd2 ct2 oc3 kV3 dc3 pm3 cd3 ct3 oc4 kV4 dc4 pm4 cd4 ct4 oc5 kV5 dc5 pm5 cd5 ct5 oc6 kV6 dc6 pm6 cd6 ct6 oc7 kV7 dc7 pm7 cd7 ct7 oc8 kV8 dc8 pm8 cd8 ct8 oc9 kV9 dc9 pm9 cd9 ct9 oc10 kV10 dc10 pm10 cd10 ct10 oc11 kV11 dc11 pm11 cd11 ct11 oc12 kV12 dc12 pm12 cd12 ct12 oc13 kV13 dc13 pm13 cd13 ct13 oc14 kV14 dc14 pm14 cd14 ct14 oc15 kV15 dc15 pm15 cd15 ct15 oc16 kV16 dc16 pm16 cd16 ct16 oc17 kV17 dc17 pm17 cd17 ct17 oc18 kV18 dc18 pm18 cd18 ct18 oc19 kV19 dc19 pm19 cd19 ct19 oc20 kV20 dc20 pm20 cd20 ct20 oc21 kV21 dc21 pm21 cd21 ct21 oc22 kV22 dc22 pm22 cd22 ct22 oc23 kV23 dc23 pm23 cd23 ct23 oc24 kV24 dc24 pm24 cd24 ct24 oc25 kV25 dc25 pm25 cd25 ct25 oc26 kV26 dc26 pm26 cd26 ct26 oc27 kV27 dc27 pm27 cd27 ct27 oc28 kV28 dc28 pm28 cd28 ct28 oc29 kV29 dc29 pm29 cd29 ct29 oc30 kV30 dc30 pm30 cd30 ct30 oc31 kV31 dc31 pm31 cd31 ct31 oc32 kV32 dc32 pm32 cd32 ct32 oc33 kV33 dc33 pm33 cd33 ct33 oc34 kV34 dc34 pm34 cd34 ct34 oc35 kV35 dc35 pm35 cd35 ct35 oc36 kV36 dc36 pm36 cd36 ct36 oc37 kV37 dc37 pm37 cd37 ct37 oc38 kV38 dc38 pm38 cd38 ct38:Value} (X:K.In h) (G:h.Ns mainGlobals mg) (hfa:mg "law"=some (.ref fa))
  (a1:PySem.W.nsIn K mainGlobals "go_past"=some (some (.ref f1)))
  (l1:K.lookup f1=some ⟨oc1,od1,.func (PySem.W.fnOf "go_past" "go_past" (defArgs cQ) (defBody cQ) (defScope cQ) .none kV1 dc1 pm1 an1 cd1 ct1),sl1⟩)
  (c1:PySem.W.codeIn K cd1 "go_past"=true)
  (k1:PySem.W.keepIn K (.ref f1)=true)
  (a2:PySem.W.nsIn K mainGlobals "hangs_on"=some (some (.ref f2)))
  (l2:K.lookup f2=some ⟨oc2,od2,.func (PySem.W.fnOf "hangs_on" "hangs_on" (defArgs bY) (defBody bY) (defScope bY) .none kV2 dc2 pm2 an2 cd2 ct2),sl2⟩)
  (c2:PySem.W.codeIn K cd2 "hangs_on"=true)
  (k2:PySem.W.keepIn K (.ref f2)=true)
  (a3:PySem.W.nsIn K mainGlobals "kind"=some (some (.ref f3)))
  (l3:K.lookup f3=some ⟨oc3,od3,.func (PySem.W.fnOf "kind" "kind" (defArgs fM) (defBody fM) (defScope fM) .none kV3 dc3 pm3 an3 cd3 ct3),sl3⟩)
  (c3:PySem.W.codeIn K cd3 "kind"=true)
  (k3:PySem.W.keepIn K (.ref f3)=true)
  (a4:PySem.W.nsIn K mainGlobals "short"=some (some (.ref f4)))
  (l4:K.lookup f4=some ⟨oc4,od4,.func (PySem.W.fnOf "short" "short" (defArgs eI) (defBody eI) (defScope eI) .none kV4 dc4 pm4 an4 cd4 ct4),sl4⟩)
  (c4:PySem.W.codeIn K cd4 "short"=true)
  (k4:PySem.W.keepIn K (.ref f4)=true)
  (a5:PySem.W.nsIn K mainGlobals "led"=some (some (.ref f5)))
  (l5:K.lookup f5=some ⟨oc5,od5,.func (PySem.W.fnOf "led" "led" (defArgs jD) (defBody jD) (defScope jD) .none kV5 dc5 pm5 an5 cd5 ct5),sl5⟩)
  (c5:PySem.W.codeIn K cd5 "led"=true)
  (k5:PySem.W.keepIn K (.ref f5)=true)
  (a6:PySem.W.nsIn K mainGlobals "can_be_done"=some (some (.ref f6)))
  (l6:K.lookup f6=some ⟨oc6,od6,.func (PySem.W.fnOf "can_be_done" "can_be_done" (defArgs bJ) (defBody bJ) (defScope bJ) .none kV6 dc6 pm6 an6 cd6 ct6),sl6⟩)
  (c6:PySem.W.codeIn K cd6 "can_be_done"=true)
  (k6:PySem.W.keepIn K (.ref f6)=true)
  (a7:PySem.W.nsIn K mainGlobals "is_idle"=some (some (.ref f7)))
  (l7:K.lookup f7=some ⟨oc7,od7,.func (PySem.W.fnOf "is_idle" "is_idle" (defArgs cS) (defBody cS) (defScope cS) .none kV7 dc7 pm7 an7 cd7 ct7),sl7⟩)
  (c7:PySem.W.codeIn K cd7 "is_idle"=true)
  (k7:PySem.W.keepIn K (.ref f7)=true)
  (a8:PySem.W.nsIn K mainGlobals "do_move"=some (some (.ref f8)))
  (l8:K.lookup f8=some ⟨oc8,od8,.func (PySem.W.fnOf "do_move" "do_move" (defArgs cM) (defBody cM) (defScope cM) .none kV8 dc8 pm8 an8 cd8 ct8),sl8⟩)
  (c8:PySem.W.codeIn K cd8 "do_move"=true)
  (k8:PySem.W.keepIn K (.ref f8)=true)
  (a9:PySem.W.nsIn K mainGlobals "one_of"=some (some (.ref f9)))
  (l9:K.lookup f9=some ⟨oc9,od9,.func (PySem.W.fnOf "one_of" "one_of" (defArgs dM) (defBody dM) (defScope dM) .none kV9 dc9 pm9 an9 cd9 ct9),sl9⟩)
  (c9:PySem.W.codeIn K cd9 "one_of"=true)
  (k9:PySem.W.keepIn K (.ref f9)=true)
  (a10:PySem.W.nsIn K mainGlobals "road"=some (some (.ref f10)))
  (l10:K.lookup f10=some ⟨oc10,od10,.func (PySem.W.fnOf "road" "road" (defArgs fK) (defBody fK) (defScope fK) .none kV10 dc10 pm10 an10 cd10 ct10),sl10⟩)
  (c10:PySem.W.codeIn K cd10 "road"=true)
  (k10:PySem.W.keepIn K (.ref f10)=true)
  (a11:PySem.W.nsIn K mainGlobals "take_in"=some (some (.ref f11)))
  (l11:K.lookup f11=some ⟨oc11,od11,.func (PySem.W.fnOf "take_in" "take_in" (defArgs cV) (defBody cV) (defScope cV) .none kV11 dc11 pm11 an11 cd11 ct11),sl11⟩)
  (c11:PySem.W.codeIn K cd11 "take_in"=true)
  (k11:PySem.W.keepIn K (.ref f11)=true)
  (a12:PySem.W.nsIn K mainGlobals "go"=some (some (.ref f12)))
  (l12:K.lookup f12=some ⟨oc12,od12,.func (PySem.W.fnOf "go" "go" (defArgs pC) (defBody pC) (defScope pC) .none kV12 dc12 pm12 an12 cd12 ct12),sl12⟩)
  (c12:PySem.W.codeIn K cd12 "go"=true)
  (k12:PySem.W.keepIn K (.ref f12)=true)
  (a13:PySem.W.nsIn K mainGlobals "go_ahead"=some (some (.ref f13)))
  (l13:K.lookup f13=some ⟨oc13,od13,.func (PySem.W.fnOf "go_ahead" "go_ahead" (defArgs cD) (defBody cD) (defScope cD) .none kV13 dc13 pm13 an13 cd13 ct13),sl13⟩)
  (c13:PySem.W.codeIn K cd13 "go_ahead"=true)
  (k13:PySem.W.keepIn K (.ref f13)=true)
  (a14:PySem.W.nsIn K mainGlobals "where_to"=some (some (.ref f14)))
  (l14:K.lookup f14=some ⟨oc14,od14,.func (PySem.W.fnOf "where_to" "where_to" (defArgs cB) (defBody cB) (defScope cB) .none kV14 dc14 pm14 an14 cd14 ct14),sl14⟩)
  (c14:PySem.W.codeIn K cd14 "where_to"=true)
  (k14:PySem.W.keepIn K (.ref f14)=true)
  (a15:PySem.W.nsIn K mainGlobals "rank"=some (some (.ref f15)))
  (l15:K.lookup f15=some ⟨oc15,od15,.func (PySem.W.fnOf "rank" "rank" (defArgs fO) (defBody fO) (defScope fO) .none kV15 dc15 pm15 an15 cd15 ct15),sl15⟩)
  (c15:PySem.W.codeIn K cd15 "rank"=true)
  (k15:PySem.W.keepIn K (.ref f15)=true)
  (a16:PySem.W.nsIn K mainGlobals "run"=some (some (.ref f16)))
  (l16:K.lookup f16=some ⟨oc16,od16,.func (PySem.W.fnOf "run" "run" (defArgs iY) (defBody iY) (defScope iY) .none kV16 dc16 pm16 an16 cd16 ct16),sl16⟩)
  (c16:PySem.W.codeIn K cd16 "run"=true)
  (k16:PySem.W.keepIn K (.ref f16)=true)
  (a17:PySem.W.nsIn K mainGlobals "done"=some (some (.ref f17)))
  (l17:K.lookup f17=some ⟨oc17,od17,.func (PySem.W.fnOf "done" "done" (defArgs fJ) (defBody fJ) (defScope fJ) .none kV17 dc17 pm17 an17 cd17 ct17),sl17⟩)
  (c17:PySem.W.codeIn K cd17 "done"=true)
  (k17:PySem.W.keepIn K (.ref f17)=true)
  (a18:PySem.W.nsIn K mainGlobals "product_of"=some (some (.ref f18)))
  (l18:K.lookup f18=some ⟨oc18,od18,.func (PySem.W.fnOf "product_of" "product_of" (defArgs bO) (defBody bO) (defScope bO) .none kV18 dc18 pm18 an18 cd18 ct18),sl18⟩)
  (c18:PySem.W.codeIn K cd18 "product_of"=true)
  (k18:PySem.W.keepIn K (.ref f18)=true)
  (a19:PySem.W.nsIn K mainGlobals "_law_box"=some (some (.ref f19)))
  (l19:K.lookup f19=some ⟨oc19,od19,.func (PySem.W.fnOf "_law_box" "_law_box" (defArgs eG) (defBody eG) (defScope eG) .none kV19 dc19 pm19 an19 cd19 ct19),sl19⟩)
  (c19:PySem.W.codeIn K cd19 "_law_box"=true)
  (k19:PySem.W.keepIn K (.ref f19)=true)
  (a20:PySem.W.nsIn K mainGlobals "_law_take"=some (some (.ref f20)))
  (l20:K.lookup f20=some ⟨oc20,od20,.func (PySem.W.fnOf "_law_take" "_law_take" (defArgs dN) (defBody dN) (defScope dN) .none kV20 dc20 pm20 an20 cd20 ct20),sl20⟩)
  (c20:PySem.W.codeIn K cd20 "_law_take"=true)
  (k20:PySem.W.keepIn K (.ref f20)=true)
  (a21:PySem.W.nsIn K mainGlobals "_law_n"=some (some (.ref f21)))
  (l21:K.lookup f21=some ⟨oc21,od21,.func (PySem.W.fnOf "_law_n" "_law_n" (defArgs jE) (defBody jE) (defScope jE) .none kV21 dc21 pm21 an21 cd21 ct21),sl21⟩)
  (c21:PySem.W.codeIn K cd21 "_law_n"=true)
  (k21:PySem.W.keepIn K (.ref f21)=true)
  (a22:PySem.W.nsIn K mainGlobals "_law_rest"=some (some (.ref f22)))
  (l22:K.lookup f22=some ⟨oc22,od22,.func (PySem.W.fnOf "_law_rest" "_law_rest" (defArgs dH) (defBody dH) (defScope dH) .none kV22 dc22 pm22 an22 cd22 ct22),sl22⟩)
  (c22:PySem.W.codeIn K cd22 "_law_rest"=true)
  (k22:PySem.W.keepIn K (.ref f22)=true)
  (a23:PySem.W.nsIn K mainGlobals "_law_shared"=some (some (.ref f23)))
  (l23:K.lookup f23=some ⟨oc23,od23,.func (PySem.W.fnOf "_law_shared" "_law_shared" (defArgs cA) (defBody cA) (defScope cA) .none kV23 dc23 pm23 an23 cd23 ct23),sl23⟩)
  (c23:PySem.W.codeIn K cd23 "_law_shared"=true)
  (k23:PySem.W.keepIn K (.ref f23)=true)
  (a24:PySem.W.nsIn K mainGlobals "_law_unit"=some (some (.ref f24)))
  (l24:K.lookup f24=some ⟨oc24,od24,.func (PySem.W.fnOf "_law_unit" "_law_unit" (defArgs dJ) (defBody dJ) (defScope dJ) .none kV24 dc24 pm24 an24 cd24 ct24),sl24⟩)
  (c24:PySem.W.codeIn K cd24 "_law_unit"=true)
  (k24:PySem.W.keepIn K (.ref f24)=true)
  (a25:PySem.W.nsIn K mainGlobals "_law_deed"=some (some (.ref f25)))
  (l25:K.lookup f25=some ⟨oc25,od25,.func (PySem.W.fnOf "_law_deed" "_law_deed" (defArgs cF) (defBody cF) (defScope cF) .none kV25 dc25 pm25 an25 cd25 ct25),sl25⟩)
  (c25:PySem.W.codeIn K cd25 "_law_deed"=true)
  (k25:PySem.W.keepIn K (.ref f25)=true)
  (a26:PySem.W.nsIn K mainGlobals "_law_sizes"=some (some (.ref f26)))
  (l26:K.lookup f26=some ⟨oc26,od26,.func (PySem.W.fnOf "_law_sizes" "_law_sizes" (defArgs cP) (defBody cP) (defScope cP) .none kV26 dc26 pm26 an26 cd26 ct26),sl26⟩)
  (c26:PySem.W.codeIn K cd26 "_law_sizes"=true)
  (k26:PySem.W.keepIn K (.ref f26)=true)
  (a27:PySem.W.nsIn K mainGlobals "_law_inverse"=some (some (.ref f27)))
  (l27:K.lookup f27=some ⟨oc27,od27,.func (PySem.W.fnOf "_law_inverse" "_law_inverse" (defArgs bS) (defBody bS) (defScope bS) .none kV27 dc27 pm27 an27 cd27 ct27),sl27⟩)
  (c27:PySem.W.codeIn K cd27 "_law_inverse"=true)
  (k27:PySem.W.keepIn K (.ref f27)=true)
  (a28:PySem.W.nsIn K mainGlobals "_law_deeds_back"=some (some (.ref f28)))
  (l28:K.lookup f28=some ⟨oc28,od28,.func (PySem.W.fnOf "_law_deeds_back" "_law_deeds_back" (defArgs bG) (defBody bG) (defScope bG) .none kV28 dc28 pm28 an28 cd28 ct28),sl28⟩)
  (c28:PySem.W.codeIn K cd28 "_law_deeds_back"=true)
  (k28:PySem.W.keepIn K (.ref f28)=true)
  (a29:PySem.W.nsIn K mainGlobals "_law_few_kinds"=some (some (.ref f29)))
  (l29:K.lookup f29=some ⟨oc29,od29,.func (PySem.W.fnOf "_law_few_kinds" "_law_few_kinds" (defArgs bK) (defBody bK) (defScope bK) .none kV29 dc29 pm29 an29 cd29 ct29),sl29⟩)
  (c29:PySem.W.codeIn K cd29 "_law_few_kinds"=true)
  (k29:PySem.W.keepIn K (.ref f29)=true)
  (a30:PySem.W.nsIn K mainGlobals "_law_kind"=some (some (.ref f30)))
  (l30:K.lookup f30=some ⟨oc30,od30,.func (PySem.W.fnOf "_law_kind" "_law_kind" (defArgs dL) (defBody dL) (defScope dL) .none kV30 dc30 pm30 an30 cd30 ct30),sl30⟩)
  (c30:PySem.W.codeIn K cd30 "_law_kind"=true)
  (k30:PySem.W.keepIn K (.ref f30)=true)
  (a31:PySem.W.nsIn K mainGlobals "_law_passes"=some (some (.ref f31)))
  (l31:K.lookup f31=some ⟨oc31,od31,.func (PySem.W.fnOf "_law_passes" "_law_passes" (defArgs bZ) (defBody bZ) (defScope bZ) .none kV31 dc31 pm31 an31 cd31 ct31),sl31⟩)
  (c31:PySem.W.codeIn K cd31 "_law_passes"=true)
  (k31:PySem.W.keepIn K (.ref f31)=true)
  (a32:PySem.W.nsIn K mainGlobals "_law_is_nothing"=some (some (.ref f32)))
  (l32:K.lookup f32=some ⟨oc32,od32,.func (PySem.W.fnOf "_law_is_nothing" "_law_is_nothing" (defArgs bH) (defBody bH) (defScope bH) .none kV32 dc32 pm32 an32 cd32 ct32),sl32⟩)
  (c32:PySem.W.codeIn K cd32 "_law_is_nothing"=true)
  (k32:PySem.W.keepIn K (.ref f32)=true)
  (a33:PySem.W.nsIn K mainGlobals "_law_moved"=some (some (.ref f33)))
  (l33:K.lookup f33=some ⟨oc33,od33,.func (PySem.W.fnOf "_law_moved" "_law_moved" (defArgs cO) (defBody cO) (defScope cO) .none kV33 dc33 pm33 an33 cd33 ct33),sl33⟩)
  (c33:PySem.W.codeIn K cd33 "_law_moved"=true)
  (k33:PySem.W.keepIn K (.ref f33)=true)
  (a34:PySem.W.nsIn K mainGlobals "_law_rests"=some (some (.ref f34)))
  (l34:K.lookup f34=some ⟨oc34,od34,.func (PySem.W.fnOf "_law_rests" "_law_rests" (defArgs cG) (defBody cG) (defScope cG) .none kV34 dc34 pm34 an34 cd34 ct34),sl34⟩)
  (c34:PySem.W.codeIn K cd34 "_law_rests"=true)
  (k34:PySem.W.keepIn K (.ref f34)=true)
  (a35:PySem.W.nsIn K mainGlobals "_law_alike"=some (some (.ref f35)))
  (l35:K.lookup f35=some ⟨oc35,od35,.func (PySem.W.fnOf "_law_alike" "_law_alike" (defArgs cR) (defBody cR) (defScope cR) .none kV35 dc35 pm35 an35 cd35 ct35),sl35⟩)
  (c35:PySem.W.codeIn K cd35 "_law_alike"=true)
  (k35:PySem.W.keepIn K (.ref f35)=true)
  (a36:PySem.W.nsIn K mainGlobals "_law_split"=some (some (.ref f36)))
  (l36:K.lookup f36=some ⟨oc36,od36,.func (PySem.W.fnOf "_law_split" "_law_split" (defArgs cN) (defBody cN) (defScope cN) .none kV36 dc36 pm36 an36 cd36 ct36),sl36⟩)
  (c36:PySem.W.codeIn K cd36 "_law_split"=true)
  (k36:PySem.W.keepIn K (.ref f36)=true)
  (a37:PySem.W.nsIn K mainGlobals "_law_led"=some (some (.ref f37)))
  (l37:K.lookup f37=some ⟨oc37,od37,.func (PySem.W.fnOf "_law_led" "_law_led" (defArgs eJ) (defBody eJ) (defScope eJ) .none kV37 dc37 pm37 an37 cd37 ct37),sl37⟩)
  (c37:PySem.W.codeIn K cd37 "_law_led"=true)
  (k37:PySem.W.keepIn K (.ref f37)=true)
  (a38:PySem.W.nsIn K mainGlobals "law"=some (some (.ref f38)))
  (l38:K.lookup f38=some ⟨oc38,od38,.func (PySem.W.fnOf "law" "law" (defArgs iW) (defBody iW) (defScope iW) .none kV38 dc38 pm38 an38 cd38 ct38),sl38⟩)
  (c38:PySem.W.codeIn K cd38 "law"=true)
  (k38:PySem.W.keepIn K (.ref f38)=true)
  (z_bool:PySem.W.nsIn K mainGlobals "bool"=some none)
  (z_enumerate:PySem.W.nsIn K mainGlobals "enumerate"=some none)
  (z_int:PySem.W.nsIn K mainGlobals "int"=some none)
  (z_isinstance:PySem.W.nsIn K mainGlobals "isinstance"=some none)
  (z_len:PySem.W.nsIn K mainGlobals "len"=some none)
  (z_list:PySem.W.nsIn K mainGlobals "list"=some none)
  (z_max:PySem.W.nsIn K mainGlobals "max"=some none)
  (z_min:PySem.W.nsIn K mainGlobals "min"=some none)
  (z_range:PySem.W.nsIn K mainGlobals "range"=some none)
  (z_reversed:PySem.W.nsIn K mainGlobals "reversed"=some none)
  (z_sorted:PySem.W.nsIn K mainGlobals "sorted"=some none)
  (z_tuple:PySem.W.nsIn K mainGlobals "tuple"=some none)
  (z_zip:PySem.W.nsIn K mainGlobals "zip"=some none)
  : ∃ fd:FuncData,(∀ (s:Shared) (v:Value),BindsTo s fd ⟨[v],[]⟩ [("_law_script",v)])/\∀ base:Heap,K.In base->base.Ns mainGlobals mg->FnOk l.prog w K mg base CX0 8 fa fd ["_law_script"] (spF K Z0 1 nG):=by
 have e:=hfa.symm.trans (PySem.W.mg_of X G a38)
 cases e
 have T:Tx K mg ⟨f1,(PySem.W.fnOf "go_past" "go_past" (defArgs cQ) (defBody cQ) (defScope cQ) .none kV1 dc1 pm1 an1 cd1 ct1),f2,(PySem.W.fnOf "hangs_on" "hangs_on" (defArgs bY) (defBody bY) (defScope bY) .none kV2 dc2 pm2 an2 cd2 ct2),f3,(PySem.W.fnOf "kind" "kind" (defArgs fM) (defBody fM) (defScope fM) .none kV3 dc3 pm3 an3 cd3 ct3),f4,(PySem.W.fnOf "short" "short" (defArgs eI) (defBody eI) (defScope eI) .none kV4 dc4 pm4 an4 cd4 ct4),f5,(PySem.W.fnOf "led" "led" (defArgs jD) (defBody jD) (defScope jD) .none kV5 dc5 pm5 an5 cd5 ct5),f6,(PySem.W.fnOf "can_be_done" "can_be_done" (defArgs bJ) (defBody bJ) (defScope bJ) .none kV6 dc6 pm6 an6 cd6 ct6),f7,(PySem.W.fnOf "is_idle" "is_idle" (defArgs cS) (defBody cS) (defScope cS) .none kV7 dc7 pm7 an7 cd7 ct7),f8,(PySem.W.fnOf "do_move" "do_move" (defArgs cM) (defBody cM) (defScope cM) .none kV8 dc8 pm8 an8 cd8 ct8),f9,(PySem.W.fnOf "one_of" "one_of" (defArgs dM) (defBody dM) (defScope dM) .none kV9 dc9 pm9 an9 cd9 ct9),f10,(PySem.W.fnOf "road" "road" (defArgs fK) (defBody fK) (defScope fK) .none kV10 dc10 pm10 an10 cd10 ct10),f11,(PySem.W.fnOf "take_in" "take_in" (defArgs cV) (defBody cV) (defScope cV) .none kV11 dc11 pm11 an11 cd11 ct11),f12,(PySem.W.fnOf "go" "go" (defArgs pC) (defBody pC) (defScope pC) .none kV12 dc12 pm12 an12 cd12 ct12),f13,(PySem.W.fnOf "go_ahead" "go_ahead" (defArgs cD) (defBody cD) (defScope cD) .none kV13 dc13 pm13 an13 cd13 ct13),f14,(PySem.W.fnOf "where_to" "where_to" (defArgs cB) (defBody cB) (defScope cB) .none kV14 dc14 pm14 an14 cd14 ct14),f15,(PySem.W.fnOf "rank" "rank" (defArgs fO) (defBody fO) (defScope fO) .none kV15 dc15 pm15 an15 cd15 ct15),f16,(PySem.W.fnOf "run" "run" (defArgs iY) (defBody iY) (defScope iY) .none kV16 dc16 pm16 an16 cd16 ct16),f17,(PySem.W.fnOf "done" "done" (defArgs fJ) (defBody fJ) (defScope fJ) .none kV17 dc17 pm17 an17 cd17 ct17),f18,(PySem.W.fnOf "product_of" "product_of" (defArgs bO) (defBody bO) (defScope bO) .none kV18 dc18 pm18 an18 cd18 ct18),f19,(PySem.W.fnOf "_law_box" "_law_box" (defArgs eG) (defBody eG) (defScope eG) .none kV19 dc19 pm19 an19 cd19 ct19),f20,(PySem.W.fnOf "_law_take" "_law_take" (defArgs dN) (defBody dN) (defScope dN) .none kV20 dc20 pm20 an20 cd20 ct20),f21,(PySem.W.fnOf "_law_n" "_law_n" (defArgs jE) (defBody jE) (defScope jE) .none kV21 dc21 pm21 an21 cd21 ct21),f22,(PySem.W.fnOf "_law_rest" "_law_rest" (defArgs dH) (defBody dH) (defScope dH) .none kV22 dc22 pm22 an22 cd22 ct22),f23,(PySem.W.fnOf "_law_shared" "_law_shared" (defArgs cA) (defBody cA) (defScope cA) .none kV23 dc23 pm23 an23 cd23 ct23),f24,(PySem.W.fnOf "_law_unit" "_law_unit" (defArgs dJ) (defBody dJ) (defScope dJ) .none kV24 dc24 pm24 an24 cd24 ct24),f25,(PySem.W.fnOf "_law_deed" "_law_deed" (defArgs cF) (defBody cF) (defScope cF) .none kV25 dc25 pm25 an25 cd25 ct25),f26,(PySem.W.fnOf "_law_sizes" "_law_sizes" (defArgs cP) (defBody cP) (defScope cP) .none kV26 dc26 pm26 an26 cd26 ct26),f27,(PySem.W.fnOf "_law_inverse" "_law_inverse" (defArgs bS) (defBody bS) (defScope bS) .none kV27 dc27 pm27 an27 cd27 ct27),f28,(PySem.W.fnOf "_law_deeds_back" "_law_deeds_back" (defArgs bG) (defBody bG) (defScope bG) .none kV28 dc28 pm28 an28 cd28 ct28),f29,(PySem.W.fnOf "_law_few_kinds" "_law_few_kinds" (defArgs bK) (defBody bK) (defScope bK) .none kV29 dc29 pm29 an29 cd29 ct29),f30,(PySem.W.fnOf "_law_kind" "_law_kind" (defArgs dL) (defBody dL) (defScope dL) .none kV30 dc30 pm30 an30 cd30 ct30),f31,(PySem.W.fnOf "_law_passes" "_law_passes" (defArgs bZ) (defBody bZ) (defScope bZ) .none kV31 dc31 pm31 an31 cd31 ct31),f32,(PySem.W.fnOf "_law_is_nothing" "_law_is_nothing" (defArgs bH) (defBody bH) (defScope bH) .none kV32 dc32 pm32 an32 cd32 ct32),f33,(PySem.W.fnOf "_law_moved" "_law_moved" (defArgs cO) (defBody cO) (defScope cO) .none kV33 dc33 pm33 an33 cd33 ct33),f34,(PySem.W.fnOf "_law_rests" "_law_rests" (defArgs cG) (defBody cG) (defScope cG) .none kV34 dc34 pm34 an34 cd34 ct34),f35,(PySem.W.fnOf "_law_alike" "_law_alike" (defArgs cR) (defBody cR) (defScope cR) .none kV35 dc35 pm35 an35 cd35 ct35),f36,(PySem.W.fnOf "_law_split" "_law_split" (defArgs cN) (defBody cN) (defScope cN) .none kV36 dc36 pm36 an36 cd36 ct36),f37,(PySem.W.fnOf "_law_led" "_law_led" (defArgs eJ) (defBody eJ) (defScope eJ) .none kV37 dc37 pm37 an37 cd37 ct37),fa,(PySem.W.fnOf "law" "law" (defArgs iW) (defBody iW) (defScope iW) .none kV38 dc38 pm38 an38 cd38 ct38)⟩ :=
  ⟨aJ l1 c1 k1,
   (aJ (st:=cQ) l1 c1 k1).binds (ps:=["one","other"]) (fun _ _ _ _ _ _=>ex2 fun _ _=>rfl),
   k1,
   PySem.W.mg_of X G a1,
   aJ l2 c2 k2,
   (aJ (st:=bY) l2 c2 k2).binds (ps:=["one","other"]) (fun _ _ _ _ _ _=>ex2 fun _ _=>rfl),
   k2,
   PySem.W.mg_of X G a2,
   aJ l3 c3 k3,
   (aJ (st:=fM) l3 c3 k3).binds (ps:=["deed"]) (fun _ _ _ _ _ _=>ex1 fun _=>rfl),
   k3,
   PySem.W.mg_of X G a3,
   aJ l4 c4 k4,
   (aJ (st:=eI) l4 c4 k4).binds (ps:=["program"]) (fun _ _ _ _ _ _=>ex1 fun _=>rfl),
   k4,
   PySem.W.mg_of X G a4,
   aJ l5 c5 k5,
   (aJ (st:=jD) l5 c5 k5).binds (ps:=["program","moves"]) (fun _ _ _ _ _ _=>ex2 fun _ _=>rfl),
   k5,
   PySem.W.mg_of X G a5,
   aJ l6 c6 k6,
   (aJ (st:=bJ) l6 c6 k6).binds (ps:=["row","move"]) (fun _ _ _ _ _ _=>ex2 fun _ _=>rfl),
   k6,
   PySem.W.mg_of X G a6,
   aJ l7 c7 k7,
   (aJ (st:=cS) l7 c7 k7).binds (ps:=["deed"]) (fun _ _ _ _ _ _=>ex1 fun _=>rfl),
   k7,
   PySem.W.mg_of X G a7,
   aJ l8 c8 k8,
   (aJ (st:=cM) l8 c8 k8).binds (ps:=["n","row","move"]) (fun _ _ _ _ _ _=>ex3 fun _ _ _=>rfl),
   k8,
   PySem.W.mg_of X G a8,
   aJ l9 c9 k9,
   (aJ (st:=dM) l9 c9 k9).binds (ps:=["n","deed","other"]) (fun _ _ _ _ _ _=>ex3 fun _ _ _=>rfl),
   k9,
   PySem.W.mg_of X G a9,
   aJ l10 c10 k10,
   (aJ (st:=fK) l10 c10 k10).binds (ps:=["program"]) (fun _ _ _ _ _ _=>ex1 fun _=>rfl),
   k10,
   PySem.W.mg_of X G a10,
   aJ l11 c11 k11,
   (aJ (st:=cV) l11 c11 k11).binds (ps:=["n","row","at","moves"]) (fun _ _ _ _ _ _=>ex4 fun _ _ _ _=>rfl),
   k11,
   PySem.W.mg_of X G a11,
   aJ l12 c12 k12,
   (aJ (st:=pC) l12 c12 k12).binds (ps:=["n","row","move","moves"]) (fun _ _ _ _ _ _=>ex4 fun _ _ _ _=>rfl),
   k12,
   PySem.W.mg_of X G a12,
   aJ l13 c13 k13,
   (aJ (st:=cD) l13 c13 k13).binds (ps:=["n","row","at","place","moves"]) (fun _ _ _ _ _ _=>ex5 fun _ _ _ _ _=>rfl),
   k13,
   PySem.W.mg_of X G a13,
   aJ l14 c14 k14,
   (aJ (st:=cB) l14 c14 k14).binds (ps:=["row","at"]) (fun _ _ _ _ _ _=>ex2 fun _ _=>rfl),
   k14,
   PySem.W.mg_of X G a14,
   aJ l15 c15 k15,
   (aJ (st:=fO) l15 c15 k15).binds (ps:=["deed"]) (fun _ _ _ _ _ _=>ex1 fun _=>rfl),
   k15,
   PySem.W.mg_of X G a15,
   aJ l16 c16 k16,
   (aJ (st:=iY) l16 c16 k16).binds (ps:=["program","givens","contents"]) (fun _ _ _ _ _ _=>ex3 fun _ _ _=>rfl),
   k16,
   PySem.W.mg_of X G a16,
   aJ l17 c17 k17,
   (aJ (st:=fJ) l17 c17 k17).binds (ps:=["n","deed","givens","contents"]) (fun _ _ _ _ _ _=>ex4 fun _ _ _ _=>rfl),
   k17,
   PySem.W.mg_of X G a17,
   aJ l18 c18 k18,
   (aJ (st:=bO) l18 c18 k18).binds (ps:=["places","numbers"]) (fun _ _ _ _ _ _=>ex2 fun _ _=>rfl),
   k18,
   PySem.W.mg_of X G a18,
   aJ l19 c19 k19,
   (aJ (st:=eG) l19 c19 k19).binds (ps:=["_law_script","_law_k"]) (fun _ _ _ _ _ _=>ex2 fun _ _=>rfl),
   k19,
   PySem.W.mg_of X G a19,
   aJ l20 c20 k20,
   (aJ (st:=dN) l20 c20 k20).binds (ps:=["_law_box_here","_law_many"]) (fun _ _ _ _ _ _=>ex2 fun _ _=>rfl),
   k20,
   PySem.W.mg_of X G a20,
   aJ l21 c21 k21,
   (aJ (st:=jE) l21 c21 k21).binds (ps:=["_law_box_here"]) (fun _ _ _ _ _ _=>ex1 fun _=>rfl),
   k21,
   PySem.W.mg_of X G a21,
   aJ l22 c22 k22,
   (aJ (st:=dH) l22 c22 k22).binds (ps:=["_law_box_here","_law_n_here"]) (fun _ _ _ _ _ _=>ex2 fun _ _=>rfl),
   k22,
   PySem.W.mg_of X G a22,
   aJ l23 c23 k23,
   (aJ (st:=cA) l23 c23 k23).binds (ps:=["_law_one","_law_other"]) (fun _ _ _ _ _ _=>ex2 fun _ _=>rfl),
   k23,
   PySem.W.mg_of X G a23,
   aJ l24 c24 k24,
   (aJ (st:=dJ) l24 c24 k24).binds (ps:=["_law_box_here","_law_n_here"]) (fun _ _ _ _ _ _=>ex2 fun _ _=>rfl),
   k24,
   PySem.W.mg_of X G a24,
   aJ l25 c25 k25,
   (aJ (st:=cF) l25 c25 k25).binds (ps:=["_law_box_here","_law_n_here","_law_givens","_law_shelves"]) (fun _ _ _ _ _ _=>ex4 fun _ _ _ _=>rfl),
   k25,
   PySem.W.mg_of X G a25,
   aJ l26 c26 k26,
   (aJ (st:=cP) l26 c26 k26).binds (ps:=["_law_box_here"]) (fun _ _ _ _ _ _=>ex1 fun _=>rfl),
   k26,
   PySem.W.mg_of X G a26,
   aJ l27 c27 k27,
   (aJ (st:=bS) l27 c27 k27).binds (ps:=["_law_n_here","_law_u"]) (fun _ _ _ _ _ _=>ex2 fun _ _=>rfl),
   k27,
   PySem.W.mg_of X G a27,
   aJ l28 c28 k28,
   (aJ (st:=bG) l28 c28 k28).binds (ps:=["_law_n_here","_law_deeds"]) (fun _ _ _ _ _ _=>ex2 fun _ _=>rfl),
   k28,
   PySem.W.mg_of X G a28,
   aJ l29 c29 k29,
   (aJ (st:=bK) l29 c29 k29).binds (ps:=["_law_box_here","_law_n_here","_law_givens","_law_shelves","_law_many"]) (fun _ _ _ _ _ _=>ex5 fun _ _ _ _ _=>rfl),
   k29,
   PySem.W.mg_of X G a29,
   aJ l30 c30 k30,
   (aJ (st:=dL) l30 c30 k30).binds (ps:=["_law_deed_here"]) (fun _ _ _ _ _ _=>ex1 fun _=>rfl),
   k30,
   PySem.W.mg_of X G a30,
   aJ l31 c31 k31,
   (aJ (st:=bZ) l31 c31 k31).binds (ps:=["_law_one","_law_other"]) (fun _ _ _ _ _ _=>ex2 fun _ _=>rfl),
   k31,
   PySem.W.mg_of X G a31,
   aJ l32 c32 k32,
   (aJ (st:=bH) l32 c32 k32).binds (ps:=["_law_deed_here"]) (fun _ _ _ _ _ _=>ex1 fun _=>rfl),
   k32,
   PySem.W.mg_of X G a32,
   aJ l33 c33 k33,
   (aJ (st:=cO) l33 c33 k33).binds (ps:=["_law_n_here","_law_deeds","_law_move"]) (fun _ _ _ _ _ _=>ex3 fun _ _ _=>rfl),
   k33,
   PySem.W.mg_of X G a33,
   aJ l34 c34 k34,
   (aJ (st:=cG) l34 c34 k34).binds (ps:=["_law_box_here","_law_n_here","_law_many"]) (fun _ _ _ _ _ _=>ex3 fun _ _ _=>rfl),
   k34,
   PySem.W.mg_of X G a34,
   aJ l35 c35 k35,
   (aJ (st:=cR) l35 c35 k35).binds (ps:=["_law_found","_law_due"]) (fun _ _ _ _ _ _=>ex2 fun _ _=>rfl),
   k35,
   PySem.W.mg_of X G a35,
   aJ l36 c36 k36,
   (aJ (st:=cN) l36 c36 k36).binds (ps:=["_law_box_here","_law_n_here","_law_deed_here"]) (fun _ _ _ _ _ _=>ex3 fun _ _ _=>rfl),
   k36,
   PySem.W.mg_of X G a36,
   aJ l37 c37 k37,
   (aJ (st:=eJ) l37 c37 k37).binds (ps:=["_law_box_here","_law_n_here","_law_givens","_law_shelves","_law_deeds"]) (fun _ _ _ _ _ _=>ex5 fun _ _ _ _ _=>rfl),
   k37,
   PySem.W.mg_of X G a37,
   aJ l38 c38 k38,
   (aJ (st:=iW) l38 c38 k38).binds (ps:=["_law_script"]) (fun _ _ _ _ _ _=>ex1 fun _=>rfl),
   k38,
   PySem.W.mg_of X G a38,
   PySem.W.mg_none_of X G z_bool,
   PySem.W.mg_none_of X G z_enumerate,
   PySem.W.mg_none_of X G z_int,
   PySem.W.mg_none_of X G z_isinstance,
   PySem.W.mg_none_of X G z_len,
   PySem.W.mg_none_of X G z_list,
   PySem.W.mg_none_of X G z_max,
   PySem.W.mg_none_of X G z_min,
   PySem.W.mg_none_of X G z_range,
   PySem.W.mg_none_of X G z_reversed,
   PySem.W.mg_none_of X G z_sorted,
   PySem.W.mg_none_of X G z_tuple,
   PySem.W.mg_none_of X G z_zip⟩
 exact ⟨_,fun s v=>.of_eq rfl,fun base _ _=>(aJo T).mono (by omega)⟩
theorem zX {l:PySem.W.OpenLaw} {q:Program} {loose:List Str} {XP:(Str->Option Value)->Heap->Prop} {YP:World->Heap->Prop} {d:DefRec} {K:Params->PySem.W.Frag} (hn:l.most=some 63) (hdf:d.params.defaults=[])
  (hY:∀ (w:World) (h:Heap),YP w h->(K w.params).In h)
  (F:∀ (w:World) (mg:Str->Option Value) (fa:Addr) (h:Heap),(K w.params).In h->h.Ns mainGlobals mg->mg d.name=some (.ref fa) ->
   ∃ fd:FuncData,(∀ (s:Shared) (u:Value),BindsTo s fd ⟨[u],[]⟩ [("_law_script",u)])/\∀ base:Heap,(K w.params).In base->base.Ns mainGlobals mg->FnOk l.prog w (K w.params) mg base CX0 8 fa fd ["_law_script"] (spF (K w.params) Z0 1 nG)) :
  PySem.W.WalkO q loose XP YP l.row.toRowW d [] (fun f vs=>PySem.call f vs) :=
 L2.xV (n:=63) (k:=8) (x:="_law_script") (CX:=fun w=>CX0) (sp:=fun w=>(spF (K w.params) Z0 1 nG)) hn (by decide) hdf ⟨rfl,by decide,by decide⟩ hY F (fun _ _ a ns hl hO hS=>aHc hO hS (aAx ns hl)) fun _ _ _ _ _ z=>z
end K64
open PySem PySem.W PyProof.Rows
namespace PySem.W.Fast
noncomputable def tw15679522268183533809:Params->Heap:=fun _=>⟨#[],default⟩
theorem te15679522268183533809:tw15679522268183533809=tw15679522268183533809:=rfl
noncomputable def tw4029923194180330089:Params->Heap:=fun _=>⟨#[],default⟩
theorem te4029923194180330089:tw4029923194180330089=tw4029923194180330089:=rfl
noncomputable def tw2394934437454628740:Params->BT:=fun _=>BT.nil
theorem te2394934437454628740:tw2394934437454628740=tw2394934437454628740:=rfl
noncomputable def tw15097434132614002628:Program:=Challenge.pw_lentshelf_k64_whole_moved_about
theorem te15097434132614002628:tw15097434132614002628=tw15097434132614002628:=rfl
noncomputable def tw14175599387633440494:Program:=Challenge.pw_lentshelf_k64_whole_moved_about
theorem te14175599387633440494:Challenge.pw_lentshelf_k64_whole_moved_about=tw14175599387633440494:=rfl
noncomputable def tw7777719609446133320:Params->BT:=fun _=>BT.nil
theorem te7777719609446133320:tw7777719609446133320=tw7777719609446133320:=rfl
noncomputable def tw953658919271994100:List Stmt:=[]
theorem te953658919271994100:tw953658919271994100=tw953658919271994100:=rfl
noncomputable def tw6967341742153122847:Params->BT:=fun _=>BT.nil
theorem te6967341742153122847:tw6967341742153122847=tw6967341742153122847:=rfl
noncomputable def tw16048225294252996200:List Stmt:=[]
theorem te16048225294252996200:tw16048225294252996200=tw16048225294252996200:=rfl
noncomputable def tw16501004739399309402:List Stmt:=[]
theorem te16501004739399309402:tw16501004739399309402=tw16501004739399309402:=rfl
noncomputable def tw18077391176264879013:Params->Obj:=fun _=>default
theorem te18077391176264879013:tw18077391176264879013=tw18077391176264879013:=rfl
noncomputable def tw3188312558153969470:Params->BT:=fun _=>BT.nil
theorem te3188312558153969470:tw3188312558153969470=tw3188312558153969470:=rfl
noncomputable def tw8581125063494122720:Params->Obj:=fun _=>default
theorem te8581125063494122720:tw8581125063494122720=tw8581125063494122720:=rfl
noncomputable def tw14843486223724365166:Params->Obj:=fun _=>default
theorem te14843486223724365166:tw14843486223724365166=tw14843486223724365166:=rfl
noncomputable def tw9940929391568801407:Params->Obj:=fun _=>default
theorem te9940929391568801407:tw9940929391568801407=tw9940929391568801407:=rfl
noncomputable def tw14536503582790875066:Params->Obj:=fun _=>default
theorem te14536503582790875066:tw14536503582790875066=tw14536503582790875066:=rfl
noncomputable def tw1833607377163192343:Params->Obj:=fun _=>default
theorem te1833607377163192343:tw1833607377163192343=tw1833607377163192343:=rfl
noncomputable def tw12080447837127307554:Params->Obj:=fun _=>default
theorem te12080447837127307554:tw12080447837127307554=tw12080447837127307554:=rfl
noncomputable def tw3661761848034761647:Params->Obj:=fun _=>default
theorem te3661761848034761647:tw3661761848034761647=tw3661761848034761647:=rfl
noncomputable def tw684962802403772069:Params->Obj:=fun _=>default
theorem te684962802403772069:tw684962802403772069=tw684962802403772069:=rfl
noncomputable def tw6973114072809925626:Params->Obj:=fun _=>default
theorem te6973114072809925626:tw6973114072809925626=tw6973114072809925626:=rfl
noncomputable def tw12906493607238320970:Params->Obj:=fun _=>default
theorem te12906493607238320970:tw12906493607238320970=tw12906493607238320970:=rfl
noncomputable def tw13792875524836661045:Params->Obj:=fun _=>default
theorem te13792875524836661045:tw13792875524836661045=tw13792875524836661045:=rfl
noncomputable def tw14872263978420941023:Params->Obj:=fun _=>default
theorem te14872263978420941023:tw14872263978420941023=tw14872263978420941023:=rfl
noncomputable def tw9835656848995118597:Params->Obj:=fun _=>default
theorem te9835656848995118597:tw9835656848995118597=tw9835656848995118597:=rfl
end PySem.W.Fast
set_option maxRecDepth 100000 in
set_option maxHeartbeats 0 in
theorem PySem.Challenge.cw_lentshelf_k64_whole_moved_about_holds : PySem.Challenge.rw_lentshelf_k64_whole_moved_about.Holds := by
 w_on; o_law; k_head; (case hw=>w_witness2)
 k_fill
 refine K64.zX (l:=PySem.Challenge.rw_lentshelf_k64_whole_moved_about) rfl rfl (fun w h Y=>PySem.W.kIn_of Y) ?F
 case F =>
  intro w mg fa h KX G hmg
  refine' K64.aKc KX G hmg ?a1 ?l1 ?c1 ?k1 ?a2 ?l2 ?c2 ?k2 ?a3 ?l3 ?c3 ?k3 ?a4 ?l4 ?c4 ?k4 ?a5 ?l5 ?c5 ?k5 ?a6 ?l6 ?c6 ?k6 ?a7 ?l7 ?c7 ?k7 ?a8 ?l8 ?c8 ?k8 ?a9 ?l9 ?c9 ?k9 ?a10 ?l10 ?c10 ?k10 ?a11 ?l11 ?c11 ?k11 ?a12 ?l12 ?c12 ?k12 ?a13 ?l13 ?c13 ?k13 ?a14 ?l14 ?c14 ?k14 ?a15 ?l15 ?c15 ?k15 ?a16 ?l16 ?c16 ?k16 ?a17 ?l17 ?c17 ?k17 ?a18 ?l18 ?c18 ?k18 ?a19 ?l19 ?c19 ?k19 ?a20 ?l20 ?c20 ?k20 ?a21 ?l21 ?c21 ?k21 ?a22 ?l22 ?c22 ?k22 ?a23 ?l23 ?c23 ?k23 ?a24 ?l24 ?c24 ?k24 ?a25 ?l25 ?c25 ?k25 ?a26 ?l26 ?c26 ?k26 ?a27 ?l27 ?c27 ?k27 ?a28 ?l28 ?c28 ?k28 ?a29 ?l29 ?c29 ?k29 ?a30 ?l30 ?c30 ?k30 ?a31 ?l31 ?c31 ?k31 ?a32 ?l32 ?c32 ?k32 ?a33 ?l33 ?c33 ?k33 ?a34 ?l34 ?c34 ?k34 ?a35 ?l35 ?c35 ?k35 ?a36 ?l36 ?c36 ?k36 ?a37 ?l37 ?c37 ?k37 ?a38 ?l38 ?c38 ?k38 ?z_bool ?z_enumerate ?z_int ?z_isinstance ?z_len ?z_list ?z_max ?z_min ?z_range ?z_reversed ?z_sorted ?z_tuple ?z_zip
  (case a1=>k_is)
  (case l1=>k_is)
  (case c1=>k_is)
  (case k1=>k_is)
  (case a2=>k_is)
  (case l2=>k_is)
  (case c2=>k_is)
  (case k2=>k_is)
  (case a3=>k_is)
  (case l3=>k_is)
  (case c3=>k_is)
  (case k3=>k_is)
  (case a4=>k_is)
  (case l4=>k_is)
  (case c4=>k_is)
  (case k4=>k_is)
  (case a5=>k_is)
  (case l5=>k_is)
  (case c5=>k_is)
  (case k5=>k_is)
  (case a6=>k_is)
  (case l6=>k_is)
  (case c6=>k_is)
  (case k6=>k_is)
  (case a7=>k_is)
  (case l7=>k_is)
  (case c7=>k_is)
  (case k7=>k_is)
  (case a8=>k_is)
  (case l8=>k_is)
  (case c8=>k_is)
  (case k8=>k_is)
  (case a9=>k_is)
  (case l9=>k_is)
  (case c9=>k_is)
  (case k9=>k_is)
  (case a10=>k_is)
  (case l10=>k_is)
  (case c10=>k_is)
  (case k10=>k_is)
  (case a11=>k_is)
  (case l11=>k_is)
  (case c11=>k_is)
  (case k11=>k_is)
  (case a12=>k_is)
  (case l12=>k_is)
  (case c12=>k_is)
  (case k12=>k_is)
  (case a13=>k_is)
  (case l13=>k_is)
  (case c13=>k_is)
  (case k13=>k_is)
  (case a14=>k_is)
  (case l14=>k_is)
  (case c14=>k_is)
  (case k14=>k_is)
  (case a15=>k_is)
  (case l15=>k_is)
  (case c15=>k_is)
  (case k15=>k_is)
  (case a16=>k_is)
  (case l16=>k_is)
  (case c16=>k_is)
  (case k16=>k_is)
  (case a17=>k_is)
  (case l17=>k_is)
  (case c17=>k_is)
  (case k17=>k_is)
  (case a18=>k_is)
  (case l18=>k_is)
  (case c18=>k_is)
  (case k18=>k_is)
  (case a19=>k_is)
  (case l19=>k_is)
  (case c19=>k_is)
  (case k19=>k_is)
  (case a20=>k_is)
  (case l20=>k_is)
  (case c20=>k_is)
  (case k20=>k_is)
  (case a21=>k_is)
  (case l21=>k_is)
  (case c21=>k_is)
  (case k21=>k_is)
  (case a22=>k_is)
  (case l22=>k_is)
  (case c22=>k_is)
  (case k22=>k_is)
  (case a23=>k_is)
  (case l23=>k_is)
  (case c23=>k_is)
  (case k23=>k_is)
  (case a24=>k_is)
  (case l24=>k_is)
  (case c24=>k_is)
  (case k24=>k_is)
  (case a25=>k_is)
  (case l25=>k_is)
  (case c25=>k_is)
  (case k25=>k_is)
  (case a26=>k_is)
  (case l26=>k_is)
  (case c26=>k_is)
  (case k26=>k_is)
  (case a27=>k_is)
  (case l27=>k_is)
  (case c27=>k_is)
  (case k27=>k_is)
  (case a28=>k_is)
  (case l28=>k_is)
  (case c28=>k_is)
  (case k28=>k_is)
  (case a29=>k_is)
  (case l29=>k_is)
  (case c29=>k_is)
  (case k29=>k_is)
  (case a30=>k_is)
  (case l30=>k_is)
  (case c30=>k_is)
  (case k30=>k_is)
  (case a31=>k_is)
  (case l31=>k_is)
  (case c31=>k_is)
  (case k31=>k_is)
  (case a32=>k_is)
  (case l32=>k_is)
  (case c32=>k_is)
  (case k32=>k_is)
  (case a33=>k_is)
  (case l33=>k_is)
  (case c33=>k_is)
  (case k33=>k_is)
  (case a34=>k_is)
  (case l34=>k_is)
  (case c34=>k_is)
  (case k34=>k_is)
  (case a35=>k_is)
  (case l35=>k_is)
  (case c35=>k_is)
  (case k35=>k_is)
  (case a36=>k_is)
  (case l36=>k_is)
  (case c36=>k_is)
  (case k36=>k_is)
  (case a37=>k_is)
  (case l37=>k_is)
  (case c37=>k_is)
  (case k37=>k_is)
  (case a38=>k_is)
  (case l38=>k_is)
  (case c38=>k_is)
  (case k38=>k_is)
  (case z_bool=>k_is)
  (case z_enumerate=>k_is)
  (case z_int=>k_is)
  (case z_isinstance=>k_is)
  (case z_len=>k_is)
  (case z_list=>k_is)
  (case z_max=>k_is)
  (case z_min=>k_is)
  (case z_range=>k_is)
  (case z_reversed=>k_is)
  (case z_sorted=>k_is)
  (case z_tuple=>k_is)
  (case z_zip=>k_is)

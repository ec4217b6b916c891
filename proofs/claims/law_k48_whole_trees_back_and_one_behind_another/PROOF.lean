import PyProof.Rows.All
import Wide.All
import OpenK.AllK
import Wide.FinOn
import Lean
import PyProof.EqAt
import PyProof.EqKinds
import PyProof.TupleCall
import PySem.Challenge.RW_lentshelf_k48_whole_trees_back_and_one_b
set_option Elab.async false
set_option linter.all false
set_option bootstrap.genMatcherCode false
local macro_rules | `(tactic| omega) => `(tactic| lia)
-- CHANGE: your row's module here,as the last of these rows
set_option maxRecDepth 100000
namespace L2
open PySem PySem.Spec PyProof.Rows
noncomputable abbrev Key:=Sum Int Str
noncomputable def keyIs:Key->Value->Bool
 | .inl k,v=>Value.isInt k v
 | .inr x,v=>Value.isStrOf x v
noncomputable def keyH (w:World):Key->Int
 | .inl k=>hashInt k
 | .inr x=>hashStr w x
theorem cF:∀ {k:Key} {v:Value},keyIs k v=true->(∃ i t,k=Sum.inl i/\v=Value.int i t)\/(∃ x t,k=Sum.inr x/\v=Value.str x t)
 | .inl i,v,h=>by
  obtain ⟨t,e⟩:=Value.isInt_shape (k:=i) (v:=v) h
  exact .inl ⟨i,t,rfl,e⟩
 | .inr x,v,h=>by
  obtain ⟨t,e⟩:=Value.isStrOf_shape (x:=x) (v:=v) h
  exact .inr ⟨x,t,rfl,e⟩
theorem aJy (a b:Int):decide ((Sum.inl a:Key)=Sum.inl b)=(a==b):=by
 by_cases e:a=b
 ·subst e; simp
 ·have h:¬ (Sum.inl a:Key)=Sum.inl b:=fun q=>e (Sum.inl.inj q)
  rw [decide_eq_false h]
  exact (beq_eq_false_iff_ne.mpr e).symm
theorem aLq (a b:Str):decide ((Sum.inr a:Key)=Sum.inr b)=decide (a=b):=by
 by_cases e:a=b
 ·subst e; simp
 ·have h:¬ (Sum.inr a:Key)=Sum.inr b:=fun q=>e (Sum.inr.inj q)
  rw [decide_eq_false h,decide_eq_false e]
theorem aIx (a:Int) (b:Str):decide ((Sum.inl a:Key)=Sum.inr b)=false:=decide_eq_false (fun q=>nomatch q)
theorem aKv (a:Str) (b:Int):decide ((Sum.inr a:Key)=Sum.inl b)=false:=decide_eq_false (fun q=>nomatch q)
noncomputable def mixKind (prog:Program) (w:World):PySem.KeyKind prog w Key where
 is:=keyIs
 hash:=keyH w
 inj:=fun v a b ha hb=>by
  rcases cF ha with ⟨i,t,rfl,rfl⟩ | ⟨x,t,rfl,rfl⟩
  ·rcases cF hb with ⟨j,u,rfl,e⟩ | ⟨y,u,rfl,e⟩
   ·injection e with e1 _; rw [e1]
   ·exact nomatch e
  ·rcases cF hb with ⟨j,u,rfl,e⟩ | ⟨y,u,rfl,e⟩
   ·exact nomatch e
   ·injection e with e1 _; rw [e1]
 byValue:=fun k v h=>by
  rcases cF h with ⟨i,t,rfl,rfl⟩ | ⟨x,t,rfl,rfl⟩ <;> rfl
 pyHash:=fun hv h=>by
  rcases cF hv with ⟨i,t,rfl,rfl⟩ | ⟨x,t,rfl,rfl⟩
  ·exact wpAny_pyHash_int h
  ·exact wpAny_pyHash_str h
 eqBool:=fun hu hv h=>by
  rcases cF hu with ⟨i,t,rfl,rfl⟩ | ⟨x,t,rfl,rfl⟩
  ·rcases cF hv with ⟨j,u,rfl,rfl⟩ | ⟨y,u,rfl,rfl⟩
   ·rw [aJy] at h; exact wpAny_eqBool_int h
   ·rw [aIx] at h; exact SeqAt.EqAt.int_str i t y u _ _ _ _ h
  ·rcases cF hv with ⟨j,u,rfl,rfl⟩ | ⟨y,u,rfl,rfl⟩
   ·rw [aKv] at h; exact SeqAt.EqAt.str_int x t j u _ _ _ _ h
   ·rw [aLq] at h; exact wpAny_eqBool_str h
 «strs»:=fun k x t v h=>by
  rcases cF h with ⟨i,u,rfl,e⟩ | ⟨y,u,rfl,e⟩
  ·exact nomatch e
  ·injection e with e1 _
   subst e1
   cases v <;> rfl
theorem aKx (prog:Program) (w:World) (k:Key) (v:Value):(mixKind prog w).is k v=keyIs k v:=rfl
end L2
namespace L2
open PySem PySem.Spec PyProof.Rows
inductive V where
 | non | bl (b:Bool) | int (i:Int) | str (x:Str) | byt (b:Array UInt8) | flt (b:UInt64) | ref (a:Addr) | ty (n:String)
 deriving DecidableEq
noncomputable def RelV:V->Value->Prop
 | .non,u=>u=Value.none
 | .bl b,u=>u=Value.bool b
 | .int i,u=>∃ t,u=Value.int i t
 | .str x,u=>∃ t,u=Value.str x t
 | .byt b,u=>∃ t,u=Value.bytes b t
 | .flt b,u=>∃ t,u=Value.float b t
 | .ref a,u=>u=Value.ref a
 | .ty n,u=>u=Value.type n
noncomputable abbrev Vals:List V->List Value->Prop:=Paired RelV
theorem Vals.length {xs:List V} {us:List Value} (r:Vals xs us):xs.length=us.length:=Paired.length r
theorem Vals.get:∀ {xs:List V} {us:List Value} {i:Nat} {x:V},Vals xs us->xs[i]?=some x->∃ u,us[i]?=some u/\RelV x u
 | _,_,_,_,.nil,e=>by simp at e
 | _,_,0,_,.cons r _,e=>by simp at e; subst e; exact ⟨_,rfl,r⟩
 | _,_,i+1,x,.cons _ t,e=>by
  obtain ⟨u,h1,h2⟩:=Vals.get (i:=i) (x:=x) t (by simpa using e)
  exact ⟨u,by simpa using h1,h2⟩
theorem Vals.set {x:V} {u:Value} (r:RelV x u):∀ {xs:List V} {us:List Value} (i:Nat),Vals xs us->Vals (xs.set i x) (us.set i u)
 | _,_,_,.nil=>.nil
 | _,_,0,.cons _ t=>.cons r t
 | _,_,i+1,.cons q t=>.cons q (Vals.set r i t)
theorem Vals.append:∀ {xs ys:List V} {us ws:List Value},Vals xs us->Vals ys ws->Vals (xs++ys) (us++ws)
 | _,_,_,_,.nil,s=>s
 | _,_,_,_,.cons r t,s=>.cons r (Vals.append t s)
theorem Vals.take:∀ {xs:List V} {us:List Value} (n:Nat),Vals xs us->Vals (xs.take n) (us.take n)
 | _,_,0,_=>.nil
 | _,_,_+1,.nil=>.nil
 | _,_,n+1,.cons r t=>.cons r (Vals.take n t)
theorem Vals.drop:∀ {xs:List V} {us:List Value} (n:Nat),Vals xs us->Vals (xs.drop n) (us.drop n)
 | _,_,0,r=>r
 | _,_,_+1,.nil=>.nil
 | _,_,n+1,.cons _ t=>Vals.drop n t
noncomputable def RelO:Option V->Option Value->Prop
 | some v,some u=>RelV v u
 | none,none=>True
 | _,_=>False
noncomputable def KV {κ:Type}:List (κ×V)->List (κ×Value)->Prop:=Paired fun (p:κ×V) (q:κ×Value)=>p.1=q.1/\RelV p.2 q.2
noncomputable def kV:Key->V
 | .inl i=>.int i
 | .inr x=>.str x
inductive HO where
 | lst (xs:List V)
 | tup (xs:List V)
 | dK (kvs:List (Key×V)) | dT (kvs:List (List Key×V))
 | set (S:Int->Bool) (n:Nat)
 | ins (C dx:Addr) (fs:List (Str×V))
 | own (x:Addr)
 | xd (fs:List (Str×V))
 | met (f x:Addr)
 | rng (lo hi:Int)
 | frz (o:Obj) (u:HO)
 | tbl (ps:Array Value)
 | ext (φ:Heap->Prop)
noncomputable abbrev Hp:=Addr->Option HO
noncomputable def upd (H:Hp) (a:Addr) (o:HO):Hp:=fun b=>if b=a then some o else H b
theorem dL {H:Hp} {a:Addr} {o:HO}:upd H a o a=some o:=by unfold upd; rw [if_pos rfl]
theorem aT {H:Hp} {a b:Addr} {o:HO} (h:b≠a):upd H a o b=H b:=by unfold upd; rw [if_neg h]
theorem aNi {H:Hp} {a b:Addr} {o u:HO} (h:H a=some o) (h':H b=some u) (d:o≠u):a≠b:=by
 intro e; subst e; rw [h] at h'; exact d (Option.some.inj h')
theorem cN {H:Hp} {a b:Addr} {o:HO} (h:H a=some o) (h':H b=none):a≠b:=by
 intro e; subst e; rw [h] at h'; cases h'
section
variable (P:Program) (w:World)
noncomputable def ObjOk (H:Hp) (h:Heap) (a:Addr):HO->Prop
 | .lst xs=>xs.length<=sizeLine/\∃ (its:List Value) (n:Nat),Vals xs its/\h.get? a=some { cls:=.type "list",data:=.seq its.toArray n }
 | .tup xs=>xs.length<=sizeLine/\∃ its:List Value,Vals xs its/\IsTup h a its.toArray
 | .dK kvs=>kvs.length<=sizeLine/\(a==sysModules)=false/\∃ vs,KV kvs vs/\h.DictOf (mixKind P w) a vs
 | .dT kvs=>kvs.length<=sizeLine/\(a==sysModules)=false/\∃ xs:List (List Key×Addr×Value),
   Paired (fun (p:List Key×V) (q:List Key×Addr×Value)=>p.1=q.1/\H q.2.1=some (.tup (p.1.map kV))/\RelV p.2 q.2.2) kvs xs /\
   ∃ o es ep,h.get? a=some o/\o.ExactDict/\o.data=.dict es ep/\es.toList=xs.map (entryOfKey (tupleKind (mixKind P w)))/\(xs.map (·.1)).Nodup
 | .set S n=>h.SetOf (intKind P w) a S n
 | .ins C dx fs=>H dx=some (.own a)/\fs.length<=1000/\dx≠a/\h.get? a=some (PySem.W.instObj C dx) /\
   ∃ mA,h.Ns1 dx mA/\(∀ f,RelO (fs.lookup f) (mA f))/\PySem.Within mA (fs.map (·.1))
 | .own _=>∃ o,h.get? a=some o
 | .xd fs=>∃ mA,h.Ns1 a mA/\∀ f,RelO (fs.lookup f) (mA f)
 | .rng lo hi=>∃ t u v,h.get? a=some { cls:=.type "range",data:=.fields #[.int lo t,.int hi u,.int 1 v] }
 | .frz o u=>h.get? a=some o/\ObjOk H h a u
 | .tbl ps=>h.get? a=some { cls:=.none,data:=.fields ps }
 | .met f x=>h.get? a=some (PySem.W.methodObj (.ref f) (.ref x))
 | .ext φ=>φ h/\(∃ o,h.get? a=some o)/\∀ h1 h2:Heap,φ h1->(∀ o,h1.get? a=some o->h2.get? a=some o)->φ h2
noncomputable def HOk (H:Hp) (h:Heap):Prop:=∀ a o,H a=some o->ObjOk P w H h a o
end
section
variable {P:Program} {w:World} {H H':Hp} {h h':Heap} {a:Addr} {o:HO}
theorem ObjOk.lt (x:ObjOk P w H h a o):a < h.objs.size:=by
 cases o with
 | lst xs=>obtain ⟨_,_,_,_,e⟩:=x; exact Heap.lt_size e
 | tup xs=>obtain ⟨_,_,_,p⟩:=x; exact p.lt
 | dK kvs=>obtain ⟨_,_,_,_,o,_,_,e,_⟩:=x; exact Heap.lt_size e
 | dT kvs=>obtain ⟨_,_,_,_,o,_,_,e,_⟩:=x; exact Heap.lt_size e
 | set S n=>obtain ⟨o,_,_,_,e,_⟩:=x; exact Heap.lt_size e
 | ins C dx fs=>obtain ⟨_,_,_,e,_⟩:=x; exact Heap.lt_size e
 | own y=>obtain ⟨_,e⟩:=x; exact Heap.lt_size e
 | xd fs=>obtain ⟨_,⟨_,_,_,e,_⟩,_⟩:=x; exact Heap.lt_size e
 | rng lo hi=>obtain ⟨_,_,_,e⟩:=x; exact Heap.lt_size e
 | frz ob u=>obtain ⟨e,_⟩:=x; exact Heap.lt_size e
 | tbl ps=>exact Heap.lt_size (show h.get? a=some _ from x)
 | met f y=>exact Heap.lt_size (show h.get? a=some _ from x)
 | ext φ=>obtain ⟨_,⟨_,e⟩,_⟩:=x; exact Heap.lt_size e
theorem Paired.mapP {α β:Type} {F G:α->β->Prop}:∀ {l₁:List α} {l₂:List β},Paired F l₁ l₂->(∀ a b,F a b->G a b)->Paired G l₁ l₂
 | _,_,.nil,_=>.nil
 | _,_,.cons r t,f=>.cons (f _ _ r) (Paired.mapP t f)
theorem ObjOk.stay (x:ObjOk P w H h a o) (k:∀ b u,(b=a\/H b=some (.own a))->h.get? b=some u->h'.get? b=some u)
  (ho:∀ b,H b=some (.own a)->H' b=some (.own a)) (ht:∀ b xs,H b=some (.tup xs)->H' b=some (.tup xs)):ObjOk P w H' h' a o:=by
 induction o with
 | lst xs=>obtain ⟨z,its,n,r,e⟩:=x; exact ⟨z,its,n,r,k _ _ (.inl rfl) e⟩
 | tup xs=>obtain ⟨z,its,r,ob,e,c⟩:=x; exact ⟨z,its,r,ob,k _ _ (.inl rfl) e,c⟩
 | dK kvs=>obtain ⟨z,y,vs,r,ob,es,ep,e,c⟩:=x; exact ⟨z,y,vs,r,ob,es,ep,k _ _ (.inl rfl) e,c⟩
 | dT kvs =>
  obtain ⟨z,y,xs,r,ob,es,ep,e,c⟩:=x
  exact ⟨z,y,xs,Paired.mapP r fun p q z=>⟨z.1,ht _ _ z.2.1,z.2.2⟩,ob,es,ep,k _ _ (.inl rfl) e,c⟩
 | set S n=>obtain ⟨ob,es,ep,t,e,c⟩:=x; exact ⟨ob,es,ep,t,k _ _ (.inl rfl) e,c⟩
 | ins C dx fs =>
  obtain ⟨d,z,ne,e,mA,⟨od,es,ep,e2,c⟩,r⟩:=x
  exact ⟨ho _ d,z,ne,k _ _ (.inl rfl) e,mA,⟨od,es,ep,k _ _ (.inr d) e2,c⟩,r⟩
 | own y=>obtain ⟨ob,e⟩:=x; exact ⟨ob,k _ _ (.inl rfl) e⟩
 | xd fs=>obtain ⟨mA,⟨od,es,ep,e,c⟩,r⟩:=x; exact ⟨mA,⟨od,es,ep,k _ _ (.inl rfl) e,c⟩,r⟩
 | rng lo hi=>obtain ⟨t,u,v,e⟩:=x; exact ⟨t,u,v,k _ _ (.inl rfl) e⟩
 | frz ob u ih=>obtain ⟨e,q⟩:=x; exact ⟨k _ _ (.inl rfl) e,ih q⟩
 | tbl ps =>
  have e:h.get? a=some { cls:=.none,data:=.fields ps }:=x
  show h'.get? a=some { cls:=.none,data:=.fields ps }
  exact k a _ (.inl rfl) e
 | met f y =>
  have e:h.get? a=some (PySem.W.methodObj (.ref f) (.ref y)):=x
  show h'.get? a=some (PySem.W.methodObj (.ref f) (.ref y))
  exact k a _ (.inl rfl) e
 | ext φ=>obtain ⟨p,⟨o,e⟩,st⟩:=x; exact ⟨st _ _ p fun o q=>k _ _ (.inl rfl) q,⟨o,k _ _ (.inl rfl) e⟩,st⟩
theorem HOk.lt (x:HOk P w H h) (e:H a=some o):a < h.objs.size:=(x a o e).lt
theorem HOk.fresh (x:HOk P w H h) (e:h.objs.size<=a):H a=none:=by
 cases q:H a with
 | none=>rfl
 | some u=>exact absurd (Nat.lt_of_lt_of_le (x.lt q) e) (Nat.lt_irrefl _)
theorem HOk.kept (x:HOk P w H h) (k:∀ b u,h.get? b=some u->h'.get? b=some u):HOk P w H h':=fun a o e =>
 (x a o e).stay (fun b u _ q=>k b u q) (fun _ q=>q) fun _ _ q=>q
theorem HOk.laid (x:HOk P w H h) (k:∀ b u,h.get? b=some u->h'.get? b=some u) (hp:h.objs.size<=a) (new:ObjOk P w (upd H a o) h' a o):HOk P w (upd H a o) h':=fun b u e=>by
 have hn:=x.fresh hp
 by_cases hb:b=a
 ·subst hb; rw [dL] at e; cases e; exact new
 ·rw [aT hb] at e
  exact (x b u e).stay (fun c v _ q=>k c v q) (fun c q=>by rw [aT (cN q hn)]; exact q) fun c xs q=>by rw [aT (cN q hn)]; exact q
end
noncomputable def Rd (H:Hp) (a:Addr) (u:HO):Prop:=H a=some u\/∃ o,H a=some (.frz o u)
theorem Rd.of {H:Hp} {a:Addr} {u:HO} (h:H a=some u):Rd H a u:=.inl h
theorem Rd.ok {P:Program} {w:World} {H:Hp} {h:Heap} {a:Addr} {u:HO} (r:Rd H a u) (x:HOk P w H h):ObjOk P w H h a u:=by
 rcases r with r | ⟨o,r⟩
 ·exact x a u r
 ·obtain ⟨_,q⟩:=x a _ r
  exact q
noncomputable def Mut:Option HO->Prop
 | some (.lst _)=>True
 | some (.dK _)=>True
 | some (.dT _)=>True
 | some (.set _ _)=>True
 | some (.ins _ _ _)=>True
 | some (.ext _)=>True
 | _=>False
section
variable {P:Program} {w:World} {H:Hp} {h h':Heap} {x e:Addr} {o':HO}
theorem HOk.write (ok:HOk P w H h) (mu:Mut (H x)) (he:e=x\/H e=some (.own x)) (k:∀ b u,b≠e->h.get? b=some u->h'.get? b=some u) (heo:∃ u,h'.get? e=some u)
  (new:ObjOk P w (upd H x o') h' x o'):HOk P w (upd H x o') h':=fun b u q=>by
 have nown:∀ c y,H c=some (.own y)->c≠x:=fun c y r z=>by subst z; rw [r] at mu; exact mu
 have ntup:∀ c xs,H c=some (.tup xs)->c≠x:=fun c xs r z=>by subst z; rw [r] at mu; exact mu
 by_cases hb:b=x
 ·subst hb; rw [dL] at q; cases q; exact new
 ·rw [aT hb] at q
  by_cases hbe:b=e
  ·have q':H b=some (.own x):=by
    rcases he with z | z
    ·exact absurd (hbe.trans z) hb
    ·rw [hbe]; exact z
   rw [q] at q'; cases q'
   obtain ⟨v,hv⟩:=heo
   exact ⟨v,by rw [hbe]; exact hv⟩
  ·refine (ok b u q).stay (fun c v hc r=>k c v ?_ r) (fun c r=>by rw [aT (nown c b r)]; exact r) fun c xs r=>by rw [aT (ntup c xs r)]; exact r
   rcases hc with rfl | hc
   ·exact hbe
   ·rintro rfl
    rcases he with z | z
    ·exact nown c b hc z
    ·rw [hc] at z; cases z; exact hb rfl
end
structure Un (fs ex:List Addr) (H H':Hp) (h h':Heap):Prop where
 keep:∀ b o,h.get? b=some o->H b=none->b∉fs->b∉ex->h'.get? b=some o
 slot:∀ b o,h.get? b=some o->H b=none->b∈fs->b∉ex->∃ sl,h'.get? b=some { o with slots:=sl }
 free:∀ b o,h.get? b=some o->H b=none->b∉ex->H' b=none
 there:∀ b o,h.get? b=some o->b∉ex->∃ o',h'.get? b=some o'
 tups:∀ b xs,H b=some (.tup xs)->H' b=some (.tup xs)
 frzs:∀ b o u,H b=some (.frz o u)->H' b=some (.frz o u)
 tbls:∀ b ps,H b=some (.tbl ps)->∃ more,H' b=some (.tbl (ps++more))
section
variable {fs fs' ex ex':List Addr} {H H1 H2:Hp} {h h1 h2 h':Heap} {a x e:Addr} {o:HO}
theorem Un.any (u:Un fs ex H H1 h h1) {b:Addr} {ob:Obj} (q:h.get? b=some ob) (n:H b=none) (hx:b∉ex):∃ sl,h1.get? b=some { ob with slots:=sl }:=by
 by_cases hb:b∈fs
 ·exact u.slot b ob q n hb hx
 ·exact ⟨ob.slots,u.keep b ob q n hb hx⟩
theorem Un.trans (a:Un fs ex H H1 h h1) (b:Un fs ex H1 H2 h1 h2):Un fs ex H H2 h h2 where
 keep:=fun c ob q n hc hx=>b.keep c ob (a.keep c ob q n hc hx) (a.free c ob q n hx) hc hx
 slot:=fun c ob q n hc hx=>by
  obtain ⟨sl,e1⟩:=a.slot c ob q n hc hx
  obtain ⟨sl',e2⟩:=b.slot c _ e1 (a.free c ob q n hx) hc hx
  exact ⟨sl',e2⟩
 free:=fun c ob q n hx=>by
  obtain ⟨o',e1⟩:=a.there c ob q hx
  exact b.free c o' e1 (a.free c ob q n hx) hx
 there:=fun c ob q hx=>by
  obtain ⟨o',e1⟩:=a.there c ob q hx
  exact b.there c o' e1 hx
 tups:=fun c xs q=>b.tups c xs (a.tups c xs q)
 frzs:=fun c ob xs q=>b.frzs c ob xs (a.frzs c ob xs q)
 tbls:=fun c ps q=>by
  obtain ⟨m1,e1⟩:=a.tbls c ps q
  obtain ⟨m2,e2⟩:=b.tbls c _ e1
  exact ⟨m1++m2,by rw [e2,Array.append_assoc]⟩
theorem Un.kept (k:∀ b u,h.get? b=some u->h'.get? b=some u):Un fs ex H H h h' :=
 ⟨fun b ob q _ _ _=>k b ob q,fun b ob q _ _ _=>⟨ob.slots,k b ob q⟩,fun _ _ _ n _=>n,fun b ob q _=>⟨ob,k b ob q⟩,fun _ _ q=>q,fun _ _ _ q=>q,fun _ ps q=>⟨#[],by rw [q]; simp⟩⟩
theorem Un.refl:Un fs ex H H h h:=Un.kept fun _ _ q=>q
theorem Un.laid (k:∀ b u,h.get? b=some u->h'.get? b=some u) (hp:h.objs.size<=a) (hn:H a=none):Un fs ex H (upd H a o) h h' where
 keep:=fun b u q _ _ _=>k b u q
 slot:=fun b u q _ _ _=>⟨u.slots,k b u q⟩
 free:=fun b u q n _=>by rw [aT (Nat.ne_of_lt (Nat.lt_of_lt_of_le (Heap.lt_size q) hp))]; exact n
 there:=fun b u q _=>⟨u,k b u q⟩
 tups:=fun b xs q=>by rw [aT (cN q hn)]; exact q
 frzs:=fun b u xs q=>by rw [aT (cN q hn)]; exact q
 tbls:=fun b ps q=>⟨#[],by rw [aT (cN q hn),q]; simp⟩
theorem Un.write (mu:Mut (H x)) (he:e=x\/H e=some (.own x)) (k:∀ b u,b≠e->h.get? b=some u->h'.get? b=some u) (heo:∃ u,h'.get? e=some u):Un fs ex H (upd H x o) h h':=by
 have hx:∀ b,H b=none->b≠x:=fun b n z=>by subst z; rw [n] at mu; exact mu
 have hb:∀ b,H b=none->b≠e:=fun b n z=>by
  subst z
  rcases he with r | r
  ·exact hx b n r
  ·rw [n] at r; cases r
 have hm:∀ b u,H b=some u->¬ Mut (some u)->b≠x:=fun b u q nm z=>by subst z; rw [q] at mu; exact nm mu
 refine ⟨fun b u q n _ _=>k b u (hb b n) q,fun b u q n _ _=>⟨u.slots,k b u (hb b n) q⟩,fun b u q n _=>by rw [aT (hx b n)]; exact n,fun b u q _=>?_,
  fun b xs q=>by rw [aT (hm b _ q fun z=>z)]; exact q,fun b u xs q=>by rw [aT (hm b _ q fun z=>z)]; exact q,fun b ps q=>⟨#[],by rw [aT (hm b _ q fun z=>z),q]; simp⟩⟩
 by_cases hbe:b=e
 ·subst hbe; exact heo
 ·exact ⟨u,k b u hbe q⟩
theorem Un.mono (u:Un fs ex H H1 h h1) (hs:∀ b∈fs,b∈fs') (hx:∀ b∈ex,b∈ex'):Un fs' ex' H H1 h h1 :=
 ⟨fun b ob q n hb he=>u.keep b ob q n (fun z=>hb (hs b z)) fun z=>he (hx b z),fun _ _ q n _ he=>u.any q n fun z=>he (hx _ z),fun b ob q n he=>u.free b ob q n fun z=>he (hx b z),fun b ob q he=>u.there b ob q fun z=>he (hx b z),u.tups,u.frzs,u.tbls⟩
end
noncomputable def trk (h:Heap) (H:Hp):List Addr:=(List.range h.objs.size).filter fun a=>(H a).isSome
noncomputable def hidT (h:Heap) (H:Hp):Heap:=PySem.W.hideAll h (trk h H)
theorem zO (h:Heap) (H:Hp):(hidT h H).objs.size=h.objs.size:=PySem.W.hideAll_size _ _
theorem aEh {h:Heap} {H:Hp} {b:Addr} {o:Obj} (e:h.get? b=some o) (n:H b=none):(hidT h H).get? b=some o :=
 PySem.W.hideAll_get _ e fun hm=>by
  have q:(H b).isSome=true:=(List.mem_filter.mp hm).2
  rw [n] at q; simp at q
theorem aHg {h:Heap} {H:Hp} {b:Addr} {o:Obj} (e:(hidT h H).get? b=some o):h.get? b=some o/\H b=none:=by
 have e':h.get? b=some o:=PySem.W.of_hideAll (trk h H) e
 refine ⟨e',?_⟩
 cases q:H b with
 | none=>rfl
 | some x =>
  have hm:b∈trk h H:=List.mem_filter.mpr ⟨List.mem_range.mpr (Heap.lt_size e'),by simp [q]⟩
  have z:(hidT h H).get? b=none:=PySem.W.hideAll_none (trk h H) hm
  rw [z] at e; cases e
noncomputable def allNews (g h:Heap) (L:Addr):List (Addr×Obj):=(List.range h.objs.size).filterMap fun a=>if a=L\/(g.get? a).isSome=true then none else (h.get? a).map fun o=>(a,o)
noncomputable def rest (g h:Heap) (L d:Addr):List (Addr×Obj):=(allNews g h L).filter fun p=>decide (p.1≠d)
end L2
namespace L2
open PySem PySem.Spec PyProof.Rows
structure Mod (K:PySem.W.Frag) (mg:Str->Option Value) (base:Heap):Prop where
 kin:K.In base
 glob:base.Ns mainGlobals mg
 blt:∃ mb,base.Ns builtinsNs mb/\∀ x:Str,x≠"__name__"->mb x=bootBuiltins x
 nolimit:base.NoLimit
structure Cx where
 prog:Program
 w:World
 K:PySem.W.Frag
 mg:Str->Option Value
 base:Heap
 A:Around
 N:List Str
 s₀:Shared
 H₀:Hp
 env:Env
 outer:List Env
 stack:List Env
 ex:List Addr
 fn:Str->Bool
 calm:Bool
 pn:List (Addr×Obj)
 xe:Value->Shared->Prop
noncomputable def frs (l:List Env):List Addr:=l.filterMap (·.frame)
noncomputable abbrev Cx.fs (X:Cx):List Addr:=frs X.outer
noncomputable def Vis (sc:Scope) (x:Str):Prop:=sc.names.lookup x=some .local\/sc.names.lookup x=some .cell\/sc.names.lookup x=some .free
noncomputable def Loc (sc:Scope) (x:Str):Prop:=sc.names.lookup x=some .local\/sc.names.lookup x=some .cell
noncomputable def Look (env:Env) (h:Heap) (m:Str->Option Value) (x:Str) (u:Value):Prop :=
 (env.kindOf x=some .local/\m x=some u)\/((env.kindOf x=some .cell\/env.kindOf x=some .free)/\∃ c,env.cells.lookup x=some c/\h.IsCell c (some u))
structure Cx.Ok (X:Cx):Prop where
 mod:Mod X.K X.mg X.base
 kind:X.env.scope.kind=.function
 glob:X.env.globals=mainGlobals
 blt:X.env.builtins=builtinsNs
 above:X.s₀.heap.objs.size<=X.env.locals
 inj:∀ x y c,X.env.cells.lookup x=some c->X.env.cells.lookup y=some c->x=y
 has:∀ x,(X.env.kindOf x=some .cell\/X.env.kindOf x=some .free)->∃ c,X.env.cells.lookup x=some c
 cab:∀ x c,X.fn x=true->X.env.cells.lookup x=some c->X.s₀.heap.objs.size<=c
 hd:X.calm=true->X.A.handled=none
 frames:X.A.frames=some X.stack
 stk:X.stack=X.outer\/(X.stack=X.env::X.outer/\X.env.frame=some X.env.locals)
 exf:∀ b∈X.ex,b≠X.env.locals/\∀ x c,X.env.cells.lookup x=some c->c≠b
 bs:∀ b o,X.base.get? b=some o->X.s₀.heap.get? b=some o/\X.H₀ b=none
 bsz:X.base.objs.size<=X.s₀.heap.objs.size
 noex:∀ b o,X.base.get? b=some o->b∉X.ex
 exfs:∀ b∈X.ex,b∉X.fs
 funs:X.s₀.heap.FunFrames X.base X.outer
 frf:∀ b∈X.fs,X.H₀ b=none
structure Inv (X:Cx) (pins:List (Addr×Obj)) (σ:List (Option V)) (H:Hp) (s:Shared):Prop where
 ok:X.Ok
 os:s.os=X.s₀.os
 bare:AllBare s.gens
 base:Un X.fs X.ex X.H₀ H X.s₀.heap s.heap
 loc:∃ m,s.heap.Ns X.env.locals m/\∀ (i:Nat) (x:Str) (v:V),X.N[i]?=some x->σ[i]?=some (some v)->Vis X.env.scope x->∃ u,RelV v u/\Look X.env s.heap m x u
 cell:∀ x c,X.env.cells.lookup x=some c->∃ v,s.heap.IsCell c v
 free:H X.env.locals=none
 freeC:∀ x c,X.env.cells.lookup x=some c->H c=none
 pin:∀ p∈X.pn++pins,s.heap.get? p.1=some p.2/\H p.1=none/\p.1≠X.env.locals/\p.1∉X.fs/\∀ v,p.2.data≠.cell v
 hok:HOk X.prog X.w H s.heap
 len:σ.length=X.N.length
section
variable {X:Cx} {pins:List (Addr×Obj)} {σ:List (Option V)} {H H':Hp} {s:Shared} {h':Heap}
theorem Cx.Ok.nofr (ok:X.Ok) {b:Addr} {o:Obj} (e:X.base.get? b=some o):b∉X.fs:=fun hb=>by
 have:=(ok.funs.mem hb).1
 rw [e] at this; cases this
theorem Inv.bs (I:Inv X pins σ H s):∀ b o,X.base.get? b=some o->s.heap.get? b=some o/\H b=none:=fun b o e =>
 ⟨I.base.keep b o (I.ok.bs b o e).1 (I.ok.bs b o e).2 (I.ok.nofr e) (I.ok.noex b o e),I.base.free b o (I.ok.bs b o e).1 (I.ok.bs b o e).2 (I.ok.noex b o e)⟩
theorem Inv.bk (I:Inv X pins σ H s):∀ b o,X.base.get? b=some o->s.heap.get? b=some o:=fun b o e=>(I.bs b o e).1
theorem Inv.mod (I:Inv X pins σ H s):Mod X.K X.mg X.base:=I.ok.mod
theorem Inv.kIn (I:Inv X pins σ H s):X.K.In s.heap:=I.ok.mod.kin.keeps I.bk
theorem Inv.nolimit (I:Inv X pins σ H s):s.heap.NoLimit:=I.ok.mod.nolimit.keeps I.bk
theorem Inv.fr (I:Inv X pins σ H s):∃ m,Fr X.base X.env.locals s.heap m :=
 let ⟨m,hn,_⟩:=I.loc
 ⟨m,hn,I.bk,Nat.le_trans I.ok.bsz I.ok.above⟩
theorem Inv.lt (I:Inv X pins σ H s):X.env.locals < s.heap.objs.size:=let ⟨_,hn,_⟩:=I.loc; hn.lt
theorem Inv.sz (I:Inv X pins σ H s):X.s₀.heap.objs.size<=s.heap.objs.size:=Nat.le_trans I.ok.above (Nat.le_of_lt I.lt)
theorem Inv.nofs (I:Inv X pins σ H s) {a:Addr} (h:s.heap.objs.size<=a):a∉X.fs:=fun hb=>by
 obtain ⟨_,o,ho,_⟩:=I.ok.funs.mem hb
 exact absurd (Nat.lt_of_lt_of_le (Heap.lt_size ho) (Nat.le_trans I.sz h)) (Nat.lt_irrefl _)
theorem Inv.cne (I:Inv X pins σ H s):∀ x c,X.env.cells.lookup x=some c->c≠X.env.locals:=fun x c e z=>by
 obtain ⟨v,o,ho,hd⟩:=I.cell x c e
 obtain ⟨m,⟨o',es,ep,ho',hd',_⟩,_⟩:=I.loc
 rw [z,ho'] at ho; cases ho; rw [hd'] at hd; cases hd
theorem Inv.funs (I:Inv X pins σ H s):s.heap.FunFrames X.base X.outer:=by
 have all:∀ (l:List Env),(∀ b∈frs l,b∈X.fs)->X.s₀.heap.FunFrames X.base l->s.heap.FunFrames X.base l:=by
  intro l
  induction l with
  | nil=>intro _ _; trivial
  | cons env r ih =>
   intro hs hl
   obtain ⟨hk,⟨L,o,hf,hn,ho,hd⟩,hr⟩:=hl
   have hL:L∈X.fs:=hs L (by unfold frs; rw [List.filterMap_cons,hf]; exact List.mem_cons_self)
   obtain ⟨sl,e⟩:=I.base.slot L o ho (I.ok.frf L hL) hL fun z=>I.ok.exfs L z hL
   exact ⟨hk,⟨L,_,hf,hn,e,hd⟩,ih (fun b hb=>hs b (by unfold frs; rw [List.filterMap_cons,hf]; exact List.mem_cons_of_mem _ hb)) hr⟩
 exact all X.outer (fun _ hb=>hb) I.ok.funs
theorem Inv.stack (I:Inv X pins σ H s):s.heap.FunFrames X.base X.stack:=by
 rcases I.ok.stk with e | ⟨e,hf⟩
 ·rw [e]; exact I.funs
 ·rw [e]
  obtain ⟨m,hn,_⟩:=I.loc
  refine .cons (by rw [I.ok.kind]; decide) hf hn ?_ I.funs
  exact Heap.get?_none_of_le (Nat.le_trans I.ok.bsz I.ok.above)
theorem Inv.stkSub (I:Inv X pins σ H s):∀ b∈frs X.stack,b∈X.env.locals::X.fs:=fun b hb=>by
 rcases I.ok.stk with e | ⟨e,hf⟩
 ·rw [e] at hb; exact List.mem_cons_of_mem _ hb
 ·rw [e] at hb
  unfold frs at hb
  rw [List.filterMap_cons,hf] at hb
  exact hb
theorem Inv.stkFree (I:Inv X pins σ H s):∀ b∈frs X.stack,H b=none:=fun b hb=>by
 rcases List.mem_cons.mp (I.stkSub b hb) with e | hb
 ·rw [e]; exact I.free
 ·obtain ⟨_,o,ho,_⟩:=I.ok.funs.mem hb
  exact I.base.free b o ho (I.ok.frf b hb) fun z=>I.ok.exfs b z hb
theorem Inv.step {g':Array GenState} {t':Nat} {d':Drawn} {ch:List Addr} (I:Inv X pins σ H s)
  (hch:∀ b∈ch,(b∈X.ex\/X.s₀.heap.objs.size<=b)/\b≠X.env.locals/\(∀ x c,X.env.cells.lookup x=some c->c≠b)/\∀ p∈X.pn++pins,p.1≠b)
  (keep:∀ b o,b≠X.env.locals->b∉X.fs->b∉ch->s.heap.get? b=some o->H b=none->h'.get? b=some o)
  (slot:∀ b o,b≠X.env.locals->b∈X.fs->b∉ch->s.heap.get? b=some o->H b=none->∃ sl,h'.get? b=some { o with slots:=sl }) (free:∀ b o,b∉ch->s.heap.get? b=some o->H b=none->H' b=none)
  (there:∀ b o,b∉ch->s.heap.get? b=some o->∃ o',h'.get? b=some o')
  (tups:∀ b xs,H b=some (.tup xs)->H' b=some (.tup xs)) (frzs:∀ b o u,H b=some (.frz o u)->H' b=some (.frz o u)) (tbls:∀ b ps,H b=some (.tbl ps)->∃ more,H' b=some (.tbl (ps++more)))
  (ns:∀ m,s.heap.Ns X.env.locals m->h'.Ns X.env.locals m) (hok:HOk X.prog X.w H' h') (hg:AllBare g') :
  Inv X pins σ H' { s with heap:=h',gens:=g',drawn:=d',toks:=t' }:=by
 have neL:∀ b o,X.s₀.heap.get? b=some o->b≠X.env.locals:=fun b o e=>Nat.ne_of_lt (Nat.lt_of_lt_of_le (Heap.lt_size e) I.ok.above)
 have neC:∀ b o,X.s₀.heap.get? b=some o->b∉X.ex->b∉ch:=fun b o e hx hb=>by
  rcases (hch b hb).1 with z | z
  ·exact hx z
  ·exact absurd (Nat.lt_of_lt_of_le (Heap.lt_size e) z) (Nat.lt_irrefl _)
 have cellK:∀ x c,X.env.cells.lookup x=some c->∀ v,s.heap.IsCell c v->h'.IsCell c v:=fun x c e v ⟨o,ho,hd⟩=>by
  have nch:c∉ch:=fun z=>(hch c z).2.2.1 x c e rfl
  by_cases hc:c∈X.fs
  ·obtain ⟨sl,q⟩:=slot c o (I.cne x c e) hc nch ho (I.freeC x c e)
   exact ⟨_,q,hd⟩
  ·exact ⟨o,keep c o (I.cne x c e) hc nch ho (I.freeC x c e),hd⟩
 refine ⟨I.ok,I.os,hg,⟨fun b o e n hb hx=>?_,fun b o e n hb hx=>?_,fun b o e n hx=>?_,fun b o e hx=>?_,fun b xs e=>tups b xs (I.base.tups b xs e),fun b o xs e=>frzs b o xs (I.base.frzs b o xs e),fun b ps e=>?_⟩,?_,fun x c e=>?_,?_,fun x c e=>?_,fun p hp=>?_,hok,I.len⟩
 ·exact keep b o (neL b o e) hb (neC b o e hx) (I.base.keep b o e n hb hx) (I.base.free b o e n hx)
 ·obtain ⟨sl,e1⟩:=I.base.slot b o e n hb hx
  obtain ⟨sl',e2⟩:=slot b _ (neL b o e) hb (neC b o e hx) e1 (I.base.free b o e n hx)
  exact ⟨sl',e2⟩
 ·obtain ⟨o',e1⟩:=I.base.there b o e hx
  exact free b o' (neC b o e hx) e1 (I.base.free b o e n hx)
 ·obtain ⟨o',e1⟩:=I.base.there b o e hx
  exact there b o' (neC b o e hx) e1
 ·obtain ⟨m1,e1⟩:=I.base.tbls b ps e
  obtain ⟨m2,e2⟩:=tbls b _ e1
  exact ⟨m1++m2,by rw [e2,Array.append_assoc]⟩
 ·obtain ⟨m,hn,hl⟩:=I.loc
  refine ⟨m,ns m hn,fun i x v e1 e2 e3=>?_⟩
  obtain ⟨u,r,l⟩:=hl i x v e1 e2 e3
  refine ⟨u,r,?_⟩
  rcases l with l | ⟨k,c,e,z⟩
  ·exact .inl l
  ·exact .inr ⟨k,c,e,cellK x c e _ z⟩
 ·obtain ⟨v,z⟩:=I.cell x c e
  exact ⟨v,cellK x c e v z⟩
 ·obtain ⟨m,⟨o,_,_,ho,_⟩,_⟩:=I.loc
  exact free _ o (fun z=>(hch _ z).2.1 rfl) ho I.free
 ·obtain ⟨v,o,ho,hd⟩:=I.cell x c e
  exact free c o (fun z=>(hch c z).2.2.1 x c e rfl) ho (I.freeC x c e)
 ·obtain ⟨e,n,ne,nf,d⟩:=I.pin p hp
  have nch:p.1∉ch:=fun z=>(hch p.1 z).2.2.2 p hp rfl
  exact ⟨keep p.1 p.2 ne nf nch e n,free p.1 p.2 nch e n,ne,nf,d⟩
theorem Inv.un {t':Nat} (I:Inv X pins σ H s) (u:Un X.fs [] H H' s.heap h') (hok:HOk X.prog X.w H' h'):Inv X pins σ H' { s with heap:=h',toks:=t' }:=by
 obtain ⟨m,⟨o,es,ep,ho,r⟩,_⟩:=id I.loc
 obtain ⟨sl,hL⟩:=u.any ho I.free (by simp)
 exact I.step (g':=s.gens) (d':=s.drawn) (ch:=[]) (fun _ z=>nomatch z) (fun b o _ hb _ e n=>u.keep b o e n hb (by simp)) (fun b o _ hb _ e n=>u.slot b o e n hb (by simp)) (fun b o _ e n=>u.free b o e n (by simp)) (fun b o _ e=>u.there b o e (by simp)) u.tups u.frzs u.tbls (fun m' hm=>by
  obtain ⟨o',es',ep',ho',r'⟩:=hm
  rw [ho] at ho'; cases ho'
  exact ⟨_,es',ep',hL,r'⟩) hok I.bare
theorem Inv.call {g':Array GenState} {t':Nat} {d':Drawn} {ch:List Addr} (I:Inv X pins σ H s) (u:Un (frs X.stack) ch H H' s.heap h') (hok:HOk X.prog X.w H' h') (hg:AllBare g')
  (hch:∀ b∈ch,(b∈X.ex\/X.s₀.heap.objs.size<=b)/\b≠X.env.locals/\(∀ x c,X.env.cells.lookup x=some c->c≠b)/\∀ p∈X.pn++pins,p.1≠b) :
  Inv X pins σ H' { s with heap:=h',gens:=g',drawn:=d',toks:=t' }:=by
 obtain ⟨m,⟨o,es,ep,ho,r⟩,_⟩:=id I.loc
 obtain ⟨sl,hL⟩:=u.any ho I.free fun z=>(hch _ z).2.1 rfl
 exact I.step (ch:=ch) hch (fun b o hL hb hc e n=>u.keep b o e n (fun z=>(List.mem_cons.mp (I.stkSub b z)).elim hL hb) hc) (fun b o _ _ hc e n=>u.any e n hc) (fun b o hc e n=>u.free b o e n hc) (fun b o hc e=>u.there b o e hc) u.tups u.frzs u.tbls (fun m' hm=>by
  obtain ⟨o',es',ep',ho',r'⟩:=hm
  rw [ho] at ho'; cases ho'
  exact ⟨_,es',ep',hL,r'⟩) hok hg
theorem Inv.turned {t':Nat} {it:Addr} (I:Inv X pins σ H s) (k:∀ b o,b≠it->s.heap.get? b=some o->h'.get? b=some o) (hn:H it=none) (hL:it≠X.env.locals)
  (h1:it∈X.ex\/X.s₀.heap.objs.size<=it) (h2:∀ x c,X.env.cells.lookup x=some c->c≠it) (h3:∀ p∈X.pn++pins,p.1≠it):Inv X pins σ H { s with heap:=h',toks:=t' }:=by
 have nit:∀ b u,H b=some u->b≠it:=fun b u e z=>by rw [z,hn] at e; cases e
 refine I.step (g':=s.gens) (d':=s.drawn) (ch:=[it]) (fun b hb=>?_) (fun b o _ _ hc e _=>k b o (fun z=>hc (by simp [z])) e) (fun b o _ _ hc e _=>⟨o.slots,k b o (fun z=>hc (by simp [z])) e⟩) (fun _ _ _ _ n=>n)
  (fun b o hc e=>⟨o,k b o (fun z=>hc (by simp [z])) e⟩) (fun _ _ e=>e) (fun _ _ _ e=>e) (fun b ps e=>⟨#[],by rw [e]; simp⟩) (fun m hm=>?_) (fun b u e=>?_) I.bare
 ·have e:b=it:=by simpa using hb
  subst e
  exact ⟨h1,hL,h2,h3⟩
 ·obtain ⟨o,es,ep,ho,r⟩:=hm
  exact ⟨o,es,ep,k _ o (Ne.symm hL) ho,r⟩
 ·refine (I.hok b u e).stay (fun c v hc q=>k c v ?_ q) (fun _ q=>q) fun _ _ q=>q
  rcases hc with z | z
  ·rw [z]; exact nit b u e
  ·exact nit c _ z
theorem Inv.tok (I:Inv X pins σ H s) (t:Nat):Inv X pins σ H { s with toks:=t }:=I.un (h':=s.heap) (t':=t) Un.refl I.hok
theorem Inv.kept {t':Nat} (I:Inv X pins σ H s) (k:∀ b u,s.heap.get? b=some u->h'.get? b=some u):Inv X pins σ H { s with heap:=h',toks:=t' }:=I.un (Un.kept k) (I.hok.kept k)
theorem Inv.laid {a:Addr} {o:HO} {t':Nat} (I:Inv X pins σ H s) (k:∀ b u,s.heap.get? b=some u->h'.get? b=some u) (hp:s.heap.objs.size<=a) (new:ObjOk X.prog X.w (upd H a o) h' a o) :
  Inv X pins σ (upd H a o) { s with heap:=h',toks:=t' }:=I.un (Un.laid k hp (I.hok.fresh hp)) (I.hok.laid k hp new)
theorem Inv.write {x e:Addr} {o:HO} {t':Nat} (I:Inv X pins σ H s) (mu:Mut (H x)) (he:e=x\/H e=some (.own x)) (k:∀ b u,b≠e->s.heap.get? b=some u->h'.get? b=some u) (heo:∃ u,h'.get? e=some u)
  (new:ObjOk X.prog X.w (upd H x o) h' x o):Inv X pins σ (upd H x o) { s with heap:=h',toks:=t' }:=I.un (Un.write mu he k heo) (I.hok.write mu he k heo new)
theorem Inv.pins_of {pins':List (Addr×Obj)} (I:Inv X pins σ H s) (h:∀ p∈pins',s.heap.get? p.1=some p.2/\H p.1=none/\p.1≠X.env.locals/\p.1∉X.fs/\∀ v,p.2.data≠.cell v):Inv X pins' σ H s :=
 ⟨I.ok,I.os,I.bare,I.base,I.loc,I.cell,I.free,I.freeC,fun p hp=>(List.mem_append.mp hp).elim (fun z=>I.pin p (List.mem_append_left _ z)) (h p),I.hok,I.len⟩
theorem uO {N:List Str} (hN:N.Nodup) {i j:Nat} {x:Str} (a:N[i]?=some x) (b:N[j]?=some x):i=j:=by
 obtain ⟨h1,e1⟩:=List.getElem?_eq_some_iff.mp a
 obtain ⟨h2,e2⟩:=List.getElem?_eq_some_iff.mp b
 exact (List.getElem_inj hN).mp (e1.trans e2.symm)
theorem pU {M:Model} {A:Around} {E:Value->Shared->Prop} {i:Nat} {x:Str} {v:V} {u:Value} {Q:Unit->Shared->Prop} (I:Inv X pins σ H s) (hN:X.N.Nodup) (hi:X.N[i]?=some x) (hx:Loc X.env.scope x) (r:RelV v u)
  (h:∀ s',Inv X pins (σ.set i (some v)) H s'->(∃ a,Heap.SameBut a s.heap s'.heap/\(a=X.env.locals\/X.env.cells.lookup x=some a))->Q () s') (hf:X.fn x=true\/X.env.scope.names.lookup x=some .local:=by first | exact .inl rfl | exact .inr rfl | assumption):wpAny M A (storeName X.env x u) Q E s:=by
 obtain ⟨m,hn,hl⟩:=id I.loc
 have hcls:(X.env.scope.kind==.class || (X.env.scope.kind==.module&&X.env.locals != X.env.globals))=false:=by rw [I.ok.kind]; rfl
 have hiσ:i < σ.length:=by rw [I.len]; exact (List.getElem?_eq_some_iff.mp hi).1
 have cne:=I.cne
 have tracked:∀ {a:Addr} {h':Heap},(∃ o,s.heap.get? a=some o/\H a=none)->Heap.SameBut a s.heap h'->HOk X.prog X.w H h':=fun {a h'} ha hs b ob e=>by
  obtain ⟨_,_,hfree⟩:=ha
  refine (I.hok b ob e).stay (fun c w' hc q=>(hs.2 c ?_).trans q) (fun _ q=>q) fun _ _ q=>q
  rintro rfl
  rcases hc with rfl | hc
  ·rw [hfree] at e; cases e
  ·rw [hfree] at hc; cases hc
 rcases hx with hk | hk
 ·refine wpAny_storeName_local hk hn (fun h' hn' hs=>?_) hcls
  obtain ⟨oL,_,_,hoL,_⟩:=id hn
  refine h _ ⟨I.ok,I.os,I.bare,⟨fun b o e n hb hx=>?_,fun b o e n hb hx=>?_,I.base.free,fun b o e hx=>?_,I.base.tups,I.base.frzs,I.base.tbls⟩,⟨_,hn',fun j y v' e1 e2 e3=>?_⟩,fun y c e=>?_,I.free,I.freeC,fun p hp=>?_,tracked ⟨oL,hoL,I.free⟩ hs,by simpa using I.len⟩ ⟨_,hs,.inl rfl⟩
  ·exact (hs.2 b (Nat.ne_of_lt (Nat.lt_of_lt_of_le (Heap.lt_size e) I.ok.above))).trans (I.base.keep b o e n hb hx)
  ·obtain ⟨sl,e1⟩:=I.base.slot b o e n hb hx
   exact ⟨sl,(hs.2 b (Nat.ne_of_lt (Nat.lt_of_lt_of_le (Heap.lt_size e) I.ok.above))).trans e1⟩
  ·obtain ⟨o',e1⟩:=I.base.there b o e hx
   exact ⟨o',(hs.2 b (Nat.ne_of_lt (Nat.lt_of_lt_of_le (Heap.lt_size e) I.ok.above))).trans e1⟩
  ·by_cases hj:j=i
   ·subst hj
    rw [hi] at e1; cases e1
    rw [List.getElem?_set_self hiσ] at e2
    cases e2
    exact ⟨u,r,.inl ⟨hk,by simp⟩⟩
   ·rw [List.getElem?_set_ne (Ne.symm hj)] at e2
    obtain ⟨u',r',q⟩:=hl j y v' e1 e2 e3
    refine ⟨u',r',?_⟩
    rcases q with ⟨k,e⟩ | ⟨k,c,e,z⟩
    ·refine .inl ⟨k,?_⟩
     have:y≠x:=fun e=>hj (uO hN e1 (e▸hi))
     simp [this,e]
    ·exact .inr ⟨k,c,e,z.sameBut hs (cne y c e)⟩
  ·obtain ⟨w',z⟩:=I.cell y c e
   exact ⟨w',z.sameBut hs (cne y c e)⟩
  ·obtain ⟨e,n,ne,nf,d⟩:=I.pin p hp
   exact ⟨(hs.2 p.1 ne).trans e,n,ne,nf,d⟩
 ·have hfn:X.fn x=true:=by
   rcases hf with z | z
   ·exact z
   ·rw [z] at hk; cases hk
  obtain ⟨c,hc⟩:=I.ok.has x (.inl hk)
  obtain ⟨w',z⟩:=I.cell x c hc
  refine wpAny_storeName_cell I.ok.kind hk hc z (fun h' hc' hs=>?_)
  obtain ⟨oc,hoc,hocd⟩:=id z
  refine h { s with heap:=h' } ⟨I.ok,I.os,I.bare,⟨fun b o e n hb hx=>?_,fun b o e n hb hx=>?_,I.base.free,fun b o e hx=>?_,I.base.tups,I.base.frzs,I.base.tbls⟩,⟨m,hn.sameBut hs (Ne.symm (cne x c hc)),fun j y v' e1 e2 e3=>?_⟩,fun y c' e=>?_,I.free,I.freeC,fun p hp=>?_,tracked ⟨oc,hoc,I.freeC x c hc⟩ hs,by simpa using I.len⟩ ⟨c,hs,.inr hc⟩
  ·exact (hs.2 b (Nat.ne_of_lt (Nat.lt_of_lt_of_le (Heap.lt_size e) (I.ok.cab x c hfn hc)))).trans (I.base.keep b o e n hb hx)
  ·obtain ⟨sl,e1⟩:=I.base.slot b o e n hb hx
   exact ⟨sl,(hs.2 b (Nat.ne_of_lt (Nat.lt_of_lt_of_le (Heap.lt_size e) (I.ok.cab x c hfn hc)))).trans e1⟩
  ·obtain ⟨o',e1⟩:=I.base.there b o e hx
   exact ⟨o',(hs.2 b (Nat.ne_of_lt (Nat.lt_of_lt_of_le (Heap.lt_size e) (I.ok.cab x c hfn hc)))).trans e1⟩
  ·by_cases hj:j=i
   ·subst hj
    rw [hi] at e1; cases e1
    rw [List.getElem?_set_self hiσ] at e2
    cases e2
    exact ⟨u,r,.inr ⟨.inl hk,c,hc,hc'⟩⟩
   ·rw [List.getElem?_set_ne (Ne.symm hj)] at e2
    obtain ⟨u',r',q⟩:=hl j y v' e1 e2 e3
    refine ⟨u',r',?_⟩
    rcases q with q | ⟨k,c',e,z'⟩
    ·exact .inl q
    ·refine .inr ⟨k,c',e,z'.sameBut hs ?_⟩
     rintro rfl
     exact hj (uO hN e1 (I.ok.inj _ _ _ e hc▸hi))
  ·by_cases hcc:c'=c
   ·subst hcc; exact ⟨_,hc'⟩
   ·obtain ⟨w2,z2⟩:=I.cell y c' e
    exact ⟨w2,z2.sameBut hs hcc⟩
  ·obtain ⟨e,n,ne,nf,d⟩:=I.pin p hp
   refine ⟨(hs.2 p.1 ?_).trans e,n,ne,nf,d⟩
   intro q
   rw [q,hoc] at e
   have q':oc=p.2:=Option.some.inj e
   exact d w' (by rw [<- q']; exact hocd)
theorem iQ {M:Model} {A:Around} {E:Value->Shared->Prop} {i:Nat} {x:Str} {v:V} {u:Value} {Q:Unit->Shared->Prop} (I:Inv X pins σ H s) (hN:X.N.Nodup) (hi:X.N[i]?=some x) (hx:Loc X.env.scope x) (r:RelV v u)
  (h:∀ s',Inv X pins (σ.set i (some v)) H s'->Q () s') (hf:X.fn x=true\/X.env.scope.names.lookup x=some .local:=by first | exact .inl rfl | exact .inr rfl | assumption):wpAny M A (storeName X.env x u) Q E s :=
 pU I hN hi hx r (fun s' I' _=>h s' I') hf
theorem Inv.call' {s':Shared} {ch:List Addr} (I:Inv X pins σ H s) (ho:s'.os=s.os) (u:Un (frs X.stack) ch H H' s.heap s'.heap) (hok:HOk X.prog X.w H' s'.heap) (hg:AllBare s'.gens)
  (hch:∀ b∈ch,(b∈X.ex\/X.s₀.heap.objs.size<=b)/\b≠X.env.locals/\(∀ x c,X.env.cells.lookup x=some c->c≠b)/\∀ p∈X.pn++pins,p.1≠b):Inv X pins σ H' s':=by
 obtain ⟨h',g',d',t',o'⟩:=s'
 have e:o'=s.os:=ho
 subst e
 exact I.call (g':=g') (t':=t') (d':=d') u hok hg hch
end
noncomputable abbrev XK:=Value->Option Addr->Hp->Prop
noncomputable abbrev St:=List (Option V)
noncomputable abbrev VK:=V->Hp->Prop
noncomputable abbrev TE:=St->Hp->VK->Prop
noncomputable abbrev TT:=St->Hp->(Bool->Hp->Prop)->Prop
noncomputable abbrev TA:=St->Hp->(List V->Hp->Prop)->Prop
structure Ends where
 nx:St->Hp->Prop
 rt:VK
 bk:St->Hp->Prop:=fun _ _=>False
 ct:St->Hp->Prop:=fun _ _=>False
noncomputable abbrev TS:=Ends->St->Hp->Prop
noncomputable def EP (X:Cx) (pins:List (Addr×Obj)) (σ:St) (Q:VK) (u:Value) (s':Shared):Prop:=∃ v H',Inv X pins σ H' s'/\RelV v u/\Q v H'
noncomputable def TP (X:Cx) (pins:List (Addr×Obj)) (σ:St) (Q:Bool->Hp->Prop) (b:Bool) (s':Shared):Prop:=∃ H',Inv X pins σ H' s'/\Q b H'
noncomputable def AP (X:Cx) (pins:List (Addr×Obj)) (σ:St) (Q:List V->Hp->Prop) (us:List Value) (s':Shared):Prop:=∃ vs H',Inv X pins σ H' s'/\Vals vs us/\Q vs H'
noncomputable def SP (X:Cx) (pins:List (Addr×Obj)) (D:Ends) (f:Flow) (s':Shared):Prop :=
 match f with
 | .next=>∃ σ' H',Inv X pins σ' H' s'/\D.nx σ' H'
 | .brk=>∃ σ' H',Inv X pins σ' H' s'/\D.bk σ' H'
 | .cont=>∃ σ' H',Inv X pins σ' H' s'/\D.ct σ' H'
 | .ret u=>∃ v σ' H',Inv X pins σ' H' s'/\RelV v u/\D.rt v H'
noncomputable def PE (X:Cx) (e:Expr) (t:TE):Prop :=
 ∀ (pins:List (Addr×Obj)) (s:Shared) (σ:St) (H:Hp) (Q:VK),Inv X pins σ H s->t σ H Q->wpAny (model X.prog X.w) X.A (eval e X.env) (EP X pins σ Q) X.xe s
noncomputable def PT (X:Cx) (e:Expr) (t:TT):Prop :=
 ∀ (pins:List (Addr×Obj)) (s:Shared) (σ:St) (H:Hp) (Q:Bool->Hp->Prop),Inv X pins σ H s->t σ H Q->wpAny (model X.prog X.w) X.A (isTrue e X.env (eval e X.env)) (TP X pins σ Q) X.xe s
noncomputable def PW (X:Cx) (e:Expr) (t:TT):Prop :=
 ∀ (whole:Sem Value) (pins:List (Addr×Obj)) (s:Shared) (σ:St) (H:Hp) (Q:Bool->Hp->Prop),Inv X pins σ H s->t σ H Q->wpAny (model X.prog X.w) X.A (isTrue e X.env whole) (TP X pins σ Q) X.xe s
theorem PW.pt {X:Cx} {e:Expr} {t:TT} (h:PW X e t):PT X e t:=h _
noncomputable def PA (X:Cx) (es:List Expr) (t:TA):Prop :=
 ∀ (pos:Pos) (pins:List (Addr×Obj)) (s:Shared) (σ:St) (H:Hp) (Q:List V->Hp->Prop),Inv X pins σ H s->t σ H Q->wpAny (model X.prog X.w) X.A (spliced (backTo pos (starEach es X.env))) (AP X pins σ Q) X.xe s
noncomputable def PS (X:Cx) (st:Stmt) (t:TS):Prop :=
 ∀ (pins:List (Addr×Obj)) (s:Shared) (σ:St) (H:Hp) (D:Ends),Inv X pins σ H s->t D σ H->wpAny (model X.prog X.w) X.A (exec st X.env) (SP X pins D) X.xe s
noncomputable def PSs (X:Cx) (st:List Stmt) (t:TS):Prop :=
 ∀ (pins:List (Addr×Obj)) (s:Shared) (σ:St) (H:Hp) (D:Ends),Inv X pins σ H s->t D σ H->wpAny (model X.prog X.w) X.A (execs st X.env) (SP X pins D) X.xe s
theorem thn {α:Type} {t:Sem α} {Q Q':α->Shared->Prop} {M:Model} {A:Around} {E:Value->Shared->Prop} {s:Shared} (h:wpAny M A t Q E s) (hQ:∀ a s,Q a s->Q' a s):wpAny M A t Q' E s:=wpAny_mono h hQ fun _ _ x=>x
end L2
namespace L2
open PySem PySem.Spec PyProof.Rows
section
variable {X:Cx}
noncomputable def tVar (i:Nat):TE:=fun σ H Q=>∃ v,σ[i]?=some (some v)/\Q v H
noncomputable def tC (v:V):TE:=fun _ H Q=>Q v H
theorem aKl {i:Nat} {x:Str} {pos:Pos} (hN:X.N[i]?=some x) (hv:Vis X.env.scope x) (hd:(x==("__debug__":Str))=false:=by decide) (hcd:(x==("__classdict__":Str))=false:=by decide):PE X (.Name x pos) (tVar i):=by
 intro pins s σ H Q I h
 obtain ⟨v,e,h⟩:=h
 obtain ⟨m,hn,hl⟩:=I.loc
 obtain ⟨u,r,l⟩:=hl i x v hN e hv
 have fin:EP X pins σ Q u s:=⟨v,H,I,r,h⟩
 rcases l with ⟨hk,hm⟩ | ⟨hk,c,hc,hcell⟩
 ·exact wpAny_Name (wpAny_loadName_local I.ok.kind hk hn hm fin) hd
 ·rcases hk with hk | hk
  ·exact wpAny_Name (wpAny_loadName_cell I.ok.kind hk hc hcell fin) hd
  ·exact wpAny_Name (wpAny_loadName_free I.ok.kind hk hc hcell fin hcd) hd
theorem aEb {i j pos}:PE X (.Constant (.int i) j pos) (tC (.int i)):=fun _ _ _ H _ I h=>wpAny_Constant_int ⟨.int i,H,I.tok _,⟨_,rfl⟩,h⟩
theorem aMp {b j pos}:PE X (.Constant (.bool b) j pos) (tC (.bl b)):=fun _ _ _ H _ I h=>Constant_bool ⟨.bl b,H,I,rfl,h⟩
theorem aKm {j pos}:PE X (.Constant .none j pos) (tC .non):=fun _ _ _ H _ I h=>Constant_none ⟨.non,H,I,rfl,h⟩
theorem aMf {x j pos}:PE X (.Constant (.str x) j pos) (tC (.str x)):=fun _ _ _ H _ I h=>Calls.Constant_str ⟨.str x,H,I.tok _,⟨_,rfl⟩,h⟩
noncomputable def Gl (X:Cx) (x:Str):Prop:=X.env.kindOf x=some .globalImplicit
theorem aGp {E:Value->Shared->Prop} {pins:List (Addr×Obj)} {s:Shared} {σ:St} {H:Hp} {x:Str} {u:Value} {pos:Pos} {Q:Value->Shared->Prop} (I:Inv X pins σ H s) (hg:Gl X x) (hm:X.mg x=some u) (h:Q u s)
  (hd:(x==("__debug__":Str))=false:=by decide):wpAny (model X.prog X.w) X.A (eval (.Name x pos) X.env) Q E s :=
 Calls.Name_function_global I.ok.kind hg (Calls.loadGlobal_global (by rw [I.ok.glob]; exact I.mod.glob.keeps I.bk) hm h) hd
theorem iU {E:Value->Shared->Prop} {pins:List (Addr×Obj)} {s:Shared} {σ:St} {H:Hp} {x:Str} {u:Value} {pos:Pos} {Q:Value->Shared->Prop} (I:Inv X pins σ H s) (hg:Gl X x) (hm:X.mg x=none) (hv:bootBuiltins x=some u) (h:Q u s)
  (hn:x≠"__name__":=by decide) (hd:(x==("__debug__":Str))=false:=by decide):wpAny (model X.prog X.w) X.A (eval (.Name x pos) X.env) Q E s:=by
 obtain ⟨mb,h1,h2⟩:=I.mod.blt
 exact Calls.Name_function_global I.ok.kind hg (Calls.loadGlobal_builtin (by rw [I.ok.glob]; exact I.mod.glob.keeps I.bk) hm (by rw [I.ok.blt]; exact h1.keeps I.bk) ((h2 x hn).trans hv) h) hd
noncomputable def t2I (ta tb:TE) (k:Int->Int->Hp->Prop):St->Hp->Prop:=fun σ H=>ta σ H fun x H1=>tb σ H1 fun y H2=>∃ i j,x=.int i/\y=.int j/\k i j H2
variable {a b:Expr} {ta tb:TE} {pos:Pos}
noncomputable def tCmp (p:Int->Int->Bool) (ta tb:TE):TE:=fun σ H Q=>t2I ta tb (fun i j H2=>Q (.bl (p i j)) H2) σ H
noncomputable abbrev tLt:TE->TE->TE:=tCmp fun i j=>decide (i < j)
noncomputable def tB (t:TE):TT:=fun σ H Q=>t σ H fun x H1=>∃ c,x=.bl c/\Q c H1
variable {tA tB':TT} {rest:List Expr}
noncomputable def tAnd (t u:TT):TT:=fun σ H Q=>t σ H fun c H1=>if c=true then u σ H1 Q else Q false H1
noncomputable def tOr (t u:TT):TT:=fun σ H Q=>t σ H fun c H1=>if c=true then Q true H1 else u σ H1 Q
noncomputable def tNot (t:TT):TT:=fun σ H Q=>t σ H fun c H1=>Q (!c) H1
theorem aFz (ha:PT X a tA):PW X (.BoolOp .And [a] pos) tA:=by
 intro wh pins s σ H Q I h
 refine isTrue_and (thn (ha pins s σ H Q I h) fun c s1 e=>?_)
 cases c with
 | true=>exact isTrue_and_nil e
 | false=>exact e
theorem aLk (ha:PT X a tA):PW X (.BoolOp .Or [a] pos) tA:=by
 intro wh pins s σ H Q I h
 refine isTrue_or (thn (ha pins s σ H Q I h) fun c s1 e=>?_)
 cases c with
 | false=>exact isTrue_or_nil e
 | true=>exact e
theorem aJi (ha:PT X a tA) (hb:PW X (.BoolOp .And (b::rest) pos) tB'):PW X (.BoolOp .And (a::b::rest) pos) (tAnd tA tB'):=by
 intro wh pins s σ H Q I h
 refine isTrue_and (thn (ha pins s σ H _ I h) fun c s1 ⟨H1,I1,q1⟩=>?_)
 cases c with
 | true=>exact hb wh pins s1 σ H1 Q I1 q1
 | false=>exact ⟨H1,I1,q1⟩
theorem aMt (ha:PT X a tA) (hb:PW X (.BoolOp .Or (b::rest) pos) tB'):PW X (.BoolOp .Or (a::b::rest) pos) (tOr tA tB'):=by
 intro wh pins s σ H Q I h
 refine isTrue_or (thn (ha pins s σ H _ I h) fun c s1 ⟨H1,I1,q1⟩=>?_)
 cases c with
 | true=>exact ⟨H1,I1,q1⟩
 | false=>exact hb wh pins s1 σ H1 Q I1 q1
noncomputable def tIf (t:TT) (ta tb:TE):TE:=fun σ H Q=>t σ H fun c H1=>if c=true then ta σ H1 Q else tb σ H1 Q
theorem aDi {c:Expr} (hc:PT X c tA) (ha:PE X a ta) (hb:PE X b tb):PE X (.IfExp c a b pos) (tIf tA ta tb):=by
 intro pins s σ H Q I h
 refine wpAny_IfExp (thn (hc pins s σ H _ I h) fun d s1 ⟨H1,I1,q1⟩=>?_)
 cases d with
 | true=>exact ha pins s1 σ H1 Q I1 q1
 | false=>exact hb pins s1 σ H1 Q I1 q1
end
end L2
namespace L2
open PySem PySem.Spec PyProof.Rows
noncomputable def SqL (K:PySem.W.Frag) (H:Hp) (a:Addr) (xs:List V):Prop :=
 Rd H a (.lst xs) \/
  ∃ (o:Obj) (its:Array Value) (n:Nat),K.lookup a=some o/\o.cls=.type "list"/\o.dict=none/\o.data=.seq its n/\its.size<=sizeLine/\Vals xs its.toList
noncomputable def SqT (K:PySem.W.Frag) (H:Hp) (a:Addr) (xs:List V):Prop :=
 Rd H a (.tup xs) \/
  ∃ (o:Obj) (its:Array Value) (n:Nat),K.lookup a=some o/\o.cls=.type "tuple"/\o.data=.seq its n/\its.size<=sizeLine/\Vals xs its.toList
noncomputable def absV:Value->Option V
 | .none=>some .non
 | .bool b=>some (.bl b)
 | .int i _=>some (.int i)
 | .str x _=>some (.str x)
 | .bytes b _=>some (.byt b)
 | .float b _=>some (.flt b)
 | .ref a=>some (.ref a)
 | .type n=>some (.ty n)
 | _=>none
theorem RelV.abs {x:V} {u:Value} (r:RelV x u):absV u=some x:=by
 cases x with
 | non=>cases r; rfl
 | bl _=>cases r; rfl
 | int _=>obtain ⟨t,rfl⟩:=r; rfl
 | str _=>obtain ⟨t,rfl⟩:=r; rfl
 | byt _=>obtain ⟨t,rfl⟩:=r; rfl
 | flt _=>obtain ⟨t,rfl⟩:=r; rfl
 | ref _=>cases r; rfl
 | ty _=>cases r; rfl
theorem RelV.inj {x y:V} {u:Value} (r:RelV x u) (q:RelV y u):x=y:=Option.some.inj (r.abs.symm.trans q.abs)
theorem Vals.inj:∀ {xs ys:List V} {us:List Value},Vals xs us->Vals ys us->xs=ys
 | _,_,_,.nil,.nil=>rfl
 | _,_,_,.cons r t,.cons r' t'=>by rw [r.inj r',Vals.inj t t']
section
variable {X:Cx} {pins:List (Addr×Obj)} {σ:St} {H:Hp} {s:Shared} {a:Addr} {xs ys:List V}
theorem SqL.of {K:PySem.W.Frag} (h:H a=some (.lst xs)):SqL K H a xs:=.inl (.inl h)
theorem SqT.of {K:PySem.W.Frag} (h:H a=some (.tup xs)):SqT K H a xs:=.inl (.inl h)
theorem Inv.list (I:Inv X pins σ H s) (h:SqL X.K H a xs):∃ its:List Value,Vals xs its/\PlainL s.heap a its.toArray/\xs.length<=sizeLine:=by
 rcases h with h | ⟨o,its,n,hk,hc,hd,hs,hz,r⟩
 ·obtain ⟨z,its,n,r,e⟩:=h.ok I.hok
  exact ⟨its,r,⟨_,n,e,rfl,rfl,rfl⟩,z⟩
 ·refine ⟨its.toList,r,⟨o,n,I.kIn a o hk,hc,hd,by simpa using hs⟩,?_⟩
  have e:=r.length
  simp only [Array.length_toList] at e
  omega
theorem Inv.tuple (I:Inv X pins σ H s) (h:SqT X.K H a xs):∃ its:List Value,Vals xs its/\IsTup s.heap a its.toArray/\xs.length<=sizeLine:=by
 rcases h with h | ⟨o,its,n,hk,hc,hs,hz,r⟩
 ·obtain ⟨z,its,r,p⟩:=h.ok I.hok
  exact ⟨its,r,p,z⟩
 ·refine ⟨its.toList,r,⟨o,I.kIn a o hk,hc,n,by simpa using hs⟩,?_⟩
  have e:=r.length
  simp only [Array.length_toList] at e
  omega
theorem Inv.list_inj (I:Inv X pins σ H s) (h:SqL X.K H a xs) (h':SqL X.K H a ys):xs=ys:=by
 obtain ⟨its,r,⟨o,n,e,_,_,d⟩,_⟩:=I.list h
 obtain ⟨its',r',⟨o',n',e',_,_,d'⟩,_⟩:=I.list h'
 rw [e] at e'; cases e'
 rw [d] at d'
 injection d' with d1 _
 have:its=its':=by simpa using congrArg Array.toList d1
 subst this
 exact r.inj r'
theorem Inv.tuple_inj (I:Inv X pins σ H s) (h:SqT X.K H a xs) (h':SqT X.K H a ys):xs=ys:=by
 obtain ⟨its,r,⟨o,e,_,n,d⟩,_⟩:=I.tuple h
 obtain ⟨its',r',⟨o',e',_,n',d'⟩,_⟩:=I.tuple h'
 rw [e] at e'; cases e'
 rw [d] at d'
 injection d' with d1 _
 have:its=its':=by simpa using congrArg Array.toList d1
 subst this
 exact r.inj r'
end
noncomputable abbrev Cx.wish (X:Cx) (E:Value->Shared->Prop):Cx:={ X with xe:=E }
noncomputable abbrev Cx.nox (X:Cx):Cx:=X.wish fun _ _=>False
theorem Cx.Ok.wish {X:Cx} (ok:X.Ok) (E:Value->Shared->Prop):(X.wish E).Ok :=
 ⟨ok.mod,ok.kind,ok.glob,ok.blt,ok.above,ok.inj,ok.has,ok.cab,ok.hd,ok.frames,ok.stk,ok.exf,ok.bs,ok.bsz,ok.noex,ok.exfs,ok.funs,ok.frf⟩
theorem Cx.Ok.unwish {X:Cx} {E:Value->Shared->Prop} (ok:(X.wish E).Ok):X.Ok :=
 ⟨ok.mod,ok.kind,ok.glob,ok.blt,ok.above,ok.inj,ok.has,ok.cab,ok.hd,ok.frames,ok.stk,ok.exf,ok.bs,ok.bsz,ok.noex,ok.exfs,ok.funs,ok.frf⟩
section
variable {X:Cx} {pins:List (Addr×Obj)} {σ:St} {H:Hp} {s:Shared} {E:Value->Shared->Prop}
theorem Inv.wish (I:Inv X pins σ H s) (E:Value->Shared->Prop):Inv (X.wish E) pins σ H s:=⟨I.ok.wish E,I.os,I.bare,I.base,I.loc,I.cell,I.free,I.freeC,I.pin,I.hok,I.len⟩
theorem Inv.unwish (I:Inv (X.wish E) pins σ H s):Inv X pins σ H s:=⟨I.ok.unwish,I.os,I.bare,I.base,I.loc,I.cell,I.free,I.freeC,I.pin,I.hok,I.len⟩
theorem SP.unwish {D:Ends} {f:Flow} {s':Shared} (h:SP (X.wish E) pins D f s'):SP X pins D f s':=by
 cases f with
 | next=>obtain ⟨σ',H',I,q⟩:=h; exact ⟨σ',H',I.unwish,q⟩
 | brk=>obtain ⟨σ',H',I,q⟩:=h; exact ⟨σ',H',I.unwish,q⟩
 | cont=>obtain ⟨σ',H',I,q⟩:=h; exact ⟨σ',H',I.unwish,q⟩
 | ret u=>obtain ⟨v,σ',H',I,r,q⟩:=h; exact ⟨v,σ',H',I.unwish,r,q⟩
theorem PE.nox {e:Expr} {t:TE} (h:PE X.nox e t):PE X e t:=fun pins s σ H Q I hw =>
 wpAny_mono (h pins s σ H Q (I.wish _) hw) (fun _ _ ⟨v,H',I',r,q⟩=>⟨v,H',I'.unwish,r,q⟩) fun _ _ z=>False.elim z
theorem PT.nox {e:Expr} {t:TT} (h:PT X.nox e t):PT X e t:=fun pins s σ H Q I hw =>
 wpAny_mono (h pins s σ H Q (I.wish _) hw) (fun _ _ ⟨H',I',q⟩=>⟨H',I'.unwish,q⟩) fun _ _ z=>False.elim z
theorem PSs.nox {st:List Stmt} {t:TS} (h:PSs X.nox st t):PSs X st t:=fun pins s σ H D I hw =>
 wpAny_mono (h pins s σ H D (I.wish _) hw) (fun _ _ q=>q.unwish) fun _ _ z=>False.elim z
end
section
variable {X:Cx} {st:Stmt} {rest:List Stmt} {t u:TS} {e:Expr} {te:TE} {pos:Pos}
noncomputable def tNext:TS:=fun D σ H=>D.nx σ H
noncomputable def tSeq (t u:TS):TS:=fun D σ H=>t { D with nx:=u D } σ H
theorem aGo:PSs X [] tNext:=fun _ _ σ H _ I h=>wpAny_execs_nil ⟨σ,H,I,h⟩
theorem aEp (h1:PS X st t) (h2:PSs X rest u):PSs X (st::rest) (tSeq t u):=by
 intro pins s σ H D I h
 refine wpAny_execs_cons (thn (h1 pins s σ H { D with nx:=u D } I h) fun f s1 q=>?_)
 cases f with
 | next =>
  obtain ⟨σ',H',I',q⟩:=q
  exact h2 pins s1 σ' H' D I' q
 | ret v=>exact q
 | brk=>exact q
 | cont=>exact q
theorem aGb (h1:PS X st t):PSs X [st] t:=by
 intro pins s σ H D I h
 refine wpAny_execs_cons (thn (h1 pins s σ H D I h) fun f s1 q=>?_)
 cases f with
 | next=>exact wpAny_execs_nil q
 | ret v=>exact q
 | brk=>exact q
 | cont=>exact q
theorem Inv.quiet {pins:List (Addr×Obj)} {σ:St} {H:Hp} {s:Shared} (I:Inv X pins σ H s):interactive X.env=false:=by simp [interactive,I.ok.kind]
noncomputable def tDrop (te:TE):TS:=fun D σ H=>te σ H fun _ H1=>D.nx σ H1
theorem aFa (he:PE X e te) (hs:swapsWith e none pos.line X.env=pure false:=by rfl):PS X (.Expr e pos) (tDrop te):=by
 intro pins s σ H D I h
 exact wpAny_Expr_any (thn (he pins s σ H _ I h) fun v s1 ⟨x,H1,I1,r1,q1⟩=>⟨σ,H1,I1,q1⟩) I.quiet hs
noncomputable def tRet (te:TE):TS:=fun D σ H=>te σ H D.rt
theorem aKh (he:PE X e te):PS X (.Return (some e) pos) (tRet te):=by
 intro pins s σ H D I h
 exact wpAny_Return_some (thn (he pins s σ H _ I h) fun v s1 ⟨x,H1,I1,r1,q1⟩=>⟨x,σ,H1,I1,r1,q1⟩)
noncomputable def tIfS (c:TT) (t u:TS):TS:=fun D σ H=>c σ H fun b H1=>if b=true then t D σ H1 else u D σ H1
theorem aNj {c:Expr} {a b:List Stmt} {tc:TT} (hc:PT X c tc) (ha:PSs X a t) (hb:PSs X b u):PS X (.If c a b pos) (tIfS tc t u):=by
 intro pins s σ H D I h
 refine wpAny_If (thn (hc pins s σ H _ I h) fun d s1 ⟨H1,I1,q1⟩=>?_)
 cases d with
 | true=>exact ha pins s1 σ H1 D I1 q1
 | false=>exact hb pins s1 σ H1 D I1 q1
noncomputable def tNever:TS:=fun _ _ _=>False
theorem aEu:PS X st tNever:=fun _ _ _ _ _ _ h=>h.elim
end
noncomputable abbrev TG:=V->St->Hp->(St->Hp->Prop)->Prop
noncomputable abbrev TGs:=List V->St->Hp->(St->Hp->Prop)->Prop
noncomputable def PG (X:Cx) (target:Expr) (t:TG):Prop :=
 ∀ (pins:List (Addr×Obj)) (s:Shared) (σ:St) (H:Hp) (v:V) (u:Value) (Q:St->Hp->Prop),Inv X pins σ H s->RelV v u->t v σ H Q ->
  wpAny (model X.prog X.w) X.A (assign target X.env u) (fun _ s'=>∃ σ' H',Inv X pins σ' H' s'/\Q σ' H') X.xe s
noncomputable def PGs (X:Cx) (ts:List Expr) (t:TGs):Prop :=
 ∀ (pins:List (Addr×Obj)) (s:Shared) (σ:St) (H:Hp) (vs:List V) (us:List Value) (Q:St->Hp->Prop),Inv X pins σ H s->Vals vs us->t vs σ H Q ->
  wpAny (model X.prog X.w) X.A (assignInOrder ((assignEach ts X.env).map (·.2)) us) (fun _ s'=>∃ σ' H',Inv X pins σ' H' s'/\Q σ' H') X.xe s
noncomputable abbrev TSet:=V->V->V->Hp->(Hp->Prop)->Prop
noncomputable def PSet (X:Cx) (t:TSet):Prop :=
 ∀ (pins:List (Addr×Obj)) (s:Shared) (σ:St) (H:Hp) (o i v:V) (ov iv u:Value) (Q:Hp->Prop),Inv X pins σ H s->RelV o ov->RelV i iv->RelV v u->t o i v H Q ->
  wpAny (model X.prog X.w) X.A (setItem ov iv u) (fun _ s'=>∃ H',Inv X pins σ H' s'/\Q H') X.xe s
noncomputable abbrev TIp:=V->V->Hp->VK->Prop
noncomputable def PIp (X:Cx) (op:Operator) (t:TIp):Prop :=
 ∀ (pins:List (Addr×Obj)) (s:Shared) (σ:St) (H:Hp) (x y:V) (v u:Value) (Q:VK),Inv X pins σ H s->RelV x v->RelV y u->t x y H Q ->
  wpAny (model X.prog X.w) X.A (inplaceOp op v u) (EP X pins σ Q) X.xe s
section
variable {X:Cx} {pos:Pos}
noncomputable def gName (i:Nat):TG:=fun v σ H Q=>Q (σ.set i (some v)) H
theorem aHp {i:Nat} {x:Str} (hN:X.N.Nodup) (hi:X.N[i]?=some x) (hx:Loc X.env.scope x) (hf:X.fn x=true\/X.env.scope.names.lookup x=some .local:=by first | exact .inl rfl | exact .inr rfl | assumption):PG X (.Name x pos) (gName i):=by
 intro pins s σ H v u Q I r h
 exact wpAny_assign_Name (iQ I hN hi hx r (fun s' I'=>⟨_,H,I',h⟩) hf)
noncomputable def gNil:TGs:=fun vs σ H Q=>vs=[]/\Q σ H
noncomputable def gCons (t:TG) (u:TGs):TGs:=fun vs σ H Q=>∃ v r,vs=v::r/\t v σ H fun σ' H'=>u r σ' H' Q
theorem aFf:PGs X [] gNil:=by
 intro pins s σ H vs us Q I r h
 obtain ⟨e,h⟩:=h
 subst e
 cases r
 exact assignInOrder_nil ⟨σ,H,I,h⟩
theorem aCm {e:Expr} {es:List Expr} {t:TG} {u:TGs} (h1:PG X e t) (h2:PGs X es u)
  (hs:(assignEach (e::es) X.env).map (·.2)=assign e X.env::(assignEach es X.env).map (·.2):=by rfl):PGs X (e::es) (gCons t u):=by
 intro pins s σ H vs us Q I r h
 obtain ⟨v,vr,e1,h⟩:=h
 subst e1
 cases r with
 | cons r rr =>
  rw [hs]
  refine assignInOrder_cons (thn (h1 pins s σ H _ _ _ I r h) fun _ s1 ⟨σ1,H1,I1,q1⟩=>?_)
  exact h2 pins s1 σ1 H1 _ _ Q I1 rr q1
noncomputable def gTup (K:PySem.W.Frag) (n:Nat) (t:TGs):TG:=fun v σ H Q=>∃ a xs,v=.ref a/\SqT K H a xs/\xs.length=n/\t xs σ H Q
theorem aLn {es:List Expr} {k:Nat} {t:TGs} {n:Nat} (hc:X.calm=true) (h:PGs X es t)
  (hn:(assignEach es X.env).length=n:=by rfl) (hst:(assignEach es X.env).findIdx? (·.1)=none:=by rfl):PG X (.Tuple es k pos) (gTup X.K n t):=by
 intro pins s σ H v u Q I r hw
 obtain ⟨a,xs,e1,hq,hl,hw⟩:=hw
 subst e1
 cases r
 obtain ⟨its,rv,ht,hz⟩:=I.tuple hq
 refine assign_Tuple_tuple (I.ok.hd hc) ht (by simp [hn,<- hl,rv.length]) hst fun h' hx=>?_
 have I1:Inv X pins σ H { s with heap:=h' }:=I.kept (t':=s.toks) fun b o e=>hx b o (Nat.ne_of_lt (Heap.lt_size e)) e
 exact h pins _ σ H xs _ Q I1 (by simpa using rv) hw
noncomputable def gSub (to ti:TE) (t:TSet):TG:=fun v σ H Q=>to σ H fun o H1=>ti σ H1 fun i H2=>t o i v H2 fun H3=>Q σ H3
theorem aIv {o i:Expr} {to ti:TE} {t:TSet} (ho:PE X o to) (hi:PE X i ti) (hs:PSet X t)
  (ha:∀ v,assign (.Subscript o i pos) X.env v=(do
   let ov <- holding [v] (eval o X.env)
   let iv <- holding [v,ov] (eval i X.env)
   standAt pos
   holding [v,ov,iv] (setItem ov iv v)
   release [v,ov,iv] []):=by intro _; rfl):PG X (.Subscript o i pos) (gSub to ti t):=by
 intro pins s σ H v u Q I r h
 rw [ha]
 refine wpAny_bind (wpAny_holding (thn (ho pins s σ H _ I h) fun ov s1 ⟨x,H1,I1,r1,q1⟩=>?_))
 refine wpAny_bind (wpAny_holding (thn (hi pins s1 σ H1 _ I1 q1) fun iv s2 ⟨y,H2,I2,r2,q2⟩=>?_))
 refine wpAny_bind (wpAny_standAt (wpAny_bind (wpAny_holding (thn (hs pins s2 σ H2 x y v ov iv u _ I2 r1 r2 r q2) fun _ s3 ⟨H3,I3,q3⟩=>?_))))
 exact wpAny_release ⟨σ,H3,I3,q3⟩
noncomputable def tAsg (te:TE) (g:TG):TS:=fun D σ H=>te σ H fun x H1=>g x σ H1 D.nx
theorem aLu {tg e:Expr} {te:TE} {g:TG} (he:PE X e te) (hg:PG X tg g) (hs:swapsWithSole [tg] e pos.line X.env=pure false:=by rfl) (hw:swappedStores [tg] e X.env=pure none:=by rfl)
  (h1:(assignEach [tg] X.env).map (·.2)=[assign tg X.env]:=by rfl):PS X (.Assign [tg] e pos) (tAsg te g):=by
 intro pins s σ H D I h
 refine wpAny_Assign_stores (thn (he pins s σ H _ I h) fun v s1 ⟨x,H1,I1,r1,q1⟩=>?_) hs hw
 rw [h1]
 exact thn (hg pins s1 σ H1 x v _ I1 r1 q1) fun _ s2 q=>q
theorem aLc {i:Nat} {x:Str} {e:Expr} {te:TE} {pos':Pos} (hN:X.N.Nodup) (hi:X.N[i]?=some x) (hx:Loc X.env.scope x) (he:PE X e te) (hs:swapsWith e (some (.Name x pos')) pos.line X.env=pure false:=by rfl) (hf:X.fn x=true\/X.env.scope.names.lookup x=some .local:=by first | exact .inl rfl | exact .inr rfl | assumption) :
  PS X (.Assign [.Name x pos'] e pos) (tAsg te (gName i)):=by
 intro pins s σ H D I h
 refine wpAny_Assign_Name (thn (he pins s σ H _ I h) fun v s1 ⟨y,H1,I1,r1,q1⟩=>?_) hs
 exact iQ I1 hN hi hx r1 (fun s2 I2=>⟨_,H1,I2,q1⟩) hf
noncomputable def tPar (i j:Nat) (ta:TA):TS:=fun D σ H=>ta σ H fun vs H1=>∃ v w,vs=[v,w]/\D.nx ((σ.set i (some v)).set j (some w)) H1
theorem aJf {i j:Nat} {x y:Str} {a b:Expr} {ta:TA} {px py pt:Pos} {kt k2 pt2} (hc:X.calm=true) (hN:X.N.Nodup) (hi:X.N[i]?=some x) (hj:X.N[j]?=some y) (hij:i≠j)
  (hx:X.env.scope.names.lookup x=some .local) (hy:X.env.scope.names.lookup y=some .local) (ha:PA X [a,b] ta)
  (hw:swappedStores [.Tuple [.Name x px,.Name y py] kt pt] (.Tuple [a,b] k2 pt2) X.env=pure (some [x,y]))
  (hs:swapsWithSole [.Tuple [.Name x px,.Name y py] kt pt] (.Tuple [a,b] k2 pt2) pos.line X.env=pure false:=by rfl) :
  PS X (.Assign [.Tuple [.Name x px,.Name y py] kt pt] (.Tuple [a,b] k2 pt2) pos) (tPar i j ta):=by
 intro pins s σ H D I h
 rw [exec_Assign_arm]
 refine wpAny_bind (wpAny_standAt ?_)
 rw [hs]
 refine wpAny_bind (wpAny_pure ?_)
 rw [if_neg (by decide)]
 refine wpAny_bind (Tuple_ (thn (ha _ pins s σ H _ I h) fun us s1 ⟨vs,H1,I1,r1,q1⟩=>?_))
 obtain ⟨v,w,e1,q1⟩:=q1
 subst e1
 obtain ⟨u1,u2,rfl,rv,rw'⟩:∃ u1 u2,us=[u1,u2]/\RelV v u1/\RelV w u2:=by
  cases r1 with
  | cons p q =>
   cases q with
   | cons p' q' =>
    cases q'
    exact ⟨_,_,rfl,p,p'⟩
 refine wpAny_newObj_type ?_ (by show 2<=sizeLine; decide)
 have I2:Inv X pins σ H1 { s1 with heap:=s1.heap.push { cls:=.type "tuple",data:=.seq [u1,u2].toArray } }:=I1.kept (t':=s1.toks) fun b o e=>Heap.get?_push_of_some _ e
 rw [hw]
 refine wpAny_bind (wpAny_pure ?_)
 show wpAny (model X.prog X.w) X.A (do rule "assign.swapped-stores"; let items <- unpackItems (.ref s1.heap.objs.size) 2 none; assignInOrder [fun v=>bindName X.env y v,fun v=>bindName X.env x v] items.reverse; pure Flow.next) _ _ _
 refine wpAny_bind (wpAny_rule (wpAny_bind (unpackItems_tuple (items:=#[u1,u2]) (I.ok.hd hc) (IsTup.new s1.heap _) fun h' hx'=>?_)))
 have I3:=I2.kept (h':=h') (t':=s1.toks) fun b o e=>hx' b o (Nat.ne_of_lt (Heap.lt_size e)) e
 show wpAny _ _ (assignInOrder [fun v=>bindName X.env y v,fun v=>bindName X.env x v] [u2,u1] >>= fun _=>pure Flow.next) _ _ _
 refine wpAny_bind (assignInOrder_cons (wpAny_bindName (iQ I3 hN hj (.inl hy) rw' (fun s2 I4=>?_) (.inr hy))))
 refine assignInOrder_cons (wpAny_bindName (iQ I4 hN hi (.inl hx) rv (fun s3 I5=>assignInOrder_nil (wpAny_pure ?_)) (.inr hx)))
 rw [List.set_comm _ _ (Ne.symm hij)] at I5
 exact ⟨_,H1,I5,q1⟩
noncomputable def tAug (i:Nat) (te:TE) (ti:TIp):TS:=fun D σ H=>∃ x,σ[i]?=some (some x)/\te σ H fun y H1=>ti x y H1 fun z H2=>D.nx (σ.set i (some z)) H2
theorem aLh {i:Nat} {x:Str} {e:Expr} {te:TE} {op:Operator} {ti:TIp} {pos':Pos} (hN:X.N.Nodup) (hi:X.N[i]?=some x) (hx:Loc X.env.scope x) (he:PE X e te) (ho:PIp X op ti) (hf:X.fn x=true\/X.env.scope.names.lookup x=some .local:=by first | exact .inl rfl | exact .inr rfl | assumption) :
  PS X (.AugAssign (.Name x pos') op e pos) (tAug i te ti):=by
 intro pins s σ H D I h
 obtain ⟨v,e1,h⟩:=h
 obtain ⟨m,hn,hl⟩:=I.loc
 have vis:Vis X.env.scope x:=by rcases hx with k | k; exact .inl k; exact .inr (.inl k)
 obtain ⟨u,r,l⟩:=hl i x v hi e1 vis
 refine wpAny_AugAssign_Name ?_
 have go:wpAny (model X.prog X.w) X.A (eval e X.env) (fun w s₂=>wpAny (model X.prog X.w) X.A (inplaceOp op u w) (fun r s₃=>wpAny (model X.prog X.w) X.A (storeName X.env x r) (fun _=>SP X pins D .next) X.xe s₃) X.xe s₂) X.xe s:=by
  refine thn (he pins s σ H _ I h) fun w s1 ⟨y,H1,I1,r1,q1⟩=>?_
  refine thn (ho pins s1 σ H1 v y u w _ I1 r r1 q1) fun z s2 ⟨zv,H2,I2,r2,q2⟩=>?_
  exact iQ I2 hN hi hx r2 (fun s3 I3=>⟨_,H2,I3,q2⟩) hf
 rcases l with ⟨hk,hm⟩ | ⟨hk,c,hc,hcell⟩
 ·exact wpAny_loadName_local I.ok.kind hk hn hm go
 ·rcases hk with hk | hk
  ·exact wpAny_loadName_cell I.ok.kind hk hc hcell go
  ·rcases hx with k | k
   ·have:X.env.scope.names.lookup x=some .free:=hk
    rw [k] at this; cases this
   ·have:X.env.scope.names.lookup x=some .free:=hk
    rw [k] at this; cases this
noncomputable def tAugS (to ti te:TE) (tget:V->V->Hp->VK->Prop) (tip:TIp) (tset:TSet):TS:=fun D σ H=>to σ H fun o H1=>ti σ H1 fun i H2=>tget o i H2 fun x H3=>te σ H3 fun y H4=>tip x y H4 fun z H5=>tset o i z H5 fun H6=>D.nx σ H6
noncomputable def PGet (X:Cx) (t:V->V->Hp->VK->Prop):Prop :=
 ∀ (pins:List (Addr×Obj)) (s:Shared) (σ:St) (H:Hp) (o i:V) (ov iv:Value) (Q:VK),Inv X pins σ H s->RelV o ov->RelV i iv->t o i H Q ->
  wpAny (model X.prog X.w) X.A (getItem ov iv) (EP X pins σ Q) X.xe s
theorem aFd {o i e:Expr} {to ti te:TE} {tget:V->V->Hp->VK->Prop} {tip:TIp} {tset:TSet} {op:Operator} {tpos:Pos} (ho:PE X o to) (hi:PE X i ti) (hg:PGet X tget) (he:PE X e te) (hp:PIp X op tip) (hs:PSet X tset)
  (ha:∀ ov iv new,augStore i ov iv new=(do holding [new,ov,iv] (setItem ov iv new); release [new,ov,iv] []; pure .next):=by intros; rfl):PS X (.AugAssign (.Subscript o i tpos) op e pos) (tAugS to ti te tget tip tset):=by
 intro pins s σ H D I h
 refine wpAny_AugAssign_SubscriptAny (thn (ho pins s σ H _ I h) fun ov s1 ⟨x1,H1,I1,r1,q1⟩=>?_) ha
 refine thn (hi pins s1 σ H1 _ I1 q1) fun iv s2 ⟨x2,H2,I2,r2,q2⟩=>?_
 refine thn (hg pins s2 σ H2 x1 x2 ov iv _ I2 r1 r2 q2) fun old s3 ⟨x3,H3,I3,r3,q3⟩=>?_
 refine thn (he pins s3 σ H3 _ I3 q3) fun v s4 ⟨x4,H4,I4,r4,q4⟩=>?_
 refine thn (hp pins s4 σ H4 x3 x4 old v _ I4 r3 r4 q4) fun new s5 ⟨x5,H5,I5,r5,q5⟩=>?_
 exact thn (hs pins s5 σ H5 x1 x2 x5 ov iv new _ I5 r1 r2 r5 q5) fun _ s6 ⟨H6,I6,q6⟩=>⟨σ,H6,I6,q6⟩
noncomputable def ipI (f:Int->Int->Int):TIp:=fun x y H Q=>∃ i j,x=.int i/\y=.int j/\Q (.int (f i j)) H
theorem aJa:PIp X .Sub (ipI fun i j=>i - j):=by
 intro pins s σ H x y v u Q I r1 r2 h
 obtain ⟨i,j,e1,e2,q⟩:=h
 subst e1; subst e2
 obtain ⟨t,rfl⟩:=r1
 obtain ⟨t',rfl⟩:=r2
 exact isub_int ⟨.int _,H,I.tok _,⟨_,rfl⟩,q⟩
end
section
variable {X:Cx} {pos:Pos}
noncomputable def tWhile (c:TT) (tb:TS):TS:=fun D σ H=>∃ W:Nat->St->Hp->Prop,(∃ m,W m σ H)/\∀ m σ H,W m σ H ->
 c σ H fun b H1=>if b=true then ∃ N:St->Hp->Prop,(∀ σ' H',N σ' H'->∃ m',m' < m/\W m' σ' H')/\tb { D with nx:=N,ct:=N,bk:=D.nx } σ H1 else D.nx σ H1
theorem aCg {c:Expr} {body:List Stmt} {tc:TT} {tb:TS} (hp:PassesOwn (model X.prog X.w) X.A X.env X.xe) (hc:PT X c tc) (hb:PSs X body tb):PS X (.While c body [] pos) (tWhile tc tb):=by
 intro pins s σ H D I h
 obtain ⟨W,⟨m0,w0⟩,turn⟩:=h
 refine wpAny_While (codeAny_whileLoop (fun n s'=>∃ σ' H',Inv X pins σ' H' s'/\W n σ' H') ?_ m0 ⟨σ,H,I,w0⟩)
 rintro n s1 ⟨σ1,H1,I1,w1⟩
 refine wpAny_passesOwn hp (thn (hc pins s1 σ1 H1 _ I1 (turn n σ1 H1 w1)) fun b s2 ⟨H2,I2,q2⟩=>?_)
 cases b with
 | true =>
  obtain ⟨N,hN,q2⟩:=q2
  rw [if_pos rfl]
  refine wpAny_passesOwn hp (thn (hb pins s2 σ1 H2 _ I2 q2) fun f s3 q3=>?_)
  cases f with
  | next =>
   obtain ⟨σ3,H3,I3,n3⟩:=q3
   obtain ⟨m',hm,w3⟩:=hN σ3 H3 n3
   exact ⟨m',hm,σ3,H3,I3,w3⟩
  | cont =>
   obtain ⟨σ3,H3,I3,n3⟩:=q3
   obtain ⟨m',hm,w3⟩:=hN σ3 H3 n3
   exact ⟨m',hm,σ3,H3,I3,w3⟩
  | brk=>exact q3
  | ret v=>exact q3
 | false =>
  rw [if_neg Bool.false_ne_true]
  exact wpAny_execs_nil ⟨σ1,H2,I2,q2⟩
end
structure It where
 go:Nat->Hp->Prop
 yld:Nat->Hp->V->Hp->Prop
 stop:Nat->Hp->Prop
noncomputable def FpOk (X:Cx) (pins:List (Addr×Obj)) (H:Hp) (b:Addr):Prop :=
 H b=none/\b≠X.env.locals/\b∉X.fs/\(b∈X.ex\/X.s₀.heap.objs.size<=b)/\(∀ x c,X.env.cells.lookup x=some c->c≠b)/\∀ p∈X.pn++pins,p.1≠b
theorem Inv.fpOk {X:Cx} {pins:List (Addr×Obj)} {σ:St} {H H':Hp} {s:Shared} {b:Addr} (I:Inv X pins σ H s) (hb:s.heap.objs.size<=b) (hn:H' b=none):FpOk X pins H' b:=by
 refine ⟨hn,Nat.ne_of_gt (Nat.lt_of_lt_of_le I.lt hb),I.nofs hb,.inr (Nat.le_trans I.sz hb),fun x c e z=>?_,fun p hp z=>?_⟩
 ·obtain ⟨v,q⟩:=I.cell x c e
  exact absurd (Nat.lt_of_lt_of_le q.lt (by rw [z]; exact hb)) (Nat.lt_irrefl _)
 ·exact absurd (Nat.lt_of_lt_of_le (Heap.lt_size (I.pin p hp).1) (by rw [z]; exact hb)) (Nat.lt_irrefl _)
structure Turn (P:Program) (w:World) (K:PySem.W.Frag) (tg:Expr) (J:It) (fp:List Addr) (it:Addr) (tn:Nat->Heap->Prop):Prop where
 mem:it∈fp
 obj:∀ i h,tn i h->∀ b∈fp,∃ o,h.get? b=some o/\∀ v,o.data≠.cell v
 keep:∀ i h h',tn i h->(∀ b∈fp,∀ o,h.get? b=some o->h'.get? b=some o)->tn i h'
 item:∀ (X:Cx),X.prog=P->X.w=w->X.K=K->X.calm=true->∀ (i:Nat) (pins:List (Addr×Obj)) (s:Shared) (σ:St) (H:Hp) (E:Value->Shared->Prop),Inv X pins σ H s->(∀ b∈fp,FpOk X pins H b)->tn i s.heap->J.go i H ->
  wpAny (model P w) X.A (pyNext (.ref it)) (fun r s1=>∃ u,r=some u /\
   wpAny (model P w) X.A (letOwnedTupleGo tg (.ref it) u) (fun _ s2=>∃ x H',Inv X pins σ H' s2/\RelV x u/\J.yld i H x H'/\tn (i+1) s2.heap/\∀ b∈fp,H' b=none) E s1) E s
 done:∀ (X:Cx),X.prog=P->X.w=w->X.K=K->X.calm=true->∀ (i:Nat) (pins:List (Addr×Obj)) (s:Shared) (σ:St) (H:Hp) (E:Value->Shared->Prop),Inv X pins σ H s->(∀ b∈fp,FpOk X pins H b)->tn i s.heap->J.stop i H ->
  wpAny (model P w) X.A (pyNext (.ref it)) (fun r s1=>r=none/\Inv X pins σ H s1) E s
 self:∀ (A:Around) (i:Nat) (s:Shared) (Q:Value->Shared->Prop) (E:Value->Shared->Prop),tn i s.heap->Q (.ref it) s->wpAny (model P w) A (pyIter (.ref it)) Q E s
noncomputable abbrev TI:=St->Hp->(It->Hp->Prop)->Prop
noncomputable def PIE (X:Cx) (pins:List (Addr×Obj)) (σ:St) (tg:Expr) (R:It->Hp->Prop) (itv:Value) (s2:Shared):Prop :=
 ∃ (it:Addr) (fp:List Addr) (tn:Nat->Heap->Prop) (J:It) (H':Hp),itv=.ref it/\Inv X pins σ H' s2/\Turn X.prog X.w X.K tg J fp it tn/\tn 0 s2.heap/\(∀ b∈fp,FpOk X pins H' b)/\R J H'
noncomputable def PI (X:Cx) (tg iter:Expr) (wi:TI):Prop :=
 ∀ (pins:List (Addr×Obj)) (s:Shared) (σ:St) (H:Hp) (R:It->Hp->Prop),Inv X pins σ H s->wi σ H R ->
  wpAny (model X.prog X.w) X.A (eval iter X.env) (fun v s1=>wpAny (model X.prog X.w) X.A (pyIter v) (PIE X pins σ tg R) X.xe s1) X.xe s
theorem sX {M:Model} {A:Around} {E:Value->Shared->Prop} {s:Shared} {tg:Expr} {it:Addr} {u:Value} {o:Obj} {n:String} {vs:Array Value} {Q:Unit->Shared->Prop} (ho:s.heap.get? it=some o) (hc:o.cls=.type n) (hd:o.data=.fields vs)
  (hn:["enumerate","zip","dict_itemiterator","dict_reverseitemiterator","odict_iterator","itertools.zip_longest","itertools.pairwise"].contains n=false) (hQ:Q () s):wpAny M A (letOwnedTupleGo tg (.ref it) u) Q E s:=by
 unfold letOwnedTupleGo
 cases tg <;> first
  | exact wpAny_pure hQ
  | (cases u <;> first
    | exact wpAny_pure hQ
    | (refine wpAny_bind (wpAny_load ho ?_)
       rw [hc,hd]
       show wpAny M A (if (["enumerate","zip","dict_itemiterator","dict_reverseitemiterator","odict_iterator","itertools.zip_longest","itertools.pairwise"].contains n&&vs[0]?==some (rawInt _))=true then _ else _) Q E s
       rw [if_neg (by intro h; rw [hn,Bool.false_and] at h; cases h)]
       exact wpAny_pure hQ))
noncomputable def Itl (K:PySem.W.Frag) (a:Addr):It :=
 ⟨fun i H=>∃ xs x,SqL K H a xs/\xs[i]?=some x,fun i H x H'=>H'=H/\∀ xs,SqL K H a xs->xs[i]?=some x,fun i H=>∃ xs,SqL K H a xs/\xs.length<=i⟩
noncomputable def Itt (K:PySem.W.Frag) (a:Addr):It :=
 ⟨fun i H=>∃ xs x,SqT K H a xs/\xs[i]?=some x,fun i H x H'=>H'=H/\∀ xs,SqT K H a xs->xs[i]?=some x,fun i H=>∃ xs,SqT K H a xs/\xs.length<=i⟩
noncomputable def Itr (lo:Int) (n:Nat):It:=⟨fun i _=>i < n,fun i H x H'=>H'=H/\x=.int (lo+i),fun i _=>n<=i⟩
theorem aAt {P:Program} {w:World} {K:PySem.W.Frag} {tg:Expr} (a it:Addr):Turn P w K tg (Itl K a) [it] it (fun i h=>h.IsListIter it a i) where
 mem:=by simp
 obj:=fun i h st b hb=>by
  have e:b=it:=by simpa using hb
  subst e
  obtain ⟨o,e,c,d⟩:=st
  exact ⟨o,e,fun v z=>by rw [d] at z; cases z⟩
 keep:=fun i h h' st k=>st.at fun o e=>k it (by simp) o e
 item:=by
  intro X hP hw hK hc i pins s σ H E I hf st hg
  subst hP hw hK
  obtain ⟨xs,x,hq,hx⟩:=hg
  obtain ⟨its,rv,p,hz⟩:=I.list hq
  obtain ⟨u,hu,ru⟩:=rv.get hx
  obtain ⟨f0,f1,f2,f3,f4,f5⟩:=hf it (by simp)
  refine wpAny_pyNext_list_item st p.isList (x:=u) (by simpa using hu) fun h' st' sb=>?_
  have I1:Inv X pins σ H { s with heap:=h' }:=I.turned (t':=s.toks) (fun b o hb e=>(sb.2 b hb).trans e) f0 f1 f3 f4 f5
  obtain ⟨o,e,c,d⟩:=id st'
  exact ⟨u,rfl,sX (s:={ s with heap:=h' }) e c d (by decide) ⟨x,H,I1,ru,⟨rfl,fun ys hy=>by rw [I.list_inj hy hq]; exact hx⟩,st',fun b hb=>(hf b hb).1⟩⟩
 done:=by
  intro X hP hw hK hc i pins s σ H E I hf st hg
  subst hP hw hK
  obtain ⟨xs,hq,hx⟩:=hg
  obtain ⟨its,rv,p,hz⟩:=I.list hq
  obtain ⟨f0,f1,f2,f3,f4,f5⟩:=hf it (by simp)
  have hl:=rv.length
  exact wpAny_pyNext_list_end (I.ok.hd hc) st p.isList (by simp; omega) fun h' eb=>⟨rfl,I.turned (t':=s.toks) (fun b o hb e=>eb b o hb e) f0 f1 f3 f4 f5⟩
 self:=fun _ _ _ _ _ st h=>wpAny_pyIter_listiter st h
theorem vT {P:Program} {w:World} {K:PySem.W.Frag} {tg:Expr} (a it:Addr):Turn P w K tg (Itt K a) [it] it (fun i h=>h.IsTupleIter it a i) where
 mem:=by simp
 obj:=fun i h st b hb=>by
  have e:b=it:=by simpa using hb
  subst e
  obtain ⟨o,e,c,d⟩:=st
  exact ⟨o,e,fun v z=>by rw [d] at z; cases z⟩
 keep:=fun i h h' st k=>st.at fun o e=>k it (by simp) o e
 item:=by
  intro X hP hw hK hc i pins s σ H E I hf st hg
  subst hP hw hK
  obtain ⟨xs,x,hq,hx⟩:=hg
  obtain ⟨its,rv,p,hz⟩:=I.tuple hq
  obtain ⟨u,hu,ru⟩:=rv.get hx
  obtain ⟨f0,f1,f2,f3,f4,f5⟩:=hf it (by simp)
  refine wpAny_pyNext_tuple_item st (show s.heap.IsTuple a its.toArray from p) (x:=u) (by simpa using hu) fun h' st' sb=>?_
  have I1:Inv X pins σ H { s with heap:=h' }:=I.turned (t':=s.toks) (fun b o hb e=>(sb.2 b hb).trans e) f0 f1 f3 f4 f5
  obtain ⟨o,e,c,d⟩:=id st'
  exact ⟨u,rfl,sX (s:={ s with heap:=h' }) e c d (by decide) ⟨x,H,I1,ru,⟨rfl,fun ys hy=>by rw [I.tuple_inj hy hq]; exact hx⟩,st',fun b hb=>(hf b hb).1⟩⟩
 done:=by
  intro X hP hw hK hc i pins s σ H E I hf st hg
  subst hP hw hK
  obtain ⟨xs,hq,hx⟩:=hg
  obtain ⟨its,rv,p,hz⟩:=I.tuple hq
  obtain ⟨f0,f1,f2,f3,f4,f5⟩:=hf it (by simp)
  have hl:=rv.length
  exact wpAny_pyNext_tuple_end (I.ok.hd hc) st (show s.heap.IsTuple a its.toArray from p) (by simp; omega) fun h' eb=>⟨rfl,I.turned (t':=s.toks) (fun b o hb e=>eb b o hb e) f0 f1 f3 f4 f5⟩
 self:=fun _ _ _ _ _ st h=>wpAny_pyIter_tupleiter st h
theorem vA {P:Program} {w:World} {K:PySem.W.Frag} {tg:Expr} (it:Addr) (lo:Int) (n:Nat):Turn P w K tg (Itr lo n) [it] it (fun i h=>IsRangeIter h it (lo+(i:Nat)*1) ((n:Int) - (i:Nat)) 1) where
 mem:=by simp
 obj:=fun i h st b hb=>by
  have e:b=it:=by simpa using hb
  subst e
  exact ⟨_,st,fun v z=>by
   have z':Data.fields _=Data.cell v:=z
   cases z'⟩
 keep:=fun i h h' st k=>k it (by simp) _ st
 item:=by
  intro X hP hw hK hc i pins s σ H E I hf st hg
  subst hP hw hK
  obtain ⟨f0,f1,f2,f3,f4,f5⟩:=hf it (by simp)
  have W:=Walks.range (prog:=X.prog) (w:=X.w) (I.ok.hd hc) it lo 1 n
  refine W.item i s _ _ hg st fun v h' tk hv st' kk=>?_
  obtain ⟨t,rfl⟩:=hv
  have I1:Inv X pins σ H { s with heap:=h',toks:=tk }:=I.turned (fun b o hb e=>kk b o (by simpa using hb) e) f0 f1 f3 f4 f5
  refine ⟨_,rfl,sX (s:={ s with heap:=h',toks:=tk }) (n:="range_iterator") st' rfl rfl (by decide) ⟨.int (lo+i),H,I1,⟨t,?_⟩,⟨rfl,rfl⟩,st',fun b hb=>(hf b hb).1⟩⟩
  rw [Int.mul_one]
 done:=by
  intro X hP hw hK hc i pins s σ H E I hf st hg
  subst hP hw hK
  obtain ⟨f0,f1,f2,f3,f4,f5⟩:=hf it (by simp)
  exact wpAny_pyNext_range_end (I.ok.hd hc) st (by have:n<=i:=hg; omega) fun h' eb=>⟨rfl,I.turned (t':=s.toks) (fun b o hb e=>eb b o hb e) f0 f1 f3 f4 f5⟩
 self:=fun _ _ _ _ _ st h=>wpAny_pyIter_rangeiter st h
end L2
namespace L2
open PySem PySem.Spec PyProof.Rows
section
variable {X:Cx} {tg:Expr}
theorem uP {pins:List (Addr×Obj)} {σ:St} {H:Hp} {s:Shared} {R:It->Hp->Prop} {E:Value->Shared->Prop} {lo hi:Int} {t u v:Tok} {tk:Nat} (I:Inv X pins σ H s) (h1 : -(2 ^ 62)<=lo) (h2:lo < 2 ^ 62) (h3 : -(2 ^ 62)<=hi) (h4:hi < 2 ^ 62)
  (q:R (Itr lo (hi - lo).toNat) H):wpAny (model X.prog X.w) X.A (pyIter (.ref s.heap.objs.size)) (PIE X pins σ tg R) E { s with heap:=s.heap.push { cls:=.type "range",data:=.fields #[.int lo t,.int hi u,.int 1 v] },toks:=tk }:=by
 refine wpAny_pyIter_range (IsRange.new ..) (small_one h1 h2 h3 h4) ?_
 have I1:Inv X pins σ H { s with heap:=s.heap.push { cls:=.type "range",data:=.fields #[.int lo t,.int hi u,.int 1 v] },toks:=tk }:=I.kept fun b o e=>Heap.get?_push_of_some _ e
 refine ⟨(s.heap.push { cls:=.type "range",data:=.fields #[.int lo t,.int hi u,.int 1 v] }).objs.size,[(s.heap.push { cls:=.type "range",data:=.fields #[.int lo t,.int hi u,.int 1 v] }).objs.size],_,_,H,rfl,
  I1.kept (t':=tk) fun b o e=>Heap.get?_push_of_some _ e,vA _ lo (hi - lo).toNat,?_,fun b hb=>?_,q⟩
 ·have e1:lo+((0:Nat):Int)*1=lo:=by simp
  have e2:(((hi - lo).toNat:Nat):Int) - ((0:Nat):Int)=Builtin.Range.rangeSize lo hi 1:=by rw [rangeSize_one]; split <;> omega
  show IsRangeIter _ _ (lo+((0:Nat):Int)*1) ((((hi - lo).toNat:Nat):Int) - ((0:Nat):Int)) 1
  rw [e1,e2]
  exact Heap.get?_push_size _ rfl
 ·have e:b=(s.heap.push { cls:=.type "range",data:=.fields #[.int lo t,.int hi u,.int 1 v] }).objs.size:=by simpa using hb
  subst e
  exact I1.fpOk (Nat.le_refl _) (I1.hok.fresh (Nat.le_refl _))
noncomputable def iRng1 (ta:TA):TI:=fun σ H R=>ta σ H fun vs H1=>∃ j:Int,vs=[.int j] /\ -(2 ^ 62)<=j/\j < 2 ^ 62/\R (Itr 0 j.toNat) H1
noncomputable def iRng2 (ta:TA):TI:=fun σ H R=>ta σ H fun vs H1=>∃ i j:Int,vs=[.int i,.int j]/\(-(2 ^ 62)<=i/\i < 2 ^ 62 /\ -(2 ^ 62)<=j/\j < 2 ^ 62)/\R (Itr i (j - i).toNat) H1
theorem zD {a:Expr} {ta:TA} {p pos:Pos} (hg:Gl X "range") (hm:X.mg "range"=none) (ha:PA X [a] ta) (hs:starEach [a] X.env=[(false,eval a X.env)]:=by rfl):PI X tg (.Call (.Name "range" p) [a] [] pos) (iRng1 ta):=by
 intro pins s σ H R I h
 refine Call_ (iU I hg hm boot_range (PyProof.Rows.callWith_type1 (thn (ha pos pins s σ H _ I h) fun us s1 ⟨vs,H1,I1,r1,q1⟩=>?_) hs rfl))
 obtain ⟨j,e,q1,q2,q⟩:=q1
 subst e
 cases r1 with
 | cons r rr =>
  cases rr
  obtain ⟨t,rfl⟩:=r
  exact call_range_1 (uP I1 (by omega) (by omega) q1 q2 (by simpa using q))
theorem aAx {a b:Expr} {ta:TA} {p pos:Pos} (hg:Gl X "range") (hm:X.mg "range"=none) (ha:PA X [a,b] ta) (hs:starEach [a,b] X.env=[(false,eval a X.env),(false,eval b X.env)]:=by rfl) (hs2:starEach [b] X.env=[(false,eval b X.env)]:=by rfl) :
  PI X tg (.Call (.Name "range" p) [a,b] [] pos) (iRng2 ta):=by
 intro pins s σ H R I h
 refine Call_ (iU I hg hm boot_range (PyProof.Rows.callWith_type1 (thn (ha pos pins s σ H _ I h) fun us s1 ⟨vs,H1,I1,r1,q1⟩=>?_) (by rw [hs,hs2]) (by rw [hs2]; rfl)))
 obtain ⟨i,j,e,⟨q1,q2,q3,q4⟩,q⟩:=q1
 subst e
 cases r1 with
 | cons r rr =>
  cases rr with
  | cons r' rr =>
   cases rr
   obtain ⟨t,rfl⟩:=r
   obtain ⟨t',rfl⟩:=r'
   exact call_range_2 (uP I1 q1 q2 q3 q4 q)
noncomputable def tFor (wi:TI) (g:TG) (tb:TS):TS:=fun D σ H=>wi σ H fun J H1=>∃ W:Nat->Nat->St->Hp->Prop,(∃ m,W 0 m σ H1)/\∀ i m σ H,W i m σ H ->
 (J.stop i H/\D.nx σ H)\/(J.go i H/\∃ N:St->Hp->Prop,(∀ σ' H',N σ' H'->∃ m',m' < m/\W (i+1) m' σ' H')/\∀ x H',J.yld i H x H'->g x σ H' fun σ2 H2=>tb { D with nx:=N,ct:=N,bk:=D.nx } σ2 H2)
noncomputable def pinsAt (fp:List Addr) (h:Heap):List (Addr×Obj):=fp.filterMap fun b=>(h.get? b).map fun o=>(b,o)
theorem iB {fp:List Addr} {h:Heap} {b:Addr} {o:Obj} (hb:b∈fp) (e:h.get? b=some o):(b,o)∈pinsAt fp h:=List.mem_filterMap.mpr ⟨b,hb,by rw [e]; rfl⟩
theorem zW {fp:List Addr} {h:Heap} {p:Addr×Obj} (hp:p∈pinsAt fp h):p.1∈fp/\h.get? p.1=some p.2:=by
 obtain ⟨b,hb,e⟩:=List.mem_filterMap.mp hp
 cases q:h.get? b with
 | none=>rw [q] at e; cases e
 | some o =>
  rw [q] at e
  have e':(b,o)=p:=Option.some.inj e
  subst e'
  exact ⟨hb,q⟩
theorem Inv.pinned {pins:List (Addr×Obj)} {σ:St} {H:Hp} {s:Shared} {fp:List Addr} (I:Inv X pins σ H s) (hf:∀ b∈fp,FpOk X pins H b) (ho:∀ b∈fp,∃ o,s.heap.get? b=some o/\∀ v,o.data≠.cell v):Inv X (pins++pinsAt fp s.heap) σ H s :=
 I.pins_of fun p hp=>(List.mem_append.mp hp).elim (fun z=>I.pin p (List.mem_append_right _ z)) fun z=>by
  obtain ⟨hb,e⟩:=zW z
  obtain ⟨f0,f1,f2,_⟩:=hf p.1 hb
  obtain ⟨o,e',d⟩:=ho p.1 hb
  rw [e] at e'; cases e'
  exact ⟨e,f0,f1,f2,d⟩
theorem Inv.unpinned {pins pl:List (Addr×Obj)} {σ:St} {H:Hp} {s:Shared} (I:Inv X (pins++pl) σ H s):Inv X pins σ H s:=I.pins_of fun p hp=>I.pin p (List.mem_append_right _ (List.mem_append_left _ hp))
theorem aLa {iter:Expr} {body:List Stmt} {wi:TI} {g:TG} {tb:TS} {pos:Pos} (hp:PassesOwn (model X.prog X.w) X.A X.env X.xe) (hc:X.calm=true) (hi:PI X tg iter wi) (hg:PG X tg g) (hb:PSs X body tb)
  (hs:∀ x,foldedSetIterable iter X.env x=pure x:=by intro _; rfl):PS X (.For tg iter body [] pos) (tFor wi g tb):=by
 intro pins s σ H D I h
 refine wpAny_For (thn (hi pins s σ H _ I h) fun v s1 h1=>thn h1 fun itv s2 h2=>?_) hs
 obtain ⟨it,fp,tn,J,H2,e,I2,T,st2,f2,W,⟨m0,w0⟩,turn⟩:=h2
 subst e
 -- what stays true of the iterator's objects through the loop
 have stat:∀ {H':Hp},(∀ b∈fp,H' b=none)->∀ b∈fp,FpOk X pins H' b:=fun hn b hb=>⟨hn b hb,(f2 b hb).2⟩
 refine codeAny_forLoop_any (fun n s'=>∃ i σ' H',Inv X pins σ' H' s'/\tn i s'.heap/\(∀ b∈fp,H' b=none)/\W i n σ' H') ?_ m0 ⟨0,σ,H2,I2,st2,fun b hb=>(f2 b hb).1,w0⟩
 rintro n s3 ⟨i,σ3,H3,I3,st3,fr3,w3⟩
 rcases turn i n σ3 H3 w3 with ⟨stop,qn⟩ | ⟨go,N,hN,step⟩
 ·refine wpAny_passesOwn hp (thn (T.done X rfl rfl rfl hc i pins s3 σ3 H3 X.xe I3 (stat fr3) st3 stop) fun r s4 ⟨hr,I4⟩=>?_)
  subst hr
  exact wpAny_execs_nil ⟨σ3,H3,I4,qn⟩
 ·refine wpAny_passesOwn hp (thn (T.item X rfl rfl rfl hc i pins s3 σ3 H3 X.xe I3 (stat fr3) st3 go) fun r s4 ⟨u,hr,h4⟩=>?_)
  subst hr
  refine wpAny_passesOwn hp (thn h4 fun _ s5 ⟨x,H5,I5,r5,y5,st5,fr5⟩=>?_)
  have I5':=I5.pinned (stat fr5) (T.obj _ _ st5)
  refine wpAny_passesOwn hp (thn (hg _ s5 σ3 H5 x u _ I5' r5 (step x H5 y5)) fun _ s6 ⟨σ6,H6,I6,q6⟩=>?_)
  refine wpAny_passesOwn hp (thn (hb _ s6 σ6 H6 _ I6 q6) fun f s7 q7=>?_)
  have again:∀ {σ7:St} {H7:Hp},Inv X (pins++pinsAt fp s5.heap) σ7 H7 s7->N σ7 H7->∃ m,m < n/\∃ i σ' H',Inv X pins σ' H' s7/\tn i s7.heap/\(∀ b∈fp,H' b=none)/\W i m σ' H':=fun {σ7 H7} I7 n7=>by
   obtain ⟨m',hm,w7⟩:=hN σ7 H7 n7
   refine ⟨m',hm,i+1,σ7,H7,I7.unpinned,T.keep _ _ _ st5 fun b hb o e=>(I7.pin (b,o) (List.mem_append_right _ (List.mem_append_right _ (iB hb e)))).1,fun b hb=>?_,w7⟩
   obtain ⟨o,e,d⟩:=T.obj _ _ st5 b hb
   exact (I7.pin (b,o) (List.mem_append_right _ (List.mem_append_right _ (iB hb e)))).2.1
  cases f with
  | next=>obtain ⟨σ7,H7,I7,n7⟩:=q7; exact again I7 n7
  | cont=>obtain ⟨σ7,H7,I7,n7⟩:=q7; exact again I7 n7
  | brk=>obtain ⟨σ7,H7,I7,q7⟩:=q7; exact ⟨σ7,H7,I7.unpinned,q7⟩
  | ret v=>obtain ⟨x7,σ7,H7,I7,r7,q7⟩:=q7; exact ⟨x7,σ7,H7,I7.unpinned,r7,q7⟩
end
end L2
namespace L2
open PySem PySem.Spec PyProof.Rows
noncomputable abbrev R2:=V->V->Hp->VK->Prop
noncomputable def OpR (X:Cx) (f:Value->Value->Sem Value) (r:R2):Prop :=
 ∀ (pins:List (Addr×Obj)) (s:Shared) (σ:St) (H:Hp) (x y:V) (v u:Value) (Q:VK),Inv X pins σ H s->RelV x v->RelV y u->r x y H Q ->
  wpAny (model X.prog X.w) X.A (f v u) (EP X pins σ Q) X.xe s
noncomputable def UnR (X:Cx) (f:Value->Sem Value) (r:V->Hp->VK->Prop):Prop :=
 ∀ (pins:List (Addr×Obj)) (s:Shared) (σ:St) (H:Hp) (x:V) (v:Value) (Q:VK),Inv X pins σ H s->RelV x v->r x H Q ->
  wpAny (model X.prog X.w) X.A (f v) (EP X pins σ Q) X.xe s
noncomputable def CallR (X:Cx) (f:Value) (r:List V->Hp->VK->Prop):Prop :=
 ∀ (pins:List (Addr×Obj)) (s:Shared) (σ:St) (H:Hp) (xs:List V) (us:List Value) (Q:VK),Inv X pins σ H s->Vals xs us->r xs H Q ->
  wpAny (model X.prog X.w) X.A (call f us) (EP X pins σ Q) X.xe s
noncomputable def TruR (X:Cx) (r:V->Hp->(Bool->Hp->Prop)->Prop):Prop :=
 ∀ (pins:List (Addr×Obj)) (s:Shared) (σ:St) (H:Hp) (x:V) (v:Value) (Q:Bool->Hp->Prop),Inv X pins σ H s->RelV x v->r x H Q ->
  wpAny (model X.prog X.w) X.A (truthy v) (TP X pins σ Q) X.xe s
noncomputable def tOp (r:R2) (ta tb:TE):TE:=fun σ H Q=>ta σ H fun x H1=>tb σ H1 fun y H2=>r x y H2 Q
noncomputable def tUn (r:V->Hp->VK->Prop) (ta:TE):TE:=fun σ H Q=>ta σ H fun x H1=>r x H1 Q
noncomputable def rI (C:Int->Int->Prop) (g:Int->Int->V):R2:=fun x y H Q=>∃ i j,x=.int i/\y=.int j/\C i j/\Q (g i j) H
noncomputable def rI0 (g:Int->Int->V):R2:=fun x y H Q=>∃ i j,x=.int i/\y=.int j/\Q (g i j) H
noncomputable def rU (g:Int->V):V->Hp->VK->Prop:=fun x H Q=>∃ i,x=.int i/\Q (g i) H
section
variable {X:Cx} {a b c:Expr} {ta tb tc:TE} {pos:Pos}
theorem binT (ha:PE X a ta) (hb:PE X b tb) {pins:List (Addr×Obj)} {s:Shared} {σ:St} {H:Hp} {R:V->V->Hp->Prop} (I:Inv X pins σ H s)
  (h:ta σ H fun x H1=>tb σ H1 fun y H2=>R x y H2) {Q:Value->Shared->Prop} {f:Value->Value->Sem Value}
  (hf:∀ v u s2 x y H2,Inv X pins σ H2 s2->RelV x v->RelV y u->R x y H2->wpAny (model X.prog X.w) X.A (f v u) Q X.xe s2) :
  wpAny (model X.prog X.w) X.A (eval a X.env) (fun v s₁=>wpAny (model X.prog X.w) X.A (eval b X.env) (fun u s₂=>wpAny (model X.prog X.w) X.A (f v u) Q X.xe s₂) X.xe s₁) X.xe s:=by
 refine thn (ha pins s σ H _ I h) fun v s1 ⟨x,H1,I1,r1,q1⟩=>?_
 refine thn (hb pins s1 σ H1 _ I1 q1) fun u s2 ⟨y,H2,I2,r2,q2⟩=>?_
 exact hf v u s2 x y H2 I2 r1 r2 q2
theorem aMg {op:Operator} {r:R2} (ho:OpR X (binaryOp op) r) (ha:PE X a ta) (hb:PE X b tb):PE X (.BinOp a op b pos) (tOp r ta tb):=by
 intro pins s σ H Q I h
 exact wpAny_BinOp (binT ha hb I h fun v u s2 x y H2 I2 rx ry q=>ho pins s2 σ H2 x y v u Q I2 rx ry q)
theorem aNk {op:UnaryOp} {r:V->Hp->VK->Prop} (ho:UnR X (unaryOp op) r) (ha:PE X a ta):PE X (.UnaryOp op a pos) (tUn r ta):=by
 intro pins s σ H Q I h
 exact UnaryOp_ (thn (ha pins s σ H _ I h) fun v s1 ⟨x,H1,I1,r1,q1⟩=>ho pins s1 σ H1 x v Q I1 r1 q1)
theorem opI {f:Value->Value->Sem Value} {C:Int->Int->Prop} {g:Int->Int->Int}
  (rule:∀ (i j:Int) (t u:Tok) (s:Shared) (Q:Value->Shared->Prop) (E:Value->Shared->Prop),C i j->Q (.int (g i j) s.toks) { s with toks:=s.toks+1 }->wpAny (model X.prog X.w) X.A (f (.int i t) (.int j u)) Q E s) :
  OpR X f (rI C fun i j=>.int (g i j)):=by
 intro pins s σ H x y v u Q I rx ry h
 obtain ⟨i,j,rfl,rfl,hc,q⟩:=h
 obtain ⟨t,rfl⟩:=rx
 obtain ⟨t',rfl⟩:=ry
 exact rule i j t t' s _ _ hc ⟨.int (g i j),H,I.tok _,⟨_,rfl⟩,q⟩
theorem opI0 {f:Value->Value->Sem Value} {g:Int->Int->Int}
  (rule:∀ (i j:Int) (t u:Tok) (s:Shared) (Q:Value->Shared->Prop) (E:Value->Shared->Prop),Q (.int (g i j) s.toks) { s with toks:=s.toks+1 }->wpAny (model X.prog X.w) X.A (f (.int i t) (.int j u)) Q E s) :
  OpR X f (rI0 fun i j=>.int (g i j)):=by
 intro pins s σ H x y v u Q I rx ry h
 obtain ⟨i,j,rfl,rfl,q⟩:=h
 obtain ⟨t,rfl⟩:=rx
 obtain ⟨t',rfl⟩:=ry
 exact rule i j t t' s _ _ ⟨.int (g i j),H,I.tok _,⟨_,rfl⟩,q⟩
theorem opB0 {f:Value->Value->Sem Value} {g:Int->Int->Bool}
  (rule:∀ (i j:Int) (t u:Tok) (s:Shared) (Q:Value->Shared->Prop) (E:Value->Shared->Prop),Q (.bool (g i j)) s->wpAny (model X.prog X.w) X.A (f (.int i t) (.int j u)) Q E s) :
  OpR X f (rI0 fun i j=>.bl (g i j)):=by
 intro pins s σ H x y v u Q I rx ry h
 obtain ⟨i,j,rfl,rfl,q⟩:=h
 obtain ⟨t,rfl⟩:=rx
 obtain ⟨t',rfl⟩:=ry
 exact rule i j t t' s _ _ ⟨.bl (g i j),H,I,rfl,q⟩
noncomputable def CPow (i j:Int):Prop:=0<=j/\j<=1000000/\i.natAbs < 2 ^ 64
noncomputable def CMul (i j:Int):Prop:=(-(2 ^ 64) < i/\i < 2 ^ 64)\/(-(2 ^ 64) < j/\j < 2 ^ 64)
theorem CMul.ok {i j:Int} (h:CMul i j):IntMulOk i j:=by
 rcases h with ⟨h1,h2⟩ | ⟨h1,h2⟩
 ·exact .of_left (intBits_le_64 h1 h2)
 ·exact .of_right (intBits_le_64 h1 h2)
theorem vU (k:Nat):(0:Int)<=2 ^ k:=by
 rw [two_pow_cast]
 exact Int.natCast_nonneg _
theorem aJn:OpR X (binaryOp .Add) (rI0 fun i j=>.int (i+j)):=opI0 fun _ _ _ _ _ _ _ q=>add_int q
theorem aIu:OpR X (binaryOp .Sub) (rI0 fun i j=>.int (i - j)):=opI0 fun _ _ _ _ _ _ _ q=>sub_int q
theorem aKu:OpR X (binaryOp .Mod) (rI (fun _ j=>0 < j) fun i j=>.int (i % j)):=opI fun i j _ _ _ _ _ hc q=>by
 have h1:(0:Int) < j:=hc
 exact mod_int' (by omega) (by rw [Int.fmod_eq_emod_of_nonneg i (by omega)]; exact q)
theorem aKd:OpR X (binaryOp .Pow) (rI CPow fun i j=>.int (i ^ j.toNat)):=opI fun _ _ _ _ _ _ _ hc q=>pow_int_small hc.1 hc.2.1 hc.2.2 q
theorem aLz:OpR X (binaryOp .RShift) (rI (fun _ j=>0<=j) fun i j=>.int (i / 2 ^ j.toNat)):=opI fun i j _ _ _ _ _ hc q =>
 rshift_int hc (by rw [Int.fdiv_eq_ediv_of_nonneg i (vU _)]; exact q)
theorem aJp:OpR X (binaryOp .BitAnd) (rI0 fun i j=>.int (Builtin.bitAnd i j)):=opI0 fun _ _ _ _ _ _ _ q=>and_int q
theorem unI {f:Value->Sem Value} {g:Int->Int}
  (rule:∀ (i:Int) (t:Tok) (s:Shared) (Q:Value->Shared->Prop) (E:Value->Shared->Prop),Q (.int (g i) s.toks) { s with toks:=s.toks+1 }->wpAny (model X.prog X.w) X.A (f (.int i t)) Q E s) :
  UnR X f (rU fun i=>.int (g i)):=by
 intro pins s σ H x v Q I rx h
 obtain ⟨i,rfl,q⟩:=h
 obtain ⟨t,rfl⟩:=rx
 exact rule i t s _ _ ⟨.int (g i),H,I.tok _,⟨_,rfl⟩,q⟩
theorem aIt:UnR X (unaryOp .USub) (rU fun i=>.int (-i)):=unI fun _ _ _ _ _ q=>neg_int q
end
section
variable {X:Cx} {a b c:Expr} {ta tb tc:TE} {pos:Pos}
theorem aLt {pins:List (Addr×Obj)} {σ:St} {H:Hp} {s:Shared} {Q:VK} {k k':Bool} (I:Inv X pins σ H s) (q:Q (.bl k) H) (e:k=k'):EP X pins σ Q (.bool k') s:=by
 subst e
 exact ⟨.bl k,H,I,rfl,q⟩
theorem aNl:OpR X (compareOp .Lt) (rI0 fun i j=>.bl (decide (i < j))):=opB0 fun _ _ _ _ _ _ _ q=>lt_int q
theorem aMz:OpR X (compareOp .Gt) (rI0 fun i j=>.bl (decide (j < i))):=opB0 fun _ _ _ _ _ _ _ q=>gt_int q
theorem aNe:OpR X (compareOp .GtE) (rI0 fun i j=>.bl (decide (j<=i))):=opB0 fun _ _ _ _ _ _ _ q=>ge_int q
theorem aJg:OpR X (compareOp .Is) (fun x y H Q=>y=.non/\Q (.bl (decide (x=.non))) H):=by
 intro pins s σ H x y v u Q I rx ry h
 obtain ⟨rfl,q⟩:=h
 cases ry
 refine is_none_gen (aLt I q ?_)
 cases x <;> first
  | (cases rx; rfl)
  | (obtain ⟨t,rfl⟩:=rx; rfl)
theorem OpR.or {f:Value->Value->Sem Value} {r r':R2} (h:OpR X f r) (h':OpR X f r'):OpR X f (fun x y H Q=>r x y H Q\/r' x y H Q):=by
 intro pins s σ H x y v u Q I rx ry q
 rcases q with q | q
 ·exact h pins s σ H x y v u Q I rx ry q
 ·exact h' pins s σ H x y v u Q I rx ry q
theorem nomark (b:Expr) {op:CmpOp} (h:op≠.In:=by decide) (h2:op≠.NotIn:=by decide):behindInMarks op b=false:=by
 have e1:(op==CmpOp.In)=false:=by cases op <;> first | rfl | exact absurd rfl h
 have e2:(op==CmpOp.NotIn)=false:=by cases op <;> first | rfl | exact absurd rfl h2
 cases b <;> simp [behindInMarks,e1,e2]
theorem aGu {op:CmpOp} {r:R2} (ho:OpR X (compareOp op) r) (ha:PE X a ta) (hb:PE X b tb) (hm:behindInMarks op b=false):PE X (.Compare a [op] [b] pos) (tOp r ta tb):=by
 intro pins s σ H Q I h
 exact wpAny_Compare1 (binT ha hb I h fun v u s2 x y H2 I2 rx ry q=>ho pins s2 σ H2 x y v u Q I2 rx ry q) hm
noncomputable def tTest (t:TE):TT:=fun σ H Q=>t σ H fun x H'=>∃ k,x=.bl k/\Q k H'
theorem aHj {op:CmpOp} {r:R2} (ho:OpR X (compareOp op) r) (ha:PE X a ta) (hb:PE X b tb) (hm:behindInMarks op b=false):PT X (.Compare a [op] [b] pos) (tTest (tOp r ta tb)):=by
 intro pins s σ H Q I h
 refine wpAny_isTrue_Compare1 (thn (ha pins s σ H _ I h) fun v s1 ⟨x,H1,I1,r1,q1⟩=>thn (hb pins s1 σ H1 _ I1 q1) fun u s2 ⟨y,H2,I2,r2,q2⟩ =>
  thn (ho pins s2 σ H2 x y v u _ I2 r1 r2 q2) fun c s3 ⟨z,H3,I3,r3,k,e,q3⟩=>?_) hm
 subst e
 cases r3
 exact wpAny_truthy_bool ⟨H3,I3,q3⟩
noncomputable def TruV (K:PySem.W.Frag) (x:V) (H:Hp) (k:Bool):Prop :=
 match x with
 | .non=>k=false
 | .bl b=>k=b
 | .int i=>k=(i != 0)
 | .str y=>y.length<=sizeLine/\k=((y.length:Int) != 0)
 | .byt y=>y.size<=sizeLine/\k=((y.size:Int) != 0)
 | .ref p=>(∃ xs,SqL K H p xs/\k=!xs.isEmpty)\/(∃ xs,SqT K H p xs/\k=!xs.isEmpty)\/∃ kvs,H p=some (.dK kvs)/\k=!kvs.isEmpty
 | _=>False
theorem uW {κ:Type} {kvs:List (κ×V)} {vs:List (κ×Value)} (r:KV kvs vs):(!vs.isEmpty)=!kvs.isEmpty:=by
 cases r <;> rfl
theorem nM {xs:List V} {its:List Value} (r:Vals xs its):(!its.toArray.isEmpty)=!xs.isEmpty:=by
 cases r <;> simp
theorem line63:(sizeLine:Nat) < 2 ^ 63:=by rw [sizeLine_eq]; decide
theorem aLd:TruR X (fun x H Q=>∃ k,TruV X.K x H k/\Q k H):=by
 intro pins s σ H x v Q I rx h
 obtain ⟨k,e,q⟩:=h
 have hl:=line63
 have hs:sizeLine=16777216:=sizeLine_eq
 cases x with
 | non =>
  cases rx
  have e':k=false:=e
  subst e'
  exact truthy_none ⟨H,I,q⟩
 | bl b =>
  cases rx
  have e':k=b:=e
  subst e'
  exact wpAny_truthy_bool ⟨H,I,q⟩
 | int i =>
  obtain ⟨t,rfl⟩:=rx
  have e':k=(i != 0):=e
  subst e'
  exact PySem.P.truthy_int ⟨H,I,q⟩
 | str y =>
  obtain ⟨t,rfl⟩:=rx
  obtain ⟨hy,e'⟩:y.length<=sizeLine/\k=((y.length:Int) != 0):=e
  subst e'
  exact PySem.P.truthy_str (by omega) ⟨H,I.tok _,q⟩
 | byt y =>
  obtain ⟨t,rfl⟩:=rx
  obtain ⟨hy,e'⟩:y.size<=sizeLine/\k=((y.size:Int) != 0):=e
  subst e'
  exact PySem.W.truthy_bytes (by omega) ⟨H,I.tok _,q⟩
 | ref p =>
  cases rx
  have e':(∃ xs,SqL X.K H p xs/\k=!xs.isEmpty)\/(∃ xs,SqT X.K H p xs/\k=!xs.isEmpty)\/∃ kvs,H p=some (.dK kvs)/\k=!kvs.isEmpty:=e
  rcases e' with ⟨xs,hx,e'⟩ | ⟨xs,hx,e'⟩ | ⟨kvs,hx,e'⟩
  ·subst e'
   obtain ⟨its,r,pl,hz⟩:=I.list hx
   have hlen:=r.length
   exact wpAny_truthy_list pl.isList (by simp only [List.size_toArray]; omega) ⟨H,I.tok _,by rw [nM r]; exact q⟩
  ·subst e'
   obtain ⟨its,r,pl,hz⟩:=I.tuple hx
   have hlen:=r.length
   exact truthy_tuple pl (by simp only [List.size_toArray]; omega) ⟨H,I.tok _,by rw [nM r]; exact q⟩
  ·subst e'
   obtain ⟨hz,hS,vs,r,m⟩:kvs.length<=sizeLine/\(p==sysModules)=false/\∃ vs,KV kvs vs/\s.heap.DictOf (mixKind X.prog X.w) p vs:=I.hok p _ hx
   have hlen:kvs.length=vs.length:=Paired.length r
   exact wpAny_truthy_dict hS m (by omega) ⟨H,I.tok _,by rw [uW r]; exact q⟩
 | _=>exact (show False from e).elim
theorem aDe (ha:PE X a ta) (he:∀ whole,isTrue a X.env whole=(do let v <- whole; standAt a.pos; holding [v] (truthy v))) :
  PT X a (fun σ H Q=>ta σ H fun x H'=>∃ k,TruV X.K x H' k/\Q k H'):=by
 intro pins s σ H Q I h
 exact isTrue_plain (thn (ha pins s σ H _ I h) fun v s1 ⟨x,H1,I1,r1,q1⟩=>aLd pins s1 σ H1 x v Q I1 r1 q1) (he _)
theorem vR:OpR X (binaryOp .Add) (fun x y H Q=>∃ i j,x=.str i/\y=.str j/\i.length+j.length<=sizeLine/\Q (.str (i++j)) H):=by
 intro pins s σ H x y v u Q I rx ry h
 obtain ⟨i,j,rfl,rfl,hz,q⟩:=h
 obtain ⟨t,rfl⟩:=rx
 obtain ⟨t',rfl⟩:=ry
 exact add_str (fun t' tk=>⟨.str (i++j),H,I.tok _,⟨_,rfl⟩,q⟩) hz
theorem vals1 {x:V} {us:List Value} (r:Vals [x] us):∃ u,us=[u]/\RelV x u:=by
 cases r with
 | cons r1 r2=>cases r2; exact ⟨_,rfl,r1⟩
theorem vals2 {x y:V} {us:List Value} (r:Vals [x,y] us):∃ u w',us=[u,w']/\RelV x u/\RelV y w':=by
 cases r with
 | cons r1 r2 =>
  cases r2 with
  | cons r3 r4=>cases r4; exact ⟨_,_,rfl,r1,r3⟩
theorem yZ (hc:X.calm=true):CallR X (.builtin "max") (fun xs H Q=>∃ i j,xs=[.int i,.int j]/\Q (.int (if j > i then j else i)) H):=by
 intro pins s σ H xs us Q I r h
 obtain ⟨i,j,rfl,q⟩:=h
 obtain ⟨u,w',rfl,⟨t,rfl⟩,⟨t',rfl⟩⟩:=vals2 r
 refine max_two_ints (I.ok.hd hc) fun h' tk k=>⟨_,H,I.kept k,?_,q⟩
 by_cases hj:j > i
 ·rw [if_pos hj,if_pos hj]; exact ⟨_,rfl⟩
 ·rw [if_neg hj,if_neg hj]; exact ⟨_,rfl⟩
theorem zI:CallR X (.type "int") (fun xs H Q=>(∃ i,xs=[.int i]/\Q (.int i) H)\/∃ k,xs=[.bl k]/\Q (.int (if k then 1 else 0)) H):=by
 intro pins s σ H xs us Q I r h
 rcases h with ⟨i,rfl,q⟩ | ⟨k,rfl,q⟩
 ·obtain ⟨u,rfl,t,rfl⟩:=vals1 r
  exact call_int_int ⟨.int i,H,I,⟨_,rfl⟩,q⟩
 ·obtain ⟨u,rfl,r1⟩:=vals1 r
  cases r1
  exact call_int_bool ⟨.int (if k then 1 else 0),H,I.tok _,⟨_,rfl⟩,q⟩
end
end L2
namespace L2
open PySem PySem.Spec PyProof.Rows
structure ObjM (h:Heap) (x dx C:Addr) (mA:Str->Option Value):Prop where
 obj:h.get? x=some (PySem.W.instObj C dx)
 ns:h.Ns1 dx mA
 ne:dx≠x
section
variable {prog:Program} {w:World} {A:Around} {E:Value->Shared->Prop} {s:Shared} {K:PySem.W.Frag} {x dx C f:Addr} {mA:Str->Option Value} {name:Str} {v:Value}
end
section
variable {P:Program} {w:World} {H H':Hp} {h h':Heap} {a C dx:Addr} {fs fs':List (Str×V)}
end
structure Cls (K:PySem.W.Frag) (C:Addr):Prop where
 pg:PySem.W.plainGet K C Str.empty=true
 hd:PySem.W.hasDictIn K C=true
 po:PySem.W.plainOver K C=true
 sa:PySem.W.findIn K (.ref C) "__setattr__"=some (some (.builtin "object.__setattr__"))
theorem Cls.get {K:PySem.W.Frag} {C:Addr} (c:Cls K C) (f:Str):PySem.W.plainGet K C f=true:=c.pg
structure Con (K:PySem.W.Frag) (C:Addr) (f:Str) (v:V) (u:Value):Prop where
 at_:PySem.W.findIn K (.ref C) f=some (some u)
 rel:RelV v u
 get:PySem.W.specialIn K u "__get__"=some none
 cp:PySem.W.copiedNames.contains f=false
structure Meth (K:PySem.W.Frag) (C:Addr) (m:Str) (f:Addr):Prop where
 at_:PySem.W.findIn K (.ref C) m=some (some (.ref f))
 fn:PySem.W.isFn K (.ref f)=true
 kp:PySem.W.keepIn K (.ref f)=true
section
variable {X:Cx} {pins:List (Addr×Obj)} {σ:St} {H:Hp} {s:Shared} {a C dx:Addr} {fs:List (Str×V)} {f:Str} {v:V} {A:Around} {E:Value->Shared->Prop}
theorem Inv.made (I:Inv X pins σ H s):Inv X pins σ (upd (upd H s.heap.objs.size (.own (s.heap.objs.size+1))) (s.heap.objs.size+1) (.ins C s.heap.objs.size []))
  { s with heap:=(s.heap.push PySem.W.emptyDict).push (PySem.W.instObj C s.heap.objs.size) }:=by
 have e1:(s.heap.push PySem.W.emptyDict).get? s.heap.objs.size=some PySem.W.emptyDict:=Heap.get?_push_size s.heap rfl
 have e2:((s.heap.push PySem.W.emptyDict).push (PySem.W.instObj C s.heap.objs.size)).get? (s.heap.objs.size+1)=some (PySem.W.instObj C s.heap.objs.size):=by
  have:=Heap.get?_push_size (s.heap.push PySem.W.emptyDict) (o:=PySem.W.instObj C s.heap.objs.size) rfl
  rwa [Heap.size_push] at this
 have e3:(s.heap.push PySem.W.emptyDict).Ns s.heap.objs.size (fun _=>none):=⟨PySem.W.emptyDict,#[],_,e1,rfl,(fun e he=>absurd he (by simp)),fun _=>rfl⟩
 have I1:=I.laid (a:=s.heap.objs.size) (o:=.own (s.heap.objs.size+1)) (h':=s.heap.push PySem.W.emptyDict) (t':=s.toks) (fun b u q=>Heap.get?_push_of_some _ q) (Nat.le_refl _) ⟨_,e1⟩
 refine I1.laid (a:=s.heap.objs.size+1) (o:=.ins C s.heap.objs.size []) (t':=s.toks) (fun b u q=>Heap.get?_push_of_some _ q) (Nat.le_of_eq (Heap.size_push _ _)) ?_
 have ne:s.heap.objs.size≠s.heap.objs.size+1:=Nat.ne_of_lt (Nat.lt_succ_self _)
 refine ⟨by rw [aT ne,dL],Nat.zero_le _,ne,e2,fun _=>none,(Heap.Ns1.of_empty e3).at fun o q=>Heap.get?_push_of_some _ q,fun _=>True.intro,fun y hy=>absurd rfl hy⟩
end
section
variable {X:Cx} {o e value:Expr} {f:Str} {pos pos' tpos:Pos} {ta tv:TE}
end
section
variable {X:Cx} {pins:List (Addr×Obj)} {σ:St} {H:Hp} {s:Shared} {A:Around} {E:Value->Shared->Prop} {Q:Value->Shared->Prop} {c:Value} {b:Bool}
inductive TyOf (K:PySem.W.Frag) (H:Hp):V->Value->Prop where
 | non:TyOf K H .non (.type "NoneType")
 | bl (x:Bool):TyOf K H (.bl x) (.type "bool")
 | int (i:Int):TyOf K H (.int i) (.type "int")
 | str (x:Str):TyOf K H (.str x) (.type "str")
 | flt (x:UInt64):TyOf K H (.flt x) (.type "float")
 | lst {a:Addr} {xs:List V} (e:H a=some (.lst xs)):TyOf K H (.ref a) (.type "list")
 | frz {a:Addr} {o:Obj} {xs:List V} (e:H a=some (.frz o (.lst xs))):TyOf K H (.ref a) (.type "list")
 | tup {a:Addr} {xs:List V} (e:H a=some (.tup xs)):TyOf K H (.ref a) (.type "tuple")
 | dK {a:Addr} {kvs:List (Key×V)} (e:H a=some (.dK kvs)):TyOf K H (.ref a) (.type "dict")
 | dT {a:Addr} {kvs:List (List Key×V)} (e:H a=some (.dT kvs)):TyOf K H (.ref a) (.type "dict")
 | ins {a C dx:Addr} {fs:List (Str×V)} (e:H a=some (.ins C dx fs)) (cl:Cls K C) (ha:PySem.W.findIn K (.ref C) "__class__"=some (some (.builtin "object.__class__")))
   (hn:PySem.W.specialIn K (.builtin "object.__class__") "__get__"=some (some (.builtin "getset_descriptor.__get__"))) (htk:PySem.W.takesIn K (.builtin "object.__class__")=some true)
   (hm:PySem.W.mroIn K C (.type "object")=some true):TyOf K H (.ref a) (.ref C)
end
end L2
namespace L2
open PySem PySem.Spec PyProof.Rows
structure Room (k:Nat) (A:Around):Prop where
 hd:A.handled=none
 dp:A.depth+3*k+5 < recursionLimit
 un:A.units+16*k+200 < cLine
theorem Room.mono {j k:Nat} {A:Around} (r:Room k A) (h:j<=k):Room j A:=⟨r.hd,by have:=r.dp; omega,by have:=r.un; omega⟩
theorem Room.deeper {k:Nat} {A:Around} (r:Room (k+1) A) (env:Env):Room k (A.deeper env) :=
 ⟨r.hd,by have:=r.dp; show A.depth+1+3*k+5 < _; omega,by have:=r.un; show A.units+3+16*k+200 < _; omega⟩
theorem Room.in1 {k:Nat} {A:Around} (r:Room (k+1) A):Room k A.in1 :=
 ⟨r.hd,by have:=r.dp; show A.depth+3*k+5 < _; omega,by have:=r.un; show A.units+1+16*k+200 < _; omega⟩
theorem Room.depth {k:Nat} {A:Around} (r:Room k A):A.depth < recursionLimit:=by have:=r.dp; omega
theorem Room.units {k:Nat} {A:Around} (r:Room k A):A.units+64 < cLine:=by have:=r.un; omega
noncomputable def tNil:TA:=fun _ H Q=>Q [] H
noncomputable def tCons (ta:TE) (tr:TA):TA:=fun σ H Q=>ta σ H fun x H1=>tr σ H1 fun xs H2=>Q (x::xs) H2
section
variable {X:Cx} {e:Expr} {es:List Expr} {te:TE} {t:TA} {pos:Pos}
theorem fK:PA X [] tNil:=fun _ _ _ _ H Q I h=>Calls.spliced_nil ⟨[],H,I,.nil,h⟩
theorem cZ (ha:PE X e te) (hr:PA X es t) (hs:starEach (e::es) X.env=(false,eval e X.env)::starEach es X.env:=by rfl):PA X (e::es) (tCons te t):=by
 intro pos pins s σ H Q I h
 rw [hs]
 show wpAny _ _ (spliced ((false,eval e X.env)::backTo pos (starEach es X.env))) _ _ s
 refine Calls.spliced_cons (thn (ha pins s σ H _ I h) fun u s1 ⟨x,H1,I1,r1,q1⟩=>?_)
 exact thn (hr pos pins s1 σ H1 _ I1 q1) fun us s2 ⟨xs,H2,I2,r2,q2⟩=>⟨x::xs,H2,I2,.cons r1 r2,q2⟩
noncomputable def tTup (t:TA):TE:=fun σ H Q=>t σ H fun xs H1=>xs.length<=sizeLine/\∀ p,H1 p=none->Q (.ref p) (upd H1 p (.tup xs))
noncomputable def tLst (t:TA):TE:=fun σ H Q=>t σ H fun xs H1=>xs.length<=sizeLine/\∀ p,H1 p=none->Q (.ref p) (upd H1 p (.lst xs))
theorem aLi {x1} (h:PA X es t):PE X (.Tuple es x1 pos) (tTup t):=by
 intro pins s σ H Q I hq
 refine wpAny_Tuple_spliced (thn (h pos pins s σ H _ I hq) fun us s1 ⟨xs,H1,I1,r,z,q⟩=>⟨by rw [<- r.length]; exact z,?_⟩)
 have hf:H1 s1.heap.objs.size=none:=I1.hok.fresh (Nat.le_refl _)
 refine ⟨.ref s1.heap.objs.size,upd H1 s1.heap.objs.size (.tup xs),I1.laid (t':=s1.toks) (fun b u e=>Heap.get?_push_of_some _ e) (Nat.le_refl _) ?_,rfl,q _ hf⟩
 exact ⟨z,us,r,⟨_,Heap.get?_push_size _ rfl,rfl,_,rfl⟩⟩
theorem wJ (h:PA X es t):PE X (.List es pos) (tLst t):=by
 intro pins s σ H Q I hq
 refine wpAny_List_spliced (thn (h pos pins s σ H _ I hq) fun us s1 ⟨xs,H1,I1,r,z,q⟩=>⟨by rw [<- r.length]; exact z,?_⟩)
 have hf:H1 s1.heap.objs.size=none:=I1.hok.fresh (Nat.le_refl _)
 refine ⟨.ref s1.heap.objs.size,upd H1 s1.heap.objs.size (.lst xs),I1.laid (t':=s1.toks) (fun b u e=>Heap.get?_push_of_some _ e) (Nat.le_refl _) ?_,rfl,q _ hf⟩
 exact ⟨z,us,0,r,Heap.get?_push_size _ rfl⟩
end
noncomputable abbrev Sp:=List V->Hp->VK->XK->Prop
noncomputable abbrev CXT:=List Env->Hp->Shared->XK->Value->Shared->Prop
structure Env0 (P:Program) (w:World) (K:PySem.W.Frag) (mg:Str->Option Value) (base:Heap) (A:Around) (outer:List Env) (s:Shared) (H:Hp):Prop where
 frames:A.frames=some outer
 mod:Mod K mg base
 bs:∀ b o,base.get? b=some o->s.heap.get? b=some o/\H b=none
 bsz:base.objs.size<=s.heap.objs.size
 funs:s.heap.FunFrames base outer
 frf:∀ b∈frs outer,H b=none
 hok:HOk P w H s.heap
 bare:AllBare s.gens
noncomputable def CE (outer:List Env) (P:Program) (w:World) (H:Hp) (s:Shared) (Q:VK) (u:Value) (s':Shared):Prop :=
 ∃ v H',s'.os=s.os/\AllBare s'.gens/\Un (frs outer) [] H H' s.heap s'.heap/\HOk P w H' s'.heap/\RelV v u/\Q v H'
noncomputable def CR (CX:CXT) (outer:List Env) (P:Program) (w:World) (H:Hp) (s:Shared) (Q:VK) (E:XK) (r:Result) (s':Shared):Prop :=
 match r with
 | .ok (.ret u)=>CE outer P w H s Q u s'
 | .ok _=>False
 | .error e=>CX outer H s E e s'
structure FnOk (P:Program) (w:World) (K:PySem.W.Frag) (mg:Str->Option Value) (base:Heap) (CX:CXT) (k:Nat) (f:Addr) (fd:FuncData) (ps:List Str) (sp:Sp):Prop where
 len:∀ vs H Q E,sp vs H Q E->vs.length=ps.length
 run:∀ (A:Around) (outer:List Env) (s:Shared) (H:Hp) (args:Args) (us:List Value) (vs:List V) (Q:VK) (E:XK),Room k A->Env0 P w K mg base A outer s H->BindsTo s fd args (ps.zip us)->Vals vs us->sp vs H Q E ->
  codeAny (model P w) A (.call (.ref f) args) (CR CX outer P w H s Q E) s
theorem FnOk.mono {P:Program} {w:World} {K:PySem.W.Frag} {mg:Str->Option Value} {base:Heap} {CX:CXT} {j k:Nat} {f:Addr} {fd:FuncData} {ps:List Str} {sp:Sp} (F:FnOk P w K mg base CX j f fd ps sp) (h:j<=k) :
  FnOk P w K mg base CX k f fd ps sp:=⟨F.len,fun A outer s H args us vs Q E hr=>F.run A outer s H args us vs Q E (hr.mono h)⟩
theorem FnOk.imp {P:Program} {w:World} {K:PySem.W.Frag} {mg:Str->Option Value} {base:Heap} {CX:CXT} {k:Nat} {f:Addr} {fd:FuncData} {ps:List Str} {sp sp':Sp} (F:FnOk P w K mg base CX k f fd ps sp)
  (h:∀ vs H Q E,sp' vs H Q E->sp vs H Q E):FnOk P w K mg base CX k f fd ps sp' :=
 ⟨fun vs H Q E q=>F.len vs H Q E (h _ _ _ _ q),fun A outer s H args us vs Q E hr he hb hv hs=>F.run A outer s H args us vs Q E hr he hb hv (h _ _ _ _ hs)⟩
theorem Env0.in1 {P:Program} {w:World} {K:PySem.W.Frag} {mg:Str->Option Value} {base:Heap} {A:Around} {outer:List Env} {s:Shared} {H:Hp} (e:Env0 P w K mg base A outer s H) :
  Env0 P w K mg base A.in1 outer s H:=⟨e.frames,e.mod,e.bs,e.bsz,e.funs,e.frf,e.hok,e.bare⟩
section
variable {X:Cx} {pins:List (Addr×Obj)} {σ:St} {H:Hp} {s s':Shared}
theorem Inv.env0 (I:Inv X pins σ H s):Env0 X.prog X.w X.K X.mg X.base X.A X.stack s H :=
 ⟨I.ok.frames,I.ok.mod,I.bs,Nat.le_trans I.ok.bsz I.sz,I.stack,I.stkFree,I.hok,I.bare⟩
theorem Inv.after {Q:VK} {u:Value} (I:Inv X pins σ H s) (h:CE X.stack X.prog X.w H s Q u s'):EP X pins σ Q u s':=by
 obtain ⟨v,H',os,bare,un,hok,r,q⟩:=h
 obtain ⟨hh,g,d,t,os'⟩:=s'
 obtain rfl:os'=s.os:=os
 exact ⟨v,H',I.call (h':=hh) (g':=g) (d':=d) (t':=t) (ch:=[]) un hok bare (fun b z=>absurd z (by simp)),r,q⟩
end
noncomputable def tCall (sp:Sp) (dvs:List V) (E:XK) (t:TA):TE:=fun σ H Q=>t σ H fun vs H1=>sp (vs++dvs) H1 Q E
noncomputable def Binds (K:PySem.W.Frag) (fd:FuncData) (ps:List Str) (ds:List Value):Prop :=
 ∀ (s:Shared) (us:List Value),K.In s.heap->(us++ds).length=ps.length->BindsTo s fd ⟨us,[]⟩ (ps.zip (us++ds))
theorem Binds.all {K:PySem.W.Frag} {fd:FuncData} {ps:List Str} (h:∀ us:List Value,us.length=ps.length->bindArgs fd ⟨us,[]⟩=pure (ps.zip us)):Binds K fd ps []:=fun s us _ hl=>by
 rw [List.append_nil] at hl ⊢
 exact .of_eq (h us hl)
noncomputable def Passes (CX:CXT) (X:Cx) (E:XK):Prop:=∀ (pins:List (Addr×Obj)) (σ:St) (H:Hp) (s:Shared) (e:Value) (s':Shared),Inv X pins σ H s->CX X.stack H s E e s'->X.xe e s'
section
variable {X:Cx} {CX:CXT} {k:Nat} {f C:Addr} {fd:FuncData} {ps:List Str} {sp:Sp} {dvs:List V} {ds:List Value} {E:XK} {x m:Str} {p pos apos:Pos} {e o:Expr} {es:List Expr} {ta:TE} {t:TA}
theorem aKc {pins:List (Addr×Obj)} {σ:St} {H:Hp} {s:Shared} {Q:VK} {us:List Value} {vs:List V} (F:FnOk X.prog X.w X.K X.mg X.base CX k f fd ps sp) (hr:Room k X.A) (hb:Binds X.K fd ps ds) (hd:Vals dvs ds) (hx:Passes CX X E)
  (I:Inv X pins σ H s) (r:Vals vs us) (h:sp (vs++dvs) H Q E):wpAny (model X.prog X.w) X.A (call (.ref f) us) (EP X pins σ Q) X.xe s:=by
 have r2:Vals (vs++dvs) (us++ds):=r.append hd
 have hl:(us++ds).length=ps.length:=by rw [<- r2.length]; exact F.len _ _ _ _ h
 refine wpAny_call (codeAny_mono (F.run X.A X.stack s H ⟨us,[]⟩ (us++ds) (vs++dvs) Q E hr I.env0 (hb s us I.kIn hl) r2 h) fun r s' hq=>?_)
 cases r with
 | error e=>exact hx pins σ H s e s' I hq
 | ok fl =>
  cases fl with
  | ret u=>exact I.after hq
  | next=>exact False.elim hq
  | brk=>exact False.elim hq
  | cont=>exact False.elim hq
theorem yS (F:FnOk X.prog X.w X.K X.mg X.base CX k f fd ps sp) (hr:Room k X.A) (hg:Gl X x) (hm:X.mg x=some (.ref f)) (hk:PySem.W.keepIn X.K (.ref f)=true) (hb:Binds X.K fd ps ds) (hd:Vals dvs ds) (hx:Passes CX X E)
  (ha:PA X (e::es) t) (hdb:(x==("__debug__":Str))=false:=by decide) (he:starEach (e::es) X.env=(false,eval e X.env)::starEach es X.env:=by rfl) (hpl:(backTo pos (starEach es X.env)).any (·.1)=false:=by rfl) :
  PE X (.Call (.Name x p) (e::es) [] pos) (tCall sp dvs E t):=by
 intro pins s σ H Q I h
 refine wpAny_Call_Name_kw (aGp I hg hm ?_ hdb)
 refine PySem.W.callWith_K (h₀:=X.base) I.ok.mod.kin hk (thn (ha pos pins s σ H _ I h) fun us s1 ⟨vs,H1,I1,r,q⟩=>⟨I1.kIn,?_⟩) he hpl
 exact aKc F hr hb hd hx I1 r q
structure Mk (K:PySem.W.Frag) (C f:Addr):Prop where
 makes:PySem.W.makesIn K C=true
 init:PySem.W.findIn K (.ref C) "__init__"=some (some (.ref f))
 fn:PySem.W.isFn K (.ref f)=true
 kp:PySem.W.keepIn K (.ref C)=true
end
noncomputable def PK (X:Cx) (kws:List Keyword) (t:TA):Prop :=
 ∀ (pos:Pos) (pins:List (Addr×Obj)) (s:Shared) (σ:St) (H:Hp) (Q:List V->Hp->Prop),Inv X pins σ H s->t σ H Q->wpAny (model X.prog X.w) X.A (evalAll ((backToKw pos (keywordEach kws X.env)).map (·.2))) (AP X pins σ Q) X.xe s
section
variable {X:Cx} {CX:CXT} {k:Nat} {f C:Addr} {fd:FuncData} {ps ks:List Str} {sp:Sp} {E:XK} {x m:Str} {p pos apos kpos:Pos} {e o:Expr} {es:List Expr} {kws:List Keyword} {te ta:TE} {t tk:TA} {nm:Option Str}
theorem aLr:PK X [] tNil:=fun _ _ _ _ H Q I h=>wpAny_evalAll_nil ⟨[],H,I,.nil,h⟩
theorem aEx (ha:PE X e te) (hr:PK X kws t):PK X (⟨nm,e,kpos⟩::kws) (tCons te t):=by
 intro pos pins s σ H Q I h
 show wpAny _ _ (evalAll ((do let v <- eval e X.env; standAt pos; pure v)::(backToKw pos (keywordEach kws X.env)).map (·.2))) _ _ s
 refine wpAny_evalAll_cons (wpAny_bind (thn (ha pins s σ H _ I h) fun u s1 ⟨x,H1,I1,r1,q1⟩=>wpAny_bind (wpAny_standAt (wpAny_pure ?_))))
 exact thn (hr pos pins s1 σ H1 _ I1 q1) fun us s2 ⟨xs,H2,I2,r2,q2⟩=>⟨x::xs,H2,I2,.cons r1 r2,q2⟩
structure KBinds (K:PySem.W.Frag) (fd:FuncData) (ps ks:List Str) (g:List Value->List Value->List Value) (gV:List V->List V->List V):Prop where
 to:∀ (s:Shared) (us ws:List Value),K.In s.heap->(g us ws).length=ps.length->BindsTo s fd ⟨us,ks.zip ws⟩ (ps.zip (g us ws))
 rel:∀ {vs:List V} {us:List Value} {zs:List V} {ws:List Value},Vals vs us->Vals zs ws->Vals (gV vs zs) (g us ws)
variable {g:List Value->List Value->List Value} {gV:List V->List V->List V}
end
structure FnScope (N P:List Str) (sc:Scope):Prop where
 kind:sc.kind=.function
 co:sc.isCoroutine=false
 gen:sc.isGenerator=false
 nd:N.Nodup
 pre:N.take P.length=P
 par:∀ x∈P,sc.names.lookup x=some .local\/sc.names.lookup x=some .cell
 nofree:∀ y∈sc.names,y.2≠.free
theorem pS {kindOf:Str->Option NameKind} {x:Str}:∀ {binds:List (Str×Value)} {m:Str->Option Value},(∀ v,(x,v)∉binds)->bindL kindOf binds m x=m x
 | [],_,_=>rfl
 | (n,v)::r,m,h=>by
  unfold bindL
  rw [pS fun w hw=>h w (List.mem_cons_of_mem _ hw)]
  split
  ·have:x≠n:=by rintro rfl; exact h v List.mem_cons_self
   simp [this]
  ·rfl
theorem qF {kindOf:Str->Option NameKind} {x:Str}:∀ {binds:List (Str×Value)} {m:Str->Option Value},(∀ v,(x,v)∉binds)->bindC kindOf binds m x=m x
 | [],_,_=>rfl
 | (n,v)::r,m,h=>by
  unfold bindC
  rw [qF fun w hw=>h w (List.mem_cons_of_mem _ hw)]
  split
  ·rfl
  ·have:x≠n:=by rintro rfl; exact h v List.mem_cons_self
   simp [this]
theorem qC {kindOf:Str->Option NameKind} {x:Str} {v:Value}:∀ {P:List Str} {vs:List Value} {i:Nat} {m:Str->Option Value},P.Nodup->P[i]?=some x->vs[i]?=some v->kindOf x=some .local ->
  bindL kindOf (P.zip vs) m x=some v
 | [],_,_,_,_,h,_,_=>by simp at h
 | _::_,[],_,_,_,_,h,_=>by simp at h
 | p::P,w::vs,0,m,nd,h1,h2,hk=>by
  simp at h1 h2; subst h1; subst h2
  show bindL kindOf ((p,w)::P.zip vs) m p=_
  unfold bindL
  rw [pS fun v hv=>(List.nodup_cons.mp nd).1 (List.of_mem_zip hv).1,if_pos hk]
  simp
 | p::P,w::vs,i+1,m,nd,h1,h2,hk=>by
  show bindL kindOf ((p,w)::P.zip vs) m x=_
  unfold bindL
  exact qC (i:=i) (List.nodup_cons.mp nd).2 (by simpa using h1) (by simpa using h2) hk
theorem qA {kindOf:Str->Option NameKind} {x:Str} {v:Value}:∀ {P:List Str} {vs:List Value} {i:Nat} {m:Str->Option Value},P.Nodup->P[i]?=some x->vs[i]?=some v->kindOf x≠some .local ->
  bindC kindOf (P.zip vs) m x=some v
 | [],_,_,_,_,h,_,_=>by simp at h
 | _::_,[],_,_,_,_,h,_=>by simp at h
 | p::P,w::vs,0,m,nd,h1,h2,hk=>by
  simp at h1 h2; subst h1; subst h2
  show bindC kindOf ((p,w)::P.zip vs) m p=_
  unfold bindC
  rw [qF fun v hv=>(List.nodup_cons.mp nd).1 (List.of_mem_zip hv).1,if_neg hk]
  simp
 | p::P,w::vs,i+1,m,nd,h1,h2,hk=>by
  show bindC kindOf ((p,w)::P.zip vs) m x=_
  unfold bindC
  exact qA (i:=i) (List.nodup_cons.mp nd).2 (by simpa using h1) (by simpa using h2) hk
noncomputable def start (N:List Str) (vs:List V):St:=vs.map some++List.replicate (N.length - vs.length) none
noncomputable def cxOf (CX:CXT) (P:Program) (w:World) (K:PySem.W.Frag) (mg:Str->Option Value) (base:Heap) (N:List Str) (qual:Str) (scope:Scope) (f:Addr) (cd:Value) (A:Around) (outer:List Env) (s:Shared) (H:Hp) (E:XK):Cx where
 prog:=P
 w:=w
 K:=K
 mg:=mg
 base:=base
 A:=A.deeper (envOfC qual scope s.heap.objs.size f cd)
 N:=N
 s₀:=s
 H₀:=H
 env:=envOfC qual scope s.heap.objs.size f cd
 outer:=outer
 stack:=envOfC qual scope s.heap.objs.size f cd::outer
 ex:=[]
 calm:=true
 fn:=fun _=>true
 pn:=[]
 xe:=fun e s'=>wpAny (model P w) (A.deeper (envOfC qual scope s.heap.objs.size f cd)) (leaving (envOfC qual scope s.heap.objs.size f cd) e) (fun _ s''=>CX outer H s E e s'') (fun e' s''=>CX outer H s E e' s'') s'
theorem sQ {sc:Scope} {n:Nat} {x:Str} (h:sc.names.lookup x=some .cell):∃ c,(cellsFrom n sc.names []).lookup x=some c:=by
 have q:=PySem.W.cellsFrom_some sc.names n [] (.inl h)
 exact Option.isSome_iff_exists.mp q
theorem aAr {CX:CXT} {P:Program} {w:World} {K:PySem.W.Frag} {mg:Str->Option Value} {base:Heap} {N ps:List Str} {qual:Str} {scope:Scope} {f:Addr} {cd:Value} {A:Around} {outer:List Env} {s s1:Shared} {H:Hp} {E:XK} {us:List Value} {vs:List V}
  (S:FnScope N ps scope) (hd:A.handled=none) (e0:Env0 P w K mg base A outer s H) (hl:vs.length=ps.length) (r:Vals vs us)
  (x:InCallC s s.heap.objs.size (bindL (envOfC qual scope s.heap.objs.size f cd).kindOf (ps.zip us) fun _=>none) (cellsFrom (s.heap.objs.size+1) scope.names []) (bindC (envOfC qual scope s.heap.objs.size f cd).kindOf (ps.zip us) fun _=>none) s1) :
  Inv (cxOf CX P w K mg base N qual scope f cd A outer s H E) [] (start N vs) H s1:=by
 have hpl:ps.length<=N.length:=by have:=congrArg List.length S.pre; rw [List.length_take] at this; omega
 obtain ⟨h1,tk,rfl,hk⟩:=x.done
 have noA:∀ b:Addr,b∉(cxOf CX P w K mg base N qual scope f cd A outer s H E).ex:=fun b z=>absurd (show b∈([]:List Addr) from z) (by simp)
 refine ⟨⟨e0.mod,S.kind,rfl,rfl,Nat.le_refl _,fun y z c h1 h2=>?_,fun y hy=>?_,fun y c _ h=>?_,fun _=>hd,Around.frames_deeper e0.frames,.inr ⟨rfl,rfl⟩,fun b z=>absurd z (noA b),e0.bs,e0.bsz,fun b _ _=>noA b,fun b z=>absurd z (noA b),e0.funs,e0.frf⟩,
  rfl,e0.bare,Un.kept hk,⟨_,x.toInCall.ns,fun i y v h1 h2 h3=>?_⟩,fun y c h=>⟨_,x.cell y c h⟩,e0.hok.fresh (Nat.le_refl _),fun y c h=>?_,fun p hp=>absurd (show p∈([]:List (Addr×Obj)) from hp) (by simp),e0.hok.kept hk,?_⟩
 ·exact name_of_addr x.apart (PySem.mem_of_lookup h1) (PySem.mem_of_lookup h2)
 ·have hy:scope.names.lookup y=some .cell\/scope.names.lookup y=some .free:=hy
  rcases hy with hy | hy
  ·exact sQ hy
  ·exact absurd rfl (S.nofree _ (PySem.mem_of_lookup hy))
 ·exact Nat.le_of_lt (x.above y c (PySem.mem_of_lookup h))
 ·have hi:i < vs.length:=by
   unfold start at h2
   by_cases hi:i < vs.length
   ·exact hi
   ·rw [List.getElem?_append_right (by simpa using hi)] at h2
    rw [List.getElem?_replicate] at h2
    split at h2 <;> cases h2
  have ha:vs[i]?=some v:=by
   unfold start at h2
   rw [List.getElem?_append_left (by simpa using hi),List.getElem?_map] at h2
   cases e:vs[i]? with
   | none=>rw [e] at h2; cases h2
   | some a=>rw [e] at h2; cases h2; rfl
  obtain ⟨u,hu,rv⟩:=r.get ha
  have hp:ps[i]?=some y:=by
   rw [<- S.pre,List.getElem?_take_of_lt (by omega)]; exact h1
  have ndP:ps.Nodup:=by rw [<- S.pre]; exact S.nd.sublist (List.take_sublist _ _)
  refine ⟨u,rv,?_⟩
  rcases S.par y (List.mem_of_getElem? hp) with k | k
  ·exact .inl ⟨k,qC ndP hp hu k⟩
  ·obtain ⟨c,e⟩:=sQ (n:=s.heap.objs.size+1) k
   refine .inr ⟨.inl k,c,e,?_⟩
   have q:=x.cell y c e
   rw [qA ndP hp hu (by show scope.names.lookup y≠_; rw [k]; decide)] at q
   exact q
 ·exact e0.hok.fresh (Nat.le_of_lt (x.above y c (PySem.mem_of_lookup h)))
 ·unfold start
  show _=N.length
  rw [List.length_append,List.length_map,List.length_replicate]
  omega
theorem aId {CX:CXT} {P:Program} {w:World} {K:PySem.W.Frag} {mg:Str->Option Value} {base:Heap} {k:Nat} {f:Addr} {name qual:Str} {params:Arguments} {body:List Stmt} {scope:Scope} {dV kV doc pm cdv ct oc:Value} {an od:Option Addr}
  {osl:Array (Option Value)} {N ps:List Str} {sp:Sp} (lk:K.lookup f=some ⟨oc,od,.func (PySem.W.fnOf name qual params body scope dV kV doc pm an cdv ct),osl⟩) (hcd:PySem.W.codeIn K cdv qual=true) (S:FnScope N ps scope)
  (len:∀ vs H Q E,sp vs H Q E->vs.length=ps.length)
  (hbody:∀ (A:Around) (outer:List Env) (s:Shared) (H:Hp) (vs:List V) (Q:VK) (E:XK),Room k (A.deeper (envOfC qual scope s.heap.objs.size f cdv))->sp vs H Q E ->
   ∃ t,PSs (cxOf CX P w K mg base N qual scope f cdv A outer s H E) body t/\t { nx:=fun _ H'=>Q .non H',rt:=Q } (start N vs) H) :
  FnOk P w K mg base CX (k+1) f (PySem.W.fnOf name qual params body scope dV kV doc pm an cdv ct) ps sp:=by
 refine ⟨len,fun A outer s H args us vs Q E hr e0 hb r hsp=>?_⟩
 have hl:=len _ _ _ _ hsp
 have KX:K.In s.heap:=e0.mod.kin.keeps fun b o e=>(e0.bs b o e).1
 have lim:s.heap.NoLimit:=e0.mod.nolimit.keeps fun b o e=>(e0.bs b o e).1
 have hkind:∀ y∈ps.zip us,scope.names.lookup y.1=some .local\/(scope.names.lookup y.1=some .cell/\((cellsFrom (s.heap.objs.size+1) scope.names []).lookup y.1).isSome=true):=fun ⟨n,v⟩ hy=>by
  rcases S.par n (List.of_mem_zip hy).1 with q | q
  ·exact .inl q
  ·exact .inr ⟨q,PySem.W.cellsFrom_some _ _ _ (.inl q)⟩
 refine codeAny_call_function hr.depth (KX _ _ lk) rfl S.co S.gen rfl (PySem.W.codeRec_of KX hcd) (hb _ _ _ _ ?_)
 refine wpAny_newFunctionEnv_cells S.kind hkind fun env he s1 x=>?_
 subst he
 refine ⟨lim.keeps x.toInCall.keep,codeAny_func ?_⟩
 obtain ⟨t,ht,hq⟩:=hbody A outer s H vs Q E (hr.deeper _) hsp
 have I:Inv (cxOf CX P w K mg base N qual scope f cdv A outer s H E) [] (start N vs) H s1:=aAr S hr.hd e0 hl r x
 refine wpAny_mono (ht [] s1 (start N vs) H _ I hq) (fun fl s' hs=>?_) fun e s' hs=>hs
 have fin:∀ {σ':St} {H':Hp} {v:V} {u:Value},Inv (cxOf CX P w K mg base N qual scope f cdv A outer s H E) [] σ' H' s'->RelV v u->Q v H'->CE outer P w H s Q u s' :=
  fun {σ' H' v u} J rv q=>⟨v,H',J.os,J.bare,J.base,J.hok,rv,q⟩
 cases fl with
 | ret u =>
  obtain ⟨v,σ',H',J,rv,q⟩:=hs
  exact fin J rv q
 | next =>
  obtain ⟨σ',H',J,q⟩:=hs
  exact fin (v:=V.non) (u:=Value.none) J rfl q
 | brk =>
  obtain ⟨_,_,_,q⟩:=hs
  exact False.elim q
 | cont =>
  obtain ⟨_,_,_,q⟩:=hs
  exact False.elim q
end L2
namespace L2
open PySem PySem.Spec PyProof.Rows
section
variable {X:Cx} {x:Str} {p pos:Pos} {e:Expr} {es:List Expr} {t:TA} {id T:String} {r:List V->Hp->VK->Prop}
noncomputable def tCB (r:List V->Hp->VK->Prop) (t:TA):TE:=fun σ H Q=>t σ H fun vs H1=>r vs H1 Q
theorem aBe (hc:CallR X (.builtin id) r) (hg:Gl X x) (hm:X.mg x=none) (hv:bootBuiltins x=some (.builtin id)) (ha:PA X (e::es) t) (hn:x≠"__name__":=by decide) (hdb:(x==("__debug__":Str))=false:=by decide)
  (he:starEach (e::es) X.env=(false,eval e X.env)::starEach es X.env:=by rfl) (hpl:(backTo pos (starEach es X.env)).any (·.1)=false:=by rfl):PE X (.Call (.Name x p) (e::es) [] pos) (tCB r t):=by
 intro pins s σ H Q I h
 refine wpAny_Call_Name_kw (iU I hg hm hv ?_ hn hdb)
 exact PyProof.Rows.callWith_builtin1 (thn (ha pos pins s σ H _ I h) fun us s1 ⟨vs,H1,I1,r1,q1⟩=>hc pins s1 σ H1 vs us Q I1 r1 q1) he hpl
theorem lI (hc:CallR X (.type T) r) (hg:Gl X x) (hm:X.mg x=none) (hv:bootBuiltins x=some (.type T)) (ha:PA X (e::es) t) (hn:x≠"__name__":=by decide) (hdb:(x==("__debug__":Str))=false:=by decide)
  (he:starEach (e::es) X.env=(false,eval e X.env)::starEach es X.env:=by rfl) (hpl:(backTo pos (starEach es X.env)).any (·.1)=false:=by rfl):PE X (.Call (.Name x p) (e::es) [] pos) (tCB r t):=by
 intro pins s σ H Q I h
 refine wpAny_Call_Name_kw (iU I hg hm hv ?_ hn hdb)
 exact PyProof.Rows.callWith_type1 (thn (ha pos pins s σ H _ I h) fun us s1 ⟨vs,H1,I1,r1,q1⟩=>hc pins s1 σ H1 vs us Q I1 r1 q1) he hpl
end
end L2
namespace HT
open PySem PyProof.Rows
noncomputable def lexLt:List Int->List Int->Bool
 | [],[]=>false
 | [],_::_=>true
 | _::_,[]=>false
 | x::xs,y::ys=>if x=y then lexLt xs ys else decide (x < y)
theorem uX (x y:Int) (xs ys:List Int):lexLt (x::xs) (y::ys)=if x=y then lexLt xs ys else decide (x < y):=rfl
theorem pJ:lexLt [] []=false:=rfl
theorem nH (y:Int) (ys:List Int):lexLt [] (y::ys)=true:=rfl
theorem nT (x:Int) (xs:List Int):lexLt (x::xs) []=false:=rfl
theorem aDk (A:Around) (s:Shared) (a:Int) (t:Tok) (c:Int) (u:Tok):∃ e,SeqAt.EqAt A s (.int a t) (.int c u) e/\(e=true ↔ a=c) :=
 ⟨(a==c),SeqAt.EqAt.int_int a t c u,by simp⟩
theorem rcLt_int (A:Around) (s:Shared) (a:Int) (t:Tok) (c:Int) (u:Tok) (prog:Program) (w:World) (E:Value->Shared->Prop) (Q:Value->Shared->Prop) (h:Q (.bool (decide (a < c))) s) :
  wpAny (model prog w) A (richCompare .Lt (.int a t) (.int c u)) Q E s :=
 (PyProof.Rows.lt_int h:wpAny (model prog w) A (compareOp .Lt (.int a t) (.int c u)) Q E s)
section
open PySem.SeqAt
open PySem.AutoSeq1 (wpAny_loadPart')
open PySem.MeetsSeq PySem.MeetsSeq2 PySem.MeetsSeq3
theorem pF (l b:Addr) (items items2:Array Value) (n n2:Nat) (dd dd2:Option Addr) (sl sl2:Array (Option Value)) (ns ms:List Int) (hi:IntsAre items.toList ns) (hj:IntsAre items2.toList ms) :
  Meets (Builtin.«tuple.__lt__» ⟨[.ref l,.ref b],[]⟩)
   (fun _ R s=>s.heap.get? l=some { cls:=.type "tuple",dict:=dd,data:=.seq items n,slots:=sl }/\s.heap.get? b=some { cls:=.type "tuple",dict:=dd2,data:=.seq items2 n2,slots:=sl2 } /\
    R (.ok (.ret (.bool (lexLt ns ms)))) s) :=
 .of_wp fun prog w A R s h=>by
  obtain ⟨hp,g,d,tk,os⟩:=s; obtain ⟨hl,hb,h⟩:=h
  have f2:=AutoSeq1.sub_tuple_tuple
  have z1:items.size=ns.length:=by rw [<- hi.length]; simp
  have z2:items2.size=ms.length:=by rw [<- hj.length]; simp
  wp_walk using wpAny_loadPart' hl,wpAny_loadPart' hb,wpAny_forIn_list _ (fun rest b s'=>b.1=none/\s'=⟨hp,g,d,tk,os⟩/\∃ (vs ws:List Value) (ns' ms':List Int),rest=vs.zip ws /\
   IntsAre vs ns'/\IntsAre ws ms'/\ns'.length+items2.size=ms'.length+items.size/\R (.ok (.ret (.bool (lexLt ns' ms')))) ⟨hp,g,d,tk,os⟩) _
  case turn =>
   rintro ⟨y,x⟩ rest b s' ⟨hb',rfl,vs,ws,ns',ms',hz,hvi,hwi,hlen,hR⟩
   cases hvi with
   | nil=>rw [List.zip_nil_left] at hz; cases hz
   | cons a t hvi' =>
    cases hwi with
    | nil=>rw [List.zip_nil_right] at hz; cases hz
    | cons c u hwi' =>
     rw [List.zip_cons_cons] at hz
     injection hz with hyx hrest
     injection hyx with hy hx
     subst hy hx
     rw [uX] at hR
     simp only [List.length_cons] at hlen
     obtain ⟨e,he,hiff⟩:=aDk A.in1 ⟨hp,g,d,tk,os⟩ a t c u
     refine wpAny_bind (he prog w _ _ ?_)
     cases e with
     | true =>
      rw [if_pos (hiff.mp rfl)] at hR
      wp_walk
      exact ⟨rfl,rfl,_,_,_,_,hrest,hvi',hwi',by omega,hR⟩
     | false =>
      rw [if_neg (fun q=>absurd (hiff.mpr q) Bool.false_ne_true)] at hR
      have hri:=rcLt_int A.in1 ⟨hp,g,d,tk,os⟩ a t c u prog w
      wp_walk using hri
      exact ⟨_,rfl,by simpa using hR⟩
  case fin =>
   rintro ⟨b1,b2⟩ s' ⟨hb',rfl,vs,ws,ns',ms',hz,hvi,hwi,hlen,hR⟩
   simp only at hb'
   subst hb'
   have hv:lexLt ns' ms'=decide (items.size < items2.size):=by
    cases hvi with
    | nil =>
     cases hwi with
     | nil =>
      simp only [List.length_nil] at hlen
      rw [pJ]
      exact (decide_eq_false (by omega)).symm
     | cons c u hw =>
      simp only [List.length_nil,List.length_cons] at hlen
      rw [nH]
      exact (decide_eq_true (by omega)).symm
    | cons a t hv =>
     cases hwi with
     | nil =>
      simp only [List.length_nil,List.length_cons] at hlen
      rw [nT]
      exact (decide_eq_false (by omega)).symm
     | cons c u hw =>
      rw [List.zip_cons_cons] at hz
      cases hz
   rw [hv] at hR
   wp_walk
   exact ⟨_,rfl,by simpa [Builtin.Tuple.tupleCompareSizes] using hR⟩
  case h =>
   exact ⟨rfl,rfl,items.toList,items2.toList,ns,ms,rfl,hi,hj,by omega,h⟩
end
section
variable {prog:Program} {w:World} {A:Around} {E:Value->Shared->Prop} {s:Shared}
theorem lt_tupInts {l b:Addr} {items items2:Array Value} {ns ms:List Int} {Q:Value->Shared->Prop} (hl:IsTup s.heap l items) (hb:IsTup s.heap b items2) (hi:IntsAre items.toList ns) (hj:IntsAre items2.toList ms)
  (hu:A.units < cLine) (h:Q (.bool (lexLt ns ms)) s):wpAny (model prog w) A (compareOp .Lt (.ref l) (.ref b)) Q E s:=by
 obtain ⟨⟨cls,dd,data,sl⟩,ho,hc,n,hd⟩:=id hl
 obtain ⟨⟨cls2,dd2,data2,sl2⟩,ho2,hc2,n2,hd2⟩:=id hb
 simp only at hc hd hc2 hd2
 subst hc hd hc2 hd2
 exact richCompare_meets_room (op:=.Lt) ⟨_,ho,rfl⟩ ⟨_,ho2,rfl⟩ PySem.F.slot_tuple_lt PySem.F.entry_tuple_lt (PySem.F.args_tuple_lt_2 _ _) (pF l b items items2 n n2 dd dd2 sl sl2 ns ms hi hj)
  ⟨ho,ho2,show Value.bool (lexLt ns ms)≠Value.notImplemented/\Q (.bool (lexLt ns ms)) s from ⟨(fun x=>nomatch x),h⟩⟩ hu
theorem cat_tup {t b:Addr} {vs ws:List Value} {Q:Value->Shared->Prop} (ht:IsTup s.heap t vs.toArray) (hb:IsTup s.heap b ws.toArray) (hv:vs≠[])
  (h1:ws=[]->Q (.ref t) s) (h2:ws≠[]->Q (.ref s.heap.objs.size) { s with heap:=s.heap.push { cls:=.type "tuple",data:=.seq (vs++ws).toArray } })
  (hsz:vs.length+ws.length<=sizeLine):wpAny (model prog w) A (binaryOp .Add (.ref t) (.ref b)) Q E s:=by
 obtain ⟨⟨cls,dd,data,sl⟩,ho,hc,n,hd⟩:=id ht
 obtain ⟨⟨cls2,dd2,data2,sl2⟩,ho2,hc2,n2,hd2⟩:=id hb
 simp only at hc hd hc2 hd2
 subst hc hd hc2 hd2
 have e:vs.toArray++ws.toArray=(vs++ws).toArray:=by simp
 by_cases hw:ws=[]
 ·exact concat_meets ⟨_,ho,rfl⟩ ⟨_,ho2,rfl⟩ noFill_tuple_add seq_tuple_add PySem.F.slot_tuple_add PySem.F.entry_tuple_add (PySem.F.args_tuple_add_2 _ _)
   (tuple_addW1 t b vs.toArray ws.toArray n n2 dd dd2 sl sl2 (by simpa using hv) (by simp [hw])) ⟨ho,ho2,h1 hw⟩
 ·refine concat_meets ⟨_,ho,rfl⟩ ⟨_,ho2,rfl⟩ noFill_tuple_add seq_tuple_add PySem.F.slot_tuple_add PySem.F.entry_tuple_add (PySem.F.args_tuple_add_2 _ _)
   (tuple_addW2 t b vs.toArray ws.toArray n n2 dd dd2 sl sl2 (by simpa using hv) (by simpa using hw) (by rw [List.size_toArray,List.size_toArray]; exact hsz)) ⟨ho,ho2,?_⟩
  rw [e]
  exact h2 hw
noncomputable def sIx (n d:Nat):Option Int->Nat
 | none=>d
 | some v=>if v < 0 then (v+(n:Int)).toNat else min v.toNat n
theorem aMo (n d:Nat):sIx n d none=d:=rfl
theorem aJs (n d:Nat) (hd:d<=n) (o:Option Int):sIx n d o<=n:=by
 cases o with
 | none=>exact hd
 | some v =>
  show (if v < 0 then (v+(n:Int)).toNat else min v.toNat n)<=n
  by_cases hv:v < 0
  ·rw [if_pos hv]; omega
  ·rw [if_neg hv]; exact Nat.min_le_right _ _
theorem yE (v:Int) (n d:Nat):(if v < 0 then max (v+(n:Int)) 0 else min v (n:Int))=((sIx n d (some v):Nat):Int):=by
 show (if v < 0 then max (v+(n:Int)) 0 else min v (n:Int))=(((if v < 0 then (v+(n:Int)).toNat else min v.toNat n):Nat):Int)
 by_cases hv:v < 0
 ·simp only [if_pos hv]; omega
 ·simp only [if_neg hv]; omega
theorem wD (lo hi:Option Int) (n:Nat):Builtin.Slice.sliceAdjust lo hi 1 (n:Int)=(((sIx n 0 lo:Nat):Int),((sIx n n hi:Nat):Int)):=by
 have h1:¬ ((1:Int) < 0):=by omega
 unfold Builtin.Slice.sliceAdjust
 simp only [h1,if_false]
 refine Prod.ext ?_ ?_
 ·cases lo with
  | none=>rfl
  | some v=>exact yE v n 0
 ·cases hi with
  | none=>rfl
  | some v=>exact yE v n n
theorem vN (i j:Nat):Builtin.Slice.slicePlaces (i:Int) (j:Int) 1=j - i:=by
 unfold Builtin.Slice.slicePlaces
 have h1:(1:Int) > 0:=by omega
 simp only [h1,if_true,Int.ediv_one]
 split <;> omega
theorem oQ {v:Value} {o:Option Int} {Q:Option Int->Shared->Prop} (p:IsPart v o) (h:Q o s):wpAny (model prog w) A (Builtin.Slice.slicePartIndex v) Q E s:=by
 cases p with
 | none=>exact slicePart_none h
 | int i t=>exact slicePart_int h
theorem gP {sl:Addr} {vl vu:Value} {lo hi:Option Int} {n:Nat} {Q:Int×Int×Nat->Shared->Prop} (hs:s.heap.IsSliceOf sl vl vu .none) (pl:IsPart vl lo) (pu:IsPart vu hi)
  (h:Q (((sIx n 0 lo:Nat):Int),1,sIx n n hi - sIx n 0 lo) s):wpAny (model prog w) A (Builtin.Slice.sliceApplied (.ref sl) (pure (n:Int))) Q E s:=by
 obtain ⟨os,hos,hcs,hds⟩:=id hs
 unfold Builtin.Slice.sliceApplied Builtin.Slice.sliceFields
 refine wpAny_bind (wpAny_bind (wpAny_field hos hds (x:=vl) rfl (wpAny_bind (wpAny_field hos hds (x:=vu) rfl (wpAny_bind (wpAny_field hos hds (x:=.none) rfl (wpAny_pure ?_)))))))
 refine wpAny_bind (slicePart_none ?_)
 show wpAny _ _ (if ((1:Int)==0)=true then _ else _) _ _ s
 rw [if_neg (by decide)]
 refine wpAny_bind (oQ pl (wpAny_bind (oQ pu (wpAny_bind (wpAny_pure ?_)))))
 show wpAny _ _ (match Builtin.Slice.sliceAdjust lo hi 1 (n:Int) with | (lo,hi)=>pure (lo,(1:Int),Builtin.Slice.slicePlaces lo hi 1)) _ _ s
 rw [wD lo hi n]
 show wpAny _ _ (pure (((sIx n 0 lo:Nat):Int),(1:Int),Builtin.Slice.slicePlaces ((sIx n 0 lo:Nat):Int) ((sIx n n hi:Nat):Int) 1)) _ _ s
 rw [vN]
 exact wpAny_pure h
theorem aCh (xs:Array Value) (i k:Nat):((List.range k).filterMap fun (m:Nat)=>xs[((i:Int)+(m:Int)*1).toNat]?).toArray=((xs.toList.drop i).take k).toArray:=by
 have e:(fun (m:Nat)=>xs[((i:Int)+(m:Int)*1).toNat]?)=fun m=>xs[i+m]?:=by
  funext m
  have:((i:Int)+(m:Int)*1).toNat=i+m:=by omega
  rw [this]
 rw [e]
 have:=pick_run xs i k
 rw [List.filterMap_map] at this
 have e2:((fun x=>xs[x]?) ∘ fun x=>i+x)=fun m=>xs[i+m]?:=rfl
 rw [e2] at this
 rw [this]
theorem getItem_tuple_cut {t sl:Addr} {items:Array Value} {vl vu:Value} {lo hi:Option Int} {Q:Value->Shared->Prop} (ht:IsTup s.heap t items) (hs:s.heap.IsSliceOf sl vl vu .none) (pl:IsPart vl lo) (pu:IsPart vu hi)
  (hw:¬ (sIx items.size 0 lo=0/\sIx items.size items.size hi=items.size))
  (h:Q (.ref s.heap.objs.size) { s with heap:=s.heap.push { cls:=.type "tuple",data:=.seq ((items.toList.drop (sIx items.size 0 lo)).take (sIx items.size items.size hi - sIx items.size 0 lo)).toArray } })
  (hsz:items.size<=sizeLine):wpAny (model prog w) A (getItem (.ref t) (.ref sl)) Q E s:=by
 have htake:sizeOk (.seq ((items.toList.drop (sIx items.size 0 lo)).take (sIx items.size items.size hi - sIx items.size 0 lo)).toArray):=by
  show ((items.toList.drop (sIx items.size 0 lo)).take (sIx items.size items.size hi - sIx items.size 0 lo)).toArray.size<=sizeLine
  rw [List.size_toArray,List.length_take,List.length_drop,Array.length_toList]
  omega
 have hj:sIx items.size items.size hi<=items.size:=aJs _ _ (Nat.le_refl _) hi
 obtain ⟨os,hos,hcs,hds⟩:=id hs
 have hTs:s.TypeIs (.ref sl) "slice":=⟨os,hos,hcs⟩
 unfold getItem
 try with_reducible refine wpAny_holding ?_
 first | refine wpAny_bind (wpAny_pure ?_) | skip
 refine wpAny_bind (wpAny_sequenceKey ht.typeIs (by decide) ?_)
 refine wpAny_bind (wpAny_callSpecial?_slot (name:=Str.ofString "__getitem__") ht.typeIs PyProof.Rows.slot_tuple_getitem
  (wpAny_call_entry PyProof.Rows.slot_tuple_getitem ht.typeIs entry_tuple_getitem ?_ (args_tuple_getitem _ _)))
 show wpAny _ _ (Builtin.Tuple.tupleItemsOf (.ref t) >>= _) _ _ s
 refine wpAny_bind (tupleItemsOf_ ht ?_)
 refine wpAny_bind (wpAny_typeOf hTs ?_)
 rw [if_pos (by decide)]
 refine wpAny_bind (gP hs pl pu ?_)
 have hno:¬ ((((sIx items.size 0 lo:Nat):Int)==0&&(1:Int)==1&&(sIx items.size items.size hi - sIx items.size 0 lo)==items.size)=true):=by
  intro q
  rw [Bool.and_eq_true,Bool.and_eq_true] at q
  have q1:((sIx items.size 0 lo:Nat):Int)=0:=eq_of_beq q.1.1
  have q2:sIx items.size items.size hi - sIx items.size 0 lo=items.size:=eq_of_beq q.2
  exact hw ⟨by omega,by omega⟩
 show wpAny _ _ (if (((sIx items.size 0 lo:Nat):Int)==0&&(1:Int)==1&&(sIx items.size items.size hi - sIx items.size 0 lo)==items.size)=true then _ else _) _ _ s
 rw [if_neg hno,aCh]
 first
  | exact wpAny_bind (m:=Builtin.Tuple.tupleExact _) (wpAny_newObj_type (wpAny_pure ⟨_,rfl,wpAny_pure h⟩) htake)
  | exact wpAny_bind (m:=Builtin.Tuple.tupleExact _) (wpAny_newObj_type (wpAny_bind (wpAny_pure (wpAny_pure ⟨_,rfl,wpAny_pure h⟩))) htake)
  | exact wpAny_bind (wpAny_bind (m:=Builtin.Tuple.tupleExact _) (wpAny_newObj_type (wpAny_pure (wpAny_pure ⟨_,rfl,wpAny_pure h⟩)) htake))
  | exact wpAny_bind (wpAny_bind (m:=Builtin.Tuple.tupleExact _) (wpAny_newObj_type (wpAny_pure ⟨_,rfl,wpAny_pure h⟩) htake))
end
end HT
namespace L2
open PySem PySem.Spec PyProof.Rows
noncomputable abbrev TO:=St->Hp->(Option Int->Hp->Prop)->Prop
noncomputable def PO (X:Cx) (e:Option Expr) (t:TO):Prop :=
 ∀ (pins:List (Addr×Obj)) (s:Shared) (σ:St) (H:Hp) (Q:Option Int->Hp->Prop),Inv X pins σ H s->t σ H Q ->
  wpAny (model X.prog X.w) X.A (evalPart e X.env) (fun u s'=>∃ o H',Inv X pins σ H' s'/\IsPart u o/\Q o H') X.xe s
noncomputable def tNoPart:TO:=fun _ H Q=>Q none H
noncomputable def tPart (t:TE):TO:=fun σ H Q=>t σ H fun x H1=>∃ i,x=.int i/\Q (some i) H1
theorem gZ {ns:List Int}:∀ {us:List Value},Vals (ns.map V.int) us->IntsAre us ns:=by
 induction ns with
 | nil=>intro us r; rw [List.map_nil] at r; cases r; exact .nil
 | cons n ns ih =>
  intro us r
  rw [List.map_cons] at r
  cases r with
  | cons r1 r2 =>
   obtain ⟨t,e⟩:=r1
   subst e
   exact .cons n t (ih r2)
section
variable {X:Cx} {e:Expr} {te:TE} {lo hi:Option Expr} {tl th:TO} {pos p2:Pos}
theorem aGf:PO X none tNoPart:=by
 intro pins s σ H Q I h
 rw [evalPart_none]
 exact wpAny_pure ⟨none,H,I,.none,h⟩
theorem aFh (h:PE X e te):PO X (some e) (tPart te):=by
 intro pins s σ H Q I hw
 rw [evalPart_some]
 refine thn (h pins s σ H _ I hw) fun u s1 ⟨x,H1,I1,r1,q1⟩=>?_
 obtain ⟨i,rfl,q⟩:=q1
 obtain ⟨t,rfl⟩:=r1
 exact ⟨some i,H1,I1,.int i t,q⟩
noncomputable def SlR (X:Cx) (r:V->Option Int->Option Int->Hp->VK->Prop):Prop :=
 ∀ (pins:List (Addr×Obj)) (s:Shared) (σ:St) (H:Hp) (x:V) (v vl vu:Value) (lo hi:Option Int) (sl:Addr) (Q:VK),Inv X pins σ H s->RelV x v->s.heap.IsSliceOf sl vl vu .none->IsPart vl lo->IsPart vu hi->r x lo hi H Q ->
  ∃ T id,typeLookup (.type T) "__getitem__"=pure (some (.builtin id))/\s.TypeIs v T/\wpAny (model X.prog X.w) X.A (getItem v (.ref sl)) (EP X pins σ Q) X.xe s
theorem SlR.or {r r':V->Option Int->Option Int->Hp->VK->Prop} (h:SlR X r) (h':SlR X r'):SlR X (fun x lo hi H Q=>r x lo hi H Q\/r' x lo hi H Q):=by
 intro pins s σ H x v vl vu lo hi sl Q I rx hs pl pu q
 rcases q with q | q
 ·exact h pins s σ H x v vl vu lo hi sl Q I rx hs pl pu q
 ·exact h' pins s σ H x v vl vu lo hi sl Q I rx hs pl pu q
noncomputable def tSl (r:V->Option Int->Option Int->Hp->VK->Prop) (te:TE) (tl th:TO):TE:=fun σ H Q=>te σ H fun x H1=>tl σ H1 fun l H2=>th σ H2 fun u H3=>r x l u H3 Q
theorem aCr {r:V->Option Int->Option Int->Hp->VK->Prop} (hr:SlR X r) (he:PE X e te) (hl:PO X lo tl) (hu:PO X hi th):PE X (.Subscript e (.Slice lo hi none p2) pos) (tSl r te tl th):=by
 intro pins s σ H Q I h
 refine Subscript_ (thn (he pins s σ H _ I h) fun v s1 ⟨x,H1,I1,r1,q1⟩=>?_)
 refine wpAny_Slice (thn (hl pins s1 σ H1 _ I1 q1) fun vl s2 ⟨l,H2,I2,pl,q2⟩=>thn (hu pins s2 σ H2 _ I2 q2) fun vu s3 ⟨u,H3,I3,pu,q3⟩=>?_)
 rw [evalPart_none]
 refine wpAny_pure ?_
 have I4:Inv X pins σ H3 { s3 with heap:=s3.heap.push { cls:=.type "slice",data:=.fields #[vl,vu,.none] } }:=I3.kept (t':=s3.toks) fun b ob q=>Heap.get?_push_of_some _ q
 obtain ⟨T,id,hT,ht,hg⟩:=hr pins { s3 with heap:=s3.heap.push { cls:=.type "slice",data:=.fields #[vl,vu,.none] } } σ H3 x v vl vu l u s3.heap.objs.size Q I4 r1 (Heap.IsSliceOf.new ..) pl pu q3
 show wpAny (model X.prog X.w) X.A (subscriptTail e (.Slice lo hi none p2) v (.ref s3.heap.objs.size)) (EP X pins σ Q) X.xe { s3 with heap:=s3.heap.push { cls:=.type "slice",data:=.fields #[vl,vu,.none] } }
 exact tail_any (ops:=[.ref s3.heap.objs.size,v]) ht hT hg (by with_unfolding_all rfl)
noncomputable def cutV (xs:List V) (lo hi:Option Int):List V:=(xs.drop (HT.sIx xs.length 0 lo)).take (HT.sIx xs.length xs.length hi - HT.sIx xs.length 0 lo)
theorem mE (xs:List V) (lo hi:Option Int):(cutV xs lo hi).length<=xs.length:=by
 unfold cutV
 rw [List.length_take,List.length_drop]
 omega
noncomputable def rSlT (K:PySem.W.Frag):V->Option Int->Option Int->Hp->VK->Prop:=fun x lo hi H Q=>∃ a xs,x=.ref a/\SqT K H a xs /\
 ¬ (HT.sIx xs.length 0 lo=0/\HT.sIx xs.length xs.length hi=xs.length)/\∀ p,H p=none->Q (.ref p) (upd H p (.tup (cutV xs lo hi)))
theorem aJc:SlR X (rSlT X.K):=by
 intro pins s σ H x v vl vu lo hi sl Q I rx hs pl pu h
 obtain ⟨a,xs,rfl,hx,hw,q⟩:=h
 cases rx
 obtain ⟨its,r,ht,hz⟩:=I.tuple hx
 have hlen:its.toArray.size=xs.length:=by rw [List.size_toArray]; exact r.length.symm
 refine ⟨"tuple",_,PyProof.Rows.slot_tuple_getitem.lookup,ht.typeIs,?_⟩
 refine HT.getItem_tuple_cut ht hs pl pu (by rw [hlen]; exact hw) ?_ (by rw [hlen]; exact hz)
 rw [hlen]
 refine ⟨.ref s.heap.objs.size,_,I.laid (t':=s.toks) (o:=.tup (cutV xs lo hi)) (fun b ob q=>Heap.get?_push_of_some _ q) (Nat.le_refl _) ?_,rfl,q _ (I.hok.fresh (Nat.le_refl _))⟩
 exact ⟨Nat.le_trans (mE xs lo hi) hz,_,(r.drop (HT.sIx xs.length 0 lo)).take (HT.sIx xs.length xs.length hi - HT.sIx xs.length 0 lo),IsTup.new _ _⟩
noncomputable def rCatT (K:PySem.W.Frag):R2:=fun x y H Q=>∃ a b xs ys,x=.ref a/\y=.ref b/\SqT K H a xs/\SqT K H b ys/\xs≠[]/\xs.length+ys.length<=sizeLine /\
 (ys=[]->Q (.ref a) H)/\(ys≠[]->∀ p,H p=none->Q (.ref p) (upd H p (.tup (xs++ys))))
theorem Vals.nil_iff {xs:List V} {us:List Value} (r:Vals xs us):us=[] ↔ xs=[]:=by
 cases r with
 | nil=>simp
 | cons _ _=>simp
theorem aFn:OpR X (binaryOp .Add) (rCatT X.K):=by
 intro pins s σ H x y v u Q I rx ry h
 obtain ⟨a,b,xs,ys,rfl,rfl,ha,hb,hx,hz,q1,q2⟩:=h
 cases rx
 cases ry
 obtain ⟨its,r1,p1,_⟩:=I.tuple ha
 obtain ⟨its2,r2,p2,_⟩:=I.tuple hb
 refine HT.cat_tup p1 p2 (fun z=>hx (r1.nil_iff.mp z)) (fun z=>⟨.ref a,H,I,rfl,q1 (r2.nil_iff.mp z)⟩) (fun z=>?_) (by rw [<- r1.length,<- r2.length]; exact hz)
 refine ⟨.ref s.heap.objs.size,_,I.laid (t':=s.toks) (o:=.tup (xs++ys)) (fun b ob q=>Heap.get?_push_of_some _ q) (Nat.le_refl _) ?_,rfl,q2 (fun w=>z (r2.nil_iff.mpr w)) _ (I.hok.fresh (Nat.le_refl _))⟩
 exact ⟨by rw [List.length_append]; exact hz,_,r1.append r2,IsTup.new _ _⟩
end
end L2
namespace L2
open PySem PySem.Spec PyProof.Rows
noncomputable def ixN (n:Nat) (i:Int):Option Nat:=if 0<=i then (if i < n then some i.toNat else none) else if -(n:Int)<=i then some (i+n).toNat else none
noncomputable def atI {α:Type} (xs:List α) (i:Int):Option α:=(ixN xs.length i).bind fun j=>xs[j]?
theorem xC {n:Nat} {i:Int} {j:Nat} (h:ixN n i=some j):seqIndex? i n=some j/\j < n /\ -(n:Int)<=i/\i < n:=by
 unfold ixN at h
 by_cases h0:0<=i
 ·rw [if_pos h0] at h
  by_cases h1:i < n
  ·rw [if_pos h1] at h
   have e:i.toNat=j:=Option.some.inj h
   exact ⟨by rw [seqIndex_of h0 h1,e],by omega,by omega,h1⟩
  ·rw [if_neg h1] at h; cases h
 ·rw [if_neg h0] at h
  by_cases h1 : -(n:Int)<=i
  ·rw [if_pos h1] at h
   have e:(i+n).toNat=j:=Option.some.inj h
   exact ⟨by rw [seqIndex_neg (by omega) h1,e],by omega,h1,by omega⟩
  ·rw [if_neg h1] at h; cases h
theorem sD {α:Type} {xs:List α} {i:Int} {v:α} (h:atI xs i=some v):∃ j,seqIndex? i xs.length=some j/\xs[j]?=some v/\j < xs.length /\ -(xs.length:Int)<=i/\i < xs.length:=by
 unfold atI at h
 cases e:ixN xs.length i with
 | none=>rw [e] at h; cases h
 | some j =>
  rw [e] at h
  obtain ⟨h1,h2,h3,h4⟩:=xC e
  exact ⟨j,h1,h,h2,h3,h4⟩
noncomputable def PlainIx (b:Expr):Prop:=∀ o i,subscripted b false o i=operate [o,i] (getItem o i)
noncomputable def IxR (X:Cx) (r:R2):Prop :=
 ∀ (value slice:Expr) (pins:List (Addr×Obj)) (s:Shared) (σ:St) (H:Hp) (x y:V) (v u:Value) (Q:VK),Inv X pins σ H s->RelV x v->RelV y u->r x y H Q ->
  subscripted slice false v u=operate [v,u] (getItem v u)->wpAny (model X.prog X.w) X.A (subscriptTail value slice v u) (EP X pins σ Q) X.xe s
noncomputable def MtR (X:Cx) (id:String) (r:V->List V->Hp->VK->Prop):Prop :=
 ∀ (pins:List (Addr×Obj)) (s:Shared) (σ:St) (H:Hp) (x:V) (xs:List V) (v:Value) (us:List Value) (Q:VK),Inv X pins σ H s->RelV x v->Vals xs us->r x xs H Q ->
  wpAny (model X.prog X.w) X.A (call (.builtin id) (v::us)) (EP X pins σ Q) X.xe s
section
variable {X:Cx} {a b:Expr} {ta tb:TE} {pos:Pos}
theorem IxR.or {r r':R2} (h:IxR X r) (h':IxR X r'):IxR X (fun x y H Q=>r x y H Q\/r' x y H Q):=by
 intro value slice pins s σ H x y v u Q I rx ry q hs
 rcases q with q | q
 ·exact h value slice pins s σ H x y v u Q I rx ry q hs
 ·exact h' value slice pins s σ H x y v u Q I rx ry q hs
theorem MtR.or {id:String} {r r':V->List V->Hp->VK->Prop} (h:MtR X id r) (h':MtR X id r'):MtR X id (fun x xs H Q=>r x xs H Q\/r' x xs H Q):=by
 intro pins s σ H x xs v us Q I rx rs q
 rcases q with q | q
 ·exact h pins s σ H x xs v us Q I rx rs q
 ·exact h' pins s σ H x xs v us Q I rx rs q
theorem aMx {r:R2} (hr:IxR X r) (ha:PE X a ta) (hb:PE X b tb) (hs:PlainIx b):PE X (.Subscript a b pos) (tOp r ta tb):=by
 intro pins s σ H Q I h
 exact Subscript_ (binT ha hb I h fun v u s2 x y H2 I2 rx ry q=>hr a b pins s2 σ H2 x y v u Q I2 rx ry q (hs _ _))
noncomputable def rIxL (K:PySem.W.Frag):R2:=fun x y H Q=>∃ p xs i v,x=.ref p/\y=.int i/\SqL K H p xs/\atI xs i=some v/\Q v H
noncomputable def rIxT (K:PySem.W.Frag):R2:=fun x y H Q=>∃ p xs i v,x=.ref p/\y=.int i/\SqT K H p xs/\atI xs i=some v/\Q v H
noncomputable def rIxS:R2:=fun x y H Q=>∃ z i c,x=.str z/\y=.int i/\z.length<=sizeLine/\atI z.cps.toList i=some c/\Q (.str ⟨#[c]⟩) H
theorem aGi:IxR X (rIxL X.K):=by
 intro value slice pins s σ H x y v u Q I rx ry h hs
 obtain ⟨p,xs,i,z,rfl,rfl,hq,he,q⟩:=h
 cases rx
 obtain ⟨t,rfl⟩:=ry
 obtain ⟨its,r,pl,hz⟩:=I.list hq
 obtain ⟨j,h1,h2,h3,h4,h5⟩:=sD he
 obtain ⟨w,ew,rw'⟩:=r.get h2
 have hl:=r.length
 have hn:=line63
 have fin:EP X pins σ Q w s:=⟨z,H,I,rw',q⟩
 by_cases h0:0<=i
 ·have hj:i.toNat=j:=by
   rw [seqIndex_of h0 h5] at h1
   exact Option.some.inj h1
  exact item_listR pl.isList h0 (by omega) (by rw [hj]; simpa using ew) fin hs
 ·have hj:(i+(its.toArray.size:Int)).toNat=j:=by
   rw [seqIndex_neg (by omega) h4] at h1
   rw [List.size_toArray,<- hl]
   exact Option.some.inj h1
  exact subscriptTail_builtinR (x:=w) pl.isList.typeIs slot_list_getitem.lookup
   (wpAny_getItem_list_neg (Q:=fun r s'=>r=w/\EP X pins σ Q r s') pl.isList (by omega) (by rw [List.size_toArray] <;> omega) (by omega) (by rw [hj]; simpa using ew) ⟨rfl,fin⟩) hs
theorem aKt:IxR X (rIxT X.K):=by
 intro value slice pins s σ H x y v u Q I rx ry h hs
 obtain ⟨p,xs,i,z,rfl,rfl,hq,he,q⟩:=h
 cases rx
 obtain ⟨t,rfl⟩:=ry
 obtain ⟨its,r,pl,hz⟩:=I.tuple hq
 obtain ⟨j,h1,h2,h3,h4,h5⟩:=sD he
 obtain ⟨w,ew,rw'⟩:=r.get h2
 have hl:=r.length
 have hn:=line63
 have fin:EP X pins σ Q w s:=⟨z,H,I,rw',q⟩
 exact subscriptTail_builtinR (x:=w) pl.typeIs slot_tuple_getitem.lookup
  (getItem_tuple (j:=j) (Q:=fun r s'=>r=w/\EP X pins σ Q r s') pl (by omega) (by omega) (by rw [List.size_toArray,<- hl]; exact h1) (by simpa using ew) ⟨rfl,fin⟩) hs
theorem aJz:IxR X rIxS:=by
 intro value slice pins s σ H x y v u Q I rx ry h hs
 obtain ⟨z,i,c,rfl,rfl,hz,he,q⟩:=h
 obtain ⟨t,rfl⟩:=rx
 obtain ⟨t',rfl⟩:=ry
 obtain ⟨j,h1,h2,h3,h4,h5⟩:=sD he
 have hl:z.cps.toList.length=z.length:=by simp [Str.length]
 rw [hl] at h1 h4 h5
 have hn:=line63
 exact tail_any (typeIs_str s z t) slot_str_getitem.lookup (getItem_str (c:=c) (by
  have e1:decide (i < -(2 ^ 63:Int))=false:=decide_eq_false (by omega)
  have e2:decide (i>=2 ^ 63)=false:=decide_eq_false (by omega)
  rw [e1,e2,Bool.or_false]) (by rw [h1]; simpa using h2) ⟨.str ⟨#[c]⟩,H,I.tok _,⟨_,rfl⟩,q⟩) hs
noncomputable def rIx (K:PySem.W.Frag):R2:=fun x y H Q=>rIxL K x y H Q\/rIxT K x y H Q\/rIxS x y H Q
theorem aLp:IxR X (rIx X.K):=aGi.or (aKt.or aJz)
theorem wG (its:List Value) (n j:Nat) (u:Value):Obj.mapSeq (·.setIfInBounds j u) { cls:=.type "list",data:=.seq its.toArray n }={ cls:=.type "list",data:=.seq (its.set j u).toArray n }:=by
 simp [Obj.mapSeq]
theorem Inv.lst {pins:List (Addr×Obj)} {σ:St} {H:Hp} {s:Shared} {p:Addr} {xs:List V} (I:Inv X pins σ H s) (h:H p=some (.lst xs)) :
  ∃ (its:List Value) (n:Nat),Vals xs its/\s.heap.get? p=some { cls:=.type "list",data:=.seq its.toArray n }/\xs.length<=sizeLine:=by
 obtain ⟨z,its,n,r,e⟩:=I.hok p _ h
 exact ⟨its,n,r,e,z⟩
theorem Inv.lstUpd {pins:List (Addr×Obj)} {σ:St} {H:Hp} {s:Shared} {p:Addr} {xs ys:List V} {its its':List Value} {n n':Nat} {f:Obj->Obj} (I:Inv X pins σ H s) (h:H p=some (.lst xs))
  (ho:s.heap.get? p=some { cls:=.type "list",data:=.seq its.toArray n }) (hf:f { cls:=.type "list",data:=.seq its.toArray n }={ cls:=.type "list",data:=.seq its'.toArray n' }) (r:Vals ys its') (hz:ys.length<=sizeLine) (t:Nat) :
  Inv X pins σ (upd H p (.lst ys)) { s with heap:=s.heap.update p f,toks:=t }:=by
 have e:(s.heap.update p f).get? p=some { cls:=.type "list",data:=.seq its'.toArray n' }:=by
  rw [Heap.get?_update_self f ho (by rw [hf] <;> rfl),hf]
 refine I.write (x:=p) (e:=p) (by rw [h]; trivial) (.inl rfl) (fun b u hb q=>(Heap.get?_update_other _ _ (Ne.symm hb)).trans q) ⟨_,e⟩ ?_
 exact ⟨hz,its',n',r,e⟩
noncomputable def rSetL:V->V->V->Hp->(Hp->Prop)->Prop:=fun o i v H Q=>∃ p xs k j,o=.ref p/\i=.int k/\H p=some (.lst xs)/\ixN xs.length k=some j/\Q (upd H p (.lst (xs.set j v)))
theorem tX:PSet X rSetL:=by
 intro pins s σ H o i v ov iv u Q I ro ri rv h
 obtain ⟨p,xs,k,j,rfl,rfl,hp,hj,q⟩:=h
 cases ro
 obtain ⟨t,rfl⟩:=ri
 obtain ⟨its,n,r,ho,hz⟩:=I.lst hp
 obtain ⟨h1,h2,h3,h4⟩:=xC hj
 have hl:=r.length
 have hn:=line63
 have I':Inv X pins σ (upd H p (.lst (xs.set j v))) { s with heap:=s.heap.update p (Obj.mapSeq (·.setIfInBounds j u)) } :=
  I.lstUpd hp ho (wG its n j u) (r.set rv j) (by rw [List.length_set]; exact hz) s.toks
 by_cases h0:0<=k
 ·have hk:k.toNat=j:=by
   rw [seqIndex_of h0 h4] at h1
   exact Option.some.inj h1
  exact PySem.W.ki_setAt ho h0 (by omega) (by rw [List.size_toArray,<- hl]; exact h4) (by rw [hk]; exact ⟨_,I',q⟩)
 ·have hk:(k+(its.toArray.size:Int)).toNat=j:=by
   rw [seqIndex_neg (by omega) h3] at h1
   rw [List.size_toArray,<- hl]
   exact Option.some.inj h1
  exact PySem.W.ki_setBack ho (by omega) (by rw [List.size_toArray,<- hl]; exact h3) (by omega) (by rw [hk]; exact ⟨_,I',q⟩)
theorem qZ (lo hi:Option Int) (n:Nat):(sliceBounds lo hi none n).1=((HT.sIx n 0 lo:Nat):Int)/\(sliceBounds lo hi none n).2.1=((HT.sIx n n hi:Nat):Int)/\(sliceBounds lo hi none n).2.2=1:=by
 refine ⟨?_,?_,rfl⟩
 ·cases lo with
  | none=>simp [sliceBounds,HT.sIx]
  | some i =>
   simp only [sliceBounds,HT.sIx,Option.getD_none,show (1:Int) > 0 by decide,if_true]
   by_cases h:i < 0
   ·simp only [h,if_true] <;> omega
   ·simp only [h,if_false] <;> omega
 ·cases hi with
  | none=>simp [sliceBounds,HT.sIx]
  | some i =>
   simp only [sliceBounds,HT.sIx,Option.getD_none,show (1:Int) > 0 by decide,if_true]
   by_cases h:i < 0
   ·simp only [h,if_true] <;> omega
   ·simp only [h,if_false] <;> omega
theorem pG (its:List Value) (lo hi:Option Int):slicePick its.toArray lo hi none=((its.drop (HT.sIx its.length 0 lo)).take (HT.sIx its.length its.length hi - HT.sIx its.length 0 lo)).toArray:=by
 obtain ⟨h1,h2,h3⟩:=qZ lo hi its.toArray.size
 unfold slicePick
 rw [h1,h2,h3]
 simp only [sliceRange_one,pick_run,List.size_toArray] <;> rfl
noncomputable def rSlL (K:PySem.W.Frag):V->Option Int->Option Int->Hp->VK->Prop:=fun x lo hi H Q=>∃ a xs,x=.ref a/\SqL K H a xs/\∀ p,H p=none->Q (.ref p) (upd H p (.lst (cutV xs lo hi)))
theorem aHk:SlR X (rSlL X.K):=by
 intro pins s σ H x v vl vu lo hi sl Q I rx hs pl pu h
 obtain ⟨a,xs,rfl,hx,q⟩:=h
 cases rx
 obtain ⟨its,r,ht,hz⟩:=I.list hx
 have hlen:=r.length
 refine ⟨"list",_,slot_list_getitem.lookup,ht.isList.typeIs,?_⟩
 refine wpAny_getItem_list_slice ht.isList hs pl pu .none (by simp) ?_ (by rw [List.size_toArray] <;> omega)
 rw [pG,<- hlen]
 refine ⟨.ref s.heap.objs.size,_,I.laid (t':=s.toks) (o:=.lst (cutV xs lo hi)) (fun b ob q=>Heap.get?_push_of_some _ q) (Nat.le_refl _) ?_,rfl,q _ (I.hok.fresh (Nat.le_refl _))⟩
 exact ⟨Nat.le_trans (mE xs lo hi) hz,_,0,(r.drop (HT.sIx xs.length 0 lo)).take (HT.sIx xs.length xs.length hi - HT.sIx xs.length 0 lo),Heap.get?_push_size _ rfl⟩
noncomputable def flatV:V->Bool
 | .non=>true
 | .bl _=>true
 | .int _=>true
 | .str _=>true
 | _=>false
noncomputable def eqV:V->V->Bool
 | .non,.non=>true
 | .bl a,.bl b=>a==b
 | .bl a,.int b=>(if a then 1 else 0)==b
 | .int a,.bl b=>a==(if b then 1 else 0)
 | .int a,.int b=>a==b
 | .str a,.str b=>a==b
 | _,_=>false
theorem aKr {A:Around} {s:Shared} {y x:V} {u v:Value} (ry:RelV y u) (rx:RelV x v) (fy:flatV y=true) (fx:flatV x=true):SeqAt.EqAt A s u v (eqV y x):=by
 cases y with
 | non =>
  cases ry
  cases x with
  | non=>cases rx; exact SeqAt.EqAt.same _
  | bl b=>cases rx; exact SeqAt.EqAt.none_bool b
  | int b=>obtain ⟨t,rfl⟩:=rx; exact SeqAt.EqAt.none_int b t
  | str b=>obtain ⟨t,rfl⟩:=rx; exact SeqAt.EqAt.none_str b t
  | _=>exact absurd (show false=true from fx) Bool.false_ne_true
 | bl a =>
  cases ry
  cases x with
  | non=>cases rx; exact SeqAt.EqAt.bool_none a
  | bl b=>cases rx; exact SeqAt.EqAt.bool_bool a b
  | int b=>obtain ⟨t,rfl⟩:=rx; exact SeqAt.EqAt.bool_int a b t
  | str b=>obtain ⟨t,rfl⟩:=rx; exact SeqAt.EqAt.bool_str a b t
  | _=>exact absurd (show false=true from fx) Bool.false_ne_true
 | int a =>
  obtain ⟨t',rfl⟩:=ry
  cases x with
  | non=>cases rx; exact SeqAt.EqAt.int_none a t'
  | bl b=>cases rx; exact SeqAt.EqAt.int_bool a t' b
  | int b=>obtain ⟨t,rfl⟩:=rx; exact SeqAt.EqAt.int_int a t' b t
  | str b=>obtain ⟨t,rfl⟩:=rx; exact SeqAt.EqAt.int_str a t' b t
  | _=>exact absurd (show false=true from fx) Bool.false_ne_true
 | str a =>
  obtain ⟨t',rfl⟩:=ry
  cases x with
  | non=>cases rx; exact SeqAt.EqAt.str_none a t'
  | bl b=>cases rx; exact SeqAt.EqAt.str_bool a t' b
  | int b=>obtain ⟨t,rfl⟩:=rx; exact SeqAt.EqAt.str_int a t' b t
  | str b=>obtain ⟨t,rfl⟩:=rx; exact SeqAt.EqAt.str_str a t' b t
  | _=>exact absurd (show false=true from fx) Bool.false_ne_true
 | _=>exact absurd (show false=true from fy) Bool.false_ne_true
theorem rV:CallR X (.builtin "len") (fun xs H Q=>∃ p ys,xs=[.ref p]/\(SqL X.K H p ys\/SqT X.K H p ys)/\Q (.int ys.length) H):=by
 intro pins s σ H xs us Q I r h
 obtain ⟨p,ys,rfl,hq,q⟩:=h
 obtain ⟨u,rfl,rx⟩:=vals1 r
 cases rx
 have hn:=line63
 rcases hq with hq | hq
 ·obtain ⟨its,r',pl,hz⟩:=I.list hq
  have hlen:=r'.length
  exact Calls.call_len_list pl.isList (by simp only [List.size_toArray] <;> omega) ⟨.int ys.length,H,I.tok _,⟨s.toks+1,by rw [List.size_toArray,hlen]⟩,q⟩
 ·obtain ⟨its,r',pl,hz⟩:=I.tuple hq
  have hlen:=r'.length
  exact len_tuple pl (by simp only [List.size_toArray] <;> omega) ⟨.int ys.length,H,I.tok _,⟨s.toks+1,by rw [List.size_toArray,hlen]⟩,q⟩
theorem sH:CallR X (.builtin "len") (fun xs H Q=>∃ z,xs=[.str z]/\z.length<=sizeLine/\Q (.int z.length) H):=by
 intro pins s σ H xs us Q I r h
 obtain ⟨z,rfl,hz,q⟩:=h
 obtain ⟨u,rfl,t,rfl⟩:=vals1 r
 have hn:=line63
 exact len_str (by omega) ⟨.int z.length,H,I.tok _,⟨_,rfl⟩,q⟩
theorem CallR.or {f:Value} {r r':List V->Hp->VK->Prop} (h:CallR X f r) (h':CallR X f r'):CallR X f (fun xs H Q=>r xs H Q\/r' xs H Q):=by
 intro pins s σ H xs us Q I rs q
 rcases q with q | q
 ·exact h pins s σ H xs us Q I rs q
 ·exact h' pins s σ H xs us Q I rs q
theorem sG:CallR X (.type "list") (fun xs H Q=>∃ p ys,xs=[.ref p]/\(SqL X.K H p ys\/SqT X.K H p ys)/\∀ l,H l=none->Q (.ref l) (upd H l (.lst ys))):=by
 intro pins s σ H xs us Q I r h
 obtain ⟨p,ys,rfl,hq,q⟩:=h
 obtain ⟨u,rfl,rx⟩:=vals1 r
 cases rx
 have fin:∀ (its:List Value),Vals ys its->ys.length<=sizeLine->∀ (h':Heap) (c':Nat),(∀ b o',s.heap.get? b=some o'->h'.get? b=some o') ->
   h'.get? s.heap.objs.size=some { cls:=.type "list",dict:=none,data:=.seq its.toArray c',slots:=#[] }->EP X pins σ Q (.ref s.heap.objs.size) { s with heap:=h' }:=fun its r' hz h' c' kp e =>
  ⟨.ref s.heap.objs.size,_,I.laid (t':=s.toks) kp (Nat.le_refl _) (show ObjOk X.prog X.w _ h' _ (.lst ys) from ⟨hz,its,c',r',e⟩),rfl,q _ (I.hok.fresh (Nat.le_refl _))⟩
 rcases hq with hq | hq
 ·obtain ⟨its,r',pl,hz⟩:=I.list hq
  have hlen:=r'.length
  obtain ⟨o,ho,hc,n,hd⟩:=pl.isList
  exact call_list_seq p (.inl rfl) ho hc hd (fun h' c' kp e=>fin its r' hz h' c' kp e) (by simp only [List.size_toArray] <;> omega)
 ·obtain ⟨its,r',pl,hz⟩:=I.tuple hq
  have hlen:=r'.length
  obtain ⟨o,ho,hc,n,hd⟩:=pl
  exact call_list_seq p (.inr rfl) ho hc hd (fun h' c' kp e=>fin its r' hz h' c' kp e) (by simp only [List.size_toArray] <;> omega)
theorem pM:CallR X (.type "tuple") (fun xs H Q=>∃ p ys,xs=[.ref p]/\((SqL X.K H p ys/\∀ l,H l=none->Q (.ref l) (upd H l (.tup ys)))\/(SqT X.K H p ys/\Q (.ref p) H))):=by
 intro pins s σ H xs us Q I r h
 obtain ⟨p,ys,rfl,h⟩:=h
 obtain ⟨u,rfl,rx⟩:=vals1 r
 cases rx
 rcases h with ⟨hq,q⟩ | ⟨hq,q⟩
 ·obtain ⟨its,r',pl,hz⟩:=I.list hq
  have hlen:=r'.length
  refine call_tuple_list pl.isList (fun h' kp=>?_) (by simp only [List.size_toArray] <;> omega)
  have I1:Inv X pins σ H { s with heap:=h' }:=I.kept (t':=s.toks) kp
  have I2:Inv X pins σ (upd H h'.objs.size (.tup ys)) { s with heap:=h'.push { cls:=.type "tuple",data:=.seq its.toArray } } :=
   I1.laid (t':=s.toks) (fun b o e=>Heap.get?_push_of_some _ e) (Nat.le_refl _) (show ObjOk X.prog X.w _ _ _ (.tup ys) from ⟨hz,its,r',IsTup.new _ _⟩)
  exact ⟨.ref h'.objs.size,_,I2,rfl,q _ (I1.hok.fresh (Nat.le_refl _))⟩
 ·obtain ⟨its,r',pl,hz⟩:=I.tuple hq
  exact call_tuple_same pl ⟨.ref p,H,I,rfl,q⟩
noncomputable def tyV (K:PySem.W.Frag) (T:String) (x:V) (H:Hp):Prop:=match x with
 | .str _=>T="str"
 | .int _=>T="int"
 | .ref p=>(T="list"/\∃ xs,SqL K H p xs)\/(T="tuple"/\∃ o,K.lookup p=some o/\o.cls=.type "tuple"/\o.dict=none) \/
   (T="dict"/\((∃ kvs,H p=some (.dK kvs))\/∃ kvs,H p=some (.dT kvs)))\/(T="set"/\∃ S n,H p=some (.set S n))
 | _=>False
theorem aDr {pins:List (Addr×Obj)} {σ:St} {H:Hp} {s:Shared} {T:String} {x:V} {v:Value} (I:Inv X pins σ H s) (r:RelV x v) (ty:tyV X.K T x H) :
  s.TypeIs v T/\∀ a,v=.ref a->∃ ob,s.heap.get? a=some ob/\ob.dict=none:=by
 cases x with
 | str z =>
  obtain ⟨t,rfl⟩:=r
  cases (show T="str" from ty)
  exact ⟨typeIs_str s z t,fun _ e=>nomatch e⟩
 | int i =>
  obtain ⟨t,rfl⟩:=r
  cases (show T="int" from ty)
  exact ⟨typeIs_int s i t,fun _ e=>nomatch e⟩
 | ref p =>
  cases r
  rcases ty with ⟨rfl,xs,hq⟩ | ⟨rfl,o,hk,hc,hd⟩ | ⟨rfl,hk⟩ | ⟨rfl,S,n,hk⟩
  ·obtain ⟨its,_,pl,_⟩:=I.list hq
   refine ⟨pl.isList.typeIs,fun a e=>?_⟩
   cases e
   obtain ⟨o,n,e,c,hd,_⟩:=pl
   exact ⟨o,e,hd⟩
  ·refine ⟨⟨o,I.kIn p o hk,hc⟩,fun a e=>?_⟩
   cases e
   exact ⟨o,I.kIn _ o hk,hd⟩
  ·have z:∃ o,s.heap.get? p=some o/\o.ExactDict:=by
    rcases hk with ⟨kvs,hk⟩ | ⟨kvs,hk⟩
    ·obtain ⟨_,_,_,_,o,_,_,e,ex,_⟩:=I.hok p _ hk
     exact ⟨o,e,ex⟩
    ·obtain ⟨_,_,_,_,o,_,_,e,ex,_⟩:=I.hok p _ hk
     exact ⟨o,e,ex⟩
   obtain ⟨o,e,ex⟩:=z
   refine ⟨⟨o,e,ex.1⟩,fun a e2=>?_⟩
   cases e2
   exact ⟨o,e,ex.2.1⟩
  ·obtain ⟨o,_,_,_,e,ex,_⟩:=I.hok p _ hk
   refine ⟨⟨o,e,ex.1⟩,fun a e2=>?_⟩
   cases e2
   exact ⟨o,e,ex.2.1⟩
 | _=>exact False.elim ty
noncomputable def tBM0 (K:PySem.W.Frag) (T:String) (r:V->List V->Hp->VK->Prop) (to:TE):TE:=fun σ H Q=>to σ H fun x H1=>tyV K T x H1/\r x [] H1 Q
noncomputable def tBM (K:PySem.W.Frag) (T:String) (r:V->List V->Hp->VK->Prop) (to:TE) (t:TA):TE:=fun σ H Q=>to σ H fun x H1=>tyV K T x H1/\t σ H1 fun xs H2=>r x xs H2 Q
variable {o e:Expr} {es:List Expr} {to:TE} {t:TA} {name:Str} {apos cpos:Pos} {T id:String} {r:V->List V->Hp->VK->Prop}
theorem aKq (pa:PlainAttrs T) (slot:Slot T name id) (hty:typeOf (.builtin id)=pure (.type "method_descriptor")) (hm:MtR X id r) (ho:PE X o to)
  (hbase:attributeBase o name X.env (eval o X.env)=eval o X.env:=by rfl) (hline:(apos.endLine==cpos.line)=true:=by rfl):PE X (.Call (.Attribute o name apos) [] [] cpos) (tBM0 X.K T r to):=by
 intro pins s σ H Q I h
 refine wpAny_Call_method0_late hbase hline (thn (ho pins s σ H _ I h) fun v s1 ⟨x,H1,I1,r1,ty,q1⟩=>?_)
 obtain ⟨h1,h2⟩:=aDr I1 r1 ty
 exact ⟨T,id,pa,slot,hty,h1,h2,Calls.callWith_builtin rfl (PySem.evalArgs_none (hm pins s1 σ H1 x [] v [] Q I1 r1 .nil q1))⟩
theorem aMw (pa:PlainAttrs T) (slot:Slot T name id) (hty:typeOf (.builtin id)=pure (.type "method_descriptor")) (hm:MtR X id r) (ho:PE X o to) (ha:PA X (e::es) t)
  (hbase:attributeBase o name X.env (eval o X.env)=eval o X.env:=by rfl)
  (hfew:((backTo cpos (starEach (e::es) X.env)).all (fun x=>!x.1)&&(backToKw cpos (keywordEach [] X.env)).all (fun x=>x.1.isSome)
   && decide ((e::es).length+([]:List Keyword).length+(if ([]:List Keyword).isEmpty then 0 else 1) < 30))=true:=by rfl)
  (hline:(apos.endLine==cpos.line)=true:=by rfl) (hs:starEach (e::es) X.env=(false,eval e X.env)::starEach es X.env:=by rfl) (hplain:(backTo cpos (starEach es X.env)).any (·.1)=false:=by rfl) :
  PE X (.Call (.Attribute o name apos) (e::es) [] cpos) (tBM X.K T r to t):=by
 intro pins s σ H Q I h
 refine wpAny_Call_method_late hbase hfew hline rfl (thn (ho pins s σ H _ I h) fun v s1 ⟨x,H1,I1,r1,ty,q1⟩=>?_)
 obtain ⟨h1,h2⟩:=aDr I1 r1 ty
 refine ⟨T,id,pa,slot,hty,h1,h2,?_⟩
 have hA:=ha cpos pins s1 σ H1 _ I1 q1
 rw [hs] at hA ⊢
 refine Calls.callWith_builtin (by show (false || (backTo cpos (starEach es X.env)).any (·.1))=false; rw [hplain] <;> rfl) (Calls.evalArgs_plain ?_)
 exact thn hA fun us s2 ⟨vs,H2,I2,r2,q2⟩=>hm pins s2 σ H2 x vs v us Q I2 r1 r2 q2
/- xs.append(e),list.index on a module's tuple .. are MtR facts of 06m -/
end
end L2
namespace L2
open PySem PySem.Spec PyProof.Rows
noncomputable def MtM (X:Cx) (id:String) (r:V->List V->Hp->VK->Prop):Prop :=
 ∀ (pins:List (Addr×Obj)) (s:Shared) (σ:St) (H:Hp) (x:V) (xs:List V) (v:Value) (us:List Value) (Q:VK),Inv X pins σ H s->RelV x v->Vals xs us->r x xs H Q ->
  wpAny (model X.prog X.w) X.A (call (.builtin id) (v::us)) (EP X pins σ Q) X.xe s
theorem Vals.one:∀ {x:V} {us:List Value},Vals [x] us->∃ u,us=[u]/\RelV x u
 | _,_,.cons r .nil=>⟨_,rfl,r⟩
theorem Vals.two:∀ {x y:V} {us:List Value},Vals [x,y] us->∃ u v,us=[u,v]/\RelV x u/\RelV y v
 | _,_,_,.cons r (.cons q .nil)=>⟨_,_,rfl,r,q⟩
theorem Vals.zero:∀ {us:List Value},Vals [] us->us=[]
 | _,.nil=>rfl
theorem Vals.eraseIdx:∀ {xs:List V} {us:List Value} (i:Nat),Vals xs us->Vals (xs.eraseIdx i) (us.eraseIdx i)
 | _,_,_,.nil=>.nil
 | _,_,0,.cons _ t=>t
 | _,_,i+1,.cons r t=>.cons r (Vals.eraseIdx i t)
theorem Vals.reverse {xs:List V} {us:List Value} (h:Vals xs us):Vals xs.reverse us.reverse:=by
 induction h with
 | nil=>exact .nil
 | cons r t ih=>rw [List.reverse_cons,List.reverse_cons]; exact Vals.append ih (.cons r .nil)
theorem Vals.rep {xs:List V} {us:List Value} (h:Vals xs us):∀ k:Nat,Vals (List.replicate k xs).flatten (List.replicate k us).flatten
 | 0=>.nil
 | k+1=>by
  rw [List.replicate_succ,List.replicate_succ,List.flatten_cons,List.flatten_cons]
  exact Vals.append h (Vals.rep h k)
theorem lN (its:List Value):∀ (k:Nat) (acc:List Value),
  List.foldl (fun x1 x2=>x1++x2) acc.toArray (List.replicate k its.toArray)=(acc++(List.replicate k its).flatten).toArray
 | 0,acc=>by simp
 | k+1,acc=>by
  have e:acc.toArray++its.toArray=(acc++its).toArray:=by simp
  have e2:(acc++its)++(List.replicate k its).flatten=acc++(List.replicate (k+1) its).flatten:=by
   rw [List.replicate_succ,List.flatten_cons,List.append_assoc]
  rw [<- e2,<- lN its k (acc++its),<- e,List.replicate_succ,List.foldl_cons]
section
variable {X:Cx} {pins:List (Addr×Obj)} {σ:St} {H:Hp} {s:Shared} {l b:Addr} {xs ys zs:List V}
theorem Inv.lset {its its':List Value} {n:Nat} {f:Array Value->Array Value} {t':Nat} (I:Inv X pins σ H s) (hH:H l=some (.lst xs))
  (e:s.heap.get? l=some { cls:=.type "list",data:=.seq its.toArray n }) (hf:f its.toArray=its'.toArray) (hv:Vals ys its') (hz:ys.length<=sizeLine) :
  Inv X pins σ (upd H l (.lst ys)) { s with heap:=s.heap.update l (Obj.mapSeq f),toks:=t' }:=by
 have q:=PySem.IsL.update e f
 rw [hf] at q
 refine I.write (x:=l) (e:=l) (by rw [hH]; exact trivial) (.inl rfl) (fun b' u hb hu=>(Heap.get?_update_other s.heap (Obj.mapSeq f) (Ne.symm hb)).trans hu) ⟨_,q⟩ ?_
 exact ⟨hz,its',_,hv,q⟩
theorem Inv.lnew {its:List Value} {t':Nat} (I:Inv X pins σ H s) (hv:Vals ys its) (hz:ys.length<=sizeLine) :
  Inv X pins σ (upd H s.heap.objs.size (.lst ys)) { s with heap:=s.heap.push { cls:=.type "list",data:=.seq its.toArray },toks:=t' } :=
 I.laid (fun _ _ q=>Heap.get?_push_of_some _ q) (Nat.le_refl _) ⟨hz,its,0,hv,Heap.get?_push_size _ rfl⟩
theorem Inv.fresh (I:Inv X pins σ H s):H s.heap.objs.size=none:=I.hok.fresh (Nat.le_refl _)
theorem Inv.lstM (I:Inv X pins σ H s) (hH:H l=some (.lst xs)):xs.length<=sizeLine/\∃ (its:List Value) (n:Nat),Vals xs its/\xs.length=its.length/\s.heap.get? l=some { cls:=.type "list",data:=.seq its.toArray n }:=by
 obtain ⟨z,its,n,r,e⟩:=I.hok l _ hH
 exact ⟨z,its,n,r,r.length,e⟩
theorem notLongL {n:Nat} (h:n<=sizeLine):Builtin.List.listTooLong n=false:=by
 unfold Builtin.List.listTooLong
 exact decide_eq_false (by omega)
end
section
variable {X:Cx}
noncomputable def rAppend:V->List V->Hp->VK->Prop:=fun x vs H Q=>∃ l xs y,x=.ref l/\vs=[y]/\H l=some (.lst xs)/\xs.length < sizeLine/\Q .non (upd H l (.lst (xs++[y])))
theorem pY:MtM X "list.append" rAppend:=by
 intro pins s σ H x vs v us Q I rx rv h
 obtain ⟨l,xs,y,rfl,rfl,hH,hz,q⟩:=h
 cases rx
 obtain ⟨u,rfl,ru⟩:=rv.one
 obtain ⟨z,its,n,r,hl,e⟩:=I.lstM hH
 refine call_meets F.slot_list_append ⟨_,e,rfl⟩ F.entry_list_append (F.args_list_append_2 _ _) (PySem.list_append l its.toArray n u (by rw [List.size_toArray]; omega)) ⟨e,?_⟩
 refine ⟨.non,_,I.lset (its':=its++[u]) hH e (by simp) (r.append (.cons ru .nil)) ?_,rfl,q⟩
 rw [List.length_append,List.length_singleton]
 omega
noncomputable def rCat:R2:=fun x y H Q=>∃ l b xs zs,x=.ref l/\y=.ref b/\H l=some (.lst xs)/\H b=some (.lst zs)/\xs.length+zs.length<=sizeLine/\∀ p,H p=none->Q (.ref p) (upd H p (.lst (xs++zs)))
theorem aBh:OpR X (binaryOp .Add) rCat:=by
 intro pins s σ H x y v u Q I rx ry h
 obtain ⟨l,b,xs,zs,rfl,rfl,hH,hB,hz,q⟩:=h
 cases rx
 cases ry
 obtain ⟨z,its,n,r,hl,e⟩:=I.lstM hH
 obtain ⟨z2,its2,n2,r2,hl2,e2⟩:=I.lstM hB
 refine PySem.P.add_list e e2 ?_ (by rw [List.size_toArray,List.size_toArray]; omega)
 have ea:its.toArray++its2.toArray=(its++its2).toArray:=by simp
 rw [ea]
 exact ⟨.ref _,_,I.lnew (t':=s.toks) (r.append r2) (by rw [List.length_append]; omega),rfl,q _ I.fresh⟩
noncomputable def rRep:R2:=fun x y H Q=>∃ l k xs,x=.ref l/\y=.int k/\H l=some (.lst xs) /\ -(2 ^ 63)<=k/\k < 2 ^ 63/\xs.length*k.toNat<=sizeLine /\
 ∀ p,H p=none->Q (.ref p) (upd H p (.lst (List.replicate k.toNat xs).flatten))
theorem qO {α:Type} (xs:List α) (k:Nat):(List.replicate k xs).flatten.length=k*xs.length:=by
 induction k with
 | zero=>simp
 | succ k ih=>rw [List.replicate_succ,List.flatten_cons,List.length_append,ih,Nat.succ_mul,Nat.add_comm]
theorem aEj:OpR X (binaryOp .Mult) rRep:=by
 intro pins s σ H x y v u Q I rx ry h
 obtain ⟨l,k,xs,rfl,rfl,hH,h1,h2,hz,q⟩:=h
 cases rx
 obtain ⟨t,rfl⟩:=ry
 obtain ⟨z,its,n,r,hl,e⟩:=I.lstM hH
 have hlen:its.toArray.size*k.toNat<=sizeLine:=by rw [List.size_toArray,<- hl]; exact hz
 have hcap:¬ its.toArray.size*k.toNat > (2 ^ 63 - 1) / 8:=by
  have:(sizeLine:Nat)<=(2 ^ 63 - 1) / 8:=by decide
  omega
 have hfit:¬ (!Builtin.List.listFitsIndex k)=true:=by
  rw [fitsIndex_both h1 h2]
  exact Bool.false_ne_true
 have hlong:¬ Builtin.List.listTooLong (its.toArray.size*k.toNat)=true:=by
  rw [notLongL hlen]
  exact Bool.false_ne_true
 have hnew:List.foldl (fun x1 x2=>x1++x2) #[] (List.replicate (if its.toArray.isEmpty=true then 0 else k.toNat) its.toArray)=(List.replicate k.toNat its).flatten.toArray:=by
  have f0:∀ m:Nat,List.foldl (fun x1 x2=>x1++x2) #[] (List.replicate m its.toArray)=(List.replicate m its).flatten.toArray:=fun m=>by
   have:=lN its m []
   rw [List.nil_append] at this
   exact this
  rw [f0]
  cases its with
  | nil=>simp
  | cons a r'=>rw [if_neg (by simp)]
 refine wpAny_binaryOp_repeat_ref (T:="list") (U:="int") (by decide) ⟨_,e,rfl⟩ (fun s'=>typeIs_int s' k t) noFill_list_mul F.fills_int_mul F.slot_int_rmul repeat_list F.slot_int_index.lookup
  (call_meets F.slot_int_rmul (typeIs_int s k t) F.entry_int_rmul (F.args_int_rmul_2 _ _) (int___rmul___int_list k t l its.toArray n)
   ⟨e,rfl,⟨_,e,rfl⟩,call_meets F.slot_list_mul ⟨_,e,rfl⟩ F.entry_list_mul (F.args_list_mul_2 _ _) (AutoListH.list___mul___list_int_3 l its.toArray n k t hfit hcap hlong) ⟨e,?_⟩⟩)
 rw [hnew]
 exact ⟨.ref _,_,I.lnew (t':=s.toks) (r.rep k.toNat) (by rw [qO,Nat.mul_comm]; exact hz),rfl,q _ I.fresh⟩
end
section
variable {prog:Program} {w:World} {A:Around} {E:Value->Shared->Prop} {s:Shared}
set_option maxRecDepth 100000 in
end
section
variable {X:Cx}
end
end L2
namespace Att
open PySem PySem.W PySem.Calls PyProof.Rows
theorem mO {P:Params} {h:Heap}:∀ (ns:List Int) (vs:List Value),WellAll P h vs (ns.map WData.int)->IntsAre vs ns:=by
 intro ns
 induction ns with
 | nil =>
  intro vs w
  rw [List.map_nil] at w
  cases w
  exact .nil
 | cons n ns ih =>
  intro vs w
  rw [List.map_cons] at w
  cases w with
  | cons a b =>
   cases a
   exact .cons _ _ (ih _ b)
theorem zU {l:OpenLaw} {n:Nat} (hn:l.most=some n) {P:Params} {h:Heap} {args:List WData} {vals:List Value}
  (hpre:l.row.toRowW.claim.pre args=true) (hwl:WellAll P h vals args) :
  ∃ a vs ns,vals=[Value.ref a]/\args=[WData.list (ns.map WData.int)]/\h.get? a=some { cls:=.type "list",data:=.seq vs.toArray }/\IntsAre vs ns/\ns.length<=n:=by
 have hsh:WShape.hasAll [] args [.list .int]=true:=(pre_splitW hpre).1
 have hc:l.pre.holds [] { args:=args }=true:=(pre_splitW hpre).2
 obtain ⟨d,r,rfl,h1,h2⟩:=hasAllW_cons hsh
 obtain rfl:=hasAllW_nil h2
 obtain ⟨xs,rfl,h3⟩:=hasW_list h1
 obtain ⟨ns,rfl⟩:=items_int h3
 have hlen:ns.length<=n:=by
  unfold OpenLaw.pre at hc
  have h4:(WTm.not (.lt (.lit (.int (n:Int))) (.len (.arg 0)))).holds [] { args:=[.list (ns.map .int)] }=true:=by
   have h4:=(holds_andW hc).1
   rw [hn] at h4
   exact h4
  have h5:=condW_of h4 (w_not (w_lt w_lit (w_len_list (w_arg rfl))))
  rw [List.length_map] at h5
  refine Nat.le_of_not_lt fun q=>?_
  have q':(n:Int) < ((ns.length:Nat):Int):=by omega
  first
   | (rw [decide_eq_true q'] at h5; exact absurd h5 (by decide))
   | (simp at h5; omega)
 cases hwl with
 | cons w1 w2 =>
  cases w2
  cases w1 with
  | list ho hall=>exact ⟨_,_,ns,rfl,rfl,ho,mO ns _ hall,hlen⟩
theorem yY (l:OpenLaw) (args:List WData):l.row.toRowW.claim.post args (.bool true) args=true :=
 postW_of (r:=l.row.toRowW) (X:=(true==true))
  (show WShape.has [] (.bool true) .bool=true by first | rfl | decide | simp [WShape.has,WShape.arms,WShape.armsAll])
  (show (WTm.eq .res (.lit (.bool true))).value [] { args:=args,res:=some (.bool true),after:=args }=some (.bool (true==true)) from w_eq_bool (w_res rfl) w_lit) rfl
theorem attach_call {l:OpenLaw} {n:Nat} {q:Program} {loose:List Str} {XP:(Str->Option Value)->Heap->Prop} {YP:World->Heap->Prop} {d:DefRec}
  (hn:l.most=some n) (hdf:d.params.defaults=[])
  (call:∀ (w:World) (s₀ s₁:Shared) (mg mb:Str->Option Value) (fa:Addr) (o:Obj) (pm cd doc:Value) (a:Addr) (vs:List Value) (ns:List Int),
   Ground q loose [] XP w s₀ mg mb s₁.heap->YP w s₁.heap ->
   s₁.heap.get? fa=some o->o.data=.func (docDef d.name d.params d.body d.scope pm cd doc)->s₁.heap.CodeRec cd d.name->mg d.name=some (.ref fa) ->
   s₁.heap.get? a=some { cls:=.type "list",data:=.seq vs.toArray }->IntsAre vs ns->ns.length<=n->s₁.gens=#[] ->
   codeAny (model l.prog w) callerA (.call (.ref fa) ⟨[.ref a],[]⟩) (fun r s'=>r=.ok (.ret (.bool true))/\OldK s₁.heap s'.heap/\s'.os=s₁.os/\AllBare s'.gens) s₁) :
  WalkO q loose XP YP l.row.toRowW d [] (fun f vs=>PySem.call f vs):=by
 intro w s₀ s₁ mg mb G Y fa o pm cd doc dV kV ho hd hcd hD hmg hg args vals as hpre hlay hrd hwl hlo
 obtain rfl:dV=.none:=Dflts.none hD hdf
 obtain rfl:kV=.none:=Dflts.noKw hD
 obtain ⟨a,vs,ns,rfl,rfl,hobj,hints,hlen⟩:=zU hn hpre hwl
 refine enter_call (codeAny_mono (call w s₀ s₁ mg mb fa o pm cd doc a vs ns G Y ho (fd_plain hd) hcd hmg hobj hints hlen hg) fun r s' hq=>?_)
 obtain ⟨rfl,h2,h3,h4⟩:=hq
 exact ⟨.inl ⟨.bool true,.bool true,[],rfl,fun _=>rfl,.bool true,yY l _,fun _=>⟨List.Pairwise.nil,fun _ hm=>(nomatch hm)⟩⟩,h2,h3,h4⟩
section
variable {prog:Program} {w:World} {A:Around} {E:Value->Shared->Prop} {s:Shared} {K:Frag}
noncomputable def ledger (h:Heap) (L d:Addr):List (Addr×Obj):=(List.range h.objs.size).filterMap fun a=>if a=L\/a=d then none else (h.get? a).map fun o=>(a,o)
end
end Att
namespace L2
open PySem PySem.Spec PyProof.Rows
theorem lB:∀ {vs:List Value} {ns:List Int},IntsAre vs ns->Vals (ns.map V.int) vs
 | _,_,.nil=>.nil
 | _,_,.cons n t h=>.cons ⟨t,rfl⟩ (lB h)
noncomputable def Only (H:Hp):Prop:=∀ b,H b=none\/∃ o xs,H b=some (.frz o (.lst xs))
theorem aCl {P:Program} {w:World} {K:PySem.W.Frag} {mg mb:Str->Option Value} {CX:CXT} {k:Nat} {fa a:Addr} {fd:FuncData} {x:Str} {sp:Sp} {s₁:Shared} {vs:List Value} {ns:List Int}
  (KX:K.In s₁.heap) (hns:s₁.heap.Ns mainGlobals mg) (hb:s₁.heap.Ns builtinsNs mb) (hbb:∀ x:Str,x≠"__name__"->mb x=bootBuiltins x) (hlim:s₁.heap.NoLimit) (hg:s₁.gens=#[])
  (ha:s₁.heap.get? a=some { cls:=.type "list",data:=.seq vs.toArray }) (hi:IntsAre vs ns) (hl:ns.length<=sizeLine) (hr:Room k callerA)
  (F:∀ base:Heap,K.In base->base.Ns mainGlobals mg->FnOk P w K mg base CX k fa fd [x] sp) (hbind:∀ (s:Shared) (u:Value),BindsTo s fd ⟨[u],[]⟩ [(x,u)])
  (hsp:∀ H:Hp,Only H->SqL K H a (ns.map V.int)->sp [.ref a] H (fun v _=>v=.bl true) fun _ _ _=>False)
  (hCX:∀ H e s',CX [] H s₁ (fun _ _ _=>False) e s'->False) :
  codeAny (model P w) callerA (.call (.ref fa) ⟨[.ref a],[]⟩) (fun r s'=>r=.ok (.ret (.bool true))/\OldK s₁.heap s'.heap/\s'.os=s₁.os/\AllBare s'.gens) s₁:=by
 have rv:=lB hi
 have lenV:=hi.length
 -- from an abstract heap in which nothing but the script may be tracked
 have core:∀ H:Hp,Only H->SqL K H a (ns.map V.int)->HOk P w H s₁.heap->(∀ b,H b≠none->b=a)->(H a≠none->K.lookup a=none) ->
   codeAny (model P w) callerA (.call (.ref fa) ⟨[.ref a],[]⟩) (fun r s'=>r=.ok (.ret (.bool true))/\OldK s₁.heap s'.heap/\s'.os=s₁.os/\AllBare s'.gens) s₁:=by
  intro H hO hS hok hA hK
  have base_of:∀ {b:Addr} {o:Obj},s₁.heap.get? b=some o->H b=none->(hidT s₁.heap H).get? b=some o:=fun e n=>aEh e n
  have noA:∀ {b:Addr} {o:Obj} {es:Array DictEntry} {ep:Nat},s₁.heap.get? b=some o->o.data=.dict es ep->H b=none:=fun {b o es ep} e d=>by
   cases q:H b with
   | none=>rfl
   | some u =>
    have e':b=a:=hA b (by rw [q]; simp)
    subst e'
    rw [ha] at e; cases e
    have d':Data.seq vs.toArray _=Data.dict es ep:=d
    cases d'
  have nsK:∀ {b:Addr} {m:Str->Option Value},s₁.heap.Ns b m->(hidT s₁.heap H).Ns b m:=fun {b m} ⟨o,es,ep,e,d,r⟩=>⟨o,es,ep,base_of e (noA e d),d,r⟩
  have hKb:K.In (hidT s₁.heap H):=fun b o e=>base_of (KX b o e) (by
   cases q:H b with
   | none=>rfl
   | some u =>
    have e':b=a:=hA b (by rw [q]; simp)
    subst e'
    rw [hK (by rw [q]; simp)] at e; cases e)
  have hM:Mod K mg (hidT s₁.heap H):=⟨hKb,nsK hns,⟨mb,nsK hb,hbb⟩,let ⟨mc,h1,h2⟩:=hlim; ⟨mc,nsK h1,h2⟩⟩
  have e0:Env0 P w K mg (hidT s₁.heap H) callerA [] s₁ H:=⟨rfl,hM,fun b o e=>aHg e,Nat.le_of_eq (zO _ _),trivial,fun b hb=>absurd (show b∈([]:List Addr) from hb) (by simp),hok,.of_eq hg⟩
  refine codeAny_mono ((F _ hKb (nsK hns)).run callerA [] s₁ H ⟨[.ref a],[]⟩ [.ref a] [.ref a] _ _ hr e0 (hbind s₁ (.ref a)) (.cons rfl .nil) (hsp H hO hS)) fun r s' h=>?_
  cases r with
  | error e=>exact (hCX H e s' h).elim
  | ok fl =>
   cases fl with
   | next=>exact False.elim h
   | brk=>exact False.elim h
   | cont=>exact False.elim h
   | ret u =>
    obtain ⟨v,H',os,bare,un,hok',r',q⟩:=h
    have q':v=.bl true:=q
    subst q'
    obtain rfl:u=Value.bool true:=r'
    refine ⟨rfl,OldK.of_keep fun b o e=>?_,os,bare⟩
    cases q:H b with
    | none=>exact un.keep b o e q (by intro z; exact absurd (show b∈([]:List Addr) from z) (by simp)) (by simp)
    | some u =>
     rcases hO b with z | ⟨ob,xs,z⟩
     ·rw [q] at z; cases z
     ·have z2:=un.frzs b ob _ z
      obtain ⟨e1,_⟩:=hok b _ z
      obtain ⟨e2,_⟩:=hok' b _ z2
      rw [e] at e1; cases e1
      exact e2
 cases hk:K.lookup a with
 | some o =>
  -- the script is one of the module's own objects
  have e:=KX a o hk
  rw [ha] at e
  cases e
  refine core (fun _=>none) (fun _=>.inl rfl) (.inr ⟨_,vs.toArray,_,hk,rfl,rfl,rfl,by rw [List.size_toArray,lenV]; exact hl,by simpa using rv⟩) (fun b u z=>by have z':(none:Option HO)=some u:=z; cases z') (fun b z=>absurd rfl z) fun z=>absurd rfl z
 | none =>
  refine core (fun b=>if b=a then some (.frz { cls:=.type "list",data:=.seq vs.toArray } (.lst (ns.map V.int))) else none) (fun b=>?_) (.inl (.inr ⟨{ cls:=.type "list",data:=.seq vs.toArray },if_pos rfl⟩)) (fun b u z=>?_) (fun b z=>?_) fun _=>hk
  ·by_cases hb:b=a
   ·exact .inr ⟨_,_,if_pos hb⟩
   ·exact .inl (if_neg hb)
  ·by_cases hb:b=a
   ·have z':=(if_pos hb).symm.trans z
    cases z'
    subst hb
    exact ⟨ha,by rw [List.length_map]; exact hl,vs,_,rv,ha⟩
   ·have z':=(if_neg hb).symm.trans z
    cases z'
  ·by_cases hb:b=a
   ·exact hb
   ·exact absurd (if_neg hb) z
end L2
namespace L2
open PySem PySem.Spec PyProof.Rows
noncomputable abbrev KOf {K:PySem.W.Frag} {h:Heap} (_:K.In h):PySem.W.Frag:=K
theorem xW {l:PySem.W.OpenLaw} {n k:Nat} {q:Program} {loose:List Str} {XP:(Str->Option Value)->Heap->Prop} {YP:World->Heap->Prop} {d:DefRec} {K:Params->PySem.W.Frag} {CX:World->CXT} {sp:World->Sp} {x:Str}
  (hn:l.most=some n) (hn2:n<=sizeLine) (hdf:d.params.defaults=[]) (hr:Room k callerA)
  (hY:∀ (w:World) (h:Heap),YP w h->(K w.params).In h)
  (F:∀ (w:World) (mg:Str->Option Value) (fa:Addr) (h:Heap),(K w.params).In h->h.Ns mainGlobals mg->mg d.name=some (.ref fa) ->
   ∃ fd:FuncData,(∀ (s:Shared) (u:Value),BindsTo s fd ⟨[u],[]⟩ [(x,u)]) /\
    ∀ base:Heap,(K w.params).In base->base.Ns mainGlobals mg->FnOk l.prog w (K w.params) mg base (CX w) k fa fd [x] (sp w))
  (hsp:∀ (w:World) (H:Hp) (a:Addr) (ns:List Int),ns.length<=n->Only H->SqL (K w.params) H a (ns.map V.int)->sp w [.ref a] H (fun v _=>v=.bl true) fun _ _ _=>False)
  (hCX:∀ (w:World) (H:Hp) (s:Shared) (e:Value) (s':Shared),CX w [] H s (fun _ _ _=>False) e s'->False) :
  PySem.W.WalkO q loose XP YP l.row.toRowW d [] (fun f vs=>PySem.call f vs):=by
 refine Att.attach_call hn hdf fun w s₀ s₁ mg mb fa o pm cd doc a vs ns G Y ho hd hcd hmg hobj hints hlen hg=>?_
 have KX:=hY w _ Y
 obtain ⟨fd,hb,hF⟩:=F w mg fa _ KX G.T.g hmg
 exact aCl KX G.T.g G.T.b G.T.builtins G.T.nolimit hg hobj hints (Nat.le_trans hlen hn2) hr hF hb (fun H hO hS=>hsp w H a ns hlen hO hS) fun H e s'=>hCX w H s₁ e s'
end L2
/- THE LAST THEOREM (shape; LID,My.* are yours):
  My.Adr: a structure of the addresses that your layer names (classes,functions); My.Txt K t: a structure (Prop) of the equations over K;
  My.txt_mk:{K} {implicit addresses ..} (e1:nsIn K mainGlobals "law"=some (some (.ref f))) (e2:K.lookup f=some ⟨oc,od,.func (fnOf "law" "law" params body scope dV kV doc pm an cdv ct),sl⟩) (e3:codeIn K cdv "law"=true) ..:∃ t,My.Txt K t
set_option maxRecDepth 100000 in
set_option maxHeartbeats 0 in
theorem PySem.Challenge.cw_LID_holds : PySem.Challenge.rw_LID.Holds := by
 w_on; o_law; k_head; (case hw=>w_witness2)
 k_fill
 refine L2.xW (l:=PySem.Challenge.rw_LID) (n:=63) (k:=40) (x:="script") (CX:=fun w=>..) (sp:=fun _=>My.sp_law) rfl (by decide) rfl ⟨rfl,by decide,by decide⟩ (fun w h Y=>PySem.W.kIn_of Y) ?F ?S ?C
 case F =>
  intro w mg fa h KX G hmg
  have T:∃ t,My.Txt (L2.KOf KX) t:=by
   dsimp only [L2.KOf]                          -- K must stand as «<heap const> w.params» for k_is
   refine' My.txt_mk ?e1 ?e2 ?e3 ..
   (case e1=>PySem.W.k_is)                    -- in the order: a name->its address->its object->its parts
   (case e2=>PySem.W.k_is)
   ..
  obtain ⟨t,T⟩:=T
  have e0:=hmg.symm.trans (PySem.W.mg_of KX G T.law)
  cases e0                                       -- fa is the law's own address
  exact ⟨_,fun s u=>.of_eq rfl,fun base kb nb=>My.law_fn T kb nb⟩     -- if «.of_eq rfl» comes too early: refine' ⟨_,?b,fun base kb nb=>My.law_fn T kb nb⟩; exact fun s u=>.of_eq rfl
 case S=>exact fun w H a ns hl hO hS=>..
 case C=>exact ..
(the tactic k_is has no namespace: write k_is) -/
namespace L2
open PySem PySem.Spec PyProof.Rows
noncomputable def defArgs (s:Stmt):Arguments:=match s with
 | .FunctionDef _ a _ _ _ _ _ _ _ _=>a
 | _=>{ posonlyargs:=[],args:=[],vararg:=none,kwonlyargs:=[],kw_defaults:=[],kwarg:=none,defaults:=[] }
noncomputable def defBody (s:Stmt):List Stmt:=match s with
 | .FunctionDef _ _ b _ _ _ _ _ _ _=>b
 | _=>[]
noncomputable def defScope (s:Stmt):Scope:=match s with
 | .FunctionDef _ _ _ _ _ _ sc _ _ _=>sc
 | _=>{ kind:=.function,names:=[],isGenerator:=false,isCoroutine:=false }
noncomputable abbrev CX0:CXT:=fun _ _ _ _ _ _=>False
noncomputable abbrev E0:XK:=fun _ _ _=>False
theorem pass0 {X:Cx}:Passes CX0 X E0:=fun _ _ _ _ _ _ _ h=>h.elim
structure Fun (K:PySem.W.Frag) (x qual:Str) (st:Stmt) (f:Addr) (fd:FuncData):Prop where
 ex:∃ (oc:Value) (od:Option Addr) (kV doc pm:Value) (an:Option Addr) (cdv ct:Value) (osl:Array (Option Value)),
  fd=PySem.W.fnOf x qual (defArgs st) (defBody st) (defScope st) .none kV doc pm an cdv ct/\K.lookup f=some ⟨oc,od,.func fd,osl⟩/\PySem.W.codeIn K cdv qual=true
 kp:PySem.W.keepIn K (.ref f)=true
section
variable {P:Program} {w:World} {K:PySem.W.Frag} {mg:Str->Option Value} {base:Heap}
theorem Fun.ok {x qual:Str} {st:Stmt} {f:Addr} {fd:FuncData} {N ps:List Str} {k:Nat} {sp:Sp} (F:Fun K x qual st f fd) (S:FnScope N ps (defScope st)) (len:∀ vs H Q E,sp vs H Q E->vs.length=ps.length)
  (hbody:∀ (cdv:Value) (A:Around) (outer:List Env) (s:Shared) (H:Hp) (vs:List V) (Q:VK) (E:XK),Room k (A.deeper (envOfC qual (defScope st) s.heap.objs.size f cdv))->sp vs H Q E ->
   ∃ t,PSs (cxOf CX0 P w K mg base N qual (defScope st) f cdv A outer s H E).nox (defBody st) t/\t { nx:=fun _ H'=>Q .non H',rt:=Q } (start N vs) H):FnOk P w K mg base CX0 (k+1) f fd ps sp:=by
 obtain ⟨oc,od,kV,doc,pm,an,cdv,ct,osl,rfl,lk,hcd⟩:=F.ex
 refine aId lk hcd S len fun A outer s H vs Q E hr hsp=>?_
 obtain ⟨t,h,q⟩:=hbody cdv A outer s H vs Q E hr hsp
 exact ⟨t,h.nox,q⟩
theorem Fun.binds {x qual:Str} {st:Stmt} {f:Addr} {fd:FuncData} {ps:List Str} (F:Fun K x qual st f fd)
  (h:∀ (kV doc pm:Value) (an:Option Addr) (cdv ct:Value) (us:List Value),us.length=ps.length->bindArgs (PySem.W.fnOf x qual (defArgs st) (defBody st) (defScope st) .none kV doc pm an cdv ct) ⟨us,[]⟩=pure (ps.zip us)):Binds K fd ps []:=by
 obtain ⟨oc,od,kV,doc,pm,an,cdv,ct,osl,rfl,lk,hcd⟩:=F.ex
 exact .all (h kV doc pm an cdv ct)
theorem aL {x qual:Str} {st:Stmt} {f:Addr} {oc:Value} {od an:Option Addr} {osl:Array (Option Value)} {kV doc pm cdv ct:Value} (l:K.lookup f=some ⟨oc,od,.func (PySem.W.fnOf x qual (defArgs st) (defBody st) (defScope st) .none kV doc pm an cdv ct),osl⟩)
  (c:PySem.W.codeIn K cdv qual=true) (k:PySem.W.keepIn K (.ref f)=true):Fun K x qual st f (PySem.W.fnOf x qual (defArgs st) (defBody st) (defScope st) .none kV doc pm an cdv ct):=⟨⟨oc,od,kV,doc,pm,an,cdv,ct,osl,rfl,l,c⟩,k⟩
end
theorem small1000 {n:Nat} (h:n<=1000):n < sizeLine:=Nat.lt_of_le_of_lt h (by decide)
section
variable {X:Cx}
end
noncomputable def Same (H H':Hp):Prop:=∀ b o,H b=some o->H' b=some o
theorem Same.refl (H:Hp):Same H H:=fun _ _ h=>h
theorem Same.trans {H H1 H2:Hp} (a:Same H H1) (b:Same H1 H2):Same H H2:=fun c o h=>b c o (a c o h)
theorem Same.free {H H':Hp} (e:Same H H') {l:Addr} (h:H' l=Option.none):H l=Option.none:=by
 cases q:H l with
 | none=>rfl
 | some o =>
  rw [e l o q] at h
  cases h
theorem Same.seq {K:PySem.W.Frag} {H H':Hp} {a:Addr} {xs:List V} (e:Same H H') (h:SqL K H a xs):SqL K H' a xs:=by
 rcases h with (h | ⟨o,h⟩) | h
 ·exact .inl (.inl (e _ _ h))
 ·exact .inl (.inr ⟨o,e _ _ h⟩)
 ·exact .inr h
end L2
set_option maxHeartbeats 4000000
namespace L2
open PySem PySem.Spec PyProof.Rows
section
variable {X:Cx} {tg:Expr}
noncomputable def CDivW (_ j:Int):Prop:=0 < j/\j < 18446744073709551616
theorem aAc {n:Nat} (h:n < 18446744073709551616):n.log2 < 9000:=by
 by_cases h0:n=0
 ·subst h0; decide
 ·have:n.log2 < 64:=(Nat.log2_lt h0).2 (by simpa using h)
  omega
theorem aBj:OpR X (binaryOp .FloorDiv) (rI CDivW fun i j=>.int (i / j)):=opI fun i j _ _ _ _ _ hc q=>by
 have h1:(0:Int) < j:=hc.1
 have h2:j < 18446744073709551616:=hc.2
 exact floordiv_int (by omega) (by rw [Int.fdiv_eq_ediv_of_nonneg i (by omega)]; exact q) (.inl (PyProof.noPylong_of_log2 (aAc (by omega))))
noncomputable def Itv (K:PySem.W.Frag) (a:Addr) (xs:List V):It :=
 ⟨fun i H=>SqL K H a xs/\i < xs.length,fun i H x H'=>H'=H/\xs[xs.length - 1 - i]?=some x,fun i _=>xs.length<=i⟩
theorem aDt {P:Program} {w:World} {K:PySem.W.Frag} {tg:Expr} (a it:Addr) (xs:List V):Turn P w K tg (Itv K a xs) [it] it (fun i h=>i<=xs.length/\h.IsRevIter it a ((xs.length:Int) - 1 - (i:Int))) where
 mem:=by simp
 obj:=fun i h st b hb=>by
  have e:b=it:=by simpa using hb
  subst e
  obtain ⟨o,e,c,d⟩:=st.2
  exact ⟨o,e,fun v z=>by rw [d] at z; cases z⟩
 keep:=fun i h h' st k=>⟨st.1,st.2.at fun o e=>k it (by simp) o e⟩
 item:=by
  intro X hP hw hK hc i pins s σ H E I hf st hg
  subst hP hw hK
  obtain ⟨hq,hx⟩:=hg
  obtain ⟨its,rv,p,hz⟩:=I.list hq
  have hlt:xs.length - 1 - i < xs.length:=by omega
  have hx':xs[xs.length - 1 - i]?=some xs[xs.length - 1 - i]:=List.getElem?_eq_getElem hlt
  obtain ⟨u,hu,ru⟩:=rv.get hx'
  obtain ⟨f0,f1,f2,f3,f4,f5⟩:=hf it (by simp)
  have st2:=st.2
  have e1:(xs.length:Int) - 1 - (i:Int)=((xs.length - 1 - i:Nat):Int):=by omega
  rw [e1] at st2
  refine wpAny_pyNext_rev_item st2 p.isList (x:=u) (by simpa using hu) fun h' st' sb=>?_
  have I1:Inv X pins σ H { s with heap:=h' }:=I.turned (t':=s.toks) (fun b o hb e=>(sb.2 b hb).trans e) f0 f1 f3 f4 f5
  have e2:((xs.length - 1 - i:Nat):Int) - 1=(xs.length:Int) - 1 - ((i+1:Nat):Int):=by omega
  rw [e2] at st'
  obtain ⟨o,e,c,d⟩:=id st'
  exact ⟨u,rfl,sX (s:={ s with heap:=h' }) e c d (by decide) ⟨_,H,I1,ru,⟨rfl,hx'⟩,⟨hx,st'⟩,fun b hb=>(hf b hb).1⟩⟩
 done:=by
  intro X hP hw hK hc i pins s σ H E I hf st hg
  subst hP hw hK
  have hx:xs.length<=i:=hg
  obtain ⟨f0,f1,f2,f3,f4,f5⟩:=hf it (by simp)
  have st2:=st.2
  have h1:=st.1
  have e1:(xs.length:Int) - 1 - (i:Int) = -1:=by omega
  rw [e1] at st2
  exact wpAny_pyNext_rev_end (I.ok.hd hc) st2 fun h' eb=>⟨rfl,I.turned (t':=s.toks) (fun b o hb e=>eb b o hb e) f0 f1 f3 f4 f5⟩
 self:=fun _ _ _ _ _ st h=>wpAny_pyIter_revIter st.2 h
theorem aEs:bootBuiltins "reversed"=some (.type "reversed"):=by first | rfl | kernel_rfl
inductive IntsE:List Expr->List Int->Prop where
 | nil:IntsE [] []
 | cons {i:Int} {j:Nat} {p:Pos} {r:List Expr} {ns:List Int} (h:IntsE r ns):IntsE (.Constant (.int i) j p::r) (i::ns)
theorem aFm {es:List Expr} {ns:List Int} (h:IntsE es ns):PA X es (fun _ H Q=>Q (ns.map V.int) H):=by
 induction h with
 | nil=>exact fK
 | cons h ih=>exact cZ aEb ih
structure JE (X:Cx) (e:Expr) (t:TE):Prop where
 h:PE X e t
structure JS (X:Cx) (st:Stmt) (t:TS):Prop where
 h:PS X st t
structure JSs (X:Cx) (sts:List Stmt) (t:TS):Prop where
 h:PSs X sts t
end
end L2
namespace L2
open PySem PySem.Spec PyProof.Rows
theorem iT {env:Env} {f:Str×NameKind->List (Str×Addr)->Sem (ForInStep (List (Str×Addr)))}
  (hf:∀ y acc c,y.2=NameKind.free->env.cells.lookup y.1=some c->f y acc=pure (.yield ((y.1,c)::acc))) (hf':∀ y acc,y.2≠NameKind.free->f y acc=pure (.yield acc)) :
  ∀ (names:List (Str×NameKind)) (acc:List (Str×Addr)),(∀ y∈names,y.2=NameKind.free->∃ c,env.cells.lookup y.1=some c)->(∀ x c,acc.lookup x=some c->env.cells.lookup x=some c) ->
   ∃ cl,forIn names acc f=(pure cl:Sem (List (Str×Addr)))/\(∀ x c,cl.lookup x=some c->env.cells.lookup x=some c)/\(∀ y∈names,y.2=NameKind.free->∃ c,cl.lookup y.1=some c)/\(∀ x c,acc.lookup x=some c->∃ c',cl.lookup x=some c')
 | [],acc,_,ha=>⟨acc,rfl,ha,(fun _ h=>nomatch h),fun x c h=>⟨c,h⟩⟩
 | y::r,acc,hn,ha=>by
  by_cases hy:y.2=NameKind.free
  ·obtain ⟨c,hc⟩:=hn y List.mem_cons_self hy
   have ha':∀ x d,((y.1,c)::acc).lookup x=some d->env.cells.lookup x=some d:=fun x d h=>by
    rw [List.lookup_cons] at h
    cases e:x==y.1 with
    | true =>
     rw [e] at h
     have:x=y.1:=by simpa using e
     subst this
     cases h
     exact hc
    | false=>rw [e] at h; exact ha x d h
   obtain ⟨cl,h1,h2,h3,h4⟩:=iT hf hf' r _ (fun z hz=>hn z (List.mem_cons_of_mem _ hz)) ha'
   have hyl:∃ c',cl.lookup y.1=some c':=h4 y.1 c (by rw [List.lookup_cons]; simp)
   refine ⟨cl,?_,h2,fun z hz hzf=>?_,fun x d hx=>?_⟩
   ·rw [List.forIn_cons,hf y acc c hy hc]
    exact h1
   ·rcases List.mem_cons.mp hz with rfl | hz
    ·exact hyl
    ·exact h3 z hz hzf
   ·by_cases e:x=y.1
    ·rw [e]; exact hyl
    ·have e':(x==y.1)=false:=by simpa using e
     exact h4 x d (by rw [List.lookup_cons,e']; exact hx)
  ·obtain ⟨cl,h1,h2,h3,h4⟩:=iT hf hf' r acc (fun z hz=>hn z (List.mem_cons_of_mem _ hz)) ha
   refine ⟨cl,?_,h2,fun z hz hzf=>?_,h4⟩
   ·rw [List.forIn_cons,hf' y acc hy]
    exact h1
   ·rcases List.mem_cons.mp hz with rfl | hz
    ·exact absurd hzf hy
    ·exact h3 z hz hzf
theorem jS {scope:Scope} {env:Env} (h:∀ y∈scope.names,y.2=NameKind.free->∃ c,env.cells.lookup y.1=some c) :
  ∃ cl,closureFor scope env=pure cl/\(∀ x c,cl.lookup x=some c->env.cells.lookup x=some c)/\(∀ y∈scope.names,y.2=NameKind.free->∃ c,cl.lookup y.1=some c):=by
 obtain ⟨cl,h1,h2,h3,_⟩:=iT (env:=env) (f:=fun x cs=>match x with
   | (name,kind)=>if (kind==NameKind.free)=true then do
      let a <- cellOf env name
      pure (ForInStep.yield ((name,a)::cs))
     else pure (ForInStep.yield cs)) (fun y acc c hy hc=>by
    obtain ⟨n,k⟩:=y
    simp only at hy hc
    subst hy
    simp only [beq_self_eq_true,if_true,cellOf,hc]
    rfl) (fun y acc hy=>by
    obtain ⟨n,k⟩:=y
    simp only at hy
    have:(k==NameKind.free)=false:=by simpa using hy
    simp only [this,Bool.false_eq_true,if_false]) scope.names [] h (fun _ _ z=>by simp at z)
 refine ⟨cl,?_,h2,h3⟩
 show (forIn scope.names [] _ >>= fun cs=>pure cs)=pure cl
 exact (congrArg (· >>= fun cs=>(pure cs:Sem (List (Str×Addr)))) h1).trans rfl
theorem fD {env:Env} (hk:env.scope.kind=.function):∀ {names:List (Str×NameKind)} {x:Str},names.lookup x=some .free->env.kindOf x=some .cell ->
  (names.map fun (n,k)=>if (k==NameKind.free&&env.scope.kind==.function&&env.kindOf n==some .cell) then (n,NameKind.cell) else (n,k)).lookup x=some .cell
 | [],_,h,_=>by simp at h
 | (n,k)::r,x,h,hx=>by
  rw [List.map_cons]
  rw [List.lookup_cons] at h
  cases e:x==n with
  | true =>
   rw [e] at h
   have:x=n:=by simpa using e
   subst this
   cases h
   simp [hk,hx,List.lookup_cons]
  | false =>
   rw [e] at h
   have ih:=fD hk h hx
   simp only
   split <;> (rw [List.lookup_cons,e]; exact ih)
theorem eD {env:Env}:∀ {names:List (Str×NameKind)} {x:Str} {k':NameKind},
  (names.map fun (n,k)=>if (k==NameKind.free&&env.scope.kind==.function&&env.kindOf n==some .cell) then (n,NameKind.cell) else (n,k)).lookup x=some k'->k'=.cell\/k'=.free ->
  ∃ k,(x,k)∈names/\(k=.cell\/k=.free)
 | [],_,_,h,_=>by simp at h
 | (n,k)::r,x,k',h,hk=>by
  rw [List.map_cons] at h
  simp only at h
  cases e:x==n with
  | true =>
   have:x=n:=by simpa using e
   subst this
   refine ⟨k,List.mem_cons_self,?_⟩
   split at h
   ·rename_i hc
    simp only [Bool.and_eq_true] at hc
    exact .inr (by simpa using hc.1.1)
   ·rw [List.lookup_cons,e] at h
    cases h
    exact hk
  | false =>
   have h':(r.map fun (n,k)=>if (k==NameKind.free&&env.scope.kind==.function&&env.kindOf n==some .cell) then (n,NameKind.cell) else (n,k)).lookup x=some k':=by
    split at h <;> (rw [List.lookup_cons,e] at h; exact h)
   obtain ⟨k1,h1,h2⟩:=eD h' hk
   exact ⟨k1,List.mem_cons_of_mem _ h1,h2⟩
noncomputable def compCx (X:Cx) (Nc:List Str) (scope:Scope) (cl:List (Str×Addr)) (C:Addr) (fp:List Addr) (pins:List (Addr×Obj)) (s₂:Shared) (H₂:Hp):Cx where
 prog:=X.prog
 w:=X.w
 K:=X.K
 mg:=X.mg
 base:=X.base
 A:=X.A
 N:=Nc
 s₀:=s₂
 H₀:=H₂
 env:=compEnvC scope cl C X.env
 outer:=X.stack
 stack:=X.stack
 ex:=fp
 fn:=fun _=>false
 calm:=true
 pn:=X.pn++pins
 xe:=fun _ _=>False
structure CompOk (N0:List Str) (sc0:Scope) (scope:Scope) (Nc:List Str) (js:List (Option Nat)):Prop where
 kind:scope.kind=.function
 nocell:∀ y∈scope.names,y.2≠.cell
 names:∀ y∈scope.names,y.2=.local->scope.names.lookup y.1=some .local
 free:∀ y∈scope.names,y.2=.free->sc0.names.lookup y.1=some .cell
 len:js.length=Nc.length
 slots:∀ p∈Nc.zip js,∀ j∈p.2,N0[j]?=some p.1/\scope.names.lookup p.1=some .free/\sc0.names.lookup p.1=some .cell
noncomputable def outσ (js:List (Option Nat)) (σ:St):St:=js.map fun o=>o.bind fun j=>(σ[j]?).join
section
variable {X:Cx} {pins:List (Addr×Obj)} {σ:St} {H₂:Hp} {s₂:Shared} {fp:List Addr} {Nc:List Str} {scope:Scope} {js:List (Option Nat)} {cl:List (Str×Addr)} {C:Addr}
theorem aGz (I:Inv X pins σ H₂ s₂) (hc:X.calm=true) (T:CompOk X.N X.env.scope scope Nc js) (hcl:∀ x c,cl.lookup x=some c->X.env.cells.lookup x=some c) (hfr:∀ y∈scope.names,y.2=.free->∃ c,cl.lookup y.1=some c)
  (hC:s₂.heap.objs.size<=C) (hf:∀ b∈fp,FpOk X pins H₂ b) (ho:∀ b∈fp,∃ o,s₂.heap.get? b=some o):(compCx X Nc scope cl C fp pins s₂ H₂).Ok where
 mod:=I.ok.mod
 kind:=T.kind
 glob:=I.ok.glob
 blt:=I.ok.blt
 above:=hC
 inj:=fun x y c h1 h2=>I.ok.inj x y c (hcl x c h1) (hcl y c h2)
 has:=fun x hx=>by
  have hx':∃ k',(relabel scope X.env).names.lookup x=some k'/\(k'=.cell\/k'=.free):=by
   rcases hx with h | h
   ·exact ⟨_,h,.inl rfl⟩
   ·exact ⟨_,h,.inr rfl⟩
  obtain ⟨k',h1,h2⟩:=hx'
  obtain ⟨k,h3,h4⟩:=eD h1 h2
  rcases h4 with rfl | rfl
  ·exact absurd rfl (T.nocell _ h3)
  ·exact hfr _ h3 rfl
 cab:=fun x c h=>by cases h
 hd:=fun _=>I.ok.hd hc
 frames:=I.ok.frames
 stk:=.inl rfl
 exf:=fun b hb=>by
  obtain ⟨f0,f1,f2,f3,f4,f5⟩:=hf b hb
  obtain ⟨o,e⟩:=ho b hb
  exact ⟨Nat.ne_of_lt (Nat.lt_of_lt_of_le (Heap.lt_size e) hC),fun x c h=>f4 x c (hcl x c h)⟩
 bs:=fun b o e=>I.bs b o e
 bsz:=Nat.le_trans I.ok.bsz I.sz
 noex:=fun b o e hb=>by
  obtain ⟨f0,f1,f2,f3,f4,f5⟩:=hf b hb
  rcases f3 with z | z
  ·exact I.ok.noex b o e z
  ·exact absurd (Nat.lt_of_lt_of_le (Heap.lt_size (I.ok.bs b o e).1) z) (Nat.lt_irrefl _)
 exfs:=fun b hb z=>by
  obtain ⟨f0,f1,f2,f3,f4,f5⟩:=hf b hb
  rcases List.mem_cons.mp (I.stkSub b z) with q | q
  ·exact f1 q
  ·exact f2 q
 funs:=I.stack
 frf:=I.stkFree
theorem wB (I:Inv X pins σ H₂ s₂) (hc:X.calm=true) (T:CompOk X.N X.env.scope scope Nc js) (hcl:∀ x c,cl.lookup x=some c->X.env.cells.lookup x=some c) (hfr:∀ y∈scope.names,y.2=.free->∃ c,cl.lookup y.1=some c)
  (hf:∀ b∈fp,FpOk X pins H₂ b) (ho:∀ b∈fp,∃ o,s₂.heap.get? b=some o) {h₁:Heap} {m:Str->Option Value} {tk:Nat} {n:Nat} (hC:C=s₂.heap.objs.size+1) (old:∀ b u,s₂.heap.get? b=some u->h₁.get? b=some u)
  (hns:h₁.Ns C m) (hD:h₁.get? s₂.heap.objs.size=some { cls:=.type "list",data:=.seq #[] n }) :
  Inv (compCx X Nc scope cl C fp pins s₂ H₂) [] (outσ js σ) (upd H₂ s₂.heap.objs.size (.lst [])) { s₂ with heap:=h₁,toks:=tk }:=by
 have lt:∀ b o,s₂.heap.get? b=some o->b < s₂.heap.objs.size:=fun b o e=>Heap.lt_size e
 have hle:s₂.heap.objs.size<=C:=by rw [hC]; exact Nat.le_succ _
 have cellc:∀ x c,cl.lookup x=some c->c < s₂.heap.objs.size:=fun x c h=>by
  obtain ⟨v,o,e,_⟩:=I.cell x c (hcl x c h)
  exact lt c o e
 have new:ObjOk X.prog X.w (upd H₂ s₂.heap.objs.size (.lst [])) h₁ s₂.heap.objs.size (.lst []):=⟨Nat.zero_le _,[],n,.nil,hD⟩
 refine ⟨aGz I hc T hcl hfr hle hf ho,rfl,I.bare,?_,⟨m,hns,fun i x v e1 e2 e3=>?_⟩,fun x c h=>?_,?_,fun x c h=>?_,fun p hp=>?_,I.hok.laid old (Nat.le_refl _) new,?_⟩
 ·exact Un.laid old (Nat.le_refl _) (I.hok.fresh (Nat.le_refl _))
 ·have e1:Nc[i]?=some x:=e1
  have e2':∃ j,js[i]?=some (some j)/\σ[j]?=some (some v):=by
   unfold outσ at e2
   rw [List.getElem?_map] at e2
   cases hj:js[i]? with
   | none=>rw [hj] at e2; cases e2
   | some o =>
    rw [hj] at e2
    cases o with
    | none=>cases e2
    | some j =>
     refine ⟨j,rfl,?_⟩
     have e2:(σ[j]?).join=some v:=Option.some.inj e2
     cases hq:σ[j]? with
     | none=>rw [hq] at e2; cases e2
     | some o=>rw [hq] at e2; exact congrArg some e2
  obtain ⟨j,hj,hv⟩:=e2'
  have hz:(x,some j)∈Nc.zip js:=by
   refine List.mem_of_getElem? (i:=i) ?_
   rw [List.getElem?_zip_eq_some]
   exact ⟨e1,hj⟩
  obtain ⟨t1,t2,t3⟩:=T.slots _ hz j rfl
  obtain ⟨m0,hn0,hl0⟩:=I.loc
  obtain ⟨u,ru,lk⟩:=hl0 j x v t1 hv (.inr (.inl t3))
  refine ⟨u,ru,.inr ⟨.inl (fD I.ok.kind t2 t3),?_⟩⟩
  rcases lk with ⟨k,_⟩ | ⟨_,c,hcc,hcell⟩
  ·have k:X.env.scope.names.lookup x=some .local:=k
   rw [t3] at k; cases k
  ·have hm:(x,NameKind.free)∈scope.names:=by
    have:∀ (l:List (Str×NameKind)),l.lookup x=some .free->(x,NameKind.free)∈l:=fun l=>by
     induction l with
     | nil=>intro h; simp at h
     | cons y r ih =>
      obtain ⟨n',k'⟩:=y
      intro h
      rw [List.lookup_cons] at h
      cases e:x==n' with
      | true =>
       rw [e] at h
       have:x=n':=by simpa using e
       subst this
       cases h
       exact List.mem_cons_self
      | false=>rw [e] at h; exact List.mem_cons_of_mem _ (ih h)
    exact this _ t2
   obtain ⟨c',hc'⟩:=hfr _ hm rfl
   have hc'':=hcl x c' hc'
   rw [hcc] at hc''
   cases hc''
   obtain ⟨o,ho,hd⟩:=hcell
   exact ⟨c,hc',o,old c o ho,hd⟩
 ·obtain ⟨v,o,e,d⟩:=I.cell x c (hcl x c h)
  exact ⟨v,o,old c o e,d⟩
 ·show upd H₂ _ _ C=none
  rw [aT (by rw [hC]; exact Nat.ne_of_gt (Nat.lt_succ_self _))]
  exact I.hok.fresh hle
 ·show upd H₂ _ _ c=none
  rw [aT (Nat.ne_of_lt (cellc x c h))]
  exact I.freeC x c (hcl x c h)
 ·have hp:p∈X.pn++pins:=by
   have hp:p∈(X.pn++pins)++[]:=hp
   rwa [List.append_nil] at hp
  obtain ⟨e,n0,ne,nf,d⟩:=I.pin p hp
  have hlt:=lt _ _ e
  refine ⟨old _ _ e,?_,?_,fun z=>?_,d⟩
  ·show upd H₂ _ _ p.1=none
   rw [aT (Nat.ne_of_lt hlt)]; exact n0
  ·show p.1≠C
   exact Nat.ne_of_lt (Nat.lt_of_lt_of_le hlt hle)
  ·rcases List.mem_cons.mp (I.stkSub _ z) with q | q
   ·exact ne q
   ·exact nf q
 ·show (outσ js σ).length=Nc.length
  unfold outσ
  rw [List.length_map]
  exact T.len
end
end L2
namespace L2
open PySem PySem.Spec PyProof.Rows
noncomputable def tTurns (J:It) (g:TG) (ti:TT) (te:TE) (D:Addr) (σ0:St) (H0:Hp) (Q:Hp->Prop):Prop :=
 ∃ W:Nat->Nat->St->Hp->Prop,(∃ m,W 0 m σ0 H0)/\∀ i m σ' H',W i m σ' H' ->
  (J.stop i H'/\Q H')\/(J.go i H'/\∃ Nn:St->Hp->Prop,(∀ σ'' H'',Nn σ'' H''->∃ m',m' < m/\W (i+1) m' σ'' H'') /\
   ∀ x H'',J.yld i H' x H''->g x σ' H'' fun σ2 H2=>ti σ2 H2 fun ok H3=>if ok=true then te σ2 H3 fun y H4=>∃ ys,H4 D=some (.lst ys)/\ys.length < sizeLine/\Nn σ2 (upd H4 D (.lst (ys++[y]))) else Nn σ2 H3)
noncomputable def tComp (js:List (Option Nat)) (wi:TI) (g:TG) (ti:TT) (te:TE):TE:=fun σ H Q=>wi σ H fun J H1=>∀ D,H1 D=none->tTurns J g ti te D (outσ js σ) (upd H1 D (.lst [])) fun H'=>Q (.ref D) H'
noncomputable def PIf (X:Cx) (ifs:List Expr) (ti:TT):Prop :=
 ∀ (pins:List (Addr×Obj)) (s:Shared) (σ:St) (H:Hp) (Q:Bool->Hp->Prop),Inv X pins σ H s->ti σ H Q ->
  wpAny (model X.prog X.w) X.A (forIn ifs true fun c r=>if r=true then do let ok <- isTrue c X.env (eval c X.env); pure (ForInStep.yield ok) else pure (ForInStep.yield r)) (TP X pins σ Q) X.xe s
noncomputable def tYes:TT:=fun _ H Q=>Q true H
theorem aHl {X:Cx}:PIf X [] tYes:=fun _ _ _ H _ I h=>wpAny_tests_nil ⟨H,I,h⟩
theorem aFw {X:Cx} {c:Expr} {tc:TT} (h:PT X c tc):PIf X [c] tc:=fun pins s σ H Q I hq=>wpAny_tests_one (h pins s σ H Q I hq)
theorem thnE {α:Type} {t:Sem α} {Q Q':α->Shared->Prop} {M:Model} {A:Around} {E0 E:Value->Shared->Prop} {s:Shared} (hE:∀ e s,¬ E0 e s) (h:wpAny M A t Q E0 s) (hQ:∀ a s,Q a s->Q' a s):wpAny M A t Q' E s:=wpAny_mono h hQ fun e s z=>(hE e s z).elim
theorem aAg {Y:Cx} {tg iter elt:Expr} {ifs:List Expr} {scope:Scope} {pos:Pos} {J:It} {fp:List Addr} {it:Addr} {tn:Nat->Heap->Prop} {g:TG} {ti:TT} {te:TE} {D:Addr} {R:Result->Shared->Prop} {σ0:St} {H0:Hp} {s:Shared} {Q:Hp->Prop}
  (hc:Y.calm=true) (hx:∀ e s,¬ Y.xe e s) (T:Turn Y.prog Y.w Y.K tg J fp it tn) (hg:PG Y tg g) (hi:PIf Y ifs ti) (he:PE Y elt te)
  (stat:∀ H',(∀ b∈fp,H' b=none)->∀ b∈fp,FpOk Y [] H' b) (I0:Inv Y [] σ0 H0 s) (st0:tn 0 s.heap) (fr0:∀ b∈fp,H0 b=none) (h:tTurns J g ti te D σ0 H0 Q)
  (hR:∀ σ' H' s',Inv Y [] σ' H' s'->Q H'->R (.ok .next) s') :
  codeAny (model Y.prog Y.w) Y.A (.compLoop (.ListComp elt [⟨tg,iter,ifs,0⟩] scope pos) 0 (.ref it) (.ref D) Y.env) R s:=by
 obtain ⟨W,⟨m0,w0⟩,turn⟩:=h
 refine codeAny_loop rfl (fun n s'=>∃ i σ' H',Inv Y [] σ' H' s'/\tn i s'.heap/\(∀ b∈fp,H' b=none)/\W i n σ' H') (fun n s' hI=>?_) m0 ⟨0,σ0,H0,I0,st0,fr0,w0⟩
 show wpAny _ Y.A ((compTurn (.ListComp elt [⟨tg,iter,ifs,0⟩] scope pos) 0 (.ref it) (.ref D) Y.env).onRaise (fun x=>do noteFrame x Y.env; theTreesLotGoes x)) _ _ s'
 refine wpAny_noted ?_
 rw [compTurn_list]
 obtain ⟨i,σ3,H3,I3,st3,fr3,w3⟩:=hI
 refine wpAny_bind (wpAny_standAt (wpAny_bind ?_))
 rcases turn i n σ3 H3 w3 with ⟨stop,qn⟩ | ⟨go,Nn,hN,step⟩
 ·refine wpAny_mono (T.done Y rfl rfl rfl hc i [] s' σ3 H3 _ I3 (stat H3 fr3) st3 stop) (fun r s4 ⟨hr,I4⟩=>?_) (fun _ _ h=>h)
  subst hr
  exact wpAny_pure (hR σ3 H3 s4 I4 qn)
 ·refine wpAny_mono (T.item Y rfl rfl rfl hc i [] s' σ3 H3 _ I3 (stat H3 fr3) st3 go) (fun r s4 ⟨u,hr,h4⟩=>?_) (fun _ _ h=>h)
  subst hr
  refine wpAny_bind (wpAny_mono h4 (fun _ s5 ⟨x,H5,I5,r5,y5,st5,fr5⟩=>?_) fun _ _ h=>h)
  have I5':=I5.pinned (stat H5 fr5) (T.obj _ _ st5)
  refine wpAny_bind (thnE hx (hg _ s5 σ3 H5 x u _ I5' r5 (step x H5 y5)) fun _ s6 ⟨σ6,H6,I6,q6⟩=>?_)
  refine wpAny_bind (thnE hx (hi _ s6 σ6 H6 _ I6 q6) fun ok s7 ⟨H7,I7,q7⟩=>?_)
  have again:∀ {σ7:St} {H7:Hp} {s7:Shared},Inv Y ([]++pinsAt fp s5.heap) σ7 H7 s7->Nn σ7 H7->∃ m,m < n/\∃ i σ' H',Inv Y [] σ' H' s7/\tn i s7.heap/\(∀ b∈fp,H' b=none)/\W i m σ' H':=fun {σ7 H7 s7} I7 n7=>by
   obtain ⟨m',hm,w7⟩:=hN σ7 H7 n7
   refine ⟨m',hm,i+1,σ7,H7,I7.unpinned,T.keep _ _ _ st5 fun b hb o e=>(I7.pin (b,o) (List.mem_append_right _ (List.mem_append_right _ (iB hb e)))).1,fun b hb=>?_,w7⟩
   obtain ⟨o,e,d⟩:=T.obj _ _ st5 b hb
   exact (I7.pin (b,o) (List.mem_append_right _ (List.mem_append_right _ (iB hb e)))).2.1
  cases ok with
  | false=>exact wpAny_pure ⟨rfl,again I7 q7⟩
  | true =>
   refine wpAny_bind (wpAny_bind (thnE hx (he _ s7 σ6 H7 _ I7 q7) fun y s8 ⟨yv,H8,I8,r8,ys,hD,hz,n8⟩=>wpAny_bind ?_))
   refine thnE hx (pY _ s8 σ6 H8 (.ref D) [yv] (.ref D) [y] (fun _ H9=>Nn σ6 H9) I8 rfl (.cons r8 .nil) ⟨D,ys,yv,rfl,rfl,hD,hz,n8⟩) fun _ s9 ⟨_,H9,I9,_,q9⟩=>?_
   exact wpAny_pure (wpAny_pure ⟨rfl,again I9 q9⟩)
section
variable {X:Cx} {tg iter elt:Expr} {ifs:List Expr} {scope:Scope} {pos:Pos} {Nc:List Str} {js:List (Option Nat)} {g:TG} {ti:TT} {te:TE} {wi:TI}
structure CompEnd (X:Cx) (pins:List (Addr×Obj)) (σ:St) (H':Hp) (C:Addr) (s':Shared):Prop where
 inv:Inv X pins σ H' s'
 ns:∃ m,s'.heap.Ns C m
 no:H' C=none
 ne:C≠X.env.locals
 ge:X.s₀.heap.objs.size<=C
 nc:∀ x c,X.env.cells.lookup x=some c->c≠C
 np:∀ p∈X.pn++pins,p.1≠C
theorem CompEnd.go {X:Cx} {pins:List (Addr×Obj)} {σ σ':St} {H':Hp} {C:Addr} {s' t:Shared} (e:CompEnd X pins σ H' C s') (I:Inv X pins σ' H' t) {h':Heap} (hs:Heap.SameBut C t.heap h'):Inv X pins σ' H' { t with heap:=h' } :=
 I.turned (t':=t.toks) (it:=C) (fun b o hb q=>(hs.2 b hb).trans q) e.no e.ne (.inr e.ge) e.nc e.np
theorem nQ {pins:List (Addr×Obj)} {σ:St} {H₂:Hp} {s₂:Shared} {fp:List Addr} {it:Addr} {J:It} {tn:Nat->Heap->Prop} {cl:List (Str×Addr)} {E:Value->Shared->Prop} {RR:Value->Addr->Result->Shared->Prop} {Q':Addr->Hp->Prop}
  (hc:X.calm=true) (T:CompOk X.N X.env.scope scope Nc js) (hcl:∀ x c,cl.lookup x=some c->X.env.cells.lookup x=some c) (hfr:∀ y∈scope.names,y.2=.free->∃ c,cl.lookup y.1=some c)
  (hg:∀ cl C fp pins s₂ H₂,PG (compCx X Nc scope cl C fp pins s₂ H₂) tg g) (hi:∀ cl C fp pins s₂ H₂,PIf (compCx X Nc scope cl C fp pins s₂ H₂) ifs ti) (he:∀ cl C fp pins s₂ H₂,PE (compCx X Nc scope cl C fp pins s₂ H₂) elt te)
  (I2:Inv X pins σ H₂ s₂) (Tn:Turn X.prog X.w X.K tg J fp it tn) (st2:tn 0 s₂.heap) (f2:∀ b∈fp,FpOk X pins H₂ b)
  (q:∀ D,H₂ D=none->tTurns J g ti te D (outσ js σ) (upd H₂ D (.lst [])) (Q' D))
  (hRR:∀ D C H' s',CompEnd X pins σ H' C s'->Q' D H'->RR (.ref D) C (.ok .next) s') :
  wpAny (model X.prog X.w) X.A (newList []) (fun acc s₃=>wpAny (model X.prog X.w) X.A (newFunctionEnv scope X.env.globals cl [] X.env.qual none .none (some X.env)) (fun cenv s₄ =>
   codeAny (model X.prog X.w) X.A (.compStart (.ListComp elt [⟨tg,iter,ifs,0⟩] scope pos) 0 (.ref it) acc { cenv with scope:=relabel scope X.env }) (RR acc cenv.locals) s₄) E s₃) E s₂:=by
 refine wpAny_newObj_type (wpAny_newFunctionEnv T.nocell (by intro y hy; simp at hy) (fun h₁ hns₁ hsb₁=>?_) T.kind)
 dsimp only at hns₁ hsb₁ ⊢
 generalize hH2:s₂.heap.push { cls:=.type "list",dict:=none,data:=.seq ([]:List Value).toArray }=Hx at hns₁ hsb₁ ⊢
 have hC:Hx.objs.size=s₂.heap.objs.size+1:=by rw [<- hH2,Heap.size_push]
 have below:∀ b,b < s₂.heap.objs.size->b≠Hx.objs.size:=fun b hb=>by rw [hC]; exact Nat.ne_of_lt (Nat.lt_succ_of_lt hb)
 have old:∀ b o,s₂.heap.get? b=some o->h₁.get? b=some o:=fun b o e=>hsb₁.extBut b o (below b (Heap.lt_size e)) (Heap.get?_push_of_some _ (hH2▸Heap.get?_push_of_some _ e))
 have hD:h₁.get? s₂.heap.objs.size=some { cls:=.type "list",data:=.seq #[] }:=hsb₁.extBut _ _ (by rw [hC]; exact Nat.ne_of_lt (Nat.lt_succ_self _)) (Heap.get?_push_of_some _ (hH2▸Heap.get?_push_size _ rfl))
 have ho:∀ b∈fp,∃ o,s₂.heap.get? b=some o:=fun b hb=>let ⟨o,e,_⟩:=Tn.obj _ _ st2 b hb; ⟨o,e⟩
 have hDn:H₂ s₂.heap.objs.size=none:=I2.hok.fresh (Nat.le_refl _)
 have hle:s₂.heap.objs.size<=Hx.objs.size:=by rw [hC]; exact Nat.le_succ _
 have st1:tn 0 h₁:=Tn.keep _ _ _ st2 fun b _ o e=>old b o e
 have fr1:∀ b∈fp,upd H₂ s₂.heap.objs.size (.lst []) b=none:=fun b hb=>by
  obtain ⟨o,e⟩:=ho b hb
  rw [aT (Nat.ne_of_lt (Heap.lt_size e))]
  exact (f2 b hb).1
 have stat:∀ H',(∀ b∈fp,H' b=none)->∀ b∈fp,FpOk (compCx X Nc scope cl Hx.objs.size fp pins s₂ H₂) [] H' b:=fun H' hn b hb=>by
  obtain ⟨g0,g1,g2,g3,g4,g5⟩:=f2 b hb
  obtain ⟨o,e⟩:=ho b hb
  refine ⟨hn b hb,below b (Heap.lt_size e),fun z=>?_,.inl hb,fun x c h=>g4 x c (hcl x c h),fun p hp=>g5 p ?_⟩
  ·rcases List.mem_cons.mp (I2.stkSub b z) with y | y
   ·exact g1 y
   ·exact g2 y
  ·have hp:p∈(X.pn++pins)++[]:=hp
   rwa [List.append_nil] at hp
 have loop:∀ tk,codeAny (model X.prog X.w) X.A (.compLoop (.ListComp elt [⟨tg,iter,ifs,0⟩] scope pos) 0 (.ref it) (.ref s₂.heap.objs.size) (compEnvC scope cl Hx.objs.size X.env)) (RR (.ref s₂.heap.objs.size) Hx.objs.size) { s₂ with heap:=h₁,toks:=tk }:=fun tk=>by
  refine aAg (Y:=compCx X Nc scope cl Hx.objs.size fp pins s₂ H₂) rfl (fun _ _ z=>z) Tn (hg _ _ _ _ _ _) (hi _ _ _ _ _ _) (he _ _ _ _ _ _) stat
   (wB (tk:=tk) I2 hc T hcl hfr f2 ho hC old hns₁ hD) st1 fr1 (q _ hDn) fun σ' H' s' I' qQ=>?_
  obtain ⟨m,hm,_⟩:=I'.loc
  refine hRR _ _ H' s' ⟨?_,⟨m,hm⟩,I'.free,Nat.ne_of_gt (Nat.lt_of_lt_of_le I2.lt hle),Nat.le_trans I2.sz hle,fun x c h=>?_,fun p hp=>?_⟩ qQ
  ·exact I2.call' (ch:=fp) I'.os I'.base I'.hok I'.bare fun b hb=>let ⟨g0,g1,g2,g3,g4,g5⟩:=f2 b hb; ⟨g3,g1,g4,g5⟩
  ·obtain ⟨v,o,e,_⟩:=I2.cell x c h
   exact below c (Heap.lt_size e)
  ·exact below _ (Heap.lt_size (I2.pin p hp).1)
 exact codeAny_compStart_list (loop _) (Tn.self _ _ _ _ _ st1 (loop _))
theorem aHo (hc:X.calm=true) (T:CompOk X.N X.env.scope scope Nc js) (hit:PI X tg iter wi)
  (hg:∀ cl C fp pins s₂ H₂,PG (compCx X Nc scope cl C fp pins s₂ H₂) tg g) (hi:∀ cl C fp pins s₂ H₂,PIf (compCx X Nc scope cl C fp pins s₂ H₂) ifs ti) (he:∀ cl C fp pins s₂ H₂,PE (compCx X Nc scope cl C fp pins s₂ H₂) elt te)
  (hs:∀ x,foldedSetIterable iter X.env x=pure x:=by intro _; rfl):PE X (.ListComp elt [⟨tg,iter,ifs,0⟩] scope pos) (tComp js wi g ti te):=by
 intro pins s σ H Q I h
 rw [eval_ListComp]
 obtain ⟨cl,hcl0,hcl,hfr⟩:=jS (scope:=scope) (env:=X.env) (fun y hy hf=>I.ok.has y.1 (.inl (T.free y hy hf)))
 refine wpAny_comprehension_free (use:=none) rfl hs hcl0 T.kind T.names (thn (hit pins s σ H _ I h) fun xv s1 h1=>thn h1 fun itv s2 h2=>?_)
 obtain ⟨it,fp,tn,J,H2,e,I2,Tn,st2,f2,q⟩:=h2
 subst e
 refine nQ (RR:=fun acc C=>compPost (model X.prog X.w) X.A X.xe none (EP X pins σ Q) acc C) hc T hcl hfr hg hi he I2 Tn st2 f2 q fun D C H' s' ce qD=>?_
 obtain ⟨m,hm⟩:=ce.ns
 exact ⟨m,hm,fun h' hs'=>⟨.ref D,H',ce.go ce.inv hs',rfl,qD⟩⟩
theorem aFt {i:Nat} {y:Str} {py spos:Pos} (hN:X.N.Nodup) (hyi:X.N[i]?=some y) (hy:X.env.scope.names.lookup y=some .local) (hc:X.calm=true) (T:CompOk X.N X.env.scope scope Nc js) (hit:PI X tg iter wi)
  (hg:∀ cl C fp pins s₂ H₂,PG (compCx X Nc scope cl C fp pins s₂ H₂) tg g) (hi:∀ cl C fp pins s₂ H₂,PIf (compCx X Nc scope cl C fp pins s₂ H₂) ifs ti) (he:∀ cl C fp pins s₂ H₂,PE (compCx X Nc scope cl C fp pins s₂ H₂) elt te)
  (hsw:swapsWith (.ListComp elt [⟨tg,iter,ifs,0⟩] scope pos) (some (.Name y py)) spos.line X.env=pure true:=by rfl)
  (hs:∀ x,foldedSetIterable iter X.env x=pure x:=by intro _; rfl):PS X (.Assign [.Name y py] (.ListComp elt [⟨tg,iter,ifs,0⟩] scope pos) spos) (tAsg (tComp js wi g ti te) (gName i)):=by
 intro pins s σ H D0 I h
 rw [exec_Assign_Name_used _ _ _ _ hsw]
 obtain ⟨cl,hcl0,hcl,hfr⟩:=jS (scope:=scope) (env:=X.env) (fun y hy hf=>I.ok.has y.1 (.inl (T.free y hy hf)))
 refine wpAny_bind (wpAny_standAt (wpAny_bind ?_))
 show wpAny _ X.A (do let _ <- comprehension (.ListComp elt [⟨tg,iter,ifs,0⟩] scope pos) scope X.env _ (newList []) false (eval iter X.env) (some (assign (.Name y py) X.env))) _ _ s
 refine wpAny_bind (wpAny_mono (wpAny_comprehension_free (use:=some (assign (.Name y py) X.env)) (Q:=fun _ s'=>SP X pins D0 .next s') rfl hs hcl0 T.kind T.names
  (thn (hit pins s σ H _ I h) fun xv s1 h1=>thn h1 fun itv s2 h2=>?_)) (fun _ s' hq=>wpAny_pure (wpAny_pure hq)) fun _ _ e=>e)
 obtain ⟨it,fp,tn,J,H2,e,I2,Tn,st2,f2,q⟩:=h2
 subst e
 refine nQ (RR:=fun acc C=>compPost (model X.prog X.w) X.A X.xe (some (assign (.Name y py) X.env)) (fun _ s'=>SP X pins D0 .next s') acc C) hc T hcl hfr hg hi he I2 Tn st2 f2 q fun D C H' s' ce qD=>?_
 obtain ⟨m,hm⟩:=ce.ns
 show wpAny _ _ (assign (.Name y py) X.env (.ref D)) _ _ _
 refine wpAny_assign_Name (pU (v:=.ref D) ce.inv hN hyi (.inl hy) rfl (fun s'' I'' ⟨a,sb,ha⟩=>?_) (.inr hy))
 have hCa:C≠a:=by
  rcases ha with rfl | ha
  ·exact ce.ne
  ·exact fun z=>ce.nc y a ha z.symm
 exact ⟨m,hm.sameBut sb hCa,fun h' hs'=>⟨_,H',ce.go I'' hs',qD⟩⟩
end
end L2
namespace L2
open PySem PySem.Spec PyProof.Rows
noncomputable def compOkB (N0:List Str) (sc0 scope:Scope) (Nc:List Str) (js:List (Option Nat)):Bool :=
 decide (scope.kind=.function)&&scope.names.all (fun y=>y.2 != .cell)&&scope.names.all (fun y=>y.2 != .local || scope.names.lookup y.1==some .local)&&scope.names.all (fun y=>y.2 != .free || sc0.names.lookup y.1==some .cell) &&
  (js.length==Nc.length)&&(Nc.zip js).all (fun p=>match p.2 with | none=>true | some j=>N0[j]?==some p.1&&scope.names.lookup p.1==some .free&&sc0.names.lookup p.1==some .cell)
theorem CompOk.of {N0:List Str} {sc0 scope:Scope} {Nc:List Str} {js:List (Option Nat)} (h:compOkB N0 sc0 scope Nc js=true):CompOk N0 sc0 scope Nc js:=by
 unfold compOkB at h
 simp only [Bool.and_eq_true,List.all_eq_true,beq_iff_eq,decide_eq_true_eq] at h
 obtain ⟨⟨⟨⟨⟨h1,h2⟩,h3⟩,h4⟩,h5⟩,h6⟩:=h
 refine ⟨h1,fun y hy=>by simpa using h2 y hy,fun y hy e=>?_,fun y hy e=>?_,h5,fun p hp j hj=>?_⟩
 ·have:=h3 y hy
  simpa [e] using this
 ·have:=h4 y hy
  simpa [e] using this
 ·have:=h6 p hp
  have hj:p.2=some j:=hj
  rw [hj] at this
  simpa [and_assoc] using this
section
variable {g:TG} {ti:TT} {te:TE} {D:Addr} {σ0:St} {H0:Hp} {Q:Hp->Prop}
end
section
variable {X:Cx} {a b:Expr} {rest:List Expr} {ta tb:TE} {pos:Pos} {tg:Expr}
end
end L2
namespace L2
open PySem PySem.Spec PyProof.Rows
section
variable {prog:Program} {w:World} {A:Around} {E:Value->Shared->Prop} {s:Shared}
end
section
variable {X:Cx} {tg:Expr}
end
end L2
namespace L2
open PySem PySem.Spec PyProof.Rows
section
variable {X:Cx} {st:Stmt} {rest:List Stmt} {t u:TS}
end
theorem oZ:bootBuiltins "int"=some (.type "int"):=by decide +kernel
theorem aCw:bootBuiltins "max"=some (.builtin "max"):=by decide +kernel
theorem bJ:bootBuiltins "tuple"=some (.type "tuple"):=by decide +kernel
theorem yX:bootBuiltins "list"=some (.type "list"):=by decide +kernel
theorem aJb:bootBuiltins "zip"=some (.type "zip"):=by decide +kernel
theorem kO:bootBuiltins "enumerate"=some (.type "enumerate"):=by decide +kernel
theorem pT:bootBuiltins "sorted"=some (.builtin "sorted"):=by decide +kernel
theorem aKz:bootBuiltins "sum"=some (.builtin "sum"):=by decide +kernel
end L2
namespace L2
open PySem
noncomputable def Scr (K:PySem.W.Frag) (H:Hp) (a:Addr) (xs:List V):Prop:=(∃ o,H a=some (.frz o (.lst xs)))\/∀ H',SqL K H' a xs
theorem Scr.sq {K:PySem.W.Frag} {H:Hp} {a:Addr} {xs:List V} (h:Scr K H a xs):SqL K H a xs:=by
 rcases h with ⟨o,h⟩ | h
 ·exact .inl (.inr ⟨o,h⟩)
 ·exact h H
theorem Scr.of {K:PySem.W.Frag} {H:Hp} {a:Addr} {xs:List V} (hO:Only H) (h:SqL K H a xs):Scr K H a xs:=by
 rcases h with (h | ⟨o,h⟩) | h
 ·rcases hO a with z | ⟨o,ys,z⟩
  ·rw [h] at z; cases z
  ·rw [h] at z; cases z
 ·exact .inl ⟨o,h⟩
 ·exact .inr fun _=>.inr h
noncomputable def SB (l:Addr) (H H':Hp):Prop:=∀ x o,x≠l->H x=some o->H' x=some o
theorem Scr.sb {K:PySem.W.Frag} {H H':Hp} {a l:Addr} {xs ys:List V} (h:Scr K H a xs) (hl:H l=some (.lst ys)) (s:SB l H H'):Scr K H' a xs:=by
 rcases h with ⟨o,h⟩ | h
 ·exact .inl ⟨o,s _ _ (aNi h hl (by intro z; cases z)) h⟩
 ·exact .inr h
theorem Scr.same {K:PySem.W.Frag} {H H':Hp} {a:Addr} {xs:List V} (h:Scr K H a xs) (s:Same H H'):Scr K H' a xs:=by
 rcases h with ⟨o,h⟩ | h
 ·exact .inl ⟨o,s _ _ h⟩
 ·exact .inr h
theorem SB.trans {l:Addr} {H H1 H2:Hp} (s:SB l H H1) (t:SB l H1 H2):SB l H H2:=fun x u n e=>t x u n (s x u n e)
open PySem.Spec PyProof.Rows
section
variable {X:Cx}
end
end L2
namespace Com
open PySem L2
structure IW (n k high low past now:Int):Prop where
 h0:0<=high
 hb:high<=1000000
 l0:0<=low
 lb:low<=1000000
 g:Int.gcd high low=Int.gcd n (k % n)
 d1:n ∣ k*past - high
 d2:n ∣ k*now - low
structure PV (n k e told square left:Int):Prop where
 t0:0<=told
 t1:told < n
 s0:0<=square
 s1:square < n
 l0:0<=left
 eq:told*square ^ left.toNat % n=k ^ e.toNat % n
noncomputable def bitsN:List Int->Nat
 | []=>0
 | b::r=>b.toNat+2*bitsN r
structure DG (e0 e:Int) (ds:List Int):Prop where
 nn:0<=e
 bit:∀ d∈ds,d=0\/d=1
 len:∃ m:Nat,e.toNat < 2 ^ m/\ds.length+m=62
 val:∀ r,bitsN r=e.toNat->bitsN (ds++r)=e0.toNat
noncomputable def BoxAt (H:Hp) (b:Addr):Prop:=∃ c s t:Int,H b=some (.lst [.int c,.int s,.int t])
noncomputable def Keep (b:Addr) (H H':Hp):Prop:=(∀ a o,a≠b->H a=some o->H' a=some o)/\BoxAt H' b
theorem Keep.trans {b:Addr} {H H1 H2:Hp} (x:Keep b H H1) (y:Keep b H1 H2):Keep b H H2:=⟨fun a o n e=>y.1 a o n (x.1 a o n e),y.2⟩
theorem Keep.same {b:Addr} {H H1 H2:Hp} (x:Keep b H H1) (y:Same H1 H2):Keep b H H2:=⟨fun a o n e=>y a o (x.1 a o n e),by obtain ⟨c,s,t,h⟩:=x.2; exact ⟨c,s,t,y _ _ h⟩⟩
theorem small {n:Nat} (h:n<=1000):n<=sizeLine:=Nat.le_of_lt (small1000 h)
end Com
namespace L2
open PySem PySem.Spec PyProof.Rows
section
variable {X:Cx} {K:PySem.W.Frag}
end
end L2
namespace L2
open PySem PySem.Spec PyProof.Rows
section
variable {P:Program} {W:World} {Ar:Around} {Ex:Value->Shared->Prop} {hp:Heap} {gn:Array GenState} {dr:Drawn} {tk:Nat} {oz:OsState}
variable {nm qn:Str} {C N:Addr} {bs bm bmB:List Value} {hdct:Bool} {sn:List Str} {sub:List Value} {ab:Bool} {col:Option Bool} {dd:Option Addr} {k0 k1 k2 k3 k5:Option Value} {B newId initId:String}
end
end L2
namespace L2
open PySem PySem.Spec PyProof.Rows
noncomputable def XRec (P:Addr->Prop) (H:Hp) (h:Heap) (e C:Addr) (d:Option Addr):Prop :=
 ∃ vs sl,h.get? e=some ⟨.ref C,d,.fields vs,sl⟩/\1 < vs.size /\
  (vs[1]?=some .none\/∃ T cT dT ts sT,vs[1]?=some (.ref T)/\P T/\H T=none/\h.get? T=some ⟨cT,dT,.fields ts,sT⟩/\3 < ts.size)
theorem XRec.imp {P P':Addr->Prop} {H:Hp} {h:Heap} {e C:Addr} {d:Option Addr} (x:XRec P H h e C d) (i:∀ T,P T->P' T):XRec P' H h e C d:=by
 obtain ⟨vs,sl,h1,h2,h3 | ⟨T,cT,dT,ts,sT,a1,a2,a3⟩⟩:=x
 ·exact ⟨vs,sl,h1,h2,.inl h3⟩
 ·exact ⟨vs,sl,h1,h2,.inr ⟨T,cT,dT,ts,sT,a1,i T a2,a3⟩⟩
section
variable {M:Model} {A A':Around} {E:Value->Shared->Prop} {s:Shared} {env:Env} {outer:List Env} {base:Heap} {L e C:Addr} {d:Option Addr} {H:Hp} {P:Addr->Prop} {Q:Unit->Shared->Prop}
theorem iF {h:Heap} {a:Addr} {c:Value} {d:Option Addr} {vs:Array Value} {sl:Array (Option Value)} {i:Nat} {x:Value} (ha:h.get? a=some ⟨c,d,.fields vs,sl⟩) :
  (h.update a (Obj.mapFields (·.setIfInBounds i x))).get? a=some ⟨c,d,.fields (vs.setIfInBounds i x),sl⟩:=Heap.get?_update_self _ ha rfl
theorem dE {h:Heap} {a b:Addr} {f:Obj->Obj} (n:b≠a):(h.update a f).get? b=h.get? b:=Heap.get?_update_other _ _ (Ne.symm n)
theorem wH (x:XRec P H s.heap e C d) (he:H e≠none) 
  (hQ:∀ (h':Heap) (ch:List Addr),(∀ b∈ch,P b/\H b=none)->(∀ b o,b∉ch->s.heap.get? b=some o->h'.get? b=some o)->(∀ b o,s.heap.get? b=some o->∃ o',h'.get? b=some o')->XRec P H h' e C d->Q () { s with heap:=h' }) :
  wpAny M A (setFlight (.ref e) none) Q E s:=by
 obtain ⟨vs,sl,h1,h2,h3 | ⟨T,cT,dT,ts,sT,a1,a2,a3,a4,a5⟩⟩:=x
 ·unfold setFlight
  refine wpAny_bind (wpAny_field h1 rfl h3 ?_)
  rw [if_neg (by decide)]
  exact wpAny_pure (hQ s.heap [] (fun _ z=>nomatch z) (fun _ _ _ q=>q) (fun b o q=>⟨o,q⟩) ⟨vs,sl,h1,h2,.inl h3⟩)
 ·have ne:e≠T:=fun z=>he (z▸a3)
  have hz3:=a5
  unfold setFlight
  refine wpAny_bind (wpAny_field h1 rfl a1 ?_)
  rw [if_pos (show (Value.ref T != Value.none)=true by simp)]
  refine wpAny_setField a4 rfl hz3 (hQ _ [T] (fun b hb=>?_) (fun b o nb q=>(dE fun z=>nb (by simp [z])).trans q) (fun b o q=>?_) ⟨vs,sl,(dE ne).trans h1,h2,.inr ⟨T,cT,dT,_,sT,a1,a2,a3,iF a4,?_⟩⟩)
  ·rw [List.mem_singleton] at hb; subst hb; exact ⟨a2,a3⟩
  ·by_cases z:b=T
   ·subst z; exact ⟨_,iF a4⟩
   ·exact ⟨o,(dE z).trans q⟩
  ·simp [hz3]
end
end L2
namespace L2
open PySem PySem.Spec PyProof.Rows
noncomputable def XO (e C:Addr) (d:Option Addr):HO:=.ext fun h=>∃ vs sl,h.get? e=some ⟨.ref C,d,.fields vs,sl⟩
theorem XO.ok {P:Program} {w:World} {H:Hp} {h:Heap} {e C:Addr} {d:Option Addr} {vs:Array Value} {sl:Array (Option Value)} (q:h.get? e=some ⟨.ref C,d,.fields vs,sl⟩):ObjOk P w H h e (XO e C d) :=
 ⟨⟨vs,sl,q⟩,⟨_,q⟩,fun h1 h2 ⟨vs,sl,z⟩ k=>⟨vs,sl,k _ z⟩⟩
theorem XO.at {P:Program} {w:World} {H:Hp} {h:Heap} {e C:Addr} {d:Option Addr} (x:HOk P w H h) (q:H e=some (XO e C d)):∃ vs sl,h.get? e=some ⟨.ref C,d,.fields vs,sl⟩:=(x e _ q).1
noncomputable def Free (X:Cx) (pins:List (Addr×Obj)) (T:Addr):Prop:=X.s₀.heap.objs.size<=T/\T≠X.env.locals/\(∀ x c,X.env.cells.lookup x=some c->c≠T)/\∀ p∈X.pn++pins,p.1≠T
section
variable {X:Cx} {pins:List (Addr×Obj)} {σ:List (Option V)} {H H':Hp} {s s':Shared} {e C:Addr} {d:Option Addr} {M:Model} {A A':Around} {E:Value->Shared->Prop} {Q:Unit->Shared->Prop}
theorem Inv.freeNew (I:Inv X pins σ H s) {T:Addr} (h:s.heap.objs.size<=T):Free X pins T:=by
 refine ⟨Nat.le_trans I.sz h,Nat.ne_of_gt (Nat.lt_of_lt_of_le I.lt h),fun x c q=>?_,fun p hp=>?_⟩
 ·obtain ⟨v,o,ho,_⟩:=I.cell x c q
  exact Nat.ne_of_lt (Nat.lt_of_lt_of_le (Heap.lt_size ho) h)
 ·exact Nat.ne_of_lt (Nat.lt_of_lt_of_le (Heap.lt_size (I.pin p hp).1) h)
theorem Inv.moved {h':Heap} {ch:List Addr} (I:Inv X pins σ H s) (he:H e=some (XO e C d)) (hst:X.stack=X.env::X.outer) (hfm:X.env.frame=some X.env.locals)
  (hc:∀ b∈ch,Free X pins b/\H b=none) (k1:∀ b o,b≠e->b∉frs (X.env::X.outer)->b∉ch->s.heap.get? b=some o->h'.get? b=some o)
  (k2:∀ b o,b∈frs (X.env::X.outer)->s.heap.get? b=some o->∃ sl,h'.get? b=some { o with slots:=sl }) (k3:∀ b o,s.heap.get? b=some o->∃ o',h'.get? b=some o')
  {vs:Array Value} {sl:Array (Option Value)} (new:h'.get? e=some ⟨.ref C,d,.fields vs,sl⟩):Inv X pins σ H { s with heap:=h' }:=by
 have hfr:∀ b,b∈frs (X.env::X.outer) ↔ b=X.env.locals\/b∈X.fs:=fun b=>by
  unfold frs; rw [List.filterMap_cons,hfm]; exact List.mem_cons
 have ne:∀ b,H b=none->b≠e:=fun b n z=>by subst z; rw [he] at n; cases n
 have hsf:=I.stkFree
 rw [hst] at hsf
 refine I.step (g':=s.gens) (d':=s.drawn) (t':=s.toks) (ch:=ch) (fun b hb=>⟨.inr (hc b hb).1.1,(hc b hb).1.2⟩) (fun b o nL nf nc q n=>k1 b o (ne b n) (fun z=>((hfr b).mp z).elim nL nf) nc q)
  (fun b o nL bf nc q n=>k2 b o ((hfr b).mpr (.inr bf)) q) (fun _ _ _ _ n=>n) (fun b o _ q=>k3 b o q) (fun _ _ q=>q) (fun _ _ _ q=>q) (fun b ps q=>⟨#[],by rw [q]; simp⟩) (fun m hm=>?_) (fun a o q=>?_) I.bare
 ·obtain ⟨o,es,ep,ho,r⟩:=hm
  obtain ⟨sl,q⟩:=k2 _ o ((hfr _).mpr (.inl rfl)) ho
  exact ⟨_,es,ep,q,r⟩
 ·by_cases ha:a=e
  ·subst ha; rw [he] at q; cases q; exact XO.ok new
  ·refine (I.hok a o q).stay (fun b u hb q'=>k1 b u ?_ ?_ ?_ q') (fun _ z=>z) fun _ _ z=>z
   ·rcases hb with rfl | hb
    ·exact ha
    ·rintro rfl; rw [he] at hb; cases hb
   ·intro z
    have n:=hsf b z
    rcases hb with rfl | hb
    ·rw [q] at n; cases n
    ·rw [hb] at n; cases n
   ·intro z
    have n:=(hc b z).2
    rcases hb with rfl | hb
    ·rw [q] at n; cases n
    ·rw [hb] at n; cases n
theorem Inv.again (I:Inv X pins σ H s) (hst:X.stack=X.env::X.outer) (hfm:X.env.frame=some X.env.locals) (x:XRec (Free X pins) H s.heap e C d) (he:H e=some (XO e C d))
  (hQ:∀ h',Inv X pins σ H { s with heap:=h' }->XRec (Free X pins) H h' e C d->Q () { s with heap:=h' }) :
  wpAny M A (setFlight (.ref e) none) Q E s:=by
 refine wH x (by rw [he]; simp) fun h' ch hc k1 k3 r=>?_
 obtain ⟨vs,sl,q,_⟩:=id r
 have k2:∀ b o,b∈frs (X.env::X.outer)->s.heap.get? b=some o->∃ sl,h'.get? b=some { o with slots:=sl }:=fun b o hb q=>by
  refine ⟨o.slots,k1 b o (fun z=>?_) q⟩
  have hl:=I.stack
  rw [hst] at hl
  rcases List.mem_cons.mp (show b∈X.env.locals::X.fs by unfold frs at hb; rw [List.filterMap_cons,hfm] at hb; exact hb) with rfl | hb'
  ·exact (hc _ z).1.2.1 rfl
  ·obtain ⟨_,o',ho',_⟩:=I.ok.funs.mem hb'
   exact absurd (Heap.lt_size ho') (Nat.not_lt.mpr (hc b z).1.1)
 exact hQ h' (I.moved he hst hfm hc (fun b o _ _ nc q=>k1 b o nc q) k2 k3 q) r
end
noncomputable def CX1 (P:Program) (w:World):CXT:=fun outer H s E ev s'=>∃ a H' C d,ev=.ref a/\s'.os=s.os/\AllBare s'.gens/\Un (frs outer) [] H H' s.heap s'.heap/\HOk P w H' s'.heap /\
 XRec (fun T=>s.heap.objs.size<=T) H' s'.heap a C d/\H' a=some (XO a C d)/\E (.ref a) none H'
noncomputable def XE (X:Cx) (pins:List (Addr×Obj)) (σ:List (Option V)) (R:Addr->Hp->Prop) (ev:Value) (s':Shared):Prop :=
 ∃ a H' C d,ev=.ref a/\Inv X pins σ H' s'/\XRec (Free X pins) H' s'.heap a C d/\H' a=some (XO a C d)/\R a H'
structure Xz (X:Cx) (R:Addr->Hp->Prop):Prop where
 go:∀ pins σ ev s',XE X pins σ R ev s'->X.xe ev s'
theorem XE.imp {X:Cx} {pins:List (Addr×Obj)} {σ:List (Option V)} {R R':Addr->Hp->Prop} {ev:Value} {s':Shared} (x:XE X pins σ R ev s') (h:∀ a H,R a H->R' a H):XE X pins σ R' ev s' :=
 let ⟨a,H',C,d,x1,x2,x3,x4,x5⟩:=x
 ⟨a,H',C,d,x1,x2,x3,x4,h _ _ x5⟩
theorem XE.call {X:Cx} {pins:List (Addr×Obj)} {σ:List (Option V)} {H:Hp} {s:Shared} {E:XK} {ev:Value} {s':Shared} (I:Inv X pins σ H s) (h:CX1 X.prog X.w X.stack H s E ev s'):XE X pins σ (fun a H'=>E (.ref a) none H') ev s':=by
 obtain ⟨a,H',C,d,rfl,os,ba,un,hok,x,he,q⟩:=h
 exact ⟨a,H',C,d,rfl,I.call' os un hok ba (fun b z=>nomatch z),x.imp fun T hT=>I.freeNew hT,he,q⟩
end L2
namespace L2
open PySem PySem.Spec PySem.W PySem.Calls PyProof.Rows Builtin Builtin.ObjectAttr
noncomputable abbrev vb:List Value:=[.type "ValueError",.type "Exception",.type "BaseException",.type "object"]
section
variable {prog:Program} {w:World} {A:Around} {E:Value->Shared->Prop} {s:Shared} {K:Frag} {x C LE:Addr} {vs:Array Value} {sl:Array (Option Value)} {cd:ClassData} {name:Str} {v:Value}
end
end L2
namespace L2
open PySem PySem.Spec PySem.W PySem.Calls PyProof.Rows Builtin Builtin.ObjectAttr
section
variable {prog:Program} {w:World} {A:Around} {E:Value->Shared->Prop} {s:Shared} {K:Frag} {x C LE dx:Addr} {vs:Array Value} {sl:Array (Option Value)} {cd:ClassData} {name:Str} {v:Value} {mA:Str->Option Value}
end
end L2
namespace L2
open PySem PySem.Spec PySem.W PySem.Calls PyProof.Rows Builtin Builtin.ObjectAttr
noncomputable def xcB (K:Frag) (C:Addr) (bm0:List Value) (ini:Option Value):Bool:=match K.lookup C with
 | some ⟨.type "type",_,.cls cd,sl⟩=>(match cd.mro,sl.toList with
  | .ref C'::bm,[_,_,_,_,some (.builtin n),_]=>C'==C&&bm==bm0&&n=="ValueError.__new__"&&!cd.hasDel&&nsOkIn K cd.ns&&nsIn K cd.ns "__init__"==some ini
  | _,_=>false)
 | _=>false
structure Xc (K:Frag) (c:Str) (C LE:Addr):Prop where
 nm:nsIn K mainGlobals c=some (some (.ref C))
 cd:∃ cd,clsIn K C=some cd/\cd.name=c/\cd.mro=.ref C::.ref LE::vb
 le:∃ cl,clsIn K LE=some cl/\cl.name="LentError"
 leN:nsIn K mainGlobals "LentError"=some (some (.ref LE))
 ne:c≠"LentError"
 hd:hasDictIn K C=true
 ga:findIn K (.ref C) "__getattribute__"=some (some (.builtin "BaseException.__getattribute__"))
 gh:findIn K (.ref C) "__getattr__"=some none
 cl:findIn K (.ref C) "__class__"=some (some (.builtin "object.__class__"))
 ob:∃ ini,xcB K C (.ref LE::vb) ini=true
 leO:xcB K LE vb none=true
structure XcO (h:Heap) (C:Addr) (bm:List Value) (ini:Option Value):Prop where
 ex:∃ nm q N bs hdct sn sub ab col dd k0 k1 k2 k3 k5,h.get? C=some (excClassObj nm q C N bs bm hdct sn sub ab col dd k0 k1 k2 k3 k5 "ValueError.__new__")/\∃ mN,h.Ns N mN/\mN "__init__"=ini
section
variable {M:Model} {A:Around} {E:Value->Shared->Prop} {s:Shared} {env:Env} {C:Addr} {bm:List Value} {ini:Option Value} {Q:Flow->Shared->Prop}
end
end L2
namespace L2
open PySem PySem.Spec PySem.W PySem.Calls PyProof.Rows Builtin Builtin.ObjectAttr
noncomputable def XN (e C:Addr) (d:Option Addr):HO:=.ext fun h=>∃ vs sl t0,h.get? e=some ⟨.ref C,d,.fields vs,sl⟩/\vs[1]?=some .none/\vs[0]?=some (.ref t0)
section
variable {P:Program} {w:World} {H:Hp} {h h':Heap} {e C a:Addr} {d:Option Addr} {o:HO}
theorem XN.ok {vs:Array Value} {sl:Array (Option Value)} {t0:Addr} (q:h.get? e=some ⟨.ref C,d,.fields vs,sl⟩) (q1:vs[1]?=some .none) (q0:vs[0]?=some (.ref t0)):ObjOk P w H h e (XN e C d) :=
 ⟨⟨vs,sl,t0,q,q1,q0⟩,⟨_,q⟩,fun h1 h2 ⟨vs,sl,t0,z,z'⟩ k=>⟨vs,sl,t0,k _ z,z'⟩⟩
theorem XN.at (x:HOk P w H h) (q:H e=some (XN e C d)):∃ vs sl t0,h.get? e=some ⟨.ref C,d,.fields vs,sl⟩/\vs[1]?=some .none/\vs[0]?=some (.ref t0):=(x e _ q).1
theorem ObjOk.here (x:ObjOk P w H h a o):∃ u,h.get? a=some u:=by
 cases o with
 | lst xs=>obtain ⟨_,_,_,_,e⟩:=x; exact ⟨_,e⟩
 | tup xs=>obtain ⟨_,_,_,p⟩:=x; obtain ⟨u,e,_⟩:=p; exact ⟨_,e⟩
 | dK kvs=>obtain ⟨_,_,_,_,o,_,_,e,_⟩:=x; exact ⟨_,e⟩
 | dT kvs=>obtain ⟨_,_,_,_,o,_,_,e,_⟩:=x; exact ⟨_,e⟩
 | set S n=>obtain ⟨o,_,_,_,e,_⟩:=x; exact ⟨_,e⟩
 | ins C dx fs=>obtain ⟨_,_,_,e,_⟩:=x; exact ⟨_,e⟩
 | own y=>exact x
 | xd fs=>obtain ⟨_,⟨_,_,_,e,_⟩,_⟩:=x; exact ⟨_,e⟩
 | rng lo hi=>obtain ⟨_,_,_,e⟩:=x; exact ⟨_,e⟩
 | frz ob u=>obtain ⟨e,_⟩:=x; exact ⟨_,e⟩
 | tbl ps=>exact ⟨_,(show h.get? a=some _ from x)⟩
 | met f y=>exact ⟨_,(show h.get? a=some _ from x)⟩
 | ext φ=>exact x.2.1
end
section
variable {X:Cx} {pins:List (Addr×Obj)} {σ:List (Option V)} {H:Hp} {s:Shared} {h':Heap} {e C a:Addr} {d:Option Addr} {o:HO}
end
structure LeF (K:Frag) (LE:Addr):Prop where
 rd:readsIn K LE (.type "type")=true
 ga:specialIn K (.ref LE) "__getattribute__"=some (some (.builtin "type.__getattribute__"))
 ini:findCls K (.ref LE) (.type "type") "__init__"=some (.val (.builtin "ValueError.__init__"))
 tl:tailIn K vb (.ref LE::vb)=true
section
variable {X:Cx} {C LE fI:Addr} {e1 e2 o v:Expr} {t:TA} {to tv:TE} {p1 ap cp pos pos':Pos} {f:Str}
end
end L2
namespace L2
open PySem PySem.Spec PySem.W PySem.Calls PyProof.Rows Builtin Builtin.ObjectAttr
section
variable {X:Cx} {CX:CXT} {k:Nat} {C LE fI:Addr} {fd:FuncData} {ps:List Str} {E:XK} {f x:Str} {p pos:Pos} {e:Expr} {es:List Expr} {t:TA} {pins:List (Addr×Obj)} {σ:St} {H:Hp} {s:Shared} {Q:VK} {us:List Value} {vs:List V}
end
end L2
namespace L2
open PySem PySem.Spec PySem.W PySem.Calls PyProof.Rows Builtin Builtin.ObjectAttr
section
variable {M:Model} {A:Around} {E:Value->Shared->Prop} {h:Heap} {g:Array GenState} {dr:Drawn} {t:Nat} {os:OsState} {C D e:Addr} {oe:Obj} {bm bmD:List Value} {ini iniD:Option Value} {Q:Bool->Shared->Prop}
end
noncomputable def PEx (X:Cx) (e:Expr) (t:St->Hp->VK->(Addr->Hp->Prop)->Prop):Prop :=
 ∀ (pins:List (Addr×Obj)) (s:Shared) (σ:St) (H:Hp) (Q:VK) (R:Addr->Hp->Prop),Inv X pins σ H s->t σ H Q R->wpAny (model X.prog X.w) X.A (eval e X.env) (EP X pins σ Q) (XE X pins σ R) s
noncomputable def PBx (X:Cx) (b:List Stmt) (t:Ends->(Addr->Hp->Prop)->St->Hp->Prop):Prop :=
 ∀ (pins:List (Addr×Obj)) (s:Shared) (σ:St) (H:Hp) (D:Ends) (R:Addr->Hp->Prop),Inv X pins σ H s->t D R σ H->wpAny (model X.prog X.w) X.A (execs b X.env) (SP X pins D) (XE X pins σ R) s
section
variable {X:Cx} {pins:List (Addr×Obj)} {σ:St} {H:Hp} {s:Shared} {e:Addr}
end
structure XM (K:Frag) (C D:Addr):Prop where
 c:∃ bm ini,xcB K C bm ini=true/\(Value.ref C::bm).contains (.ref D)=true
 d:∃ bm ini,xcB K D bm ini=true/\bm.contains (.type "BaseException")=true
section
variable {X:Cx} {body:List Stmt} {b₀:Stmt} {suite:List Stmt} {cn:Str} {Dc:Addr} {np pos hpos:Pos} {tb:Ends->(Addr->Hp->Prop)->St->Hp->Prop} {ts:TS}
end
end L2
namespace L2
open PySem PySem.Spec PySem.W PySem.Calls PyProof.Rows Builtin Builtin.ObjectAttr
section
variable {prog:Program} {w:World} {A:Around} {E:Value->Shared->Prop} {s:Shared} {K:Frag} {x C LE:Addr} {c name:Str}
theorem Xc.mro (F:Xc K c C LE) (b:Value):mroIn K C b=some ((Value.ref C::.ref LE::vb).contains b):=by
 obtain ⟨cd,h1,_,h2⟩:=F.cd
 unfold mroIn
 rw [h1,Option.bind_some,h2]
 rfl
end
noncomputable def clV:V->Option Value
 | .ref a=>some (.ref a)
 | .ty n=>some (.type n)
 | _=>none
section
variable {X:Cx} {pins:List (Addr×Obj)} {σ:List (Option V)} {H:Hp} {s:Shared}
end
end L2
namespace EV
open PySem PySem.Spec PyProof.Rows L2
noncomputable abbrev St:=L2.St
inductive D where
 | non | bl (b:Bool) | int (i:Int) | str (x:Str) | tup (xs:List D) | lst (xs:List D) | fz (xs:List D)
 | exn (c f:Str) (xs:List D)
inductive W where
 | d (x:D) | ref (i:Nat)
noncomputable abbrev Lc:=List (Option W)
noncomputable abbrev Mm:=List (List D)
noncomputable abbrev Exn:=D
inductive Oc (α:Type) where
 | ok (a:α) (M:Mm) | ex (x:Exn) (M:Mm) | bad
noncomputable def Oc.bind {α β:Type} (o:Oc α) (k:α->Mm->Oc β):Oc β:=match o with
 | .ok a M=>k a M
 | .ex x M=>.ex x M
 | .bad=>.bad
@[simp] theorem fE {α β:Type} (a:α) (M:Mm) (k:α->Mm->Oc β):(Oc.ok a M).bind k=k a M:=rfl
@[simp] theorem aNm {α β:Type} (x:Exn) (M:Mm) (k:α->Mm->Oc β):(Oc.ex x M:Oc α).bind k=.ex x M:=rfl
@[simp] theorem aMv {α β:Type} (k:α->Mm->Oc β):(Oc.bad:Oc α).bind k=.bad:=rfl
section
variable (K:PySem.W.Frag) (μ:List Addr) (H:Hp)
noncomputable def FzL (a:Addr) (vs:List V):Prop:=(∃ o,H a=some (.frz o (.lst vs))) \/
 ∃ (o:Obj) (its:Array Value) (n:Nat),K.lookup a=some o/\o.cls=.type "list"/\o.dict=none/\o.data=.seq its n/\its.size<=sizeLine/\Vals vs its.toList
noncomputable def XFl (C:Addr) (f:Str) (d:Option Addr) (vs:List V):Prop:=(d=none/\vs=[])\/∃ dx u,d=some dx/\vs=[u]/\H dx=some (.xd [(f,u)])/\PySem.W.findIn K (.ref C) f=some none
mutual
noncomputable def Rp:D->V->Prop
 | .non,v=>v=.non
 | .bl b,v=>v=.bl b
 | .int i,v=>v=.int i
 | .str x,v=>v=.str x
 | .tup ds,v=>∃ a vs,v=.ref a/\H a=some (.tup vs)/\Rps ds vs
 | .lst ds,v=>∃ a vs,v=.ref a/\H a=some (.lst vs)/\a∉μ/\Rps ds vs
 | .fz ds,v=>∃ a vs,v=.ref a/\FzL K H a vs/\Rps ds vs
 | .exn c f ds,v=>∃ a vs C LE d,v=.ref a/\H a=some (XO a C d)/\Xc K c C LE/\XFl K H C f d vs/\Rps ds vs
noncomputable def Rps:List D->List V->Prop
 | [],vs=>vs=[]
 | d::ds,vs=>∃ v r,vs=v::r/\Rp d v/\Rps ds r
end
noncomputable def Rw:W->V->Prop
 | .d x,v=>Rp K μ H x v
 | .ref i,v=>∃ a,μ[i]?=some a/\v=.ref a
noncomputable def Rws:List W->List V->Prop
 | [],vs=>vs=[]
 | d::ds,vs=>∃ v r,vs=v::r/\Rw K μ H d v/\Rws ds r
structure HR (M:Mm):Prop where
 len:μ.length=M.length
 nd:μ.Nodup
 ent:∀ (i:Nat) (a:Addr) (ds:List D),μ[i]?=some a->M[i]?=some ds->∃ vs,H a=some (.lst vs)/\Rps K μ H ds vs
structure LR (L:Lc) (σ:St):Prop where
 len:L.length=σ.length
 ent:∀ (i:Nat) (w:W),L[i]?=some (some w)->∃ v,σ[i]?=some (some v)/\Rw K μ H w v
end
structure Ext (μ:List Addr) (H:Hp) (μ':List Addr) (H':Hp):Prop where
 keep:∀ a o,a∉μ->H a=some o->H' a=some o
 new:∀ a,a∈μ'->a∈μ\/H a=none
 pre:∀ (i:Nat) (a:Addr),μ[i]?=some a->μ'[i]?=some a
section
variable {K:PySem.W.Frag} {μ μ1 μ2:List Addr} {H H1 H2:Hp} {M:Mm}
theorem FzL.sq {a:Addr} {vs:List V} (h:FzL K H a vs):SqL K H a vs:=by
 rcases h with ⟨o,h⟩ | h
 ·exact .inl (.inr ⟨o,h⟩)
 ·exact .inr h
theorem Ext.refl:Ext μ H μ H:=⟨fun _ _ _ h=>h,fun _ h=>.inl h,fun _ _ h=>h⟩
theorem Ext.out (e:Ext μ H μ1 H1) {a:Addr} {o:HO} (h:H a=some o) (n:a∉μ):a∉μ1:=fun z=>by
 rcases e.new a z with z | z
 ·exact n z
 ·rw [h] at z; cases z
theorem Ext.trans (e:Ext μ H μ1 H1) (f:Ext μ1 H1 μ2 H2):Ext μ H μ2 H2 where
 keep:=fun a o n h=>f.keep a o (e.out h n) (e.keep a o n h)
 new:=fun a h=>by
  rcases f.new a h with h | h
  ·exact e.new a h
  ·by_cases n:a∈μ
   ·exact .inl n
   ·cases q:H a with
    | none=>exact .inr rfl
    | some o=>rw [e.keep a o n q] at h; cases h
 pre:=fun i a h=>f.pre i a (e.pre i a h)
noncomputable def Lsts (μ:List Addr) (H:Hp):Prop:=∀ a∈μ,∃ vs,H a=some (.lst vs)
theorem HR.lsts (h:HR K μ H M):Lsts μ H:=fun a ha=>by
 obtain ⟨i,hi,e⟩:=List.mem_iff_getElem.mp ha
 have hM:i < M.length:=h.len▸hi
 obtain ⟨vs,q,_⟩:=h.ent i a M[i] (by rw [List.getElem?_eq_getElem hi,e]) (by simp [hM])
 exact ⟨vs,q⟩
theorem Rd.ext {a:Addr} {u:HO} (hu:∀ vs,u≠.lst vs) (l:Lsts μ H) (e:Ext μ H μ1 H1) (h:Rd H a u):Rd H1 a u:=by
 rcases h with h | ⟨o,h⟩
 ·exact .inl (e.keep a _ (fun z=>by obtain ⟨vs,q⟩:=l a z; rw [h] at q; cases q; exact hu _ rfl) h)
 ·exact .inr ⟨o,e.keep a _ (fun z=>by obtain ⟨vs,q⟩:=l a z; rw [h] at q; cases q) h⟩
theorem SqT.ext {a:Addr} {vs:List V} (l:Lsts μ H) (e:Ext μ H μ1 H1) (h:SqT K H a vs):SqT K H1 a vs:=by
 rcases h with h | h
 ·exact .inl (Rd.ext (fun _ z=>by cases z) l e h)
 ·exact .inr h
theorem FzL.ext {a:Addr} {vs:List V} (l:Lsts μ H) (e:Ext μ H μ1 H1) (h:FzL K H a vs):FzL K H1 a vs:=by
 rcases h with ⟨o,h⟩ | h
 ·exact .inl ⟨o,e.keep a _ (fun z=>by obtain ⟨vs,q⟩:=l a z; rw [h] at q; cases q) h⟩
 ·exact .inr h
theorem XFl.ext {C:Addr} {f:Str} {d:Option Addr} {vs:List V} (l:Lsts μ H) (e:Ext μ H μ1 H1) (h:XFl K H C f d vs):XFl K H1 C f d vs:=by
 rcases h with h | ⟨dx,u,h1,h2,h3,h4⟩
 ·exact .inl h
 ·exact .inr ⟨dx,u,h1,h2,e.keep dx _ (fun z=>by obtain ⟨vs,q⟩:=l dx z; rw [h3] at q; cases q) h3,h4⟩
mutual
theorem Rp.ext (l:Lsts μ H) (e:Ext μ H μ1 H1):∀ (d:D) (v:V),Rp K μ H d v->Rp K μ1 H1 d v
 | .non,v,h=>by simpa [Rp] using h
 | .bl b,v,h=>by simpa [Rp] using h
 | .int b,v,h=>by simpa [Rp] using h
 | .str b,v,h=>by simpa [Rp] using h
 | .tup ds,v,h=>by
  simp only [Rp] at h ⊢
  obtain ⟨a,vs,e1,e2,e3⟩:=h
  exact ⟨a,vs,e1,e.keep _ _ (fun z=>by obtain ⟨us,q⟩:=l a z; rw [e2] at q; cases q) e2,Rps.ext l e ds vs e3⟩
 | .lst ds,v,h=>by
  simp only [Rp] at h ⊢
  obtain ⟨a,vs,e1,e2,n,e3⟩:=h
  exact ⟨a,vs,e1,e.keep _ _ n e2,e.out e2 n,Rps.ext l e ds vs e3⟩
 | .fz ds,v,h=>by
  simp only [Rp] at h ⊢
  obtain ⟨a,vs,e1,e2,e3⟩:=h
  exact ⟨a,vs,e1,FzL.ext l e e2,Rps.ext l e ds vs e3⟩
 | .exn c f ds,v,h=>by
  simp only [Rp] at h ⊢
  obtain ⟨a,vs,C,LE,d,e1,e2,e3,e4,e5⟩:=h
  exact ⟨a,vs,C,LE,d,e1,e.keep _ _ (fun z=>by obtain ⟨us,q⟩:=l a z; rw [e2] at q; cases q) e2,e3,XFl.ext l e e4,Rps.ext l e ds vs e5⟩
theorem Rps.ext (l:Lsts μ H) (e:Ext μ H μ1 H1):∀ (ds:List D) (vs:List V),Rps K μ H ds vs->Rps K μ1 H1 ds vs
 | [],vs,h=>by simpa [Rps] using h
 | d::ds,vs,h=>by
  simp only [Rps] at h ⊢
  obtain ⟨v,r,e1,e2,e3⟩:=h
  exact ⟨v,r,e1,Rp.ext l e d v e2,Rps.ext l e ds r e3⟩
end
theorem Rw.ext (l:Lsts μ H) (e:Ext μ H μ1 H1) {w:W} {v:V} (h:Rw K μ H w v):Rw K μ1 H1 w v:=by
 cases w with
 | d x=>exact Rp.ext l e x v h
 | ref i=>obtain ⟨a,h1,h2⟩:=h; exact ⟨a,e.pre i a h1,h2⟩
theorem Rws.ext (l:Lsts μ H) (e:Ext μ H μ1 H1):∀ {ws:List W} {vs:List V},Rws K μ H ws vs->Rws K μ1 H1 ws vs
 | [],_,h=>h
 | _::_,_,⟨v,r,e1,e2,e3⟩=>⟨v,r,e1,Rw.ext l e e2,Rws.ext l e e3⟩
theorem LR.ext (l:Lsts μ H) (e:Ext μ H μ1 H1) {L:Lc} {σ:St} (h:LR K μ H L σ):LR K μ1 H1 L σ :=
 ⟨h.len,fun i w q=>let ⟨v,q1,q2⟩:=h.ent i w q; ⟨v,q1,Rw.ext l e q2⟩⟩
theorem Rps.length:∀ {ds:List D} {vs:List V},Rps K μ H ds vs->ds.length=vs.length
 | [],_,h=>by simp only [Rps] at h; subst h; rfl
 | _::_,_,h=>by simp only [Rps] at h; obtain ⟨v,r,e1,_,e3⟩:=h; subst e1; simp [Rps.length e3]
theorem Rps.get:∀ {ds:List D} {vs:List V} {i:Nat} {d:D},Rps K μ H ds vs->ds[i]?=some d->∃ v,vs[i]?=some v/\Rp K μ H d v
 | [],_,_,_,_,q=>by simp at q
 | _::_,_,0,_,h,q=>by simp only [Rps] at h; obtain ⟨v,r,e1,e2,e3⟩:=h; simp at q; subst q e1; exact ⟨v,rfl,e2⟩
 | _::_,_,i+1,_,h,q=>by
  simp only [Rps] at h; obtain ⟨v,r,e1,e2,e3⟩:=h; subst e1
  obtain ⟨u,q1,q2⟩:=Rps.get (i:=i) e3 (by simpa using q)
  exact ⟨u,by simpa using q1,q2⟩
theorem Rps.nil:Rps K μ H [] []:=by simp [Rps]
theorem Rps.cons {d:D} {v:V} {ds:List D} {vs:List V} (h:Rp K μ H d v) (t:Rps K μ H ds vs):Rps K μ H (d::ds) (v::vs):=by simp only [Rps]; exact ⟨v,vs,rfl,h,t⟩
theorem Rps.append:∀ {ds es:List D} {vs us:List V},Rps K μ H ds vs->Rps K μ H es us->Rps K μ H (ds++es) (vs++us)
 | [],_,_,_,h,t=>by simp only [Rps] at h; subst h; exact t
 | _::_,_,_,_,h,t=>by simp only [Rps] at h; obtain ⟨v,r,e1,e2,e3⟩:=h; subst e1; exact .cons e2 (Rps.append e3 t)
theorem Rps.drop:∀ {ds:List D} {vs:List V} (n:Nat),Rps K μ H ds vs->Rps K μ H (ds.drop n) (vs.drop n)
 | _,_,0,h=>by simpa using h
 | [],_,n+1,h=>by simp only [Rps] at h; subst h; exact .nil
 | _::_,_,n+1,h=>by simp only [Rps] at h; obtain ⟨v,r,e1,e2,e3⟩:=h; subst e1; simpa using Rps.drop n e3
theorem Rps.take:∀ {ds:List D} {vs:List V} (n:Nat),Rps K μ H ds vs->Rps K μ H (ds.take n) (vs.take n)
 | _,_,0,h=>by simpa using Rps.nil
 | [],_,n+1,h=>by simp only [Rps] at h; subst h; exact .nil
 | _::_,_,n+1,h=>by simp only [Rps] at h; obtain ⟨v,r,e1,e2,e3⟩:=h; subst e1; simpa using Rps.cons e2 (Rps.take n e3)
theorem Rps.set {d:D} {v:V} (q:Rp K μ H d v):∀ {ds:List D} {vs:List V} (n:Nat),Rps K μ H ds vs->Rps K μ H (ds.set n d) (vs.set n v)
 | [],_,n,h=>by simp only [Rps] at h; subst h; simpa using Rps.nil
 | _::_,_,0,h=>by simp only [Rps] at h; obtain ⟨u,r,e1,e2,e3⟩:=h; subst e1; simpa using Rps.cons q e3
 | _::_,_,n+1,h=>by simp only [Rps] at h; obtain ⟨u,r,e1,e2,e3⟩:=h; subst e1; simpa using Rps.cons e2 (Rps.set q n e3)
theorem Rps.eraseIdx:∀ {ds:List D} {vs:List V} (n:Nat),Rps K μ H ds vs->Rps K μ H (ds.eraseIdx n) (vs.eraseIdx n)
 | [],_,n,h=>by simp only [Rps] at h; subst h; simpa using Rps.nil
 | _::_,_,0,h=>by simp only [Rps] at h; obtain ⟨u,r,e1,e2,e3⟩:=h; subst e1; simpa using e3
 | _::_,_,n+1,h=>by simp only [Rps] at h; obtain ⟨u,r,e1,e2,e3⟩:=h; subst e1; simpa using Rps.cons e2 (Rps.eraseIdx n e3)
theorem Rps.reverse {ds:List D}:∀ {vs:List V},Rps K μ H ds vs->Rps K μ H ds.reverse vs.reverse:=by
 induction ds with
 | nil=>intro vs h; simp only [Rps] at h; subst h; exact .nil
 | cons d ds ih=>intro vs h; simp only [Rps] at h; obtain ⟨u,r,e1,e2,e3⟩:=h; subst e1; simpa using (ih e3).append (.cons e2 .nil)
theorem Rps.rep {ds:List D} {vs:List V} (h:Rps K μ H ds vs):∀ k:Nat,Rps K μ H (List.replicate k ds).flatten (List.replicate k vs).flatten
 | 0=>by simpa using Rps.nil
 | k+1=>by simpa [List.replicate_succ] using h.append (h.rep k)
theorem Rps.ints {ns:List Int}:Rps K μ H (ns.map D.int) (ns.map V.int):=by
 induction ns with
 | nil=>exact .nil
 | cons n r ih=>exact .cons (by simp [Rp]) ih
theorem Rws.length:∀ {ws:List W} {vs:List V},Rws K μ H ws vs->ws.length=vs.length
 | [],_,h=>by cases h; rfl
 | _::_,_,⟨v,r,e1,_,e3⟩=>by subst e1; simp [Rws.length e3]
theorem Rws.get:∀ {ws:List W} {vs:List V} {i:Nat} {w:W},Rws K μ H ws vs->ws[i]?=some w->∃ v,vs[i]?=some v/\Rw K μ H w v
 | [],_,_,_,_,q=>by simp at q
 | _::_,_,0,_,⟨v,r,e1,e2,e3⟩,q=>by simp at q; subst q e1; exact ⟨v,rfl,e2⟩
 | _::_,_,i+1,_,⟨v,r,e1,e2,e3⟩,q=>by
  subst e1
  obtain ⟨u,q1,q2⟩:=Rws.get (i:=i) e3 (by simpa using q)
  exact ⟨u,by simpa using q1,q2⟩
theorem HR.out (h:HR K μ H M) {p:Addr} (hp:H p=none):p∉μ:=fun z=>by
 obtain ⟨vs,q⟩:=h.lsts p z
 rw [hp] at q; cases q
theorem iG (h:HR K μ H M) {p:Addr} {o:HO} (hp:H p=none):Ext μ H μ (upd H p o) :=
 ⟨fun a u n q=>by rw [aT (cN q hp)]; exact q,fun a q=>.inl q,fun _ _ q=>q⟩
theorem HR.lay (h:HR K μ H M) {p:Addr} {o:HO} (hp:H p=none):HR K μ (upd H p o) M where
 len:=h.len
 nd:=h.nd
 ent:=fun i a ds q1 q2=>by
  obtain ⟨vs,q3,q4⟩:=h.ent i a ds q1 q2
  exact ⟨vs,by rw [aT (cN q3 hp)]; exact q3,Rps.ext h.lsts (iG h hp) _ _ q4⟩
theorem rS (h:HR K μ H M) {p:Addr} {vs:List V} (hp:H p=none):Ext μ H (μ++[p]) (upd H p (.lst vs)) where
 keep:=fun a u n q=>by rw [aT (cN q hp)]; exact q
 new:=fun a q=>by
  rcases List.mem_append.mp q with q | q
  ·exact .inl q
  ·rw [List.mem_singleton] at q; subst q; exact .inr hp
 pre:=fun i a q=>by
  rw [List.getElem?_append_left (List.getElem?_eq_some_iff.mp q).1]; exact q
theorem HR.new (h:HR K μ H M) {p:Addr} {ds:List D} {vs:List V} (hp:H p=none) (r:Rps K μ H ds vs):HR K (μ++[p]) (upd H p (.lst vs)) (M++[ds]) where
 len:=by simp [h.len]
 nd:=List.nodup_append.mpr ⟨h.nd,by simp,fun a ha b hb=>by rw [List.mem_singleton] at hb; subst hb; rintro rfl; exact h.out hp ha⟩
 ent:=fun i a es q1 q2=>by
  have x:=rS (vs:=vs) h hp
  by_cases hi:i < μ.length
  ·rw [List.getElem?_append_left hi] at q1
   rw [List.getElem?_append_left (by rw [<- h.len]; exact hi)] at q2
   obtain ⟨us,q3,q4⟩:=h.ent i a es q1 q2
   exact ⟨us,by rw [aT (cN q3 hp)]; exact q3,Rps.ext h.lsts x _ _ q4⟩
  ·have:i=μ.length:=by
    have:=(List.getElem?_eq_some_iff.mp q1).1
    simp at this; omega
   subst this
   rw [List.getElem?_append_right (Nat.le_refl _)] at q1
   rw [h.len,List.getElem?_append_right (Nat.le_refl _)] at q2
   simp at q1 q2
   subst q1 q2
   exact ⟨vs,dL,Rps.ext h.lsts x _ _ r⟩
theorem dQ {i:Nat} {a:Addr} {o:HO} (q:μ[i]?=some a):Ext μ H μ (upd H a o) :=
 ⟨fun b u n q'=>by rw [aT (fun z=>n (by subst z; exact List.mem_of_getElem? q))]; exact q',fun a q=>.inl q,fun _ _ q=>q⟩
theorem HR.set (h:HR K μ H M) {i:Nat} {a:Addr} {ds:List D} {vs:List V} (q:μ[i]?=some a) (r:Rps K μ H ds vs):HR K μ (upd H a (.lst vs)) (M.set i ds) where
 len:=by simp [h.len]
 nd:=h.nd
 ent:=fun j b es q1 q2=>by
  have x:=dQ (H:=H) (o:=.lst vs) q
  by_cases hj:i=j
  ·subst hj
   rw [q] at q1; cases q1
   have hlt:i < M.length:=by rw [<- h.len]; exact (List.getElem?_eq_some_iff.mp q).1
   rw [List.getElem?_set_self hlt] at q2; cases q2
   exact ⟨vs,dL,Rps.ext h.lsts x _ _ r⟩
  ·rw [List.getElem?_set_ne hj] at q2
   obtain ⟨us,q3,q4⟩:=h.ent j b es q1 q2
   have hb:b≠a:=by
    rintro rfl
    have h1:=(List.getElem?_eq_some_iff.mp q).1
    have h2:=(List.getElem?_eq_some_iff.mp q1).1
    have e1:=(List.getElem?_eq_some_iff.mp q).2
    have e2:=(List.getElem?_eq_some_iff.mp q1).2
    have pw:=List.pairwise_iff_getElem.mp h.nd
    rcases Nat.lt_or_gt_of_ne hj with l | l
    ·exact pw i j h1 h2 l (e1.trans e2.symm)
    ·exact pw j i h2 h1 l (e2.trans e1.symm)
   exact ⟨us,by rw [aT hb]; exact q3,Rps.ext h.lsts x _ _ q4⟩
theorem HR.at (h:HR K μ H M) {i:Nat} {ds:List D} (q:M[i]?=some ds):∃ a vs,μ[i]?=some a/\H a=some (.lst vs)/\Rps K μ H ds vs:=by
 have hlt:i < μ.length:=by rw [h.len]; exact (List.getElem?_eq_some_iff.mp q).1
 obtain ⟨vs,q1,q2⟩:=h.ent i μ[i] ds (by simp [hlt]) q
 exact ⟨μ[i],vs,by simp [hlt],q1,q2⟩
end
structure Zt where
 z:Exn->Mm->List Addr->Hp->Prop
 mono:∀ {x M μ H μ' H'},Ext μ H μ' H'->z x M μ H->z x M μ' H'
noncomputable def Z0:Zt:=⟨fun _ _ _ _=>False,fun _ h=>h⟩
noncomputable def Pst {α:Type} (K:PySem.W.Frag) (Z:Zt) (μ:List Addr) (H:Hp) (o:Oc α) (Q:List Addr->Hp->Mm->α->Prop):Prop:=match o with
 | .ok a M'=>∀ μ' H',Ext μ H μ' H'->HR K μ' H' M'->Q μ' H' M' a
 | .ex x M'=>Z.z x M' μ H
 | .bad=>False
section
variable {α β:Type} {K:PySem.W.Frag} {Z:Zt} {μ μ1:List Addr} {H H1:Hp} {o:Oc α} {Q Q':List Addr->Hp->Mm->α->Prop}
theorem Pst.mono (e:Ext μ H μ1 H1) (h:Pst K Z μ H o Q):Pst K Z μ1 H1 o Q:=by
 cases o with
 | ok a M=>exact fun μ' H' e' hr=>h μ' H' (e.trans e') hr
 | ex x M=>exact Z.mono e h
 | bad=>exact h
theorem Pst.imp (h:Pst K Z μ H o Q) (f:∀ μ' H' M' a,Ext μ H μ' H'->HR K μ' H' M'->o=.ok a M'->Q μ' H' M' a->Q' μ' H' M' a):Pst K Z μ H o Q':=by
 cases o with
 | ok a M=>exact fun μ' H' e' hr=>f μ' H' M a e' hr rfl (h μ' H' e' hr)
 | ex x M=>exact h
 | bad=>exact h
theorem Pst.bind {k:α->Mm->Oc β} {R:List Addr->Hp->Mm->β->Prop} (h:Pst K Z μ H (o.bind k) R):Pst K Z μ H o (fun μ' H' M' a=>Pst K Z μ' H' (k a M') R):=by
 cases o with
 | ok a M=>exact fun μ' H' e' hr=>Pst.mono e' h
 | ex x M=>exact h
 | bad=>exact h
end
noncomputable abbrev FE:=Lc->Mm->Oc W
noncomputable abbrev FT:=Lc->Mm->Oc Bool
noncomputable abbrev FA:=Lc->Mm->Oc (List W)
inductive Out where
 | nx (L:Lc) | bk (L:Lc) | ct (L:Lc) | rt (w:W)
noncomputable abbrev FS:=Lc->Mm->Oc Out
noncomputable abbrev FG:=W->Lc->Mm->Oc Lc
noncomputable abbrev FGs:=List D->Lc->Mm->Oc Lc
noncomputable abbrev Fn:=List W->Mm->Oc W
section
variable (K:PySem.W.Frag) (Z:Zt)
noncomputable def lift (f:FE):TE:=fun σ H Q=>∃ μ M L,HR K μ H M/\LR K μ H L σ/\Pst K Z μ H (f L M) fun μ' H' _ w=>∀ v,Rw K μ' H' w v->Q v H'
noncomputable def liftT (f:FT):TT:=fun σ H Q=>∃ μ M L,HR K μ H M/\LR K μ H L σ/\Pst K Z μ H (f L M) fun μ' H' M' b=>Q b H'
noncomputable def liftA (f:FA):TA:=fun σ H Q=>∃ μ M L,HR K μ H M/\LR K μ H L σ/\Pst K Z μ H (f L M) fun μ' H' _ ws=>∀ vs,Rws K μ' H' ws vs->Q vs H'
end
end EV
namespace EV
open PySem PySem.Spec PyProof.Rows L2
section
variable (X:Cx) (K:PySem.W.Frag) (Z:Zt)
noncomputable abbrev Sk (K:PySem.W.Frag) (E:Ends) (μ':List Addr) (H':Hp) (_:Mm) (o:Out):Prop:=match o with
 | .nx L'=>∀ σ',LR K μ' H' L' σ'->E.nx σ' H'
 | .bk L'=>∀ σ',LR K μ' H' L' σ'->E.bk σ' H'
 | .ct L'=>∀ σ',LR K μ' H' L' σ'->E.ct σ' H'
 | .rt w=>∀ v,Rw K μ' H' w v->E.rt v H'
noncomputable def liftS (F:FS):TS:=fun E σ H=>∃ μ M L,HR K μ H M/\LR K μ H L σ/\Pst K Z μ H (F L M) (Sk K E)
noncomputable def liftG (g:FG):TG:=fun v σ H Q=>∃ μ M L w,HR K μ H M/\LR K μ H L σ/\Rw K μ H w v/\Pst K Z μ H (g w L M) fun μ' H' _ L'=>∀ σ',LR K μ' H' L' σ'->Q σ' H'
noncomputable def liftGs (g:FGs):TGs:=fun vs σ H Q=>∃ μ M L ds,HR K μ H M/\LR K μ H L σ/\Rps K μ H ds vs/\Pst K Z μ H (g ds L M) fun μ' H' _ L'=>∀ σ',LR K μ' H' L' σ'->Q σ' H'
structure Ev (e:Expr) (f:FE):Prop where
 k:X.K=K
 h:PE X e (lift K Z f)
structure Et (e:Expr) (f:FT):Prop where
 k:X.K=K
 h:PT X e (liftT K Z f)
structure Ew (e:Expr) (f:FT):Prop where
 k:X.K=K
 h:PW X e (liftT K Z f)
structure Ea (es:List Expr) (f:FA):Prop where
 k:X.K=K
 h:PA X es (liftA K Z f)
structure Es (st:Stmt) (F:FS):Prop where
 k:X.K=K
 h:PS X st (liftS K Z F)
structure Ess (st:List Stmt) (F:FS):Prop where
 k:X.K=K
 h:PSs X st (liftS K Z F)
structure Eg (tg:Expr) (g:FG):Prop where
 k:X.K=K
 h:PG X tg (liftG K Z g)
structure Egs (tg:List Expr) (g:FGs):Prop where
 k:X.K=K
 h:PGs X tg (liftGs K Z g)
end
section
variable {X:Cx} {K:PySem.W.Frag} {Z:Zt} {e a b:Expr} {es:List Expr} {pos:Pos} {f fa fb fc:FE} {t ta tb:FT} {fs:FA}
theorem cqE {t t':TE} (h:PE X e t) (i:∀ σ H Q,t' σ H Q->t σ H Q):PE X e t':=fun pins s σ H Q I q=>h pins s σ H Q I (i _ _ _ q)
theorem cqT {t t':TT} (h:PT X e t) (i:∀ σ H Q,t' σ H Q->t σ H Q):PT X e t':=fun pins s σ H Q I q=>h pins s σ H Q I (i _ _ _ q)
theorem cqW {t t':TT} (h:PW X e t) (i:∀ σ H Q,t' σ H Q->t σ H Q):PW X e t':=fun wh pins s σ H Q I q=>h wh pins s σ H Q I (i _ _ _ q)
theorem cqA {t t':TA} (h:PA X es t) (i:∀ σ H Q,t' σ H Q->t σ H Q):PA X es t':=fun p pins s σ H Q I q=>h p pins s σ H Q I (i _ _ _ q)
theorem cqS {st:Stmt} {t t':TS} (h:PS X st t) (i:∀ E σ H,t' E σ H->t E σ H):PS X st t':=fun pins s σ H E I q=>h pins s σ H E I (i _ _ _ q)
theorem cqSs {st:List Stmt} {t t':TS} (h:PSs X st t) (i:∀ E σ H,t' E σ H->t E σ H):PSs X st t':=fun pins s σ H E I q=>h pins s σ H E I (i _ _ _ q)
theorem cqG {t t':TG} (h:PG X e t) (i:∀ v σ H Q,t' v σ H Q->t v σ H Q):PG X e t':=fun pins s σ H v u Q I r q=>h pins s σ H v u Q I r (i _ _ _ _ q)
theorem cqGs {t t':TGs} (h:PGs X es t) (i:∀ v σ H Q,t' v σ H Q->t v σ H Q):PGs X es t':=fun pins s σ H v u Q I r q=>h pins s σ H v u Q I r (i _ _ _ _ q)
noncomputable def eV (i:Nat):FE:=fun L M=>match L[i]? with
 | some (some w)=>.ok w M
 | _=>.bad
noncomputable def eC (d:D):FE:=fun _ M=>.ok (.d d) M
theorem aA (i:Nat) {x:Str} (hN:X.N[i]?=some x:=by rfl) (hk:X.K=K:=by rfl) (hv:Vis X.env.scope x:=by first | exact Or.inl rfl | exact Or.inr (Or.inl rfl) | exact Or.inr (Or.inr rfl))
  (hd:(x==("__debug__":Str))=false:=by decide) (hcd:(x==("__classdict__":Str))=false:=by decide):Ev X K Z (.Name x pos) (eV i) :=
 ⟨hk,cqE (aKl hN hv hd hcd) fun σ H Q ⟨μ,M,L,hr,lr,p⟩=>by
  unfold eV at p
  cases q:L[i]? with
  | none=>rw [q] at p; exact p.elim
  | some o =>
   cases o with
   | none=>rw [q] at p; exact p.elim
   | some w =>
    rw [q] at p
    obtain ⟨v,q1,q2⟩:=lr.ent i w q
    exact ⟨v,q1,p μ H .refl hr v q2⟩⟩
theorem aFg {d:D} {v:V} (hd:∀ K μ H,Rp K μ H d v) (hk:X.K=K) (h:PE X e (tC v)):Ev X K Z e (eC d) :=
 ⟨hk,cqE h fun σ H Q ⟨μ,M,L,hr,lr,p⟩=>p μ H .refl hr v (hd K μ H)⟩
theorem aC {i:Int} {j:Nat} (hk:X.K=K:=by rfl):Ev X K Z (.Constant (.int i) j pos) (eC (.int i)):=aFg (fun _ _ _=>by simp [Rp]) hk aEb
theorem tU {i:Bool} {j:Nat} (hk:X.K=K:=by rfl):Ev X K Z (.Constant (.bool i) j pos) (eC (.bl i)):=aFg (fun _ _ _=>by simp [Rp]) hk aMp
theorem rJ {j:Nat} (hk:X.K=K:=by rfl):Ev X K Z (.Constant .none j pos) (eC .non):=aFg (fun _ _ _=>by simp [Rp]) hk aKm
theorem eE {x:Str} {j:Nat} (hk:X.K=K:=by rfl):Ev X K Z (.Constant (.str x) j pos) (eC (.str x)):=aFg (fun _ _ _=>by simp [Rp]) hk aMf
noncomputable def e1 (g:W->Mm->Oc W) (f:FE):FE:=fun L M=>(f L M).bind g
noncomputable def e2 (g:W->W->Mm->Oc W) (f1 f2:FE):FE:=fun L M=>(f1 L M).bind fun x M1=>(f2 L M1).bind fun y M2=>g x y M2
noncomputable abbrev Wk (K:PySem.W.Frag) (Q:VK):List Addr->Hp->Mm->W->Prop:=fun μ' H' _ w=>∀ v,Rw K μ' H' w v->Q v H'
noncomputable def Op2 (K:PySem.W.Frag) (Z:Zt) (r:R2) (g:W->W->Mm->Oc W):Prop :=
 ∀ (μ:List Addr) (H:Hp) (M:Mm) (x y:W) (v u:V) (Q:VK),HR K μ H M->Rw K μ H x v->Rw K μ H y u->Pst K Z μ H (g x y M) (Wk K Q)->r v u H Q
noncomputable def OpG (X:Cx) (K:PySem.W.Frag) (Z:Zt) (f:Value->Value->Sem Value) (g:W->W->Mm->Oc W):Prop:=X.K=K->∃ r,OpR X f r/\Op2 K Z r g
theorem lift2 {r:R2} {g:W->W->Mm->Oc W} (hg:Op2 K Z r g):∀ σ H Q,lift K Z (e2 g fa fb) σ H Q->tOp r (lift K Z fa) (lift K Z fb) σ H Q:=by
 rintro σ H Q ⟨μ,M,L,hr,lr,p⟩
 refine ⟨μ,M,L,hr,lr,p.bind.imp fun μ1 H1 M1 x e1 hr1 _ p1 v rx=>?_⟩
 refine ⟨μ1,M1,L,hr1,lr.ext hr.lsts e1,p1.bind.imp fun μ2 H2 M2 y e2 hr2 _ p2 u ry=>?_⟩
 exact hg μ2 H2 M2 x y v u Q hr2 (rx.ext hr1.lsts e2) ry p2
theorem aI {op:Operator} {g:W->W->Mm->Oc W} (ho:OpG X K Z (binaryOp op) g) (ha:Ev X K Z a fa) (hb:Ev X K Z b fb):Ev X K Z (.BinOp a op b pos) (e2 g fa fb):=by
 obtain ⟨r,h1,h2⟩:=ho ha.k
 exact ⟨ha.k,cqE (aMg h1 ha.h hb.h) (lift2 h2)⟩
theorem lH {op:CmpOp} {g:W->W->Mm->Oc W} (ho:OpG X K Z (compareOp op) g) (ha:Ev X K Z a fa) (hb:Ev X K Z b fb) (hm:behindInMarks op b=false):Ev X K Z (.Compare a [op] [b] pos) (e2 g fa fb):=by
 obtain ⟨r,h1,h2⟩:=ho ha.k
 exact ⟨ha.k,cqE (aGu h1 ha.h hb.h hm) (lift2 h2)⟩
noncomputable def tB (f:FE):FT:=fun L M=>(f L M).bind fun w M1=>match w with
 | .d (.bl b)=>.ok b M1
 | _=>.bad
theorem bA {op:CmpOp} {g:W->W->Mm->Oc W} (ho:OpG X K Z (compareOp op) g) (ha:Ev X K Z a fa) (hb:Ev X K Z b fb) (hm:behindInMarks op b=false):Et X K Z (.Compare a [op] [b] pos) (tB (e2 g fa fb)):=by
 obtain ⟨r,h1,h2⟩:=ho ha.k
 refine ⟨ha.k,cqT (aHj h1 ha.h hb.h hm) ?_⟩
 rintro σ H Q ⟨μ,M,L,hr,lr,p⟩
 refine lift2 h2 σ H _ ⟨μ,M,L,hr,lr,p.bind.imp fun μ1 H1 M1 x e1 hr1 _ p1 v rx=>?_⟩
 cases x with
 | d y=>cases y with
  | bl c=>exact ⟨c,by simpa [Rw,Rp] using rx,p1 μ1 H1 .refl hr1⟩
  | _=>exact p1.elim
 | ref i=>exact p1.elim
noncomputable def tru (M:Mm):W->Option Bool
 | .d .non=>some false
 | .d (.bl b)=>some b
 | .d (.int i)=>some (i != 0)
 | .d (.str x)=>if x.length<=16777216 then some (x.length != 0) else none
 | .d (.tup xs)=>some (!xs.isEmpty)
 | .d (.lst xs)=>some (!xs.isEmpty)
 | .d (.fz xs)=>some (!xs.isEmpty)
 | .d (.exn _ _ _)=>none
 | .ref i=>(M[i]?).map fun xs=>!xs.isEmpty
noncomputable def tV (f:FE):FT:=fun L M=>(f L M).bind fun w M1=>match tru M1 w with
 | some b=>.ok b M1
 | none=>.bad
theorem emp {μ:List Addr} {H:Hp} {ds:List D} {vs:List V} (r:Rps K μ H ds vs):(!ds.isEmpty)=!vs.isEmpty:=by
 have:=r.length
 cases ds <;> cases vs <;> simp_all
theorem aMn {μ:List Addr} {H:Hp} {M:Mm} {w:W} {v:V} {b:Bool} (hr:HR K μ H M) (r:Rw K μ H w v) (h:tru M w=some b):TruV K v H b:=by
 cases w with
 | ref i =>
  obtain ⟨a,q,rfl⟩:=r
  simp only [tru,Option.map_eq_some_iff] at h
  obtain ⟨xs,h1,rfl⟩:=h
  obtain ⟨a',vs,q1,q2,q3⟩:=hr.at h1
  rw [q] at q1; cases q1
  exact .inl ⟨vs,SqL.of q2,emp q3⟩
 | d x =>
  cases x with
  | non=>simp only [Rw,Rp] at r; subst r; simp only [tru,Option.some.injEq] at h; exact h.symm
  | bl c=>simp only [Rw,Rp] at r; subst r; simp only [tru,Option.some.injEq] at h; exact h.symm
  | int i=>simp only [Rw,Rp] at r; subst r; simp only [tru,Option.some.injEq] at h; exact h.symm
  | str z =>
   simp only [Rw,Rp] at r; subst r
   simp only [tru] at h
   split at h
   ·rename_i hz
    cases h
    refine ⟨by rw [sizeLine_eq]; exact hz,?_⟩
    rw [Bool.eq_iff_iff]; simp
   ·cases h
  | tup xs=>simp only [Rw,Rp] at r; obtain ⟨a,vs,rfl,q1,q2⟩:=r; simp only [tru,Option.some.injEq] at h; subst h; exact .inr (.inl ⟨vs,SqT.of q1,emp q2⟩)
  | lst xs=>simp only [Rw,Rp] at r; obtain ⟨a,vs,rfl,q1,_,q2⟩:=r; simp only [tru,Option.some.injEq] at h; subst h; exact .inl ⟨vs,SqL.of q1,emp q2⟩
  | fz xs=>simp only [Rw,Rp] at r; obtain ⟨a,vs,rfl,q1,q2⟩:=r; simp only [tru,Option.some.injEq] at h; subst h; exact .inl ⟨vs,q1.sq,emp q2⟩
  | exn c f xs=>simp [tru] at h
theorem aKn (ha:Ev X K Z a f) (he:∀ whole,isTrue a X.env whole=(do let v <- whole; standAt a.pos; holding [v] (truthy v)):=by intro _; rfl):Et X K Z a (tV f):=by
 refine ⟨ha.k,cqT (aDe ha.h he) ?_⟩
 rintro σ H Q ⟨μ,M,L,hr,lr,p⟩
 refine ⟨μ,M,L,hr,lr,p.bind.imp fun μ1 H1 M1 x e1 hr1 _ p1 v rx=>?_⟩
 cases q:tru M1 x with
 | none=>rw [q] at p1; exact p1.elim
 | some k=>rw [q] at p1; exact ⟨k,by rw [ha.k]; exact aMn hr1 rx q,p1 μ1 H1 .refl hr1⟩
noncomputable def tNot (t:FT):FT:=fun L M=>(t L M).bind fun b M1=>.ok (!b) M1
noncomputable def tAnd (t u:FT):FT:=fun L M=>(t L M).bind fun b M1=>if b=true then u L M1 else .ok false M1
noncomputable def tOr (t u:FT):FT:=fun L M=>(t L M).bind fun b M1=>if b=true then .ok true M1 else u L M1
variable {rest:List Expr}
theorem aGs (ha:Et X K Z a ta):Ew X K Z (.BoolOp .And [a] pos) ta:=⟨ha.k,aFz ha.h⟩
theorem aJd (ha:Et X K Z a ta):Ew X K Z (.BoolOp .Or [a] pos) ta:=⟨ha.k,aLk ha.h⟩
theorem aKy (ha:Et X K Z a ta) (hb:Ew X K Z (.BoolOp .And (b::rest) pos) tb):Ew X K Z (.BoolOp .And (a::b::rest) pos) (tAnd ta tb):=by
 refine ⟨ha.k,cqW (aJi ha.h hb.h) ?_⟩
 rintro σ H Q ⟨μ,M,L,hr,lr,p⟩
 refine ⟨μ,M,L,hr,lr,p.bind.imp fun μ1 H1 M1 x e1 hr1 _ p1=>?_⟩
 cases x with
 | true=>exact ⟨μ1,M1,L,hr1,lr.ext hr.lsts e1,p1⟩
 | false=>exact p1 μ1 H1 .refl hr1
theorem aMq (ha:Et X K Z a ta) (hb:Ew X K Z (.BoolOp .Or (b::rest) pos) tb):Ew X K Z (.BoolOp .Or (a::b::rest) pos) (tOr ta tb):=by
 refine ⟨ha.k,cqW (aMt ha.h hb.h) ?_⟩
 rintro σ H Q ⟨μ,M,L,hr,lr,p⟩
 refine ⟨μ,M,L,hr,lr,p.bind.imp fun μ1 H1 M1 x e1 hr1 _ p1=>?_⟩
 cases x with
 | true=>exact p1 μ1 H1 .refl hr1
 | false=>exact ⟨μ1,M1,L,hr1,lr.ext hr.lsts e1,p1⟩
theorem aMu (h:Ew X K Z a ta):Et X K Z a ta:=⟨h.k,h.h.pt⟩
end
end EV
namespace EV
open PySem PySem.Spec PyProof.Rows L2
noncomputable def lv (M:Mm):W->Option (List D)
 | .d (.lst xs)=>some xs
 | .ref i=>M[i]?
 | _=>none
noncomputable def lr (M:Mm):W->Option (List D)
 | .d (.fz xs)=>some xs
 | w=>lv M w
noncomputable def sv (M:Mm):W->Option (List D)
 | .d (.tup xs)=>some xs
 | w=>lr M w
noncomputable def okD (d:D) (M:Mm):Oc W:=.ok (.d d) M
@[simp] theorem aNo (d:D) (M:Mm):okD d M=.ok (.d d) M:=rfl
section
variable {X:Cx} {K:PySem.W.Frag} {Z:Zt} {μ:List Addr} {H:Hp} {M:Mm} {e a b:Expr} {es:List Expr} {pos:Pos} {f fa fb:FE} {fs:FA}
theorem OpR.or {F:Value->Value->Sem Value} {r r':R2} (h:OpR X F r) (h':OpR X F r'):OpR X F (fun x y H Q=>r x y H Q\/r' x y H Q):=by
 intro pins s σ H x y v u Q I rx ry q
 rcases q with q | q
 ·exact h pins s σ H x y v u Q I rx ry q
 ·exact h' pins s σ H x y v u Q I rx ry q
theorem mC {w:W} {v:V} {ds:List D} (hr:HR K μ H M) (r:Rw K μ H w v) (h:lv M w=some ds):∃ a vs,v=.ref a/\H a=some (.lst vs)/\Rps K μ H ds vs:=by
 cases w with
 | ref i =>
  obtain ⟨a,q,rfl⟩:=r
  obtain ⟨a',vs,q1,q2,q3⟩:=hr.at h
  rw [q] at q1; cases q1
  exact ⟨a,vs,rfl,q2,q3⟩
 | d x =>
  cases x with
  | lst xs=>simp only [lv,Option.some.injEq] at h; subst h; simp only [Rw,Rp] at r; obtain ⟨a,vs,e,q1,_,q2⟩:=r; exact ⟨a,vs,e,q1,q2⟩
  | _=>simp [lv] at h
theorem uA {w:W} {v:V} {ds:List D} (hr:HR K μ H M) (r:Rw K μ H w v) (h:lr M w=some ds):∃ a vs,v=.ref a/\SqL K H a vs/\Rps K μ H ds vs:=by
 by_cases hf:∃ xs,w=.d (.fz xs)
 ·obtain ⟨xs,rfl⟩:=hf
  simp only [lr,Option.some.injEq] at h; subst h
  simp only [Rw,Rp] at r; obtain ⟨a,vs,e,q1,q2⟩:=r
  exact ⟨a,vs,e,q1.sq,q2⟩
 ·have:lr M w=lv M w:=by
   cases w with
   | ref i=>rfl
   | d x=>cases x <;> first | rfl | exact (hf ⟨_,rfl⟩).elim
  rw [this] at h
  obtain ⟨a,vs,e,q1,q2⟩:=mC hr r h
  exact ⟨a,vs,e,SqL.of q1,q2⟩
theorem tZ {w:W} {v:V} {ds:List D} (hr:HR K μ H M) (r:Rw K μ H w v) (h:sv M w=some ds):∃ a vs,v=.ref a/\(SqL K H a vs\/SqT K H a vs)/\Rps K μ H ds vs:=by
 by_cases hf:∃ xs,w=.d (.tup xs)
 ·obtain ⟨xs,rfl⟩:=hf
  simp only [sv,Option.some.injEq] at h; subst h
  simp only [Rw,Rp] at r; obtain ⟨a,vs,e,q1,q2⟩:=r
  exact ⟨a,vs,e,.inr (SqT.of q1),q2⟩
 ·have:sv M w=lr M w:=by
   cases w with
   | ref i=>rfl
   | d x=>cases x <;> first | rfl | exact (hf ⟨_,rfl⟩).elim
  rw [this] at h
  obtain ⟨a,vs,e,q1,q2⟩:=uA hr r h
  exact ⟨a,vs,e,.inl q1,q2⟩
theorem jK {Q:VK} {ds:List D} {vs:List V} (hr:HR K μ H M) (r:Rps K μ H ds vs) (p:Pst K Z μ H (okD (.tup ds) M) (Wk K Q)):∀ q,H q=none->Q (.ref q) (upd H q (.tup vs)):=fun q hq =>
 p μ _ (iG hr hq) (hr.lay hq) (.ref q) (by simp only [Rw,Rp]; exact ⟨q,vs,rfl,dL,Rps.ext hr.lsts (iG hr hq) _ _ r⟩)
theorem hG {Q:VK} {ds:List D} {vs:List V} (hr:HR K μ H M) (r:Rps K μ H ds vs) (p:Pst K Z μ H (okD (.lst ds) M) (Wk K Q)):∀ q,H q=none->Q (.ref q) (upd H q (.lst vs)):=fun q hq =>
 p μ _ (iG hr hq) (hr.lay hq) (.ref q) (by simp only [Rw,Rp]; exact ⟨q,vs,rfl,dL,hr.out hq,Rps.ext hr.lsts (iG hr hq) _ _ r⟩)
theorem mY {Q:VK} {ds:List D} {vs:List V} (hr:HR K μ H M) (r:Rps K μ H ds vs) (p:Pst K Z μ H (.ok (.ref M.length) (M++[ds])) (Wk K Q)):∀ q,H q=none->Q (.ref q) (upd H q (.lst vs)):=fun q hq =>
 p _ _ (rS hr hq) (hr.new hq r) (.ref q) ⟨q,by rw [<- hr.len]; simp,rfl⟩
noncomputable def rCatA (K:PySem.W.Frag):R2:=fun x y H Q=>∃ a b xs ys,x=.ref a/\y=.ref b/\SqT K H a xs/\SqT K H b ys/\xs.length+ys.length<=sizeLine /\
 (xs=[]->Q (.ref b) H)/\(ys=[]->Q (.ref a) H)/\(∀ p,H p=none->Q (.ref p) (upd H p (.tup (xs++ys))))
theorem aFe:OpR X (binaryOp .Add) (rCatA X.K):=by
 intro pins s σ H x y v u Q I rx ry h
 obtain ⟨a,b,xs,ys,rfl,rfl,ha,hb,hz,q0,q1,q2⟩:=h
 by_cases hx:xs=[]
 ·subst hx
  cases rx
  cases ry
  obtain ⟨its,r1,p1,_⟩:=I.tuple ha
  obtain ⟨its2,r2,p2,_⟩:=I.tuple hb
  have hv:its=[]:=r1.nil_iff.mpr rfl
  subst hv
  obtain ⟨⟨cls,dd,data,sl⟩,ho,hc,n,hd⟩:=id p1
  obtain ⟨⟨cls2,dd2,data2,sl2⟩,ho2,hc2,n2,hd2⟩:=id p2
  simp only at hc hd hc2 hd2
  subst hc hd hc2 hd2
  exact concat_meets ⟨_,ho,rfl⟩ ⟨_,ho2,rfl⟩ noFill_tuple_add seq_tuple_add PySem.F.slot_tuple_add PySem.F.entry_tuple_add (PySem.F.args_tuple_add_2 _ _)
   (tuple_addW0 a b _ its2.toArray n n2 dd dd2 sl sl2 (by simp)) ⟨ho,ho2,⟨.ref b,H,I,rfl,q0 rfl⟩⟩
 ·exact aFn pins s σ H _ _ v u Q I rx ry ⟨a,b,xs,ys,rfl,rfl,ha,hb,hx,hz,q1,fun _=>q2⟩
noncomputable def pAdd (x y:W) (M:Mm):Oc W:=match x,y with
 | .d (.int i),.d (.int j)=>.ok (.d (.int (i+j))) M
 | .d (.tup xs),.d (.tup ys)=>if xs.length+ys.length<=16777216 then .ok (.d (.tup (xs++ys))) M else .bad
 | .d (.str i),.d (.str j)=>if i.length+j.length<=16777216 then .ok (.d (.str (i++j))) M else .bad
 | x,y=>match lv M x,lv M y with
  | some xs,some ys=>if xs.length+ys.length<=16777216 then .ok (.d (.lst (xs++ys))) M else .bad
  | _,_=>.bad
theorem vX {x y:W} {v u:V} {Q:VK} (hr:HR K μ H M) (rx:Rw K μ H x v) (ry:Rw K μ H y u) (p:Pst K Z μ H (match lv M x,lv M y with
  | some xs,some ys=>if xs.length+ys.length<=16777216 then .ok (.d (.lst (xs++ys))) M else .bad
  | _,_=>.bad) (Wk K Q)):rCat v u H Q:=by
 cases q1:lv M x with
 | none=>rw [q1] at p; exact p.elim
 | some xs =>
  cases q2:lv M y with
  | none=>rw [q1,q2] at p; exact p.elim
  | some ys =>
   rw [q1,q2] at p
   simp only at p
   split at p
   ·rename_i hz
    obtain ⟨a,vs,rfl,h1,r1⟩:=mC hr rx q1
    obtain ⟨b,us,rfl,h2,r2⟩:=mC hr ry q2
    exact ⟨a,b,vs,us,rfl,rfl,h1,h2,by rw [<- r1.length,<- r2.length,sizeLine_eq]; exact hz,hG hr (r1.append r2) p⟩
   ·exact p.elim
theorem opAdd:OpG X K Z (binaryOp .Add) pAdd:=fun hk=>by
 refine ⟨_,OpR.or (OpR.or aJn (hk▸aFe)) (OpR.or aBh vR),?_⟩
 intro μ H M x y v u Q hr rx ry p
 have gen:=fun p=>vX (Q:=Q) (K:=K) (Z:=Z) hr rx ry p
 cases x with
 | ref i=>exact .inr (.inl (gen p))
 | d x =>
  cases y with
  | ref j=>exact .inr (.inl (gen (by cases x <;> exact p)))
  | d y =>
   cases x <;> cases y <;> first
    | exact .inr (.inl (gen p))
    | skip
   ·simp only [Rw,Rp] at rx ry; exact .inl (.inl ⟨_,_,rx,ry,p μ H .refl hr _ (by simp [Rw,Rp])⟩)
   ·simp only [Rw,Rp] at rx ry
    simp only [pAdd] at p
    split at p
    ·rename_i hz
     exact .inr (.inr ⟨_,_,rx,ry,by rw [sizeLine_eq]; exact hz,p μ H .refl hr _ (by simp [Rw,Rp])⟩)
    ·exact p.elim
   ·rename_i xs ys
    have rx':=rx
    have ry':=ry
    simp only [Rw,Rp] at rx ry
    obtain ⟨a,vs,rfl,h1,r1⟩:=rx
    obtain ⟨b,us,rfl,h2,r2⟩:=ry
    simp only [pAdd] at p
    split at p
    ·rename_i hz
     refine .inl (.inr ⟨a,b,vs,us,rfl,rfl,SqT.of h1,SqT.of h2,by rw [<- r1.length,<- r2.length,sizeLine_eq]; exact hz,fun e=>?_,fun e=>?_,jK hr (r1.append r2) p⟩)
     ·subst e
      have:xs=[]:=by have:=r1.length; simpa using this
      subst this
      exact p μ H .refl hr _ (by simpa using ry')
     ·subst e
      have:ys=[]:=by have:=r2.length; simpa using this
      subst this
      exact p μ H .refl hr _ (by simpa using rx')
    ·exact p.elim
noncomputable def pI (c:Int->Int->Bool) (g:Int->Int->D) (x y:W) (M:Mm):Oc W:=match x,y with
 | .d (.int i),.d (.int j)=>if c i j=true then .ok (.d (g i j)) M else .bad
 | _,_=>.bad
theorem opI {F:Value->Value->Sem Value} {C:Int->Int->Prop} {c:Int->Int->Bool} {g:Int->Int->D} {gv:Int->Int->V} (h:OpR X F (rI C gv)) (hc:∀ i j,c i j=true->C i j) (hg:∀ K μ H i j,Rp K μ H (g i j) (gv i j)) :
  OpG X K Z F (pI c g):=fun hk=>⟨_,h,by
 intro μ H M x y v u Q hr rx ry p
 cases x with
 | ref i=>exact p.elim
 | d x=>cases y with
  | ref j=>cases x <;> exact p.elim
  | d y=>cases x <;> cases y <;> first
   | exact p.elim
   | (simp only [Rw,Rp] at rx ry
      simp only [pI] at p
      split at p
      ·rename_i hz; exact ⟨_,_,rx,ry,hc _ _ hz,p μ H .refl hr _ (hg K μ H _ _)⟩
      ·exact p.elim)⟩
theorem opI0 {F:Value->Value->Sem Value} {g:Int->Int->D} {gv:Int->Int->V} (h:OpR X F (rI0 gv)) (hg:∀ K μ H i j,Rp K μ H (g i j) (gv i j)):OpG X K Z F (pI (fun _ _=>true) g):=fun hk=>⟨_,h,by
 intro μ H M x y v u Q hr rx ry p
 cases x with
 | ref i=>exact p.elim
 | d x=>cases y with
  | ref j=>cases x <;> exact p.elim
  | d y=>cases x <;> cases y <;> first
   | exact p.elim
   | (simp only [Rw,Rp] at rx ry
      exact ⟨_,_,rx,ry,p μ H .refl hr _ (hg K μ H _ _)⟩)⟩
noncomputable abbrev pSub:=pI (fun _ _=>true) fun i j=>.int (i - j)
noncomputable abbrev pLt:=pI (fun _ _=>true) fun i j=>.bl (decide (i < j))
noncomputable abbrev pGt:=pI (fun _ _=>true) fun i j=>.bl (decide (j < i))
noncomputable abbrev pGe:=pI (fun _ _=>true) fun i j=>.bl (decide (j<=i))
noncomputable abbrev pMod:=pI (fun _ j=>decide (0 < j)) fun i j=>.int (i % j)
noncomputable abbrev pDiv:=pI (fun _ j=>decide (0 < j/\j < 18446744073709551616)) fun i j=>.int (i / j)
noncomputable abbrev pPow:=pI (fun i j=>decide (0<=j/\j<=1000000/\i.natAbs < 18446744073709551616)) fun i j=>.int (i ^ j.toNat)
noncomputable abbrev pShr:=pI (fun i j=>decide (0<=j)) fun i j=>.int (i / 2 ^ j.toNat)
noncomputable abbrev pAnd:=pI (fun _ _=>true) fun i j=>.int (Builtin.bitAnd i j)
theorem opSub:OpG X K Z (binaryOp .Sub) pSub:=opI0 aIu fun _ _ _ _ _=>by simp [Rp]
theorem opLt:OpG X K Z (compareOp .Lt) pLt:=opI0 aNl fun _ _ _ _ _=>by simp [Rp]
theorem opGt:OpG X K Z (compareOp .Gt) pGt:=opI0 aMz fun _ _ _ _ _=>by simp [Rp]
theorem opGe:OpG X K Z (compareOp .GtE) pGe:=opI0 aNe fun _ _ _ _ _=>by simp [Rp]
theorem opMod:OpG X K Z (binaryOp .Mod) pMod:=opI aKu (fun _ _ h=>of_decide_eq_true h) fun _ _ _ _ _=>by simp [Rp]
theorem opDiv:OpG X K Z (binaryOp .FloorDiv) pDiv:=opI aBj (fun _ _ h=>by simp only [decide_eq_true_eq] at h; exact h) fun _ _ _ _ _=>by simp [Rp]
theorem opPow:OpG X K Z (binaryOp .Pow) pPow:=opI aKd (fun _ _ h=>by simp only [decide_eq_true_eq] at h; exact h) fun _ _ _ _ _=>by simp [Rp]
theorem opShr:OpG X K Z (binaryOp .RShift) pShr:=opI aLz (fun _ _ h=>by simp only [decide_eq_true_eq] at h; exact h) fun _ _ _ _ _=>by simp [Rp]
theorem opAnd:OpG X K Z (binaryOp .BitAnd) pAnd:=opI0 aJp fun _ _ _ _ _=>by simp [Rp]
noncomputable def isN:W->Bool
 | .d .non=>true
 | _=>false
noncomputable def pIs (x y:W) (M:Mm):Oc W:=match y with
 | .d .non=>.ok (.d (.bl (isN x))) M
 | _=>.bad
noncomputable def pIsNot (x y:W) (M:Mm):Oc W:=match y with
 | .d .non=>.ok (.d (.bl (!isN x))) M
 | _=>.bad
theorem aMs {x:W} {v:V} (r:Rw K μ H x v):decide (v=.non)=isN x:=by
 cases x with
 | ref i=>obtain ⟨a,_,rfl⟩:=r; simp [isN]
 | d x=>cases x with
  | non=>simp only [Rw,Rp] at r; subst r; simp [isN]
  | bl b=>simp only [Rw,Rp] at r; subst r; simp [isN]
  | int b=>simp only [Rw,Rp] at r; subst r; simp [isN]
  | str b=>simp only [Rw,Rp] at r; subst r; simp [isN]
  | tup b=>simp only [Rw,Rp] at r; obtain ⟨a,vs,rfl,_⟩:=r; simp [isN]
  | lst b=>simp only [Rw,Rp] at r; obtain ⟨a,vs,rfl,_⟩:=r; simp [isN]
  | fz b=>simp only [Rw,Rp] at r; obtain ⟨a,vs,rfl,_⟩:=r; simp [isN]
  | exn c f b=>simp only [Rw,Rp] at r; obtain ⟨a,vs,_,_,_,rfl,_⟩:=r; simp [isN]
theorem opIs:OpG X K Z (compareOp .Is) pIs:=fun hk=>⟨_,aJg,by
 intro μ H M x y v u Q hr rx ry p
 cases y with
 | ref j=>exact p.elim
 | d y=>cases y with
  | non=>simp only [Rw,Rp] at ry; exact ⟨ry,p μ H .refl hr _ (by simp only [Rw,Rp]; rw [aMs rx])⟩
  | _=>exact p.elim⟩
end
end EV
namespace EV
open PySem PySem.Spec PyProof.Rows L2
section
variable {X:Cx} {K:PySem.W.Frag} {Z:Zt} {μ:List Addr} {H:Hp} {M:Mm} {e a b:Expr} {es:List Expr} {pos:Pos} {f fa fb:FE} {fs:FA}
mutual
noncomputable def eqD:D->D->Bool
 | .non,.non=>true
 | .bl a,.bl b=>a==b
 | .bl a,.int b=>(if a then 1 else 0)==b
 | .int a,.bl b=>a==(if b then 1 else 0)
 | .int a,.int b=>a==b
 | .str a,.str b=>a==b
 | .tup xs,.tup ys=>eqDs xs ys
 | .lst xs,.lst ys=>eqDs xs ys
 | .lst xs,.fz ys=>eqDs xs ys
 | .fz xs,.lst ys=>eqDs xs ys
 | .fz xs,.fz ys=>eqDs xs ys
 | .exn c f xs,.exn c' f' ys=>c==c'&&f==f'&&eqDs xs ys
 | _,_=>false
noncomputable def eqDs:List D->List D->Bool
 | [],[]=>true
 | x::xs,y::ys=>eqD x y&&eqDs xs ys
 | _,_=>false
end
mutual
noncomputable def dep:D->Nat
 | .tup xs=>deps xs+1
 | .lst xs=>deps xs+1
 | .fz xs=>deps xs+1
 | .exn _ _ _=>1000
 | _=>0
noncomputable def deps:List D->Nat
 | []=>0
 | x::xs=>max (dep x) (deps xs)
end
theorem uC:∀ {xs:List D} {i:Nat} {x:D},xs[i]?=some x->dep x<=deps xs
 | [],_,_,h=>by simp at h
 | y::xs,0,x,h=>by simp at h; subst h; simp only [deps]; omega
 | y::xs,i+1,x,h=>by
  have:=uC (xs:=xs) (i:=i) (x:=x) (by simpa using h)
  simp only [deps]; omega
theorem kK:∀ (xs ys:List D),eqDs xs ys=((List.range (min xs.length ys.length)).all (fun i=>eqD (xs.getD i .non) (ys.getD i .non))&&xs.length==ys.length)
 | [],[]=>rfl
 | [],y::ys=>by simp [eqDs]
 | x::xs,[]=>by simp [eqDs]
 | x::xs,y::ys=>by
  simp only [eqDs]
  rw [kK xs ys]
  have:min (x::xs).length (y::ys).length=min xs.length ys.length+1:=by simp
  rw [this,List.range_succ_eq_map,List.all_cons]
  simp only [List.getD_cons_zero,List.all_map,Bool.and_assoc,List.length_cons]
  congr 1
  congr 1
  rw [Bool.eq_iff_iff]; simp
variable {pins:List (Addr×Obj)} {σ:L2.St} {s:Shared}
theorem xV {i:Nat} {ds:List D} {vs:List V} {its:List Value} (r:Rps K μ H ds vs) (rv:Vals vs its) (h:i < its.toArray.size):∃ d v,ds[i]?=some d/\Rp K μ H d v/\RelV v its.toArray[i]:=by
 have h1:i < its.length:=by simpa using h
 have h2:i < vs.length:=by rw [rv.length]; exact h1
 have h3:i < ds.length:=by rw [r.length]; exact h2
 obtain ⟨v,q1,q2⟩:=r.get (i:=i) (d:=ds[i]) (by simp [h3])
 obtain ⟨u,q3,q4⟩:=rv.get q1
 refine ⟨ds[i],v,by simp [h3],q2,?_⟩
 rw [List.getElem?_eq_getElem h1] at q3
 cases q3
 simpa using q4
theorem yD {ds:List D} {i:Nat} {d:D} (h:ds[i]?=some d):ds.getD i .non=d:=by rw [List.getD_eq_getElem?_getD,h]; rfl
noncomputable abbrev Eqs (K:PySem.W.Frag) (μ:List Addr) (H:Hp) (s:Shared) (A:Around) (xs:List D):Prop :=
 ∀ (j:Nat) (d:D),xs[j]?=some d->∀ (d2:D) (v1 v2:V) (u1 u2:Value),dep d2<=100->Rp K μ H d v1->Rp K μ H d2 v2->RelV v1 u1->RelV v2 u2->SeqAt.EqAt A s u1 u2 (eqD d d2)
theorem kL {A:Around} {xs ys:List D} {vs us:List V} {its its2:List Value} (r1:Rps K μ H xs vs) (r2:Rps K μ H ys us) (q1:Vals vs its) (q2:Vals us its2) (n2:deps ys<=100) (ih:Eqs K μ H s A xs) :
  ∀ j (h1:j < its.toArray.size) (h2:j < its2.toArray.size),SeqAt.EqAt A s its.toArray[j] its2.toArray[j] ((fun i=>eqD (xs.getD i .non) (ys.getD i .non)) j):=by
 intro j h1 h2
 obtain ⟨d,v,e1,e2,e3⟩:=xV r1 q1 h1
 obtain ⟨d',v',e1',e2',e3'⟩:=xV r2 q2 h2
 simp only [yD e1,yD e1']
 exact ih j d e1 d' v v' _ _ (Nat.le_trans (uC e1') n2) e2 e2' e3 e3'
theorem kG {xs ys:List D} {vs us:List V} {its its2:List Value} (r1:Rps K μ H xs vs) (r2:Rps K μ H ys us) (q1:Vals vs its) (q2:Vals us its2):its.toArray.size=xs.length/\its2.toArray.size=ys.length:=by
 simp [r1.length,r2.length,q1.length,q2.length]
theorem aJv {A:Around} {xs ys:List D} {vs us:List V} {a b:Addr} (I:Inv X pins σ H s) (h1:SqT X.K H a vs) (h2:SqT X.K H b us) (r1:Rps K μ H xs vs) (r2:Rps K μ H ys us) (hu:A.units < cLine) (n2:deps ys<=100) (ih:Eqs K μ H s A.in1 xs) :
  SeqAt.RcAt A s (.ref a) (.ref b) (eqDs xs ys):=by
 obtain ⟨its,q1,p1,_⟩:=I.tuple h1
 obtain ⟨its2,q2,p2,_⟩:=I.tuple h2
 have:=SeqAt.RcAt.tuples p1 p2 hu (kL r1 r2 q1 q2 n2 ih)
 obtain ⟨e1,e2⟩:=kG r1 r2 q1 q2
 rw [e1,e2] at this
 rw [kK]; exact this
theorem aCi {A:Around} {xs ys:List D} {vs us:List V} {a b:Addr} (I:Inv X pins σ H s) (h1:SqT X.K H a vs) (h2:SqT X.K H b us) (r1:Rps K μ H xs vs) (r2:Rps K μ H ys us) (hu:A.units < cLine) (n2:deps ys<=100) (ih:Eqs K μ H s A.in1 xs) :
  SeqAt.RcNeAt A s (.ref a) (.ref b) (!eqDs xs ys):=by
 obtain ⟨its,q1,p1,_⟩:=I.tuple h1
 obtain ⟨its2,q2,p2,_⟩:=I.tuple h2
 have:=SeqAt.RcNeAt.tuples p1 p2 hu (kL r1 r2 q1 q2 n2 ih)
 obtain ⟨e1,e2⟩:=kG r1 r2 q1 q2
 rw [e1,e2] at this
 rw [kK]; exact this
theorem sZ {xs ys:List D} (h:xs.length≠ys.length):eqDs xs ys=false:=by
 rw [kK]
 have:(xs.length==ys.length)=false:=by simpa using h
 rw [this,Bool.and_false]
theorem qL {xs ys:List D} (h:xs.length=ys.length):eqDs xs ys=(List.range xs.length).all (fun i=>eqD (xs.getD i .non) (ys.getD i .non)):=by
 rw [kK,<- h]; simp
theorem rF {A:Around} {xs ys:List D} {vs us:List V} {a b:Addr} (I:Inv X pins σ H s) (h1:SqL X.K H a vs) (h2:SqL X.K H b us) (r1:Rps K μ H xs vs) (r2:Rps K μ H ys us) (hu:A.units < cLine) (n2:deps ys<=100) (ih:Eqs K μ H s A.in1 xs) :
  SeqAt.RcAt A s (.ref a) (.ref b) (eqDs xs ys):=by
 obtain ⟨its,q1,p1,_⟩:=I.list h1
 obtain ⟨its2,q2,p2,_⟩:=I.list h2
 obtain ⟨e1,e2⟩:=kG r1 r2 q1 q2
 by_cases hl:xs.length=ys.length
 ·have:=SeqAt.RcAt.lists p1.isList p2.isList (by rw [e1,e2,hl]) hu (kL r1 r2 q1 q2 n2 ih)
  rw [e1] at this
  rw [qL hl]; exact this
 ·rw [sZ hl]
  exact SeqAt.RcAt.lists_lengths p1.isList p2.isList (by rw [e1,e2]; simpa using hl) hu
theorem kR {A:Around} {xs ys:List D} {vs us:List V} {a b:Addr} (I:Inv X pins σ H s) (h1:SqL X.K H a vs) (h2:SqL X.K H b us) (r1:Rps K μ H xs vs) (r2:Rps K μ H ys us) (hu:A.units < cLine) (n2:deps ys<=100) (ih:Eqs K μ H s A.in1 xs) :
  SeqAt.RcNeAt A s (.ref a) (.ref b) (!eqDs xs ys):=by
 obtain ⟨its,q1,p1,_⟩:=I.list h1
 obtain ⟨its2,q2,p2,_⟩:=I.list h2
 obtain ⟨e1,e2⟩:=kG r1 r2 q1 q2
 by_cases hl:xs.length=ys.length
 ·have:=SeqAt.RcNeAt.lists p1.isList p2.isList (by rw [e1,e2,hl]) hu (kL r1 r2 q1 q2 n2 ih)
  rw [e1] at this
  rw [qL hl]; exact this
 ·rw [sZ hl]
  exact SeqAt.RcNeAt.lists_lengths p1.isList p2.isList (by rw [e1,e2]; simpa using hl) hu
noncomputable def fv:D->Option V
 | .non=>some .non
 | .bl b=>some (.bl b)
 | .int i=>some (.int i)
 | .str x=>some (.str x)
 | _=>none
theorem aDa {d:D} {v u:V} (h:fv d=some u) (r:Rp K μ H d v):v=u/\flatV u=true:=by
 cases d <;> simp only [fv,Option.some.injEq,reduceCtorEq] at h <;> (simp only [Rp] at r; subst h; exact ⟨r,rfl⟩)
theorem aIo {d e:D} {u w:V} (h:fv d=some u) (h':fv e=some w):eqV u w=eqD d e:=by
 cases d <;> simp only [fv,Option.some.injEq,reduceCtorEq] at h <;> (cases e <;> simp only [fv,Option.some.injEq,reduceCtorEq] at h' <;> (subst h; subst h'; simp [eqV,eqD]))
theorem aNc {d:D} {v:V} (r:Rp K μ H d v) (h:flatV v=true):fv d=some v:=by
 cases d with
 | non=>simp only [Rp] at r; subst r; rfl
 | bl b=>simp only [Rp] at r; subst r; rfl
 | int b=>simp only [Rp] at r; subst r; rfl
 | str b=>simp only [Rp] at r; subst r; rfl
 | tup b=>simp only [Rp] at r; obtain ⟨a,vs,rfl,_⟩:=r; cases h
 | lst b=>simp only [Rp] at r; obtain ⟨a,vs,rfl,_⟩:=r; cases h
 | fz b=>simp only [Rp] at r; obtain ⟨a,vs,rfl,_⟩:=r; cases h
 | exn c f b=>simp only [Rp] at r; obtain ⟨a,vs,_,_,_,rfl,_⟩:=r; cases h
theorem aBp {v:V} (h:flatV v=true):eqV v v=true:=by cases v <;> first | (cases h; done) | rfl | (simp [eqV]; done)
theorem kJ {d d':D} {v:V} {u:V} (hf:fv d=some u) (h:Rp K μ H d v) (h':Rp K μ H d' v):eqD d d'=true:=by
 obtain ⟨rfl,fl⟩:=aDa hf h
 rw [<- aIo hf (aNc h' fl)]
 exact aBp fl
inductive At (K:PySem.W.Frag) (μ:List Addr) (H:Hp):D->Addr->List D->Bool->Prop where
 | tup {a vs ds}:SqT K H a vs->Rps K μ H ds vs->At K μ H (.tup ds) a ds true
 | lst {a vs ds}:SqL K H a vs->Rps K μ H ds vs->At K μ H (.lst ds) a ds false
 | fz {a vs ds}:SqL K H a vs->Rps K μ H ds vs->At K μ H (.fz ds) a ds false
theorem nA {a:Addr} {vs us:List V} (I:Inv X pins σ H s) (h1:SqT X.K H a vs) (h2:SqL X.K H a us):False:=by
 obtain ⟨its,q1,p1,_⟩:=I.tuple h1
 obtain ⟨its2,q2,p2,_⟩:=I.list h2
 exact SeqAt.ne_of_list_tuple p2.isList p1 rfl
mutual
theorem aBy (I:Inv X pins σ H s) (hk:X.K=K):∀ (d d':D) (v:V),dep d<=100->dep d'<=100->Rp K μ H d v->Rp K μ H d' v->eqD d d'=true
 | .non,d',v,n,n',h,h'=>kJ rfl h h'
 | .bl x,d',v,n,n',h,h'=>kJ rfl h h'
 | .int x,d',v,n,n',h,h'=>kJ rfl h h'
 | .str x,d',v,n,n',h,h'=>kJ rfl h h'
 | .tup xs,d',v,n,n',h,h'=>by
  simp only [Rp] at h
  obtain ⟨a,vs,rfl,h1,r1⟩:=h
  cases d' with
  | tup ys =>
   simp only [Rp] at h'
   obtain ⟨b,us,e,h2,r2⟩:=h'
   cases e
   cases I.tuple_inj (SqT.of (K:=X.K) h1) (SqT.of h2)
   simp only [eqD]
   exact jI I hk xs ys vs (by simp only [dep] at n; omega) (by simp only [dep] at n'; omega) r1 r2
  | lst ys=>simp only [Rp] at h'; obtain ⟨b,us,e,h2,_,r2⟩:=h'; cases e; exact (nA I (SqT.of h1) (SqL.of h2)).elim
  | fz ys=>simp only [Rp] at h'; obtain ⟨b,us,e,h2,r2⟩:=h'; cases e; exact (nA I (SqT.of h1) (hk▸h2.sq)).elim
  | exn c f ys=>simp [dep] at n'
  | _=>simp only [Rp] at h'; cases h'
 | .lst xs,d',v,n,n',h,h'=>by
  simp only [Rp] at h
  obtain ⟨a,vs,rfl,h1,_,r1⟩:=h
  cases d' with
  | tup ys=>simp only [Rp] at h'; obtain ⟨b,us,e,h2,r2⟩:=h'; cases e; exact (nA I (SqT.of h2) (SqL.of h1)).elim
  | lst ys =>
   simp only [Rp] at h'; obtain ⟨b,us,e,h2,_,r2⟩:=h'; cases e
   cases I.list_inj (SqL.of h1) (SqL.of h2)
   simp only [eqD]
   exact jI I hk xs ys vs (by simp only [dep] at n; omega) (by simp only [dep] at n'; omega) r1 r2
  | fz ys =>
   simp only [Rp] at h'; obtain ⟨b,us,e,h2,r2⟩:=h'; cases e
   cases I.list_inj (SqL.of h1) (hk▸h2.sq)
   simp only [eqD]
   exact jI I hk xs ys vs (by simp only [dep] at n; omega) (by simp only [dep] at n'; omega) r1 r2
  | exn c f ys=>simp [dep] at n'
  | _=>simp only [Rp] at h'; cases h'
 | .fz xs,d',v,n,n',h,h'=>by
  simp only [Rp] at h
  obtain ⟨a,vs,rfl,h1,r1⟩:=h
  cases d' with
  | tup ys=>simp only [Rp] at h'; obtain ⟨b,us,e,h2,r2⟩:=h'; cases e; exact (nA I (SqT.of h2) (hk▸h1.sq)).elim
  | lst ys =>
   simp only [Rp] at h'; obtain ⟨b,us,e,h2,_,r2⟩:=h'; cases e
   cases I.list_inj (hk▸h1.sq) (SqL.of h2)
   simp only [eqD]
   exact jI I hk xs ys vs (by simp only [dep] at n; omega) (by simp only [dep] at n'; omega) r1 r2
  | fz ys =>
   simp only [Rp] at h'; obtain ⟨b,us,e,h2,r2⟩:=h'; cases e
   cases I.list_inj (hk▸h1.sq) (hk▸h2.sq)
   simp only [eqD]
   exact jI I hk xs ys vs (by simp only [dep] at n; omega) (by simp only [dep] at n'; omega) r1 r2
  | exn c f ys=>simp [dep] at n'
  | _=>simp only [Rp] at h'; cases h'
 | .exn c f xs,d',v,n,n',h,h'=>by simp [dep] at n
theorem jI (I:Inv X pins σ H s) (hk:X.K=K):∀ (xs ys:List D) (vs:List V),deps xs<=100->deps ys<=100->Rps K μ H xs vs->Rps K μ H ys vs->eqDs xs ys=true
 | [],ys,vs,n,n',h,h'=>by simp only [Rps] at h; subst h; cases ys with | nil=>rfl | cons y ys=>simp only [Rps] at h'; obtain ⟨_,_,e,_⟩:=h'; cases e
 | x::xs,ys,vs,n,n',h,h'=>by
  simp only [Rps] at h
  obtain ⟨v,r,rfl,e2,e3⟩:=h
  cases ys with
  | nil=>simp only [Rps] at h'; cases h'
  | cons y ys =>
   simp only [Rps] at h'
   obtain ⟨v',r',e,e2',e3'⟩:=h'
   cases e
   simp only [deps] at n n'
   simp only [eqDs,aBy I hk x y v (by omega) (by omega) e2 e2',jI I hk xs ys r (by omega) (by omega) e3 e3',Bool.and_self]
end
theorem kS {d:D} {v:V} (h:fv d=none) (n:dep d<=100) (r:Rp K μ H d v):∃ a ds k,v=.ref a/\At K μ H d a ds k:=by
 cases d with
 | tup xs=>simp only [Rp] at r; obtain ⟨a,vs,e,q1,q2⟩:=r; exact ⟨a,xs,true,e,.tup (SqT.of q1) q2⟩
 | lst xs=>simp only [Rp] at r; obtain ⟨a,vs,e,q1,_,q2⟩:=r; exact ⟨a,xs,false,e,.lst (SqL.of q1) q2⟩
 | fz xs=>simp only [Rp] at r; obtain ⟨a,vs,e,q1,q2⟩:=r; exact ⟨a,xs,false,e,.fz q1.sq q2⟩
 | exn c f xs=>simp [dep] at n
 | _=>simp [fv] at h
theorem aHi {A:Around} {d d2:D} {v1 v2 w w2:V} {u1 u2:Value} (n1:fv d=some w) (n2:fv d2=some w2) (h1:Rp K μ H d v1) (h2:Rp K μ H d2 v2) (q1:RelV v1 u1) (q2:RelV v2 u2) :
  (SeqAt.RcAt A s u1 u2 (eqD d d2)/\SeqAt.RcNeAt A s u1 u2 (!eqD d d2)):=by
 cases d with
 | non =>
  simp only [Rp] at h1; subst h1; cases q1
  cases d2 with
  | non=>simp only [Rp] at h2; subst h2; cases q2; simp only [eqD]; exact ⟨SeqAt.RcAt.none_none,SeqAt.RcNeAt.none_none⟩
  | bl y=>simp only [Rp] at h2; subst h2; cases q2; simp only [eqD]; exact ⟨SeqAt.RcAt.none_bool y,SeqAt.RcNeAt.none_bool y⟩
  | int y=>simp only [Rp] at h2; subst h2; obtain ⟨t2,rfl⟩:=q2; simp only [eqD]; exact ⟨SeqAt.RcAt.none_int y t2,SeqAt.RcNeAt.none_int y t2⟩
  | str y=>simp only [Rp] at h2; subst h2; obtain ⟨t2,rfl⟩:=q2; simp only [eqD]; exact ⟨SeqAt.RcAt.none_str y t2,SeqAt.RcNeAt.none_str y t2⟩
  | _=>simp [fv] at n2
 | bl x =>
  simp only [Rp] at h1; subst h1; cases q1
  cases d2 with
  | non=>simp only [Rp] at h2; subst h2; cases q2; simp only [eqD]; exact ⟨SeqAt.RcAt.bool_none x,SeqAt.RcNeAt.bool_none x⟩
  | bl y=>simp only [Rp] at h2; subst h2; cases q2; simp only [eqD]; exact ⟨SeqAt.RcAt.bool_bool x y,SeqAt.RcNeAt.bool_bool x y⟩
  | int y=>simp only [Rp] at h2; subst h2; obtain ⟨t2,rfl⟩:=q2; simp only [eqD]; exact ⟨SeqAt.RcAt.bool_int x y t2,SeqAt.RcNeAt.bool_int x y t2⟩
  | str y=>simp only [Rp] at h2; subst h2; obtain ⟨t2,rfl⟩:=q2; simp only [eqD]; exact ⟨SeqAt.RcAt.bool_str x y t2,SeqAt.RcNeAt.bool_str x y t2⟩
  | _=>simp [fv] at n2
 | int x =>
  simp only [Rp] at h1; subst h1; obtain ⟨t,rfl⟩:=q1
  cases d2 with
  | non=>simp only [Rp] at h2; subst h2; cases q2; simp only [eqD]; exact ⟨SeqAt.RcAt.int_none x t,SeqAt.RcNeAt.int_none x t⟩
  | bl y=>simp only [Rp] at h2; subst h2; cases q2; simp only [eqD]; exact ⟨SeqAt.RcAt.int_bool x t y,SeqAt.RcNeAt.int_bool x t y⟩
  | int y=>simp only [Rp] at h2; subst h2; obtain ⟨t2,rfl⟩:=q2; simp only [eqD]; exact ⟨SeqAt.RcAt.int_int x t y t2,SeqAt.RcNeAt.int_int x t y t2⟩
  | str y=>simp only [Rp] at h2; subst h2; obtain ⟨t2,rfl⟩:=q2; simp only [eqD]; exact ⟨SeqAt.RcAt.int_str x t y t2,SeqAt.RcNeAt.int_str x t y t2⟩
  | _=>simp [fv] at n2
 | str x =>
  simp only [Rp] at h1; subst h1; obtain ⟨t,rfl⟩:=q1
  cases d2 with
  | non=>simp only [Rp] at h2; subst h2; cases q2; simp only [eqD]; exact ⟨SeqAt.RcAt.str_none x t,SeqAt.RcNeAt.str_none x t⟩
  | bl y=>simp only [Rp] at h2; subst h2; cases q2; simp only [eqD]; exact ⟨SeqAt.RcAt.str_bool x t y,SeqAt.RcNeAt.str_bool x t y⟩
  | int y=>simp only [Rp] at h2; subst h2; obtain ⟨t2,rfl⟩:=q2; simp only [eqD]; exact ⟨SeqAt.RcAt.str_int x t y t2,SeqAt.RcNeAt.str_int x t y t2⟩
  | str y=>simp only [Rp] at h2; subst h2; obtain ⟨t2,rfl⟩:=q2; simp only [eqD]; exact ⟨SeqAt.RcAt.str_str x t y t2,SeqAt.RcNeAt.str_str x t y t2⟩
  | _=>simp [fv] at n2
 | _=>simp [fv] at n1
theorem uU {A:Around} {d2:D} {a:Addr} {its:Array Value} {v2 w2:V} {u2:Value} (pl:s.heap.IsTuple a its) (hu:A.units < cLine) (n2:fv d2=some w2) (h2:Rp K μ H d2 v2) (q2:RelV v2 u2) :
  SeqAt.EqAt A s (.ref a) u2 false/\SeqAt.EqAt A s u2 (.ref a) false/\SeqAt.RcAt A s (.ref a) u2 false/\SeqAt.RcNeAt A s (.ref a) u2 true/\SeqAt.RcAt A s u2 (.ref a) false/\SeqAt.RcNeAt A s u2 (.ref a) true:=by
 cases d2 with
 | non=>simp only [Rp] at h2; subst h2; cases q2; exact ⟨SeqAt.EqAt.tuple_none pl hu,SeqAt.EqAt.none_tuple pl hu,SeqAt.RcAt.tuple_none pl hu,SeqAt.RcNeAt.tuple_none pl hu,SeqAt.RcAt.none_tuple pl hu,SeqAt.RcNeAt.none_tuple pl hu⟩
 | bl y=>simp only [Rp] at h2; subst h2; cases q2; exact ⟨SeqAt.EqAt.tuple_bool y pl hu,SeqAt.EqAt.bool_tuple y pl hu,SeqAt.RcAt.tuple_bool y pl hu,SeqAt.RcNeAt.tuple_bool y pl hu,SeqAt.RcAt.bool_tuple y pl hu,SeqAt.RcNeAt.bool_tuple y pl hu⟩
 | int y=>simp only [Rp] at h2; subst h2; obtain ⟨t2,rfl⟩:=q2; exact ⟨SeqAt.EqAt.tuple_int y t2 pl hu,SeqAt.EqAt.int_tuple y t2 pl hu,SeqAt.RcAt.tuple_int y t2 pl hu,SeqAt.RcNeAt.tuple_int y t2 pl hu,SeqAt.RcAt.int_tuple y t2 pl hu,SeqAt.RcNeAt.int_tuple y t2 pl hu⟩
 | str y=>simp only [Rp] at h2; subst h2; obtain ⟨t2,rfl⟩:=q2; exact ⟨SeqAt.EqAt.tuple_str y t2 pl hu,SeqAt.EqAt.str_tuple y t2 pl hu,SeqAt.RcAt.tuple_str y t2 pl hu,SeqAt.RcNeAt.tuple_str y t2 pl hu,SeqAt.RcAt.str_tuple y t2 pl hu,SeqAt.RcNeAt.str_tuple y t2 pl hu⟩
 | _=>simp [fv] at n2
theorem pZ {A:Around} {d2:D} {a:Addr} {its:Array Value} {v2 w2:V} {u2:Value} (pl:s.heap.IsList a its) (hu:A.units < cLine) (n2:fv d2=some w2) (h2:Rp K μ H d2 v2) (q2:RelV v2 u2) :
  SeqAt.EqAt A s (.ref a) u2 false/\SeqAt.EqAt A s u2 (.ref a) false/\SeqAt.RcAt A s (.ref a) u2 false/\SeqAt.RcNeAt A s (.ref a) u2 true/\SeqAt.RcAt A s u2 (.ref a) false/\SeqAt.RcNeAt A s u2 (.ref a) true:=by
 cases d2 with
 | non=>simp only [Rp] at h2; subst h2; cases q2; exact ⟨SeqAt.EqAt.list_none pl hu,SeqAt.EqAt.none_list pl hu,SeqAt.RcAt.list_none pl hu,SeqAt.RcNeAt.list_none pl hu,SeqAt.RcAt.none_list pl hu,SeqAt.RcNeAt.none_list pl hu⟩
 | bl y=>simp only [Rp] at h2; subst h2; cases q2; exact ⟨SeqAt.EqAt.list_bool y pl hu,SeqAt.EqAt.bool_list y pl hu,SeqAt.RcAt.list_bool y pl hu,SeqAt.RcNeAt.list_bool y pl hu,SeqAt.RcAt.bool_list y pl hu,SeqAt.RcNeAt.bool_list y pl hu⟩
 | int y=>simp only [Rp] at h2; subst h2; obtain ⟨t2,rfl⟩:=q2; exact ⟨SeqAt.EqAt.list_int y t2 pl hu,SeqAt.EqAt.int_list y t2 pl hu,SeqAt.RcAt.list_int y t2 pl hu,SeqAt.RcNeAt.list_int y t2 pl hu,SeqAt.RcAt.int_list y t2 pl hu,SeqAt.RcNeAt.int_list y t2 pl hu⟩
 | str y=>simp only [Rp] at h2; subst h2; obtain ⟨t2,rfl⟩:=q2; exact ⟨SeqAt.EqAt.list_str y t2 pl hu,SeqAt.EqAt.str_list y t2 pl hu,SeqAt.RcAt.list_str y t2 pl hu,SeqAt.RcNeAt.list_str y t2 pl hu,SeqAt.RcAt.str_list y t2 pl hu,SeqAt.RcNeAt.str_list y t2 pl hu⟩
 | _=>simp [fv] at n2
theorem mU {A:Around} {d d2:D} {a:Addr} {xs:List D} {k:Bool} {v2 w2:V} {u2:Value} (I:Inv X pins σ H s) (hk:X.K=K) (hu:A.units < cLine) (h1:At K μ H d a xs k) (n2:fv d2=some w2) (h2:Rp K μ H d2 v2) (q2:RelV v2 u2) :
  SeqAt.EqAt A s (.ref a) u2 false/\SeqAt.EqAt A s u2 (.ref a) false/\SeqAt.RcAt A s (.ref a) u2 false/\SeqAt.RcNeAt A s (.ref a) u2 true/\SeqAt.RcAt A s u2 (.ref a) false/\SeqAt.RcNeAt A s u2 (.ref a) true:=by
 cases h1 with
 | tup h r=>obtain ⟨its,r',pl,_⟩:=I.tuple (hk▸h); exact uU pl hu n2 h2 q2
 | lst h r=>obtain ⟨its,r',pl,_⟩:=I.list (hk▸h); exact pZ pl.isList hu n2 h2 q2
 | fz h r=>obtain ⟨its,r',pl,_⟩:=I.list (hk▸h); exact pZ pl.isList hu n2 h2 q2
theorem iA {d d2:D} {w:V} (n1:fv d=none) (n2:fv d2=some w):eqD d d2=false/\eqD d2 d=false:=by
 cases d <;> simp only [fv,reduceCtorEq] at n1 <;> (cases d2 <;> simp only [fv,reduceCtorEq] at n2 <;> exact ⟨rfl,rfl⟩)
theorem aIm {A:Around} {d d2:D} {a b:Addr} {xs ys:List D} {k k2:Bool} (I:Inv X pins σ H s) (hk:X.K=K) (hu:A.units < cLine) (h1:At K μ H d a xs k) (h2:At K μ H d2 b ys k2) (n2:dep d2<=100) (ih:Eqs K μ H s A.in1 xs) :
  SeqAt.RcAt A s (.ref a) (.ref b) (eqD d d2)/\SeqAt.RcNeAt A s (.ref a) (.ref b) (!eqD d d2):=by
 cases h1 with
 | tup h r=>cases h2 with
  | tup h' r'=>exact ⟨aJv I (hk▸h) (hk▸h') r r' hu (by simp only [dep] at n2; omega) ih,aCi I (hk▸h) (hk▸h') r r' hu (by simp only [dep] at n2; omega) ih⟩
  | lst h' r' =>
   obtain ⟨_,_,pl,_⟩:=I.tuple (hk▸h); obtain ⟨_,_,pl',_⟩:=I.list (hk▸h')
   exact ⟨.tuple_list pl pl'.isList hu,.tuple_list pl pl'.isList hu⟩
  | fz h' r' =>
   obtain ⟨_,_,pl,_⟩:=I.tuple (hk▸h); obtain ⟨_,_,pl',_⟩:=I.list (hk▸h')
   exact ⟨.tuple_list pl pl'.isList hu,.tuple_list pl pl'.isList hu⟩
 | lst h r=>cases h2 with
  | tup h' r' =>
   obtain ⟨_,_,pl,_⟩:=I.list (hk▸h); obtain ⟨_,_,pl',_⟩:=I.tuple (hk▸h')
   exact ⟨.list_tuple pl.isList pl' hu,.list_tuple pl.isList pl' hu⟩
  | lst h' r'=>exact ⟨rF I (hk▸h) (hk▸h') r r' hu (by simp only [dep] at n2; omega) ih,kR I (hk▸h) (hk▸h') r r' hu (by simp only [dep] at n2; omega) ih⟩
  | fz h' r'=>exact ⟨rF I (hk▸h) (hk▸h') r r' hu (by simp only [dep] at n2; omega) ih,kR I (hk▸h) (hk▸h') r r' hu (by simp only [dep] at n2; omega) ih⟩
 | fz h r=>cases h2 with
  | tup h' r' =>
   obtain ⟨_,_,pl,_⟩:=I.list (hk▸h); obtain ⟨_,_,pl',_⟩:=I.tuple (hk▸h')
   exact ⟨.list_tuple pl.isList pl' hu,.list_tuple pl.isList pl' hu⟩
  | lst h' r'=>exact ⟨rF I (hk▸h) (hk▸h') r r' hu (by simp only [dep] at n2; omega) ih,kR I (hk▸h) (hk▸h') r r' hu (by simp only [dep] at n2; omega) ih⟩
  | fz h' r'=>exact ⟨rF I (hk▸h) (hk▸h') r r' hu (by simp only [dep] at n2; omega) ih,kR I (hk▸h) (hk▸h') r r' hu (by simp only [dep] at n2; omega) ih⟩
theorem hV {A:Around} {d d2:D} {v1 v2:V} {u1 u2:Value} (I:Inv X pins σ H s) (hk:X.K=K) (hu:A.units < cLine) (h1:Rp K μ H d v1) (h2:Rp K μ H d2 v2) (q1:RelV v1 u1) (q2:RelV v2 u2) (m1:dep d<=100) (m2:dep d2<=100)
  (ih:∀ a xs k,At K μ H d a xs k->Eqs K μ H s A.in1 xs):SeqAt.EqAt A s u1 u2 (eqD d d2):=by
 cases n1:fv d with
 | some w =>
  cases n2:fv d2 with
  | some w2 =>
   obtain ⟨rfl,f1⟩:=aDa n1 h1
   obtain ⟨rfl,f2⟩:=aDa n2 h2
   rw [<- aIo n1 n2]
   exact aKr q1 q2 f1 f2
  | none =>
   obtain ⟨a,ds,k,rfl,at2⟩:=kS n2 m2 h2
   cases q2
   rw [(iA n2 n1).2]
   exact (mU I hk hu at2 n1 h1 q1).2.1
 | none =>
  cases n2:fv d2 with
  | some w2 =>
   obtain ⟨a,ds,k,rfl,at1⟩:=kS n1 m1 h1
   cases q1
   rw [(iA n1 n2).1]
   exact (mU I hk hu at1 n2 h2 q2).1
  | none =>
   obtain ⟨a,xs,k,rfl,at1⟩:=kS n1 m1 h1
   obtain ⟨b,ys,k2,rfl,at2⟩:=kS n2 m2 h2
   cases q1
   cases q2
   by_cases hab:a=b
   ·subst hab
    rw [aBy I hk d d2 _ m1 m2 h1 h2]
    exact .same _
   ·exact .of_refs hab (aIm I hk hu at1 at2 m2 (ih a xs k at1)).1
mutual
theorem aEt (I:Inv X pins σ H s) (hk:X.K=K):∀ (d:D) (A:Around) (d2:D) (v1 v2:V) (u1 u2:Value),A.units+dep d < cLine->dep d<=100->dep d2<=100->Rp K μ H d v1->Rp K μ H d2 v2->RelV v1 u1->RelV v2 u2->SeqAt.EqAt A s u1 u2 (eqD d d2)
 | .non,A,d2,v1,v2,u1,u2,hu,m1,m2,h1,h2,q1,q2=>hV I hk (by omega) h1 h2 q1 q2 m1 m2 fun a xs k z=>nomatch z
 | .bl x,A,d2,v1,v2,u1,u2,hu,m1,m2,h1,h2,q1,q2=>hV I hk (by omega) h1 h2 q1 q2 m1 m2 fun a xs k z=>nomatch z
 | .int x,A,d2,v1,v2,u1,u2,hu,m1,m2,h1,h2,q1,q2=>hV I hk (by omega) h1 h2 q1 q2 m1 m2 fun a xs k z=>nomatch z
 | .str x,A,d2,v1,v2,u1,u2,hu,m1,m2,h1,h2,q1,q2=>hV I hk (by omega) h1 h2 q1 q2 m1 m2 fun a xs k z=>nomatch z
 | .tup xs,A,d2,v1,v2,u1,u2,hu,m1,m2,h1,h2,q1,q2=>hV I hk (by omega) h1 h2 q1 q2 m1 m2 fun a ys k z=>by
  have e:xs=ys:=by cases z; rfl
  subst e
  exact kE I hk xs A.in1 (by simp only [dep] at hu; show A.units+1+deps xs < cLine; omega) (by simp only [dep] at m1; omega)
 | .lst xs,A,d2,v1,v2,u1,u2,hu,m1,m2,h1,h2,q1,q2=>hV I hk (by omega) h1 h2 q1 q2 m1 m2 fun a ys k z=>by
  have e:xs=ys:=by cases z; rfl
  subst e
  exact kE I hk xs A.in1 (by simp only [dep] at hu; show A.units+1+deps xs < cLine; omega) (by simp only [dep] at m1; omega)
 | .fz xs,A,d2,v1,v2,u1,u2,hu,m1,m2,h1,h2,q1,q2=>hV I hk (by omega) h1 h2 q1 q2 m1 m2 fun a ys k z=>by
  have e:xs=ys:=by cases z; rfl
  subst e
  exact kE I hk xs A.in1 (by simp only [dep] at hu; show A.units+1+deps xs < cLine; omega) (by simp only [dep] at m1; omega)
 | .exn c f xs,A,d2,v1,v2,u1,u2,hu,m1,m2,h1,h2,q1,q2=>by simp [dep] at m1
theorem kE (I:Inv X pins σ H s) (hk:X.K=K):∀ (xs:List D) (A:Around),A.units+deps xs < cLine->deps xs<=100->Eqs K μ H s A xs
 | [],A,hu,m=>fun j d h=>by simp at h
 | x::xs,A,hu,m=>fun j d h=>match j,h with
  | 0,h=>fun d2 v1 v2 u1 u2 m2 r1 r2 q1 q2=>by
   have e:d=x:=by simpa using h.symm
   rw [e] at r1 ⊢
   exact aEt I hk x A d2 v1 v2 u1 u2 (by simp only [deps] at hu; omega) (by simp only [deps] at m; omega) m2 r1 r2 q1 q2
  | j+1,h=>fun d2 v1 v2 u1 u2 m2 r1 r2 q1 q2=>kE I hk xs A (by simp only [deps] at hu; omega) (by simp only [deps] at m; omega) j d (by simpa using h) d2 v1 v2 u1 u2 m2 r1 r2 q1 q2
end
noncomputable def wd (M:Mm):W->Option D
 | .d x=>some x
 | .ref i=>(M[i]?).map D.lst
noncomputable def Rq (K:PySem.W.Frag) (μ:List Addr) (H:Hp) (d:D) (v:V):Prop:=Rp K μ H d v\/∃ a ds vs,d=.lst ds/\v=.ref a/\H a=some (.lst vs)/\Rps K μ H ds vs
theorem yT {w:W} {v:V} {d:D} (hr:HR K μ H M) (r:Rw K μ H w v) (h:wd M w=some d):Rq K μ H d v:=by
 cases w with
 | d x=>simp only [wd,Option.some.injEq] at h; subst h; exact .inl r
 | ref i =>
  simp only [wd,Option.map_eq_some_iff] at h
  obtain ⟨ds,h1,rfl⟩:=h
  obtain ⟨a,q,rfl⟩:=r
  obtain ⟨a',vs,q1,q2,q3⟩:=hr.at h1
  rw [q] at q1; cases q1
  exact .inr ⟨a,ds,vs,rfl,rfl,q2,q3⟩
theorem rC {d:D} {v:V} (n:fv d=none) (m:dep d<=100) (h:Rq K μ H d v):∃ a ds k,v=.ref a/\At K μ H d a ds k:=by
 rcases h with h | ⟨a,ds,vs,rfl,rfl,q1,q2⟩
 ·exact kS n m h
 ·exact ⟨a,ds,false,rfl,.lst (SqL.of q1) q2⟩
theorem aBt {d:D} {v w:V} (n:fv d=some w) (h:Rq K μ H d v):Rp K μ H d v:=by
 rcases h with h | ⟨a,ds,vs,rfl,rfl,q1,q2⟩
 ·exact h
 ·cases n
theorem aJo {d:D} {a:Addr} {xs:List D} {k:Bool} (h:At K μ H d a xs k):dep d=deps xs+1:=by cases h <;> rfl
noncomputable def pEq (x y:W) (M:Mm):Oc W:=match wd M x,wd M y with
 | some d,some e=>if dep d<=100/\dep e<=100 then .ok (.d (.bl (eqD d e))) M else .bad
 | _,_=>.bad
noncomputable def pNe (x y:W) (M:Mm):Oc W:=match wd M x,wd M y with
 | some d,some e=>if dep d<=100/\dep e<=100 then .ok (.d (.bl (!eqD d e))) M else .bad
 | _,_=>.bad
noncomputable def rEqD (K:PySem.W.Frag) (neg:Bool):R2:=fun v u H Q=>∃ μ d e,Rq K μ H d v/\Rq K μ H e u/\(dep d<=100/\dep e<=100)/\Q (.bl (if neg=true then !eqD d e else eqD d e)) H
theorem aMi (I:Inv X pins σ H s) (hk:X.K=K) {A:Around} {d d2:D} {v1 v2:V} {u1 u2:Value} (hu:A.units+dep d+1 < cLine) (m1:dep d<=100) (m2:dep d2<=100) (h1:Rq K μ H d v1) (h2:Rq K μ H d2 v2) (q1:RelV v1 u1) (q2:RelV v2 u2) :
  (SeqAt.RcAt A s u1 u2 (eqD d d2)/\SeqAt.RcNeAt A s u1 u2 (!eqD d d2)):=by
 have hu0:A.units < cLine:=by omega
 cases n1:fv d with
 | some w =>
  have h1:=aBt n1 h1
  cases n2:fv d2 with
  | some w2=>exact aHi n1 n2 h1 (aBt n2 h2) q1 q2
  | none =>
   obtain ⟨b,ys,k2,rfl,at2⟩:=rC n2 m2 h2
   cases q2
   rw [(iA n2 n1).2]
   obtain ⟨_,_,_,_,x,y⟩:=mU I hk hu0 at2 n1 h1 q1
   exact ⟨x,y⟩
 | none =>
  obtain ⟨a,xs,k,rfl,at1⟩:=rC n1 m1 h1
  cases q1
  cases n2:fv d2 with
  | some w2 =>
   rw [(iA n1 n2).1]
   obtain ⟨_,_,x,y,_⟩:=mU I hk hu0 at1 n2 (aBt n2 h2) q2
   exact ⟨x,y⟩
  | none =>
   obtain ⟨b,ys,k2,rfl,at2⟩:=rC n2 m2 h2
   cases q2
   have:=aJo at1
   exact aIm I hk hu0 at1 at2 m2 (kE I hk xs A.in1 (by show A.units+1+deps xs < cLine; omega) (by omega))
theorem aIs (hu:X.A.units+101 < cLine):OpR X (compareOp .Eq) (rEqD X.K false):=by
 intro pins s σ H x y v u Q I rx ry h
 obtain ⟨μ,d,e,h1,h2,h3,q⟩:=h
 exact (aMi I rfl (A:=X.A) (by omega) h3.1 h3.2 h1 h2 rx ry).1 _ _ _ _ ⟨.bl _,H,I,rfl,q⟩
theorem aJl (hu:X.A.units+101 < cLine):OpR X (compareOp .NotEq) (rEqD X.K true):=by
 intro pins s σ H x y v u Q I rx ry h
 obtain ⟨μ,d,e,h1,h2,h3,q⟩:=h
 exact (aMi I rfl (A:=X.A) (by omega) h3.1 h3.2 h1 h2 rx ry).2 _ _ _ _ ⟨.bl _,H,I,rfl,q⟩
theorem opEq (hu:X.A.units+101 < cLine):OpG X K Z (compareOp .Eq) pEq:=fun hk=>⟨_,hk▸aIs hu,by
 intro μ H M x y v u Q hr rx ry p
 unfold pEq at p
 cases q1:wd M x with
 | none=>rw [q1] at p; exact p.elim
 | some d=>cases q2:wd M y with
  | none=>rw [q1,q2] at p; exact p.elim
  | some e =>
   rw [q1,q2] at p
   simp only at p
   split at p
   ·exact ⟨μ,d,e,yT hr rx q1,yT hr ry q2,by assumption,p μ H .refl hr _ (by simp [Rw,Rp])⟩
   ·exact p.elim⟩
theorem opNe (hu:X.A.units+101 < cLine):OpG X K Z (compareOp .NotEq) pNe:=fun hk=>⟨_,hk▸aJl hu,by
 intro μ H M x y v u Q hr rx ry p
 unfold pNe at p
 cases q1:wd M x with
 | none=>rw [q1] at p; exact p.elim
 | some d=>cases q2:wd M y with
  | none=>rw [q1,q2] at p; exact p.elim
  | some e =>
   rw [q1,q2] at p
   simp only at p
   split at p
   ·exact ⟨μ,d,e,yT hr rx q1,yT hr ry q2,by assumption,p μ H .refl hr _ (by simp [Rw,Rp])⟩
   ·exact p.elim⟩
end
end EV
namespace EV
open PySem PySem.Spec PyProof.Rows L2
section
variable {X:Cx} {K:PySem.W.Frag} {Z:Zt} {μ:List Addr} {H:Hp} {M:Mm} {e a b o:Expr} {es:List Expr} {pos:Pos} {f fa fb fo:FE} {fs:FA}
@[irreducible] noncomputable def lid:Nat:=2 ^ 4096
theorem uI {i:Int} (h:i.natAbs < lid):Builtin.Int.intBits i<=4096:=by unfold lid at h; exact intBits_le_iff.mpr h
noncomputable def mulOk (i j:Int):Bool:=decide ((-18446744073709551616 < i/\i < 18446744073709551616)\/(-18446744073709551616 < j/\j < 18446744073709551616)\/(i.natAbs < lid/\j.natAbs < lid))
theorem aGm:OpR X (binaryOp .Mult) (rI (fun i j=>CMul i j\/(i.natAbs < lid/\j.natAbs < lid)) fun i j=>.int (i*j)):=L2.opI fun _ _ _ _ _ _ _ hc q=>mul_int q (by
 rcases hc with hc | ⟨h1,h2⟩
 ·exact hc.ok
 ·exact mulOk_of_bits (uI h1) (uI h2) (by omega))
noncomputable def pMul (x y:W) (M:Mm):Oc W:=match x,y with
 | .d (.int i),.d (.int j)=>if mulOk i j=true then .ok (.d (.int (i*j))) M else .bad
 | x,.d (.int k)=>match lv M x with
  | some xs=>if xs.length*k.toNat<=16777216/\k < 9223372036854775808 /\ -9223372036854775808<=k then .ok (.d (.lst (List.replicate k.toNat xs).flatten)) M else .bad
  | none=>.bad
 | _,_=>.bad
theorem sK {x:W} {v:V} {k:Int} {Q:VK} (hr:HR K μ H M) (rx:Rw K μ H x v) (p:Pst K Z μ H (match lv M x with
  | some xs=>if xs.length*k.toNat<=16777216/\k < 9223372036854775808 /\ -9223372036854775808<=k then .ok (.d (.lst (List.replicate k.toNat xs).flatten)) M else .bad
  | none=>.bad) (Wk K Q)):rRep v (.int k) H Q:=by
 cases q1:lv M x with
 | none=>rw [q1] at p; exact p.elim
 | some xs =>
  rw [q1] at p
  simp only at p
  split at p
  ·rename_i hz
   obtain ⟨a,vs,rfl,h1,r1⟩:=mC hr rx q1
   exact ⟨a,k,vs,rfl,rfl,h1,hz.2.2,hz.2.1,by rw [<- r1.length,sizeLine_eq]; exact hz.1,hG hr (r1.rep k.toNat) p⟩
  ·exact p.elim
theorem opMul:OpG X K Z (binaryOp .Mult) pMul:=fun hk=>by
 refine ⟨_,OpR.or aGm aEj,?_⟩
 intro μ H M x y v u Q hr rx ry p
 cases y with
 | ref j=>cases x with
  | ref i=>exact p.elim
  | d x=>cases x <;> exact p.elim
 | d y=>cases y with
  | int k =>
   have ry':u=.int k:=by simpa only [Rw,Rp] using ry
   subst ry'
   cases x with
   | ref i=>exact .inr (sK hr rx p)
   | d x=>cases x with
    | int i =>
     simp only [pMul] at p
     simp only [Rw,Rp] at rx
     split at p
     ·rename_i hz
      refine .inl ⟨i,k,rx,rfl,?_,p μ H .refl hr _ (by simp [Rw,Rp])⟩
      simp only [mulOk,decide_eq_true_eq] at hz
      rcases hz with hz | hz | hz
      ·exact .inl (.inl hz)
      ·exact .inl (.inr hz)
      ·exact .inr hz
     ·exact p.elim
    | _=>exact .inr (sK hr rx p)
  | _=>cases x with
   | ref i=>exact p.elim
   | d x=>cases x <;> exact p.elim
noncomputable def pNeg (x:W) (M:Mm):Oc W:=match x with
 | .d (.int i)=>.ok (.d (.int (-i))) M
 | _=>.bad
theorem aKa (ha:Ev X K Z a fa):Ev X K Z (.UnaryOp .USub a pos) (e1 pNeg fa):=by
 refine ⟨ha.k,cqE (aNk aIt ha.h) ?_⟩
 rintro σ H Q ⟨μ,M,L,hr,lr,p⟩
 refine ⟨μ,M,L,hr,lr,p.bind.imp fun μ1 H1 M1 x e1 hr1 _ p1 v rx=>?_⟩
 cases x with
 | ref i=>exact p1.elim
 | d x=>cases x with
  | int i=>simp only [Rw,Rp] at rx; exact ⟨i,rx,p1 μ1 H1 .refl hr1 _ (by simp [Rw,Rp])⟩
  | _=>exact p1.elim
noncomputable def pNot (x:W) (M:Mm):Oc W:=match x with
 | .d (.bl b)=>.ok (.d (.bl (!b))) M
 | _=>.bad
noncomputable def eAnd (f g:FE):FE:=fun L M=>(f L M).bind fun x M1=>match x with
 | .d (.bl true)=>g L M1
 | .d (.bl false)=>.ok (.d (.bl false)) M1
 | _=>.bad
noncomputable def eOr (f g:FE):FE:=fun L M=>(f L M).bind fun x M1=>match x with
 | .d (.bl true)=>.ok (.d (.bl true)) M1
 | .d (.bl false)=>g L M1
 | _=>.bad
variable {rest:List Expr}
noncomputable def eIf (t:FT) (f g:FE):FE:=fun L M=>(t L M).bind fun c M1=>if c=true then f L M1 else g L M1
theorem aCp {c:Expr} {t:FT} (hc:Et X K Z c t) (ha:Ev X K Z a fa) (hb:Ev X K Z b fb):Ev X K Z (.IfExp c a b pos) (eIf t fa fb):=by
 refine ⟨ha.k,cqE (aDi hc.h ha.h hb.h) ?_⟩
 rintro σ H Q ⟨μ,M,L,hr,lr,p⟩
 refine ⟨μ,M,L,hr,lr,p.bind.imp fun μ1 H1 M1 x e1 hr1 _ p1=>?_⟩
 cases x with
 | true=>exact ⟨μ1,M1,L,hr1,lr.ext hr.lsts e1,p1⟩
 | false=>exact ⟨μ1,M1,L,hr1,lr.ext hr.lsts e1,p1⟩
noncomputable def pIx (x y:W) (M:Mm):Oc W:=match y with
 | .d (.int i)=>match x with
  | .d (.str z)=>match atI z.cps.toList i with
   | some c=>if z.length<=16777216 then .ok (.d (.str ⟨#[c]⟩)) M else .bad
   | none=>.bad
  | x=>match sv M x with
   | some xs=>match atI xs i with
    | some d=>.ok (.d d) M
    | none=>.bad
   | none=>.bad
 | _=>.bad
theorem aJk {ds:List D} {vs:List V} {i:Int} {d:D} (r:Rps K μ H ds vs) (h:atI ds i=some d):∃ v,atI vs i=some v/\Rp K μ H d v:=by
 unfold atI at h ⊢
 rw [r.length] at h
 cases q:ixN vs.length i with
 | none=>rw [q] at h; cases h
 | some j=>rw [q] at h; exact r.get h
theorem yV {x:W} {v:V} {i:Int} {Q:VK} (hr:HR K μ H M) (rx:Rw K μ H x v) (p:Pst K Z μ H (match sv M x with
   | some xs=>match atI xs i with
    | some d=>Oc.ok (.d d) M
    | none=>.bad
   | none=>.bad) (Wk K Q)):rIx K v (.int i) H Q:=by
 cases q1:sv M x with
 | none=>rw [q1] at p; exact p.elim
 | some xs =>
  rw [q1] at p
  cases q2:atI xs i with
  | none=>simp only [q2] at p; exact p.elim
  | some d =>
   simp only [q2] at p
   obtain ⟨a,vs,rfl,h1,r1⟩:=tZ hr rx q1
   obtain ⟨v,h2,r2⟩:=aJk r1 q2
   have q:=p μ H .refl hr v r2
   rcases h1 with h1 | h1
   ·exact .inl ⟨a,vs,i,v,rfl,rfl,h1,h2,q⟩
   ·exact .inr (.inl ⟨a,vs,i,v,rfl,rfl,h1,h2,q⟩)
theorem aLx:Op2 K Z (rIx K) pIx:=by
 intro μ H M x y v u Q hr rx ry p
 cases y with
 | ref j=>exact p.elim
 | d y=>cases y with
  | int i =>
   have:u=.int i:=by simpa only [Rw,Rp] using ry
   subst this
   cases x with
   | ref j=>exact yV hr rx p
   | d x=>cases x with
    | str z =>
     simp only [Rw,Rp] at rx
     simp only [pIx] at p
     cases q:atI z.cps.toList i with
     | none=>simp only [q] at p; exact p.elim
     | some c =>
      simp only [q] at p
      split at p
      ·exact .inr (.inr ⟨z,i,c,rx,rfl,by rw [sizeLine_eq]; assumption,q,p μ H .refl hr _ (by simp [Rw,Rp])⟩)
      ·exact p.elim
    | _=>exact yV hr rx p
  | _=>exact p.elim
theorem aN (ha:Ev X K Z a fa) (hb:Ev X K Z b fb) (hs:PlainIx b:=by intro _ _; rfl):Ev X K Z (.Subscript a b pos) (e2 pIx fa fb):=by
 have h:=aMx (pos:=pos) (aLp (X:=X)) ha.h hb.h hs
 rw [ha.k] at h
 exact ⟨ha.k,cqE h (lift2 aLx)⟩
noncomputable def aNil:FA:=fun _ M=>.ok [] M
noncomputable def aCons (f:FE) (g:FA):FA:=fun L M=>(f L M).bind fun w M1=>(g L M1).bind fun ws M2=>.ok (w::ws) M2
theorem aD (hk:X.K=K:=by rfl):Ea X K Z [] aNil:=⟨hk,cqA fK fun σ H Q ⟨μ,M,L,hr,lr,p⟩=>p μ H .refl hr [] rfl⟩
theorem aB (ha:Ev X K Z e fa) (hr:Ea X K Z es fs) (hs:starEach (e::es) X.env=(false,eval e X.env)::starEach es X.env:=by rfl):Ea X K Z (e::es) (aCons fa fs):=by
 refine ⟨ha.k,cqA (cZ ha.h hr.h hs) ?_⟩
 rintro σ H Q ⟨μ,M,L,hr,lr,p⟩
 refine ⟨μ,M,L,hr,lr,p.bind.imp fun μ1 H1 M1 x e1 hr1 _ p1 v rx=>?_⟩
 refine ⟨μ1,M1,L,hr1,lr.ext hr.lsts e1,p1.bind.imp fun μ2 H2 M2 y e2 hr2 _ p2 us ry=>?_⟩
 exact p2 μ2 H2 .refl hr2 (v::us) ⟨v,us,rfl,rx.ext hr1.lsts e2,ry⟩
noncomputable def allD:List W->Option (List D)
 | []=>some []
 | .d x::ws=>(allD ws).map (x::·)
 | .ref _::_=>none
theorem lA:∀ {ws:List W} {vs:List V} {ds:List D},Rws K μ H ws vs->allD ws=some ds->Rps K μ H ds vs
 | [],_,_,h,q=>by cases h; simp only [allD,Option.some.injEq] at q; subst q; exact .nil
 | .d x::ws,_,_,⟨v,r,e1,e2,e3⟩,q=>by
  simp only [allD,Option.map_eq_some_iff] at q
  obtain ⟨ds,q1,rfl⟩:=q
  subst e1
  exact .cons e2 (lA e3 q1)
 | .ref i::ws,_,_,_,q=>by simp [allD] at q
noncomputable def mkT (ws:List W) (M:Mm):Oc W:=match allD ws with
 | some ds=>if ds.length<=16777216 then okD (.tup ds) M else .bad
 | none=>.bad
noncomputable def mkL (ws:List W) (M:Mm):Oc W:=match allD ws with
 | some ds=>if ds.length<=16777216 then okD (.lst ds) M else .bad
 | none=>.bad
noncomputable def mkR (ws:List W) (M:Mm):Oc W:=match allD ws with
 | some ds=>if ds.length<=16777216 then .ok (.ref M.length) (M++[ds]) else .bad
 | none=>.bad
noncomputable def eA (g:List W->Mm->Oc W) (fs:FA):FE:=fun L M=>(fs L M).bind g
theorem bN {x1} (h:Ea X K Z es fs):Ev X K Z (.Tuple es x1 pos) (eA mkT fs):=by
 refine ⟨h.k,cqE (aLi h.h) ?_⟩
 rintro σ H Q ⟨μ,M,L,hr,lr,p⟩
 refine ⟨μ,M,L,hr,lr,p.bind.imp fun μ1 H1 M1 ws e1 hr1 _ p1 vs rx=>?_⟩
 unfold mkT at p1
 cases q:allD ws with
 | none=>rw [q] at p1; exact p1.elim
 | some ds =>
  rw [q] at p1
  simp only at p1
  split at p1
  ·have r:=lA rx q
   exact ⟨by rw [<- r.length,sizeLine_eq]; assumption,jK hr1 r p1⟩
  ·exact p1.elim
theorem fL (h:Ea X K Z es fs):Ev X K Z (.List es pos) (eA mkL fs):=by
 refine ⟨h.k,cqE (wJ h.h) ?_⟩
 rintro σ H Q ⟨μ,M,L,hr,lr,p⟩
 refine ⟨μ,M,L,hr,lr,p.bind.imp fun μ1 H1 M1 ws e1 hr1 _ p1 vs rx=>?_⟩
 unfold mkL at p1
 cases q:allD ws with
 | none=>rw [q] at p1; exact p1.elim
 | some ds =>
  rw [q] at p1
  simp only at p1
  split at p1
  ·have r:=lA rx q
   exact ⟨by rw [<- r.length,sizeLine_eq]; assumption,hG hr1 r p1⟩
  ·exact p1.elim
theorem rG (h:Ea X K Z es fs):Ev X K Z (.List es pos) (eA mkR fs):=by
 refine ⟨h.k,cqE (wJ h.h) ?_⟩
 rintro σ H Q ⟨μ,M,L,hr,lr,p⟩
 refine ⟨μ,M,L,hr,lr,p.bind.imp fun μ1 H1 M1 ws e1 hr1 _ p1 vs rx=>?_⟩
 unfold mkR at p1
 cases q:allD ws with
 | none=>rw [q] at p1; exact p1.elim
 | some ds =>
  rw [q] at p1
  simp only at p1
  split at p1
  ·have r:=lA rx q
   exact ⟨by rw [<- r.length,sizeLine_eq]; assumption,mY hr1 r p1⟩
  ·exact p1.elim
noncomputable def eInts (ns:List Int):FE:=fun _ M=>.ok (.d (.lst (ns.map D.int))) M
theorem wV {ns:List Int} (h:IntsE es ns) (hn:ns.length<=16777216:=by decide) (hk:X.K=K:=by rfl):Ev X K Z (.List es pos) (eInts ns):=by
 refine ⟨hk,cqE (wJ (aFm h)) ?_⟩
 rintro σ H Q ⟨μ,M,L,hr,lr,p⟩
 exact ⟨by rw [List.length_map,sizeLine_eq]; exact hn,hG hr Rps.ints p⟩
noncomputable def Cl (K:PySem.W.Frag) (Z:Zt) (r:List V->Hp->VK->Prop) (g:List W->Mm->Oc W):Prop :=
 ∀ (μ:List Addr) (H:Hp) (M:Mm) (ws:List W) (vs:List V) (Q:VK),HR K μ H M->Rws K μ H ws vs->Pst K Z μ H (g ws M) (Wk K Q)->r vs H Q
noncomputable def ClG (X:Cx) (K:PySem.W.Frag) (Z:Zt) (f:Value) (g:List W->Mm->Oc W):Prop:=X.K=K->∃ r,CallR X f r/\Cl K Z r g
theorem liftC {r:List V->Hp->VK->Prop} {g:List W->Mm->Oc W} (h:Cl K Z r g):∀ σ H Q,lift K Z (eA g fs) σ H Q->tCB r (liftA K Z fs) σ H Q:=by
 rintro σ H Q ⟨μ,M,L,hr,lr,p⟩
 exact ⟨μ,M,L,hr,lr,p.bind.imp fun μ1 H1 M1 ws e1 hr1 _ p1 vs rx=>h μ1 H1 M1 ws vs Q hr1 rx p1⟩
theorem dJ {x:Str} {p:Pos} {id:String} {g:List W->Mm->Oc W} (hc:ClG X K Z (.builtin id) g) (hg:Gl X x) (hm:X.mg x=none) (hv:bootBuiltins x=some (.builtin id)) (ha:Ea X K Z (e::es) fs)
  (hn:x≠"__name__":=by decide) (hdb:(x==("__debug__":Str))=false:=by decide) (he:starEach (e::es) X.env=(false,eval e X.env)::starEach es X.env:=by rfl)
  (hpl:(backTo pos (starEach es X.env)).any (·.1)=false:=by rfl):Ev X K Z (.Call (.Name x p) (e::es) [] pos) (eA g fs):=by
 obtain ⟨r,h1,h2⟩:=hc ha.k
 exact ⟨ha.k,cqE (aBe h1 hg hm hv ha.h hn hdb he hpl) (liftC h2)⟩
theorem aQ {x:Str} {p:Pos} {T:String} {g:List W->Mm->Oc W} (hc:ClG X K Z (.type T) g) (hg:Gl X x) (hm:X.mg x=none) (hv:bootBuiltins x=some (.type T)) (ha:Ea X K Z (e::es) fs)
  (hn:x≠"__name__":=by decide) (hdb:(x==("__debug__":Str))=false:=by decide) (he:starEach (e::es) X.env=(false,eval e X.env)::starEach es X.env:=by rfl)
  (hpl:(backTo pos (starEach es X.env)).any (·.1)=false:=by rfl):Ev X K Z (.Call (.Name x p) (e::es) [] pos) (eA g fs):=by
 obtain ⟨r,h1,h2⟩:=hc ha.k
 exact ⟨ha.k,cqE (lI h1 hg hm hv ha.h hn hdb he hpl) (liftC h2)⟩
noncomputable def cLen (ws:List W) (M:Mm):Oc W:=match ws with
 | [.d (.str z)]=>if z.length<=16777216 then .ok (.d (.int z.length)) M else .bad
 | [w]=>match sv M w with
  | some xs=>.ok (.d (.int xs.length)) M
  | none=>.bad
 | _=>.bad
theorem tP {w:W} {v:V} {Q:VK} (hr:HR K μ H M) (rx:Rw K μ H w v) (p:Pst K Z μ H (match sv M w with
  | some xs=>Oc.ok (.d (.int xs.length)) M
  | none=>.bad) (Wk K Q)):∃ p ys,[v]=[V.ref p]/\(SqL K H p ys\/SqT K H p ys)/\Q (.int ys.length) H:=by
 cases q1:sv M w with
 | none=>rw [q1] at p; exact p.elim
 | some xs =>
  rw [q1] at p
  obtain ⟨a,vs,rfl,h1,r1⟩:=tZ hr rx q1
  exact ⟨a,vs,rfl,h1,p μ H .refl hr _ (by simp [Rw,Rp,r1.length])⟩
theorem callLen:ClG X K Z (.builtin "len") cLen:=fun hk=>by
 refine ⟨_,CallR.or (hk▸rV) sH,?_⟩
 intro μ H M ws vs Q hr rx p
 match ws,rx,p with
 | [],_,p=>exact p.elim
 | .ref i::[],⟨v,r,e1,e2,e3⟩,p=>cases e3; subst e1; exact .inl (tP hr e2 p)
 | .d x::[],⟨v,r,e1,e2,e3⟩,p =>
  cases e3; subst e1
  cases x with
  | str z =>
   simp only [cLen] at p
   simp only [Rw,Rp] at e2
   subst e2
   split at p
   ·exact .inr ⟨z,rfl,by rw [sizeLine_eq]; assumption,p μ H .refl hr _ (by simp [Rw,Rp])⟩
   ·exact p.elim
  | _=>exact .inl (tP hr e2 p)
 | .ref i::_::_,_,p=>exact p.elim
 | .d x::_::_,_,p=>cases x <;> exact p.elim
noncomputable def cInt (ws:List W) (M:Mm):Oc W:=match ws with
 | [.d (.int i)]=>.ok (.d (.int i)) M
 | [.d (.bl k)]=>.ok (.d (.int (if k=true then 1 else 0))) M
 | _=>.bad
theorem callInt:ClG X K Z (.type "int") cInt:=fun hk=>by
 refine ⟨_,zI,?_⟩
 intro μ H M ws vs Q hr rx p
 match ws,rx,p with
 | [],_,p=>exact p.elim
 | .ref i::_,_,p=>exact p.elim
 | .d x::[],⟨v,r,e1,e2,e3⟩,p =>
  cases e3; subst e1
  cases x with
  | int i=>simp only [Rw,Rp] at e2; subst e2; exact .inl ⟨i,rfl,p μ H .refl hr _ (by simp [Rw,Rp])⟩
  | bl k=>simp only [Rw,Rp] at e2; subst e2; exact .inr ⟨k,rfl,p μ H .refl hr _ (by simp [Rw,Rp])⟩
  | _=>exact p.elim
 | .d x::_::_,_,p=>cases x <;> exact p.elim
noncomputable def cMax2 (ws:List W) (M:Mm):Oc W:=match ws with
 | [.d (.int i),.d (.int j)]=>.ok (.d (.int (if j > i then j else i))) M
 | _=>.bad
noncomputable def cMin2 (ws:List W) (M:Mm):Oc W:=match ws with
 | [.d (.int i),.d (.int j)]=>.ok (.d (.int (if j < i then j else i))) M
 | _=>.bad
theorem callMax2 (hc:X.calm=true):ClG X K Z (.builtin "max") cMax2:=fun hk=>by
 refine ⟨_,yZ hc,?_⟩
 intro μ H M ws vs Q hr rx p
 unfold cMax2 at p
 split at p
 ·obtain ⟨v,r,e1,e2,v',r',e1',e2',e3⟩:=rx
  simp only [Rw,Rp] at e2 e2'
  cases e3; subst e1' e1 e2 e2'
  exact ⟨_,_,rfl,p μ H .refl hr _ (by simp [Rw,Rp])⟩
 ·exact p.elim
noncomputable def cListR (ws:List W) (M:Mm):Oc W:=match ws with
 | [w]=>match sv M w with
  | some xs=>.ok (.ref M.length) (M++[xs])
  | none=>.bad
 | _=>.bad
noncomputable def cTup (ws:List W) (M:Mm):Oc W:=match ws with
 | [w]=>match sv M w with
  | some xs=>okD (.tup xs) M
  | none=>.bad
 | _=>.bad
theorem xB {g:List D->Oc W} {ws:List W} {vs:List V} {Q:List Addr->Hp->Mm->W->Prop} (hr:HR K μ H M) (rx:Rws K μ H ws vs) (p:Pst K Z μ H (match ws with
 | [w]=>match sv M w with
  | some xs=>g xs
  | none=>.bad
 | _=>.bad) Q):∃ w a us xs,ws=[w]/\vs=[.ref a]/\sv M w=some xs/\Rw K μ H w (.ref a)/\(SqL K H a us\/SqT K H a us)/\Rps K μ H xs us/\Pst K Z μ H (g xs) Q:=by
 match ws,rx,p with
 | [],_,p=>exact p.elim
 | [w],⟨v,r,e1,e2,e3⟩,p =>
  cases e3; subst e1
  simp only at p
  cases q:sv M w with
  | none=>rw [q] at p; exact p.elim
  | some xs =>
   rw [q] at p
   obtain ⟨a,us,rfl,h1,r1⟩:=tZ hr e2 q
   exact ⟨w,a,us,xs,rfl,rfl,q,e2,h1,r1,p⟩
 | _::_::_,_,p=>exact p.elim
theorem callListR:ClG X K Z (.type "list") cListR:=fun hk=>by
 refine ⟨_,hk▸sG,?_⟩
 intro μ H M ws vs Q hr rx p
 obtain ⟨w,a,us,xs,rfl,rfl,q,e2,h1,r1,p⟩:=xB hr rx p
 exact ⟨a,us,rfl,h1,mY hr r1 p⟩
theorem callTup:ClG X K Z (.type "tuple") cTup:=fun hk=>by
 refine ⟨_,hk▸pM,?_⟩
 intro μ H M ws vs Q hr rx p
 obtain ⟨w,a,us,xs,rfl,rfl,q,e2,h1,r1,p⟩:=xB hr rx p
 by_cases hw:∃ ys,w=.d (.tup ys)
 ·obtain ⟨ys,rfl⟩:=hw
  simp only [sv,Option.some.injEq] at q
  subst q
  have e2':=e2
  simp only [Rw,Rp] at e2
  obtain ⟨a',vs',ea,h1',r1'⟩:=e2
  cases ea
  exact ⟨a,vs',rfl,.inr ⟨SqT.of h1',p μ H .refl hr _ e2'⟩⟩
 ·have hl:lr M w=some xs:=by
   cases w with
   | ref i=>exact q
   | d x=>cases x <;> first | exact q | exact (hw ⟨_,rfl⟩).elim
  obtain ⟨a',vs',ea,h1',r1'⟩:=uA hr e2 hl
  cases ea
  exact ⟨a,vs',rfl,.inl ⟨h1',jK hr r1' p⟩⟩
end
end EV
namespace EV
open PySem PySem.Spec PyProof.Rows L2
section
variable {X:Cx} {K:PySem.W.Frag} {Z:Zt} {μ:List Addr} {H:Hp} {M:Mm} {e a b o:Expr} {es:List Expr} {pos:Pos} {f fa fb fo:FE} {fs:FA}
variable {st:Stmt} {rest:List Stmt} {F G:FS}
noncomputable def sNil:FS:=fun L M=>.ok (.nx L) M
noncomputable def sSeq (F G:FS):FS:=fun L M=>(F L M).bind fun o M1=>match o with
 | .nx L1=>G L1 M1
 | .bk L1=>.ok (.bk L1) M1
 | .ct L1=>.ok (.ct L1) M1
 | .rt w=>.ok (.rt w) M1
theorem bT (hk:X.K=K:=by rfl):Ess X K Z [] sNil:=⟨hk,cqSs aGo fun E σ H ⟨μ,M,L,hr,lr,p⟩=>p μ H .refl hr σ lr⟩
theorem aE (h1:Es X K Z st F) (h2:Ess X K Z rest G):Ess X K Z (st::rest) (sSeq F G):=by
 refine ⟨h1.k,cqSs (aEp h1.h h2.h) ?_⟩
 rintro E σ H ⟨μ,M,L,hr,lr,p⟩
 refine ⟨μ,M,L,hr,lr,p.bind.imp fun μ1 H1 M1 o e1 hr1 _ p1=>?_⟩
 cases o with
 | nx L1=>exact fun σ' lr'=>⟨μ1,M1,L1,hr1,lr',p1⟩
 | bk L1=>exact p1 μ1 H1 .refl hr1
 | ct L1=>exact p1 μ1 H1 .refl hr1
 | rt w=>exact p1 μ1 H1 .refl hr1
theorem aG (h1:Es X K Z st F):Ess X K Z [st] F:=⟨h1.k,aGb h1.h⟩
noncomputable def sBk:FS:=fun L M=>.ok (.bk L) M
noncomputable def sCt:FS:=fun L M=>.ok (.ct L) M
noncomputable def sEx (f:FE):FS:=fun L M=>(f L M).bind fun _ M1=>.ok (.nx L) M1
theorem yP (h:Ev X K Z e f) (hs:swapsWith e none pos.line X.env=pure false:=by rfl):Es X K Z (.Expr e pos) (sEx f):=by
 refine ⟨h.k,cqS (aFa h.h hs) ?_⟩
 rintro E σ H ⟨μ,M,L,hr,lr,p⟩
 exact ⟨μ,M,L,hr,lr,p.bind.imp fun μ1 H1 M1 x e1 hr1 _ p1 v rx=>p1 μ1 H1 .refl hr1 σ (lr.ext hr.lsts e1)⟩
noncomputable def sRt (f:FE):FS:=fun L M=>(f L M).bind fun w M1=>.ok (.rt w) M1
theorem aP (h:Ev X K Z e f):Es X K Z (.Return (some e) pos) (sRt f):=by
 refine ⟨h.k,cqS (aKh h.h) ?_⟩
 rintro E σ H ⟨μ,M,L,hr,lr,p⟩
 exact ⟨μ,M,L,hr,lr,p.bind.imp fun μ1 H1 M1 x e1 hr1 _ p1 v rx=>p1 μ1 H1 .refl hr1 v rx⟩
noncomputable def sIf (t:FT) (F G:FS):FS:=fun L M=>(t L M).bind fun b M1=>if b=true then F L M1 else G L M1
theorem dH {c:Expr} {p q:List Stmt} {t:FT} (hc:Et X K Z c t) (ha:Ess X K Z p F) (hb:Ess X K Z q G):Es X K Z (.If c p q pos) (sIf t F G):=by
 refine ⟨hc.k,cqS (aNj hc.h ha.h hb.h) ?_⟩
 rintro E σ H ⟨μ,M,L,hr,lr,p⟩
 refine ⟨μ,M,L,hr,lr,p.bind.imp fun μ1 H1 M1 x e1 hr1 _ p1=>?_⟩
 cases x with
 | true=>exact ⟨μ1,M1,L,hr1,lr.ext hr.lsts e1,p1⟩
 | false=>exact ⟨μ1,M1,L,hr1,lr.ext hr.lsts e1,p1⟩
noncomputable def gN (i:Nat):FG:=fun w L M=>.ok (L.set i (some w)) M
theorem LR.set {L:Lc} {σ:St} {i:Nat} {w:W} {v:V} (h:LR K μ H L σ) (r:Rw K μ H w v):LR K μ H (L.set i (some w)) (σ.set i (some v)) where
 len:=by simp [h.len]
 ent:=fun j u q=>by
  by_cases hj:i=j
  ·subst hj
   have hl:i < L.length:=by
    by_cases hl:i < L.length
    ·exact hl
    ·rw [List.set_eq_of_length_le (by omega)] at q
     rw [List.getElem?_eq_none (by omega)] at q; cases q
   rw [List.getElem?_set_self hl] at q
   cases q
   exact ⟨v,by rw [List.getElem?_set_self (by rw [<- h.len]; exact hl)],r⟩
  ·rw [List.getElem?_set_ne hj] at q
   obtain ⟨x,q1,q2⟩:=h.ent j u q
   exact ⟨x,by rw [List.getElem?_set_ne hj]; exact q1,q2⟩
theorem aK {i:Nat} {x:Str} (hN:X.N.Nodup) (hi:X.N[i]?=some x:=by rfl) (hx:Loc X.env.scope x:=by first | exact Or.inl rfl | exact Or.inr rfl) (hk:X.K=K:=by rfl) (hf:X.fn x=true\/X.env.scope.names.lookup x=some .local:=by first | exact .inl rfl | exact .inr rfl | assumption) :
  Eg X K Z (.Name x pos) (gN i):=⟨hk,cqG (aHp hN hi hx hf) fun v σ H Q ⟨μ,M,L,w,hr,lr,rx,p⟩=>p μ H .refl hr _ (lr.set rx)⟩
noncomputable def gsNil:FGs:=fun ds L M=>match ds with
 | []=>.ok L M
 | _=>.bad
noncomputable def gsCons (g:FG) (gs:FGs):FGs:=fun ds L M=>match ds with
 | d::r=>(g (.d d) L M).bind fun L1 M1=>gs r L1 M1
 | []=>.bad
theorem cL (hk:X.K=K:=by rfl):Egs X K Z [] gsNil:=⟨hk,cqGs aFf fun vs σ H Q ⟨μ,M,L,ds,hr,lr,rx,p⟩=>by
 cases ds with
 | nil=>simp only [Rps] at rx; exact ⟨rx,p μ H .refl hr σ lr⟩
 | cons d r=>exact p.elim⟩
theorem aO {g:FG} {gs:FGs} (h1:Eg X K Z e g) (h2:Egs X K Z es gs) (hs:(assignEach (e::es) X.env).map (·.2)=assign e X.env::(assignEach es X.env).map (·.2):=by rfl):Egs X K Z (e::es) (gsCons g gs) :=
 ⟨h1.k,cqGs (aCm h1.h h2.h hs) fun vs σ H Q ⟨μ,M,L,ds,hr,lr,rx,p⟩=>by
  cases ds with
  | nil=>exact p.elim
  | cons d r =>
   simp only [Rps] at rx
   obtain ⟨v,vr,e1,rd,rr⟩:=rx
   refine ⟨v,vr,e1,μ,M,L,.d d,hr,lr,rd,p.bind.imp fun μ1 H1 M1 L1 e1 hr1 _ p1 σ1 lr1=>?_⟩
   exact ⟨μ1,M1,L1,r,hr1,lr1,Rps.ext hr.lsts e1 _ _ rr,p1⟩⟩
noncomputable def gT (n:Nat) (gs:FGs):FG:=fun w L M=>match w with
 | .d (.tup xs)=>if xs.length=n then gs xs L M else .bad
 | _=>.bad
theorem dY {k n:Nat} {gs:FGs} (hc:X.calm=true) (h:Egs X K Z es gs) (hn:(assignEach es X.env).length=n:=by rfl) (hst:(assignEach es X.env).findIdx? (·.1)=none:=by rfl):Eg X K Z (.Tuple es k pos) (gT n gs):=by
 have h':=aLn (k:=k) (pos:=pos) hc h.h hn hst
 rw [h.k] at h'
 refine ⟨h.k,cqG h' fun v σ H Q ⟨μ,M,L,w,hr,lr,rx,p⟩=>?_⟩
 cases w with
 | ref i=>exact p.elim
 | d x=>cases x with
  | tup xs =>
   simp only [gT] at p
   split at p
   ·simp only [Rw,Rp] at rx
    obtain ⟨a,vs,e1,q1,r1⟩:=rx
    exact ⟨a,vs,e1,SqT.of q1,by rw [<- r1.length]; assumption,μ,M,L,xs,hr,lr,r1,p⟩
   ·exact p.elim
  | _=>exact p.elim
noncomputable def gS (fo fi:FE):FG:=fun w L M=>(fo L M).bind fun o M1=>(fi L M1).bind fun i M2=>match o,i,w with
 | .ref k,.d (.int j),.d x=>match M2[k]? with
  | some xs=>match ixN xs.length j with
   | some t=>.ok L (M2.set k (xs.set t x))
   | none=>.bad
  | none=>.bad
 | _,_,_=>.bad
theorem kB {i:Expr} {fi:FE} (ho:Ev X K Z o fo) (hi:Ev X K Z i fi) (ha:∀ v,assign (.Subscript o i pos) X.env v=(do
   let ov <- holding [v] (eval o X.env)
   let iv <- holding [v,ov] (eval i X.env)
   standAt pos
   holding [v,ov,iv] (setItem ov iv v)
   release [v,ov,iv] []):=by intro _; rfl):Eg X K Z (.Subscript o i pos) (gS fo fi):=by
 refine ⟨ho.k,cqG (aIv ho.h hi.h tX ha) fun v σ H Q ⟨μ,M,L,w,hr,lr,rx,p⟩=>?_⟩
 refine ⟨μ,M,L,hr,lr,p.bind.imp fun μ1 H1 M1 x e1 hr1 _ p1 vo ro=>?_⟩
 refine ⟨μ1,M1,L,hr1,lr.ext hr.lsts e1,p1.bind.imp fun μ2 H2 M2 y e2 hr2 _ p2 vi ri=>?_⟩
 cases x with
 | d x=>exact p2.elim
 | ref k=>cases y with
  | ref j=>exact p2.elim
  | d y=>cases y with
   | int j=>cases w with
    | ref q=>exact p2.elim
    | d z =>
     simp only at p2
     cases q1:M2[k]? with
     | none=>simp only [q1] at p2; exact p2.elim
     | some xs =>
      simp only [q1] at p2
      cases q2:ixN xs.length j with
      | none=>simp only [q2] at p2; exact p2.elim
      | some t =>
       simp only [q2] at p2
       have ro:=ro.ext hr1.lsts e2
       obtain ⟨a,qa,rfl⟩:=ro
       obtain ⟨a',vs,qa',h1,r1⟩:=hr2.at q1
       rw [qa] at qa'; cases qa'
       simp only [Rw,Rp] at ri
       subst ri
       have rz:=Rw.ext hr1.lsts e2 (Rw.ext hr.lsts e1 rx)
       refine ⟨a,vs,j,t,rfl,rfl,h1,by rw [<- r1.length]; exact q2,?_⟩
       exact p2 μ2 _ (dQ qa) (hr2.set qa (Rps.set rz t r1)) σ ((lr.ext hr.lsts (e1.trans e2)).ext hr2.lsts (dQ qa))
   | _=>exact p2.elim
noncomputable def sAs (f:FE) (g:FG):FS:=fun L M=>(f L M).bind fun w M1=>(g w L M1).bind fun L1 M2=>.ok (.nx L1) M2
theorem fY {tg:Expr} {g:FG} (he:Ev X K Z e f) (hg:Eg X K Z tg g) (hs:swapsWithSole [tg] e pos.line X.env=pure false:=by rfl) (hw:swappedStores [tg] e X.env=pure none:=by rfl)
  (h1:(assignEach [tg] X.env).map (·.2)=[assign tg X.env]:=by rfl):Es X K Z (.Assign [tg] e pos) (sAs f g):=by
 refine ⟨he.k,cqS (aLu he.h hg.h hs hw h1) ?_⟩
 rintro E σ H ⟨μ,M,L,hr,lr,p⟩
 refine ⟨μ,M,L,hr,lr,p.bind.imp fun μ1 H1 M1 x e1 hr1 _ p1 v rx=>?_⟩
 exact ⟨μ1,M1,L,x,hr1,lr.ext hr.lsts e1,rx,p1.bind.imp fun μ2 H2 M2 L2 e2 hr2 _ p2 σ2 lr2=>p2 μ2 H2 .refl hr2 σ2 lr2⟩
theorem aM {i:Nat} {x:Str} {pos':Pos} (hN:X.N.Nodup) (he:Ev X K Z e f) (hi:X.N[i]?=some x:=by rfl) (hx:Loc X.env.scope x:=by first | exact Or.inl rfl | exact Or.inr rfl) (hs:swapsWith e (some (.Name x pos')) pos.line X.env=pure false:=by rfl)
  (hf:X.fn x=true\/X.env.scope.names.lookup x=some .local:=by first | exact .inl rfl | exact .inr rfl | assumption):Es X K Z (.Assign [.Name x pos'] e pos) (sAs f (gN i)):=by
 refine ⟨he.k,cqS (aLc hN hi hx he.h hs hf) ?_⟩
 rintro E σ H ⟨μ,M,L,hr,lr,p⟩
 refine ⟨μ,M,L,hr,lr,p.bind.imp fun μ1 H1 M1 x e1 hr1 _ p1 v rx=>?_⟩
 exact p1 μ1 H1 .refl hr1 _ (LR.set (lr.ext hr.lsts e1) rx)
noncomputable def sPar (i j:Nat) (fs:FA):FS:=fun L M=>(fs L M).bind fun ws M1=>match ws with
 | [v,w]=>.ok (.nx ((L.set i (some v)).set j (some w))) M1
 | _=>.bad
end
end EV
namespace EV
open PySem PySem.Spec PyProof.Rows L2
section
variable {X:Cx} {K:PySem.W.Frag} {Z:Zt} {μ:List Addr} {H:Hp} {M:Mm} {e a b o:Expr} {es:List Expr} {pos:Pos} {f fa fb fo:FE} {fs:FA} {st:Stmt} {rest:List Stmt} {F G:FS}
theorem qP {i j:Nat} {x y:Str} {px py pt:Pos} {kt k2 pt2} (hc:X.calm=true) (hN:X.N.Nodup) (ha:Ea X K Z [a,b] fs) (hi:X.N[i]?=some x:=by rfl) (hj:X.N[j]?=some y:=by rfl) (hij:i≠j:=by decide)
  (hx:X.env.scope.names.lookup x=some .local:=by rfl) (hy:X.env.scope.names.lookup y=some .local:=by rfl)
  (hw:swappedStores [.Tuple [.Name x px,.Name y py] kt pt] (.Tuple [a,b] k2 pt2) X.env=pure (some [x,y]):=by rfl)
  (hs:swapsWithSole [.Tuple [.Name x px,.Name y py] kt pt] (.Tuple [a,b] k2 pt2) pos.line X.env=pure false:=by rfl) :
  Es X K Z (.Assign [.Tuple [.Name x px,.Name y py] kt pt] (.Tuple [a,b] k2 pt2) pos) (sPar i j fs):=by
 refine ⟨ha.k,cqS (aJf hc hN hi hj hij hx hy ha.h hw hs) ?_⟩
 rintro E σ H ⟨μ,M,L,hr,lr,p⟩
 refine ⟨μ,M,L,hr,lr,p.bind.imp fun μ1 H1 M1 ws e1 hr1 _ p1 vs rx=>?_⟩
 match ws,rx,p1 with
 | [],_,p1=>exact p1.elim
 | [_],_,p1=>exact p1.elim
 | [v,w],⟨v1,r,q1,q2,v2,r',q1',q2',q3⟩,p1 =>
  cases q3; subst q1' q1
  exact ⟨v1,v2,rfl,p1 μ1 H1 .refl hr1 _ (LR.set (LR.set (lr.ext hr.lsts e1) q2) q2')⟩
 | _::_::_::_,_,p1=>exact p1.elim
noncomputable def pAppend (x y:W) (M:Mm):Oc W:=match x,y with
 | .ref k,.d d=>match M[k]? with
  | some xs=>if xs.length < 16777216 then .ok (.d .non) (M.set k (xs++[d])) else .bad
  | none=>.bad
 | _,_=>.bad
theorem aJu {k:Nat} {v:V} (hr:HR K μ H M) (r:Rw K μ H (.ref k) v):tyV K "list" v H:=by
 obtain ⟨a,q,rfl⟩:=r
 obtain ⟨vs,h⟩:=hr.lsts a (List.mem_of_getElem? q)
 exact .inl ⟨rfl,vs,SqL.of h⟩
noncomputable def eM1 (g:W->W->Mm->Oc W) (fo fe:FE):FE:=fun L M=>(fo L M).bind fun x M1=>match x with
 | .ref k=>(fe L M1).bind fun y M2=>g (.ref k) y M2
 | _=>.bad
theorem pV {apos cpos:Pos} (ho:Ev X K Z o fo) (he:Ev X K Z e fa) (hbase:attributeBase o "append" X.env (eval o X.env)=eval o X.env:=by rfl)
  (hfew:((backTo cpos (starEach [e] X.env)).all (fun x=>!x.1)&&(backToKw cpos (keywordEach [] X.env)).all (fun x=>x.1.isSome)&&decide ([e].length+([]:List Keyword).length+(if ([]:List Keyword).isEmpty then 0 else 1) < 30))=true:=by rfl)
  (hline:(apos.endLine==cpos.line)=true:=by rfl) (hs:starEach [e] X.env=(false,eval e X.env)::starEach [] X.env:=by rfl) (hplain:(backTo cpos (starEach [] X.env)).any (·.1)=false:=by rfl) :
  Ev X K Z (.Call (.Attribute o "append" apos) [e] [] cpos) (eM1 pAppend fo fa):=by
 have h:=aMw PySem.F.plainAttrs_list PySem.F.slot_list_append PySem.F.type_list_append pY ho.h (cZ he.h fK hs) hbase hfew hline hs hplain
 rw [ho.k] at h
 refine ⟨ho.k,cqE h ?_⟩
 rintro σ H Q ⟨μ,M,L,hr,lr,p⟩
 refine ⟨μ,M,L,hr,lr,p.bind.imp fun μ1 H1 M1 x e1 hr1 _ p1 v rx=>?_⟩
 cases x with
 | d x=>exact p1.elim
 | ref k =>
  refine ⟨aJu hr1 rx,μ1,M1,L,hr1,lr.ext hr.lsts e1,p1.bind.imp fun μ2 H2 M2 y e2 hr2 _ p2 u ry=>?_⟩
  cases y with
  | ref j=>exact p2.elim
  | d d =>
   simp only [pAppend] at p2
   cases q1:M2[k]? with
   | none=>simp only [q1] at p2; exact p2.elim
   | some xs =>
    simp only [q1] at p2
    split at p2
    ·rename_i hz
     obtain ⟨a,qa,rfl⟩:=rx.ext hr1.lsts e2
     obtain ⟨a',vs,qa',h1,r1⟩:=hr2.at q1
     rw [qa] at qa'; cases qa'
     refine ⟨a,vs,u,rfl,rfl,h1,by rw [<- r1.length,sizeLine_eq]; exact hz,?_⟩
     exact p2 μ2 _ (dQ qa) (hr2.set qa (r1.append (.cons ry .nil))) _ (by simp [Rw,Rp])
    ·exact p2.elim
noncomputable abbrev FO:=Lc->Mm->Oc (Option Int)
noncomputable def liftO (K:PySem.W.Frag) (Z:Zt) (f:FO):TO:=fun σ H Q=>∃ μ M L,HR K μ H M/\LR K μ H L σ/\Pst K Z μ H (f L M) fun μ' H' _ w=>Q w H'
structure Eo (X:Cx) (K:PySem.W.Frag) (Z:Zt) (e:Option Expr) (f:FO):Prop where
 k:X.K=K
 h:PO X e (liftO K Z f)
noncomputable def oNo:FO:=fun _ M=>.ok none M
noncomputable def oAt (f:FE):FO:=fun L M=>(f L M).bind fun w M1=>match w with
 | .d (.int i)=>.ok (some i) M1
 | _=>.bad
theorem cqO {oe:Option Expr} {t t':TO} (h:PO X oe t) (i:∀ σ H Q,t' σ H Q->t σ H Q):PO X oe t':=fun pins s σ H Q I q=>h pins s σ H Q I (i _ _ _ q)
theorem aHz (hk:X.K=K:=by rfl):Eo X K Z none oNo:=⟨hk,cqO aGf fun σ H Q ⟨μ,M,L,hr,lr,p⟩=>p μ H .refl hr⟩
theorem aHt (h:Ev X K Z e f):Eo X K Z (some e) (oAt f):=by
 refine ⟨h.k,cqO (aFh h.h) ?_⟩
 rintro σ H Q ⟨μ,M,L,hr,lr,p⟩
 refine ⟨μ,M,L,hr,lr,p.bind.imp fun μ1 H1 M1 x e1 hr1 _ p1 v rx=>?_⟩
 cases x with
 | ref i=>exact p1.elim
 | d x=>cases x with
  | int i=>simp only [Rw,Rp] at rx; exact ⟨i,rx,p1 μ1 H1 .refl hr1⟩
  | _=>exact p1.elim
noncomputable def cut {α:Type} (xs:List α) (lo hi:Option Int):List α:=(xs.drop (HT.sIx xs.length 0 lo)).take (HT.sIx xs.length xs.length hi - HT.sIx xs.length 0 lo)
noncomputable def pSl (x:W) (lo hi:Option Int) (M:Mm):Oc W:=match x with
 | .d (.tup xs)=>okD (.tup (cut xs lo hi)) M
 | x=>match lr M x with
  | some xs=>okD (.lst (cut xs lo hi)) M
  | none=>.bad
noncomputable def eSl (f:FE) (fl fh:FO):FE:=fun L M=>(f L M).bind fun x M1=>(fl L M1).bind fun lo M2=>(fh L M2).bind fun hi M3=>pSl x lo hi M3
theorem yQ {ds:List D} {vs:List V} {lo hi:Option Int} (r:Rps K μ H ds vs):Rps K μ H (cut ds lo hi) (cutV vs lo hi):=by
 unfold cut cutV
 rw [r.length]
 exact (r.drop _).take _
end
end EV
namespace EV
open PySem PySem.Spec PyProof.Rows L2
theorem lE:fillsNumberSlot (.type "tuple") "mul"=pure false :=
 PySem.fillsNumberSlot_seq (id:="tuple.__mul__") (r:=some (.builtin "tuple.__rmul__")) F.slot_tuple_mul.lookup (by decide +kernel) F.slot_tuple_rmul.lookup (by decide +kernel)
theorem qY:seqRepeat? (.type "tuple")=pure (some (.builtin "tuple.__mul__")):=by
 unfold seqRepeat?
 rw [PySem.seqSlot_of (T:="tuple") (name:="__mul__") (id:="tuple.__mul__") F.slot_tuple_mul.lookup (by decide +kernel),PySem.seqSlot_of (T:="tuple") (name:="__rmul__") (id:="tuple.__rmul__") F.slot_tuple_rmul.lookup (by decide +kernel)]
 rfl
theorem oP (a:Int) (t:Tok) (l:Addr) (items:Array Value) (n:Nat) (dd:Option Addr) (sl:Array (Option Value)) :
  Meets (Builtin.«int.__rmul__» ⟨[.int a t,.ref l],[]⟩) (fun _ R s=>s.heap.get? l=some { cls:=.type "tuple",dict:=dd,data:=.seq items n,slots:=sl }/\R (.ok (.ret Value.notImplemented)) s) :=
 .of_wp fun prog w A R s h=>by obtain ⟨hp,g,d,tk,os⟩:=s; obtain ⟨hl,h⟩:=h; wp_walk using wpAny_loadPart' hl; exact ⟨_,rfl,h⟩
theorem wI (l:Addr) (items:Array Value) (n:Nat) (dd:Option Addr) (sl:Array (Option Value)) (x:Int) (u:Tok) (h1:(decide (x < -(2 ^ 63)) || decide (x>=2 ^ 63))=false) (h2:(items.isEmpty || x==1)=true) :
  Meets (Builtin.«tuple.__mul__» ⟨[.ref l,.int x u],[]⟩) (fun _ R s=>s.heap.get? l=some { cls:=.type "tuple",dict:=dd,data:=.seq items n,slots:=sl }/\R (.ok (.ret (Value.ref l))) s) :=
 .of_wp fun prog w A R s h=>by
  obtain ⟨hp,g,d,tk,os⟩:=s; obtain ⟨hl,h⟩:=h
  have f1:=AutoSeq1.idx_int
  wp_walk using wpAny_loadPart' hl
  refine wpAny_ite_false (by rw [h1]; rfl) ?_
  wp_walk using wpAny_loadPart' hl
  exact ⟨_,rfl,h⟩
theorem vO (l:Addr) (items:Array Value) (n:Nat) (dd:Option Addr) (sl:Array (Option Value)) (x:Int) (u:Tok) (h1:(decide (x < -(2 ^ 63)) || decide (x>=2 ^ 63))=false) (h2:(items.isEmpty || x==1)=false) (h3:(decide (x<=0) || items.isEmpty)=true) :
  Meets (Builtin.«tuple.__mul__» ⟨[.ref l,.int x u],[]⟩) (fun _ R s=>s.heap.get? l=some { cls:=.type "tuple",dict:=dd,data:=.seq items n,slots:=sl }/\R (.ok (.ret (Value.ref s.heap.objs.size))) { s with heap:=s.heap.push { cls:=Value.type "tuple",data:=Data.seq #[] },toks:=s.toks }) :=
 .of_wp fun prog w A R s h=>by
  obtain ⟨hp,g,d,tk,os⟩:=s; obtain ⟨hl,h⟩:=h
  have f1:=AutoSeq1.idx_int
  wp_walk using wpAny_loadPart' hl
  refine wpAny_ite_false (by rw [h1]; rfl) ?_
  wp_walk using wpAny_loadPart' hl
  exact ⟨_,rfl,h⟩
theorem uV (l:Addr) (items:Array Value) (n:Nat) (dd:Option Addr) (sl:Array (Option Value)) (x:Int) (u:Tok) (h1:(decide (x < -(2 ^ 63)) || decide (x>=2 ^ 63))=false) (h2:(items.isEmpty || x==1)=false) (h3:(decide (x<=0) || items.isEmpty)=false)
  (h4:¬ ((items.size:Int)*x > (2 ^ 63 - 1) / 8)) (h5:¬ Builtin.Tuple.tupleTooMany (items.size*x)=true) (hsz:(List.foldl (fun x1 x2=>x1++x2) #[] (List.replicate x.toNat items)).size<=sizeLine) :
  Meets (Builtin.«tuple.__mul__» ⟨[.ref l,.int x u],[]⟩) (fun _ R s=>s.heap.get? l=some { cls:=.type "tuple",dict:=dd,data:=.seq items n,slots:=sl }/\R (.ok (.ret (Value.ref s.heap.objs.size))) { s with heap:=s.heap.push { cls:=Value.type "tuple",data:=Data.seq (List.foldl (fun x1 x2=>x1++x2) #[] (List.replicate x.toNat items)) },toks:=s.toks }) :=
 .of_wp fun prog w A R s h=>by
  obtain ⟨hp,g,d,tk,os⟩:=s; obtain ⟨hl,h⟩:=h
  have f1:=AutoSeq1.idx_int
  wp_walk using wpAny_loadPart' hl
  refine wpAny_ite_false (by rw [h1]; rfl) ?_
  wp_walk using wpAny_loadPart' hl
  refine wpAny_ite_false (decide_eq_false h4) ?_
  wp_walk using wpAny_loadPart' hl
  exact ⟨_,rfl,h⟩
section
variable {X:Cx} {K:PySem.W.Frag} {Z:Zt} {μ:List Addr} {H:Hp} {M:Mm}
noncomputable def rRepT (K:PySem.W.Frag):R2:=fun x y H Q=>∃ a k xs,x=.ref a/\y=.int k/\SqT K H a xs /\ -(2 ^ 63)<=k/\k < 2 ^ 63/\xs.length*k.toNat<=sizeLine /\
 ((xs=[]\/k=1)->Q (.ref a) H)/\∀ p,H p=none->Q (.ref p) (upd H p (.tup (List.replicate k.toNat xs).flatten))
theorem nE (its:List Value) (m:Nat):List.foldl (fun x1 x2=>x1++x2) #[] (List.replicate m its.toArray)=(List.replicate m its).flatten.toArray:=by
 have:=lN its m []
 rw [List.nil_append] at this
 exact this
theorem aFb:OpR X (binaryOp .Mult) (rRepT X.K):=by
 intro pins s σ H x y v u Q I rx ry h
 obtain ⟨l,k,xs,rfl,rfl,hH,h1,h2,hz,qs,q⟩:=h
 cases rx
 obtain ⟨t,rfl⟩:=ry
 obtain ⟨its,r,pl,hsz⟩:=I.tuple hH
 obtain ⟨⟨cls,dd,data,sl⟩,ho,hc,n,hd⟩:=id pl
 simp only at hc hd
 subst hc hd
 have hl:=r.length
 have b1:(decide (k < -(2 ^ 63)) || decide (k>=2 ^ 63))=false:=by
  rw [Bool.or_eq_false_iff]; exact ⟨decide_eq_false (by omega),decide_eq_false (by omega)⟩
 refine wpAny_binaryOp_repeat_ref (T:="tuple") (U:="int") (by decide) ⟨_,ho,rfl⟩ (fun s'=>typeIs_int s' k t) lE F.fills_int_mul F.slot_int_rmul qY F.slot_int_index.lookup
  (call_meets F.slot_int_rmul (typeIs_int s k t) F.entry_int_rmul (F.args_int_rmul_2 _ _) (oP k t l its.toArray n dd sl) ⟨ho,rfl,⟨_,ho,rfl⟩,?_⟩)
 by_cases hs:xs=[]\/k=1
 ·refine call_meets F.slot_tuple_mul ⟨_,ho,rfl⟩ F.entry_tuple_mul (F.args_tuple_mul_2 _ _) (wI l its.toArray n dd sl k t b1 ?_) ⟨ho,⟨.ref l,H,I,rfl,qs hs⟩⟩
  rcases hs with hs | hs
  ·subst hs
   have:its=[]:=by simpa using hl.symm
   simp [this]
  ·simp [hs]
 ·have hne:its≠[]:=fun z=>hs (.inl (by subst z; simpa using hl))
  have hn1:(its.toArray.isEmpty || k==1)=false:=by
   rw [Bool.or_eq_false_iff]; exact ⟨by simpa using hne,by simp; exact fun z=>hs (.inr z)⟩
  by_cases h0:k<=0
  ·refine call_meets F.slot_tuple_mul ⟨_,ho,rfl⟩ F.entry_tuple_mul (F.args_tuple_mul_2 _ _) (vO l its.toArray n dd sl k t b1 hn1 (by simp [h0])) ⟨ho,?_⟩
   have e:(List.replicate k.toNat xs).flatten=[]:=by rw [show k.toNat=0 by omega]; rfl
   have q:=q s.heap.objs.size I.fresh
   rw [e] at q
   refine ⟨.ref s.heap.objs.size,_,I.laid (t':=s.toks) (o:=.tup []) (fun b ob q=>Heap.get?_push_of_some _ q) (Nat.le_refl _) ?_,rfl,q⟩
   exact ⟨Nat.zero_le _,[],.nil,IsTup.new _ _⟩
  ·have hk:((k.toNat:Nat):Int)=k:=by omega
   have hz':its.length*k.toNat<=sizeLine:=by rw [<- hl]; exact hz
   have hcast:((its.toArray.size:Nat):Int)*k=((its.length*k.toNat:Nat):Int):=by
    rw [List.size_toArray,Int.natCast_mul,hk]
   have hs24:(sizeLine:Nat)=16777216:=sizeLine_eq
   refine call_meets F.slot_tuple_mul ⟨_,ho,rfl⟩ F.entry_tuple_mul (F.args_tuple_mul_2 _ _) (uV l its.toArray n dd sl k t b1 hn1 ?_ ?_ ?_ ?_) ⟨ho,?_⟩
   ·rw [Bool.or_eq_false_iff]; exact ⟨decide_eq_false h0,by simpa using hne⟩
   ·rw [hcast]; omega
   ·unfold Builtin.Tuple.tupleTooMany
    rw [hcast]
    intro z
    have z:=of_decide_eq_true z
    omega
   ·rw [nE,List.size_toArray,qO,Nat.mul_comm]; exact hz'
   ·rw [nE]
    refine ⟨.ref s.heap.objs.size,_,I.laid (t':=s.toks) (o:=.tup (List.replicate k.toNat xs).flatten) (fun b ob q=>Heap.get?_push_of_some _ q) (Nat.le_refl _) ?_,rfl,q _ I.fresh⟩
    exact ⟨by rw [qO,Nat.mul_comm]; exact hz,_,r.rep k.toNat,IsTup.new _ _⟩
noncomputable def pMulA (x y:W) (M:Mm):Oc W:=match x,y with
 | .d (.tup xs),.d (.int k)=>if xs.length*k.toNat<=16777216/\k < 9223372036854775808 /\ -9223372036854775808<=k then okD (.tup (List.replicate k.toNat xs).flatten) M else .bad
 | x,y=>pMul x y M
theorem opMulA:OpG X K Z (binaryOp .Mult) pMulA:=fun hk=>by
 obtain ⟨r,h1,h2⟩:=(opMul (X:=X) (K:=K) (Z:=Z)) hk
 refine ⟨_,OpR.or (hk▸aFb) h1,?_⟩
 intro μ H M x y v u Q hr rx ry p
 have gen:=fun p=>(Or.inr (h2 μ H M x y v u Q hr rx ry p):rRepT K v u H Q\/r v u H Q)
 cases x with
 | ref i=>exact gen (by cases y with | ref j=>exact p | d y=>cases y <;> exact p)
 | d x=>cases x with
  | tup xs=>cases y with
   | ref j=>exact gen p
   | d y=>cases y with
    | int k =>
     simp only [pMulA] at p
     split at p
     ·rename_i hz
      have rx':=rx
      simp only [Rw,Rp] at rx ry
      obtain ⟨a,vs,rfl,q1,r1⟩:=rx
      refine .inl ⟨a,k,vs,rfl,ry,SqT.of q1,hz.2.2,hz.2.1,by rw [<- r1.length,sizeLine_eq]; exact hz.1,fun e=>?_,jK hr (r1.rep k.toNat) p⟩
      refine p μ H .refl hr _ ?_
      have:(List.replicate k.toNat xs).flatten=xs:=by
       rcases e with e | e
       ·subst e
        have:xs=[]:=by have:=r1.length; simpa using this
        subst this; simp
       ·subst e; simp [List.replicate]
      rw [this]; exact rx'
     ·exact p.elim
    | _=>exact gen p
  | _=>exact gen (by cases y with | ref j=>exact p | d y=>cases y <;> exact p)
end
end EV
namespace HT
open PySem PySem.Spec PyProof.Rows
section
variable {prog:Program} {w:World} {A:Around} {E:Value->Shared->Prop} {s:Shared}
theorem getItem_tuple_whole {t sl:Addr} {items:Array Value} {vl vu:Value} {lo hi:Option Int} {Q:Value->Shared->Prop} (ht:IsTup s.heap t items) (hs:s.heap.IsSliceOf sl vl vu .none) (pl:IsPart vl lo) (pu:IsPart vu hi)
  (hw:sIx items.size 0 lo=0/\sIx items.size items.size hi=items.size) (h:Q (.ref t) s):wpAny (model prog w) A (getItem (.ref t) (.ref sl)) Q E s:=by
 obtain ⟨os,hos,hcs,hds⟩:=id hs
 have hTs:s.TypeIs (.ref sl) "slice":=⟨os,hos,hcs⟩
 unfold getItem
 try with_reducible refine wpAny_holding ?_
 first | refine wpAny_bind (wpAny_pure ?_) | skip
 refine wpAny_bind (wpAny_sequenceKey ht.typeIs (by decide) ?_)
 refine wpAny_bind (wpAny_callSpecial?_slot (name:=Str.ofString "__getitem__") ht.typeIs PyProof.Rows.slot_tuple_getitem
  (wpAny_call_entry PyProof.Rows.slot_tuple_getitem ht.typeIs entry_tuple_getitem ?_ (args_tuple_getitem _ _)))
 show wpAny _ _ (Builtin.Tuple.tupleItemsOf (.ref t) >>= _) _ _ s
 refine wpAny_bind (tupleItemsOf_ ht ?_)
 refine wpAny_bind (wpAny_typeOf hTs ?_)
 rw [if_pos (by decide)]
 refine wpAny_bind (gP hs pl pu ?_)
 have hyes:((((sIx items.size 0 lo:Nat):Int)==0&&(1:Int)==1&&(sIx items.size items.size hi - sIx items.size 0 lo)==items.size)=true):=by
  rw [hw.1,hw.2]; simp
 show wpAny _ _ (if (((sIx items.size 0 lo:Nat):Int)==0&&(1:Int)==1&&(sIx items.size items.size hi - sIx items.size 0 lo)==items.size)=true then _ else _) _ _ s
 rw [if_pos hyes]
 refine wpAny_bind (m:=Builtin.Tuple.tupleIsExact _) ?_
 unfold Builtin.Tuple.tupleIsExact
 refine wpAny_bind (wpAny_typeOf ht.typeIs (wpAny_pure ?_))
 show wpAny _ _ (if ((Value.type "tuple"==Value.type "tuple")=true) then _ else _) _ _ s
 rw [if_pos (by decide)]
 first
  | exact wpAny_bind (wpAny_rule (wpAny_pure ⟨_,rfl,wpAny_pure h⟩))
  | exact wpAny_bind (wpAny_rule (wpAny_bind (wpAny_pure ⟨_,rfl,wpAny_pure h⟩)))
  | exact wpAny_bind (wpAny_rule (wpAny_bind (wpAny_pure (wpAny_pure ⟨_,rfl,wpAny_pure h⟩))))
end
end HT
namespace EV
open PySem PySem.Spec PyProof.Rows L2
section
variable {X:Cx} {K:PySem.W.Frag} {Z:Zt} {μ:List Addr} {H:Hp} {M:Mm} {e a b o:Expr} {es:List Expr} {pos:Pos} {f fa fb fo:FE} {fs:FA} {st:Stmt} {rest:List Stmt} {F G:FS}
noncomputable def rSlA (K:PySem.W.Frag):V->Option Int->Option Int->Hp->VK->Prop:=fun x lo hi H Q=>∃ a xs,x=.ref a/\SqT K H a xs /\
 ((HT.sIx xs.length 0 lo=0/\HT.sIx xs.length xs.length hi=xs.length)->Q (.ref a) H)/\∀ p,H p=none->Q (.ref p) (upd H p (.tup (cutV xs lo hi)))
theorem aGd:SlR X (rSlA X.K):=by
 intro pins s σ H x v vl vu lo hi sl Q I rx hs pl pu h
 obtain ⟨a,xs,rfl,hx,q1,q2⟩:=h
 by_cases hw:HT.sIx xs.length 0 lo=0/\HT.sIx xs.length xs.length hi=xs.length
 ·cases rx
  obtain ⟨its,r,ht,hz⟩:=I.tuple hx
  have hlen:its.toArray.size=xs.length:=by rw [List.size_toArray]; exact r.length.symm
  refine ⟨"tuple",_,PyProof.Rows.slot_tuple_getitem.lookup,ht.typeIs,?_⟩
  exact HT.getItem_tuple_whole ht hs pl pu (by rw [hlen]; exact hw) ⟨.ref a,H,I,rfl,q1 hw⟩
 ·exact aJc pins s σ H _ v vl vu lo hi sl Q I rx hs pl pu ⟨a,xs,rfl,hx,hw,q2⟩
theorem zH {xs:List D} {lo hi:Option Int} (h:HT.sIx xs.length 0 lo=0/\HT.sIx xs.length xs.length hi=xs.length):cut xs lo hi=xs:=by
 unfold cut; rw [h.1,h.2]; simp
theorem tG {x:W} {v:V} {lo hi:Option Int} {Q:VK} (hr:HR K μ H M) (rx:Rw K μ H x v) (p:Pst K Z μ H (match lr M x with
  | some xs=>okD (.lst (cut xs lo hi)) M
  | none=>.bad) (Wk K Q)):rSlL K v lo hi H Q:=by
 cases q1:lr M x with
 | none=>rw [q1] at p; exact p.elim
 | some xs =>
  rw [q1] at p
  obtain ⟨a,vs,rfl,h1,r1⟩:=uA hr rx q1
  exact ⟨a,vs,rfl,h1,hG hr (yQ r1) p⟩
theorem tF {lo hi:Option Expr} {fl fh:FO} {p2:Pos} (he:Ev X K Z e f) (hl:Eo X K Z lo fl) (hh:Eo X K Z hi fh):Ev X K Z (.Subscript e (.Slice lo hi none p2) pos) (eSl f fl fh):=by
 have h:=aCr (p2:=p2) (pos:=pos) (SlR.or (aGd (X:=X)) aHk) he.h hl.h hh.h
 rw [he.k] at h
 refine ⟨he.k,cqE h ?_⟩
 rintro σ H Q ⟨μ,M,L,hr,lr,p⟩
 refine ⟨μ,M,L,hr,lr,p.bind.imp fun μ1 H1 M1 x e1 hr1 _ p1 v rx=>?_⟩
 refine ⟨μ1,M1,L,hr1,lr.ext hr.lsts e1,p1.bind.imp fun μ2 H2 M2 l e2 hr2 _ p2=>?_⟩
 refine ⟨μ2,M2,L,hr2,lr.ext hr.lsts (e1.trans e2),p2.bind.imp fun μ3 H3 M3 u e3 hr3 _ p3=>?_⟩
 have rx:=rx.ext hr1.lsts (e2.trans e3)
 cases x with
 | ref i=>exact .inr (tG hr3 rx p3)
 | d x=>cases x with
  | tup xs =>
   have rx':=rx
   simp only [Rw,Rp] at rx
   obtain ⟨a,vs,rfl,q1,r1⟩:=rx
   refine .inl ⟨a,vs,rfl,SqT.of q1,fun hw=>?_,jK hr3 (yQ r1) p3⟩
   refine p3 μ3 H3 .refl hr3 _ ?_
   rw [zH (by rw [r1.length]; exact hw)]
   exact rx'
  | _=>exact .inr (tG hr3 rx p3)
noncomputable def isT (T:String) (M:Mm):W->Option Bool
 | .d .non=>some false
 | .d (.bl _)=>some (T=="bool" || T=="int")
 | .d (.int _)=>some (T=="int")
 | .d (.str _)=>some (T=="str")
 | .d (.tup _)=>some (T=="tuple")
 | .d (.lst _)=>some (T=="list")
 | .d (.fz _)=>none
 | .d (.exn _ _ _)=>none
 | .ref _=>some (T=="list")
noncomputable def pIsI (T:String) (x:W) (M:Mm):Oc W:=match isT T M x with
 | some b=>.ok (.d (.bl b)) M
 | none=>.bad
structure KitT (T:String):Prop where
 non:∀ K,PySem.W.kitOne K (.type "NoneType") (.type T)=some false
 bl:∀ K,PySem.W.kitOne K (.type "bool") (.type T)=some (T=="bool" || T=="int")
 int:∀ K,PySem.W.kitOne K (.type "int") (.type T)=some (T=="int")
 str:∀ K,PySem.W.kitOne K (.type "str") (.type T)=some (T=="str")
 tup:∀ K,PySem.W.kitOne K (.type "tuple") (.type T)=some (T=="tuple")
 lst:∀ K,PySem.W.kitOne K (.type "list") (.type T)=some (T=="list")
end
end EV
namespace EV
open PySem PySem.Spec PyProof.Rows L2
noncomputable def whileD (t:FT) (B:FS):Nat->FS
 | 0=>fun _ _=>.bad
 | n+1=>fun L M=>(t L M).bind fun b M1=>if b=true then (B L M1).bind fun o M2=>match o with
   | .nx L2=>whileD t B n L2 M2
   | .ct L2=>whileD t B n L2 M2
   | .bk L2=>.ok (.nx L2) M2
   | .rt w=>.ok (.rt w) M2
  else .ok (.nx L) M1
inductive Ck
 | one (t:Nat)
 | two (t:Nat) (ys:List D)
noncomputable instance:Coe Nat Ck:=⟨.one⟩
noncomputable def Ck.ok (ds:List D) (M:Mm):Ck->Prop
 | .one t=>M[t]?=some ds
 | .two t ys=>M[t]?=some ys
structure Src where
 ds:List D
 k:Option Ck
noncomputable abbrev FI:=Lc->Mm->Oc Src
noncomputable def Chk (s:Src) (M:Mm):Prop:=∀ t,s.k=some t->t.ok s.ds M
open Classical in
noncomputable def forD (s:Src) (g:FG) (B:FS):List D->FS
 | []=>fun L M=>if Chk s M then .ok (.nx L) M else .bad
 | d::r=>fun L M=>if Chk s M then (g (.d d) L M).bind fun L1 M1=>(B L1 M1).bind fun o M2=>match o with
   | .nx L2=>forD s g B r L2 M2
   | .ct L2=>forD s g B r L2 M2
   | .bk L2=>.ok (.nx L2) M2
   | .rt w=>.ok (.rt w) M2
  else .bad
noncomputable def sFor (fi:FI) (g:FG) (B:FS):FS:=fun L M=>(fi L M).bind fun s M1=>forD s g B s.ds L M1
noncomputable def ItOk (K:PySem.W.Frag) (μ:List Addr) (H:Hp) (s:Src) (J:It):Prop :=
 ∃ S:List Addr->Hp->Prop,S μ H/\(∀ μ1 H1 μ2 H2,Lsts μ1 H1->S μ1 H1->Ext μ1 H1 μ2 H2->S μ2 H2) /\
  ∀ μ1 H1 M1 i,HR K μ1 H1 M1->S μ1 H1->Chk s M1 ->
   (∀ d,s.ds[i]?=some d->J.go i H1/\∀ x H2,J.yld i H1 x H2->Ext μ1 H1 μ1 H2/\HR K μ1 H2 M1/\Rp K μ1 H2 d x)/\(s.ds.length<=i->J.stop i H1)
noncomputable def liftI (K:PySem.W.Frag) (Z:Zt) (fi:FI):TI:=fun σ H R=>∃ μ M L,HR K μ H M/\LR K μ H L σ/\Pst K Z μ H (fi L M) fun μ' H' _ s=>∀ J,ItOk K μ' H' s J->R J H'
structure Ei (X:Cx) (K:PySem.W.Frag) (Z:Zt) (tg iter:Expr) (fi:FI):Prop where
 k:X.K=K
 h:PI X tg iter (liftI K Z fi)
theorem cqI {X:Cx} {tg iter:Expr} {t t':TI} (h:PI X tg iter t) (i:∀ σ H Q,t' σ H Q->t σ H Q):PI X tg iter t':=fun pins s σ H Q I q=>h pins s σ H Q I (i _ _ _ q)
section
variable {X:Cx} {K:PySem.W.Frag} {Z:Zt} {μ:List Addr} {H:Hp} {M:Mm} {e a b o:Expr} {es:List Expr} {pos:Pos} {f fa fb fo:FE} {fs:FA} {st:Stmt} {rest:List Stmt} {F G:FS}
theorem oW {c:Expr} {body:List Stmt} {t:FT} {B:FS} (n:Nat) (hp:PassesOwn (model X.prog X.w) X.A X.env X.xe) (hc:Et X K Z c t) (hb:Ess X K Z body B):Es X K Z (.While c body [] pos) (whileD t B n):=by
 refine ⟨hc.k,cqS (aCg hp hc.h hb.h) ?_⟩
 rintro E σ H ⟨μ,M,L,hr,lr,p⟩
 refine ⟨fun m σ H=>∃ μ M L,HR K μ H M/\LR K μ H L σ/\Pst K Z μ H (whileD t B m L M) (Sk K E),⟨n,μ,M,L,hr,lr,p⟩,?_⟩
 rintro m σ H ⟨μ,M,L,hr,lr,p⟩
 cases m with
 | zero=>exact p.elim
 | succ m =>
  refine ⟨μ,M,L,hr,lr,(show Pst K Z μ H ((t L M).bind _) _ from p).bind.imp fun μ1 H1 M1 b e1 hr1 _ p1=>?_⟩
  cases b with
  | false=>exact p1 μ1 H1 .refl hr1 σ (lr.ext hr.lsts e1)
  | true =>
   refine ⟨fun σ' H'=>∃ μ M L,HR K μ H' M/\LR K μ H' L σ'/\Pst K Z μ H' (whileD t B m L M) (Sk K E),fun σ' H' q=>⟨m,Nat.lt_succ_self m,q⟩,?_⟩
   refine ⟨μ1,M1,L,hr1,lr.ext hr.lsts e1,(show Pst K Z μ1 H1 ((B L M1).bind _) _ from p1).bind.imp fun μ2 H2 M2 o e2 hr2 _ p2=>?_⟩
   cases o with
   | nx L2=>exact fun σ' lr'=>⟨μ2,M2,L2,hr2,lr',p2⟩
   | ct L2=>exact fun σ' lr'=>⟨μ2,M2,L2,hr2,lr',p2⟩
   | bk L2=>exact p2 μ2 H2 .refl hr2
   | rt w=>exact p2 μ2 H2 .refl hr2
theorem dX {tg iter:Expr} {body:List Stmt} {fi:FI} {g:FG} {B:FS} (hp:PassesOwn (model X.prog X.w) X.A X.env X.xe) (hc:X.calm=true) (hi:Ei X K Z tg iter fi) (hg:Eg X K Z tg g) (hb:Ess X K Z body B)
  (hs:∀ x,foldedSetIterable iter X.env x=pure x:=by intro _; rfl):Es X K Z (.For tg iter body [] pos) (sFor fi g B):=by
 refine ⟨hi.k,cqS (aLa hp hc hi.h hg.h hb.h hs) ?_⟩
 rintro E σ H ⟨μ,M,L,hr,lr,p⟩
 refine ⟨μ,M,L,hr,lr,p.bind.imp fun μ1 H1 M1 s e1 hr1 _ p1 J hJ=>?_⟩
 obtain ⟨S,s0,sx,step⟩:=hJ
 refine ⟨fun i m σ H=>m=s.ds.length - i/\i<=s.ds.length/\∃ μ M L,HR K μ H M/\LR K μ H L σ/\S μ H/\Pst K Z μ H (forD s g B (s.ds.drop i) L M) (Sk K E),⟨s.ds.length,by simp,Nat.zero_le _,μ1,M1,L,hr1,lr.ext hr.lsts e1,s0,by simpa using p1⟩,?_⟩
 rintro i m σ H ⟨rfl,hi,μ,M,L,hr,lr,sS,p⟩
 by_cases hlt:i < s.ds.length
 ·rw [List.drop_eq_getElem_cons hlt] at p
  unfold forD at p
  split at p
  ·rename_i hch
   obtain ⟨go,yl⟩:=(step μ H M i hr sS hch).1 s.ds[i] (by simp [hlt])
   refine .inr ⟨go,fun σ' H'=>i+1<=s.ds.length/\∃ μ M L,HR K μ H' M/\LR K μ H' L σ'/\S μ H'/\Pst K Z μ H' (forD s g B (s.ds.drop (i+1)) L M) (Sk K E),fun σ' H' q=>⟨s.ds.length - (i+1),by omega,rfl,q.1,q.2⟩,fun x H2 y=>?_⟩
   obtain ⟨e2,hr2,rx⟩:=yl x H2 y
   have lr2:=lr.ext hr.lsts e2
   have s2:=sx _ _ _ _ hr.lsts sS e2
   refine ⟨μ,M,L,.d s.ds[i],hr2,lr2,rx,(Pst.mono e2 p).bind.imp fun μ3 H3 M3 L3 e3 hr3 _ p3 σ3 lr3=>?_⟩
   refine ⟨μ3,M3,L3,hr3,lr3,p3.bind.imp fun μ4 H4 M4 o e4 hr4 _ p4=>?_⟩
   have s4:=sx _ _ _ _ hr3.lsts (sx _ _ _ _ hr2.lsts s2 e3) e4
   cases o with
   | nx L4=>exact fun σ' lr'=>⟨hlt,μ4,M4,L4,hr4,lr',s4,p4⟩
   | ct L4=>exact fun σ' lr'=>⟨hlt,μ4,M4,L4,hr4,lr',s4,p4⟩
   | bk L4=>exact p4 μ4 H4 .refl hr4
   | rt w=>exact p4 μ4 H4 .refl hr4
  ·exact p.elim
 ·have e:i=s.ds.length:=by omega
  subst e
  rw [List.drop_eq_nil_of_le (Nat.le_refl _)] at p
  unfold forD at p
  split at p
  ·rename_i hch
   exact .inl ⟨(step μ H M _ hr sS hch).2 (Nat.le_refl _),p μ H .refl hr σ lr⟩
  ·exact p.elim
theorem aEm {ds:List D} {M:Mm}:Chk ⟨ds,none⟩ M:=fun t h=>by cases h
@[simp] theorem aHa {ds:List D} {M:Mm}:Chk ⟨ds,none⟩ M ↔ True:=⟨fun _=>trivial,fun _=>aEm⟩
@[simp] theorem aFc {ds:List D} {M:Mm} {t:Nat}:Chk ⟨ds,some t⟩ M ↔ M[t]?=some ds:=⟨fun h=>h t rfl,fun h t' e=>by cases e; exact h⟩
variable {tg:Expr}
noncomputable def iSq (K:PySem.W.Frag) (tl:TE):TI:=fun σ H R=>tl σ H fun x H1=>∃ a,x=.ref a/\(((∃ xs,SqL K H1 a xs)/\R (Itl K a) H1)\/((∃ xs,SqT K H1 a xs)/\R (Itt K a) H1))
theorem aNd {l:Expr} {tl:TE} (hl:PE X l tl):PI X tg l (iSq X.K tl):=by
 intro pins s σ H R I h
 refine thn (hl pins s σ H _ I h) fun v s1 ⟨x,H1,I1,r1,q1⟩=>?_
 obtain ⟨a,e,⟨⟨xs,hq⟩,q⟩ | ⟨⟨xs,hq⟩,q⟩⟩:=q1
 ·subst e
  cases r1
  obtain ⟨its,rv,p,hz⟩:=I1.list hq
  refine wpAny_pyIter_list p.isList ?_
  refine ⟨s1.heap.objs.size,[s1.heap.objs.size],_,_,H1,rfl,I1.kept (t':=s1.toks) fun b o e=>Heap.get?_push_of_some _ e,aAt a _,⟨_,Heap.get?_push_size _ rfl,rfl,rfl⟩,fun b hb=>?_,q⟩
  have e:b=s1.heap.objs.size:=by simpa using hb
  subst e
  exact I1.fpOk (Nat.le_refl _) (I1.hok.fresh (Nat.le_refl _))
 ·subst e
  cases r1
  obtain ⟨its,rv,p,hz⟩:=I1.tuple hq
  refine wpAny_pyIter_tuple (show s1.heap.IsTuple a its.toArray from p) ?_
  refine ⟨s1.heap.objs.size,[s1.heap.objs.size],_,_,H1,rfl,I1.kept (t':=s1.toks) fun b o e=>Heap.get?_push_of_some _ e,vT a _,⟨_,Heap.get?_push_size _ rfl,rfl,rfl⟩,fun b hb=>?_,q⟩
  have e:b=s1.heap.objs.size:=by simpa using hb
  subst e
  exact I1.fpOk (Nat.le_refl _) (I1.hok.fresh (Nat.le_refl _))
noncomputable def srcOf (M:Mm):W->Option Src
 | .d (.tup xs)=>some ⟨xs,none⟩
 | .d (.lst xs)=>some ⟨xs,none⟩
 | .d (.fz xs)=>some ⟨xs,none⟩
 | .ref t=>(M[t]?).map fun xs=>⟨xs,some t⟩
 | _=>none
noncomputable def iE (f:FE):FI:=fun L M=>(f L M).bind fun w M1=>match srcOf M1 w with
 | some s=>.ok s M1
 | none=>.bad
theorem vD {a:Addr} {s:Src} (S:List Addr->Hp->Prop) (s0:S μ H) (sx:∀ μ1 H1 μ2 H2,Lsts μ1 H1->S μ1 H1->Ext μ1 H1 μ2 H2->S μ2 H2)
  (rd:∀ μ1 H1 M1,HR K μ1 H1 M1->S μ1 H1->Chk s M1->∃ vs,SqL K H1 a vs/\Rps K μ1 H1 s.ds vs):ItOk K μ H s (Itl K a):=by
 refine ⟨S,s0,sx,fun μ1 H1 M1 i hr hS hc=>?_⟩
 obtain ⟨vs,h1,r1⟩:=rd μ1 H1 M1 hr hS hc
 refine ⟨fun d hd=>?_,fun hl=>⟨vs,h1,by rw [<- r1.length]; exact hl⟩⟩
 obtain ⟨v,q1,q2⟩:=r1.get hd
 refine ⟨⟨vs,v,h1,q1⟩,fun x H2 y=>?_⟩
 obtain ⟨rfl,y⟩:=y
 have:=y vs h1
 rw [q1] at this
 cases this
 exact ⟨.refl,hr,q2⟩
theorem aLv {a:Addr} {s:Src} (S:List Addr->Hp->Prop) (s0:S μ H) (sx:∀ μ1 H1 μ2 H2,Lsts μ1 H1->S μ1 H1->Ext μ1 H1 μ2 H2->S μ2 H2)
  (rd:∀ μ1 H1 M1,HR K μ1 H1 M1->S μ1 H1->Chk s M1->∃ vs,SqT K H1 a vs/\Rps K μ1 H1 s.ds vs):ItOk K μ H s (Itt K a):=by
 refine ⟨S,s0,sx,fun μ1 H1 M1 i hr hS hc=>?_⟩
 obtain ⟨vs,h1,r1⟩:=rd μ1 H1 M1 hr hS hc
 refine ⟨fun d hd=>?_,fun hl=>⟨vs,h1,by rw [<- r1.length]; exact hl⟩⟩
 obtain ⟨v,q1,q2⟩:=r1.get hd
 refine ⟨⟨vs,v,h1,q1⟩,fun x H2 y=>?_⟩
 obtain ⟨rfl,y⟩:=y
 have:=y vs h1
 rw [q1] at this
 cases this
 exact ⟨.refl,hr,q2⟩
theorem kA {d:D} {v:V}:∀ μ1 H1 μ2 H2,Lsts μ1 H1->Rp K μ1 H1 d v->Ext μ1 H1 μ2 H2->Rp K μ2 H2 d v:=fun μ1 H1 μ2 H2 l h e=>Rp.ext l e d v h
theorem kZ (h:Ev X K Z e f):Ei X K Z tg e (iE f):=by
 have h':=aNd (tg:=tg) h.h
 rw [h.k] at h'
 refine ⟨h.k,cqI h' ?_⟩
 rintro σ H R ⟨μ,M,L,hr,lr,p⟩
 refine ⟨μ,M,L,hr,lr,p.bind.imp fun μ1 H1 M1 w e1 hr1 _ p1 v rw'=>?_⟩
 cases w with
 | ref t =>
  simp only [srcOf] at p1
  cases q:M1[t]? with
  | none=>simp only [q,Option.map_none] at p1; exact p1.elim
  | some xs =>
   simp only [q,Option.map_some] at p1
   obtain ⟨a,qa,rfl⟩:=rw'
   obtain ⟨a',vs,qa',h1,r1⟩:=hr1.at q
   rw [qa] at qa'; cases qa'
   refine ⟨a,rfl,.inl ⟨⟨vs,SqL.of h1⟩,p1 μ1 H1 .refl hr1 _ ?_⟩⟩
   refine vD (fun μ2 H2=>μ2[t]?=some a) qa (fun μ1 H1 μ2 H2 _ z e=>e.pre _ _ z) fun μ2 H2 M2 hr2 z c=>?_
   obtain ⟨a',vs,qa',h1,r1⟩:=hr2.at (c t rfl)
   rw [z] at qa'; cases qa'
   exact ⟨vs,SqL.of h1,r1⟩
 | d x =>
  cases x with
  | tup xs =>
   have rw2:=rw'
   simp only [Rw,Rp] at rw'
   obtain ⟨a,vs,rfl,h1,r1⟩:=rw'
   refine ⟨a,rfl,.inr ⟨⟨vs,SqT.of h1⟩,p1 μ1 H1 .refl hr1 _ ?_⟩⟩
   refine aLv (fun μ2 H2=>Rp K μ2 H2 (.tup xs) (.ref a)) rw2 kA fun μ2 H2 M2 hr2 z c=>?_
   simp only [Rp] at z
   obtain ⟨a',vs,e,h1,r1⟩:=z
   cases e
   exact ⟨vs,SqT.of h1,r1⟩
  | lst xs =>
   have rw2:=rw'
   simp only [Rw,Rp] at rw'
   obtain ⟨a,vs,rfl,h1,_,r1⟩:=rw'
   refine ⟨a,rfl,.inl ⟨⟨vs,SqL.of h1⟩,p1 μ1 H1 .refl hr1 _ ?_⟩⟩
   refine vD (fun μ2 H2=>Rp K μ2 H2 (.lst xs) (.ref a)) rw2 kA fun μ2 H2 M2 hr2 z c=>?_
   simp only [Rp] at z
   obtain ⟨a',vs,e,h1,_,r1⟩:=z
   cases e
   exact ⟨vs,SqL.of h1,r1⟩
  | fz xs =>
   have rw2:=rw'
   simp only [Rw,Rp] at rw'
   obtain ⟨a,vs,rfl,h1,r1⟩:=rw'
   refine ⟨a,rfl,.inl ⟨⟨vs,h1.sq⟩,p1 μ1 H1 .refl hr1 _ ?_⟩⟩
   refine vD (fun μ2 H2=>Rp K μ2 H2 (.fz xs) (.ref a)) rw2 kA fun μ2 H2 M2 hr2 z c=>?_
   simp only [Rp] at z
   obtain ⟨a',vs,e,h1,r1⟩:=z
   cases e
   exact ⟨vs,h1.sq,r1⟩
  | _=>exact p1.elim
noncomputable def rngD (lo:Int) (n:Nat):List D:=(List.range n).map fun k=>D.int (lo+(k:Nat))
theorem cO {lo:Int} {n i:Nat} {d:D} (h:(rngD lo n)[i]?=some d):i < n/\d=.int (lo+i):=by
 unfold rngD at h
 rw [List.getElem?_map] at h
 by_cases hi:i < n
 ·rw [List.getElem?_range hi] at h; simp at h; exact ⟨hi,h.symm⟩
 ·rw [List.getElem?_eq_none (by simpa using hi)] at h; cases h
theorem aEa {lo:Int} {n:Nat}:ItOk K μ H ⟨rngD lo n,none⟩ (Itr lo n):=by
 refine ⟨fun _ _=>True,trivial,fun _ _ _ _ _ _ _=>trivial,fun μ1 H1 M1 i hr _ _=>⟨fun d hd=>?_,fun hl=>by simp only [rngD,List.length_map,List.length_range] at hl; exact hl⟩⟩
 obtain ⟨hi,rfl⟩:=cO hd
 refine ⟨hi,fun x H2 y=>?_⟩
 obtain ⟨rfl,rfl⟩:=y
 exact ⟨.refl,hr,by simp [Rp]⟩
noncomputable def in62 (i:Int):Bool:=decide (-4611686018427387904<=i/\i < 4611686018427387904)
noncomputable def iR1 (f:FE):FI:=fun L M=>(f L M).bind fun w M1=>match w with
 | .d (.int j)=>if in62 j=true then .ok ⟨rngD 0 j.toNat,none⟩ M1 else .bad
 | _=>.bad
noncomputable def iR2 (f g:FE):FI:=fun L M=>(f L M).bind fun w M1=>(g L M1).bind fun u M2=>match w,u with
 | .d (.int i),.d (.int j)=>if in62 i=true/\in62 j=true then .ok ⟨rngD i (j - i).toNat,none⟩ M2 else .bad
 | _,_=>.bad
theorem cK {p:Pos} (hm:X.mg "range"=none) (ha:Ev X K Z a f) (hg:Gl X "range":=by rfl) (hs:starEach [a] X.env=[(false,eval a X.env)]:=by rfl):Ei X K Z tg (.Call (.Name "range" p) [a] [] pos) (iR1 f):=by
 refine ⟨ha.k,cqI (zD hg hm (cZ ha.h fK hs) hs) ?_⟩
 rintro σ H R ⟨μ,M,L,hr,lr,p⟩
 refine ⟨μ,M,L,hr,lr,p.bind.imp fun μ1 H1 M1 w e1 hr1 _ p1 v rw'=>?_⟩
 cases w with
 | ref i=>exact p1.elim
 | d x=>cases x with
  | int j =>
   simp only at p1
   split at p1
   ·rename_i hz
    simp only [in62,decide_eq_true_eq] at hz
    simp only [Rw,Rp] at rw'
    subst rw'
    exact ⟨j,rfl,hz.1,hz.2,p1 μ1 H1 .refl hr1 _ aEa⟩
   ·exact p1.elim
  | _=>exact p1.elim
theorem aAl {p:Pos} (hm:X.mg "range"=none) (ha:Ev X K Z a fa) (hb:Ev X K Z b fb) (hg:Gl X "range":=by rfl) (hs:starEach [a,b] X.env=[(false,eval a X.env),(false,eval b X.env)]:=by rfl) (hs2:starEach [b] X.env=[(false,eval b X.env)]:=by rfl) :
  Ei X K Z tg (.Call (.Name "range" p) [a,b] [] pos) (iR2 fa fb):=by
 refine ⟨ha.k,cqI (aAx hg hm (cZ ha.h (cZ hb.h fK hs2) (by rw [hs,hs2])) hs hs2) ?_⟩
 rintro σ H R ⟨μ,M,L,hr,lr,p⟩
 refine ⟨μ,M,L,hr,lr,p.bind.imp fun μ1 H1 M1 w e1 hr1 _ p1 v rw'=>?_⟩
 refine ⟨μ1,M1,L,hr1,lr.ext hr.lsts e1,p1.bind.imp fun μ2 H2 M2 u e2 hr2 _ p2 v2 ru=>?_⟩
 have rw':=rw'.ext hr1.lsts e2
 cases w with
 | ref i=>exact p2.elim
 | d x=>cases x with
  | int i=>cases u with
   | ref j=>exact p2.elim
   | d y=>cases y with
    | int j =>
     simp only at p2
     split at p2
     ·rename_i hz
      simp only [in62,decide_eq_true_eq] at hz
      simp only [Rw,Rp] at rw' ru
      subst rw' ru
      exact ⟨i,j,rfl,⟨hz.1.1,hz.1.2,hz.2.1,hz.2.2⟩,p2 μ2 H2 .refl hr2 _ aEa⟩
     ·exact p2.elim
    | _=>exact p2.elim
  | _=>exact p2.elim
end
end EV
namespace EV
open PySem PySem.Spec PyProof.Rows L2
section
variable {K:PySem.W.Frag} {μ μ1 μ2:List Addr} {H H1 H2:Hp} {M M2:Mm}
theorem Ext.back (e:Ext μ H μ2 H2):Ext μ H μ H2:=⟨e.keep,fun a h=>.inl h,fun _ _ h=>h⟩
theorem Ext.take (e:Ext μ H μ2 H2):μ2.take μ.length=μ:=by
 apply List.ext_getElem?
 intro i
 rw [List.getElem?_take]
 split
 ·rename_i hi
  have:=e.pre i μ[i] (by simp [hi])
  rw [this]; simp [hi]
 ·rename_i hi
  rw [List.getElem?_eq_none (by omega)]
mutual
theorem Rp.sub (hs:∀ a,a∈μ1->a∈μ):∀ (d:D) (v:V),Rp K μ H d v->Rp K μ1 H d v
 | .non,v,h=>by simpa [Rp] using h
 | .bl b,v,h=>by simpa [Rp] using h
 | .int b,v,h=>by simpa [Rp] using h
 | .str b,v,h=>by simpa [Rp] using h
 | .tup ds,v,h=>by simp only [Rp] at h ⊢; obtain ⟨a,vs,e1,e2,e3⟩:=h; exact ⟨a,vs,e1,e2,Rps.sub hs ds vs e3⟩
 | .lst ds,v,h=>by simp only [Rp] at h ⊢; obtain ⟨a,vs,e1,e2,n,e3⟩:=h; exact ⟨a,vs,e1,e2,fun z=>n (hs a z),Rps.sub hs ds vs e3⟩
 | .fz ds,v,h=>by simp only [Rp] at h ⊢; obtain ⟨a,vs,e1,e2,e3⟩:=h; exact ⟨a,vs,e1,e2,Rps.sub hs ds vs e3⟩
 | .exn c f ds,v,h=>by simp only [Rp] at h ⊢; obtain ⟨a,vs,C,LE,d,e1,e2,e3,e4,e5⟩:=h; exact ⟨a,vs,C,LE,d,e1,e2,e3,e4,Rps.sub hs ds vs e5⟩
theorem Rps.sub (hs:∀ a,a∈μ1->a∈μ):∀ (ds:List D) (vs:List V),Rps K μ H ds vs->Rps K μ1 H ds vs
 | [],vs,h=>by simpa [Rps] using h
 | d::ds,vs,h=>by simp only [Rps] at h ⊢; obtain ⟨v,r,e1,e2,e3⟩:=h; exact ⟨v,r,e1,Rp.sub hs d v e2,Rps.sub hs ds r e3⟩
end
theorem HR.back (h:HR K μ2 H2 M2) (e:Ext μ H μ2 H2):HR K μ H2 (M2.take μ.length):=by
 have ht:=e.take
 have hsub:∀ a,a∈μ->a∈μ2:=fun a ha=>by rw [<- ht] at ha; exact List.mem_of_mem_take ha
 have hlen:μ.length<=μ2.length:=by have:=congrArg List.length ht; simp at this; omega
 refine ⟨by rw [List.length_take,<- h.len]; omega,by rw [<- ht]; exact h.nd.sublist (List.take_sublist _ _),fun i a ds q1 q2=>?_⟩
 rw [List.getElem?_take] at q2
 split at q2
 ·obtain ⟨vs,q3,q4⟩:=h.ent i a ds (e.pre i a q1) q2
  exact ⟨vs,q3,Rps.sub hsub _ _ q4⟩
 ·cases q2
end
noncomputable def outL (js:List (Option Nat)) (L:Lc):Lc:=js.map fun o=>o.bind fun j=>(L[j]?).join
open Classical in
noncomputable def compD (t:Nat) (s:Src) (g:FG) (c:FT) (f:FE):List D->Lc->Mm->Oc Unit
 | []=>fun _ M=>if Chk s M then .ok () M else .bad
 | d::r=>fun L M=>if Chk s M then (g (.d d) L M).bind fun L1 M1=>(c L1 M1).bind fun b M2=>if b=true then (f L1 M2).bind fun w M3=>match w,M3[t]? with
   | .d x,some acc=>if acc.length < 16777216 then compD t s g c f r L1 (M3.set t (acc++[x])) else .bad
   | _,_=>.bad
   else compD t s g c f r L1 M2
  else .bad
noncomputable def compT (js:List (Option Nat)) (fi:FI) (g:FG) (c:FT) (f:FE) (L:Lc) (M:Mm):Oc (List D):=(fi L M).bind fun s M1=>match compD M1.length s g c f s.ds (outL js L) (M1++[[]]) with
 | .ok _ M2=>match M2[M1.length]? with
  | some acc=>.ok acc (M2.take M1.length)
  | none=>.bad
 | _=>.bad
noncomputable def eComp (js:List (Option Nat)) (fi:FI) (g:FG) (c:FT) (f:FE):FE:=fun L M=>(compT js fi g c f L M).bind fun acc M1=>.ok (.d (.lst acc)) M1
noncomputable def tYes:FT:=fun _ M=>.ok true M
structure Eif (X:Cx) (K:PySem.W.Frag) (Z:Zt) (ifs:List Expr) (t:FT):Prop where
 k:X.K=K
 h:PIf X ifs (liftT K Z t)
section
variable {X:Cx} {K:PySem.W.Frag} {Z:Zt} {μ:List Addr} {H:Hp} {M:Mm} {e a b o:Expr} {es:List Expr} {pos:Pos} {f fa fb fo:FE} {fs:FA} {st:Stmt} {rest:List Stmt} {F G:FS}
theorem bZ (hk:X.K=K:=by rfl):Eif X K Z [] tYes:=⟨hk,fun pins s σ H Q I ⟨μ,M,L,hr,lr,p⟩=>aHl pins s σ H Q I (p μ H .refl hr)⟩
theorem wT {c:Expr} {t:FT} (h:Et X K Z c t):Eif X K Z [c] t:=⟨h.k,aFw h.h⟩
theorem LR.out {L:Lc} {σ:St} {js:List (Option Nat)} (h:LR K μ H L σ):LR K μ H (outL js L) (outσ js σ) where
 len:=by simp [outL,outσ]
 ent:=fun i w q=>by
  unfold outL at q
  unfold outσ
  rw [List.getElem?_map] at q ⊢
  cases e:js[i]? with
  | none=>rw [e] at q; cases q
  | some oj =>
   rw [e] at q
   cases oj with
   | none=>simp at q
   | some j =>
    simp only [Option.map_some,Option.bind_some,Option.some.injEq] at q ⊢
    cases e2:L[j]? with
    | none=>rw [e2] at q; cases q
    | some ow =>
     rw [e2] at q
     simp at q
     subst q
     obtain ⟨v,q1,q2⟩:=h.ent j w e2
     exact ⟨v,by rw [q1]; rfl,q2⟩
theorem aBf {Zi:Zt} {s:Src} {g:FG} {c:FT} {f:FE} {J:It} {Dt:Addr} {Q:Hp->Prop} {σ:St} {L:Lc} (n:Nat) (μ0:List Addr) (H0:Hp) (e0:Ext μ0 H0 μ H) (hn:μ0.length=n) (hD:μ[n]?=some Dt)
  (hr:HR K μ H M) (lr:LR K μ H L σ) (hJ:ItOk K μ H s J)
  (p:match compD n s g c f s.ds L M with
   | .ok _ M2=>∀ μ2 H2,Ext μ H μ2 H2->HR K μ2 H2 M2->Q H2
   | .ex z M2=>Zi.z z M2 μ H
   | .bad=>False):tTurns J (liftG K Zi g) (liftT K Zi c) (lift K Zi f) Dt σ H Q:=by
 obtain ⟨S,s0,sx,step⟩:=hJ
 -- what holds at turn i
 let R:List Addr->Hp->Lc->Mm->List D->Prop:=fun μ1 H1 L M rest=>match compD n s g c f rest L M with
   | .ok _ M2=>∀ μ2 H2,Ext μ1 H1 μ2 H2->HR K μ2 H2 M2->Q H2
   | .ex z M2=>Zi.z z M2 μ1 H1
   | .bad=>False
 refine ⟨fun i m σ H1=>m=s.ds.length - i/\i<=s.ds.length/\∃ μ1 M L,Ext μ0 H0 μ1 H1/\μ1[n]?=some Dt/\HR K μ1 H1 M/\LR K μ1 H1 L σ/\S μ1 H1/\R μ1 H1 L M (s.ds.drop i),⟨s.ds.length,by simp,Nat.zero_le _,μ,M,L,e0,hD,hr,lr,s0,by simpa [R] using p⟩,?_⟩
 rintro i m σ H1 ⟨rfl,hi,μ1,M,L,e1,hD1,hr,lr,sS,p⟩
 by_cases hlt:i < s.ds.length
 ·simp only [R] at p
  rw [List.drop_eq_getElem_cons hlt] at p
  unfold compD at p
  by_cases hch:Chk s M
  ·rw [if_pos hch] at p
   obtain ⟨go,yl⟩:=(step μ1 H1 M i hr sS hch).1 s.ds[i] (by simp [hlt])
   refine .inr ⟨go,fun σ' H'=>i+1<=s.ds.length/\∃ μ1 M L,Ext μ0 H0 μ1 H'/\μ1[n]?=some Dt/\HR K μ1 H' M/\LR K μ1 H' L σ'/\S μ1 H'/\R μ1 H' L M (s.ds.drop (i+1)),fun σ' H' q=>⟨s.ds.length - (i+1),by omega,rfl,q.1,q.2⟩,fun x H2 y=>?_⟩
   obtain ⟨e2,hr2,rx⟩:=yl x H2 y
   have lr2:=lr.ext hr.lsts e2
   have s2:=sx _ _ _ _ hr.lsts sS e2
   refine ⟨μ1,M,L,.d s.ds[i],hr2,lr2,rx,?_⟩
   cases q3:g (.d s.ds[i]) L M with
   | bad=>rw [q3] at p; exact p.elim
   | ex z M2=>rw [q3] at p; exact Zi.mono e2 p
   | ok L3 M3 =>
    rw [q3] at p
    intro μ3 H3 e3 hr3 σ3 lr3
    refine ⟨μ3,M3,L3,hr3,lr3,?_⟩
    simp only [fE] at p
    have s3:=sx _ _ _ _ hr2.lsts s2 e3
    cases q4:c L3 M3 with
    | bad=>rw [q4] at p; exact p.elim
    | ex z M2=>rw [q4] at p; exact Zi.mono (e2.trans e3) p
    | ok b M4 =>
     rw [q4] at p
     intro μ4 H4 e4 hr4
     simp only [fE] at p
     have s4:=sx _ _ _ _ hr3.lsts s3 e4
     have lr4:=lr3.ext hr3.lsts e4
     have E4:=((e1.trans e2).trans e3).trans e4
     have D4:=e4.pre _ _ (e3.pre _ _ (e2.pre _ _ hD1))
     cases b with
     | false =>
      refine ⟨hlt,μ4,M4,L3,E4,D4,hr4,lr4,s4,?_⟩
      simp only [R]
      simp only [Bool.false_eq_true,if_false] at p
      cases q5:compD n s g c f (s.ds.drop (i+1)) L3 M4 with
      | ok u M5=>rw [q5] at p; exact fun μ5 H5 e5 hr5=>p μ5 H5 (((e2.trans e3).trans e4).trans e5) hr5
      | ex z M5=>rw [q5] at p; exact Zi.mono ((e2.trans e3).trans e4) p
      | bad=>rw [q5] at p; exact p
     | true =>
      simp only [if_true] at p
      refine ⟨μ4,M4,L3,hr4,lr4,?_⟩
      cases q5:f L3 M4 with
      | bad=>rw [q5] at p; exact p.elim
      | ex z M2=>rw [q5] at p; exact Zi.mono ((e2.trans e3).trans e4) p
      | ok w M5 =>
       rw [q5] at p
       intro μ5 H5 e5 hr5 v rw'
       simp only [fE] at p
       cases w with
       | ref k=>exact p.elim
       | d x =>
        cases q6:M5[n]? with
        | none=>rw [q6] at p; exact p.elim
        | some acc =>
         rw [q6] at p
         simp only at p
         by_cases hz:acc.length < 16777216
         ·rw [if_pos hz] at p
          have D5:=e5.pre _ _ D4
          obtain ⟨a',vs,qa',h1,r1⟩:=hr5.at q6
          rw [D5] at qa'; cases qa'
          refine ⟨vs,h1,by rw [<- r1.length,sizeLine_eq]; exact hz,hlt,μ5,M5.set n (acc++[x]),L3,(E4.trans e5).trans (dQ D5),D5,hr5.set D5 (r1.append (.cons rw' .nil)),?_,?_,?_⟩
          ·exact (lr4.ext hr4.lsts e5).ext hr5.lsts (dQ D5)
          ·exact sx _ _ _ _ hr5.lsts (sx _ _ _ _ hr4.lsts s4 e5) (dQ D5)
          ·simp only [R]
           cases q7:compD n s g c f (s.ds.drop (i+1)) L3 (M5.set n (acc++[x])) with
           | ok u M6=>rw [q7] at p; exact fun μ6 H6 e6 hr6=>p μ6 H6 (((((e2.trans e3).trans e4).trans e5).trans (dQ D5)).trans e6) hr6
           | ex z M6=>rw [q7] at p; exact Zi.mono ((((e2.trans e3).trans e4).trans e5).trans (dQ D5)) p
           | bad=>rw [q7] at p; exact p
         ·rw [if_neg hz] at p; exact p.elim
  ·rw [if_neg hch] at p; exact p.elim
 ·have e:i=s.ds.length:=by omega
  subst e
  simp only [R] at p
  rw [List.drop_eq_nil_of_le (Nat.le_refl _)] at p
  unfold compD at p
  by_cases hch:Chk s M
  ·rw [if_pos hch] at p
   exact .inl ⟨(step μ1 H1 M _ hr sS hch).2 (Nat.le_refl _),p μ1 H1 .refl hr⟩
  ·rw [if_neg hch] at p; exact p.elim
theorem aBd {js:List (Option Nat)} {fi:FI} {g:FG} {c:FT} {f:FE} {σ:St} {Q:VK} (h:∃ μ M L,HR K μ H M/\LR K μ H L σ/\Pst K Z μ H (compT js fi g c f L M) fun μ' H' M' acc=>∀ q vs,H' q=some (.lst vs)->q∉μ'->Rps K μ' H' acc vs->Q (.ref q) H') :
  tComp js (liftI K Z fi) (liftG K Z0 g) (liftT K Z0 c) (lift K Z0 f) σ H Q:=by
 obtain ⟨μ,M,L,hr,lr,p⟩:=h
 refine ⟨μ,M,L,hr,lr,p.bind.imp fun μ1 H1 M1 s e1 hr1 _ p1 J hJ Dt hDt=>?_⟩
 have x:=rS (vs:=[]) hr1 hDt
 have hlen:=hr1.len
 obtain ⟨S,s0,sx,step⟩:=hJ
 refine aBf (M:=M1++[[]]) M1.length μ1 H1 x hr1.len (by rw [<- hlen]; simp) (hr1.new hDt .nil) (LR.out ((lr.ext hr.lsts e1).ext hr1.lsts x)) ⟨S,sx _ _ _ _ hr1.lsts s0 x,sx,step⟩ ?_
 cases q:compD M1.length s g c f s.ds (outL js L) (M1++[[]]) with
 | bad=>simp only [q] at p1; exact p1.elim
 | ex z M2=>simp only [q] at p1; exact p1.elim
 | ok u M2 =>
  simp only [q] at p1
  intro μ2 H2 e2 hr2
  cases q2:M2[M1.length]? with
  | none=>simp only [q2] at p1; exact p1.elim
  | some acc =>
   simp only [q2] at p1
   have E:=x.trans e2
   have hb:=hr2.back E
   rw [hlen] at hb
   have hD2:μ2[M1.length]?=some Dt:=e2.pre _ _ (by rw [<- hlen]; simp)
   obtain ⟨a',vs,qa',h1,r1⟩:=hr2.at q2
   rw [hD2] at qa'; cases qa'
   exact p1 μ1 H2 E.back hb Dt vs h1 (hr1.out hDt) (Rps.sub (fun a ha=>by rw [<- E.take] at ha; exact List.mem_of_mem_take ha) _ _ r1)
theorem tJ {js:List (Option Nat)} {fi:FI} {g:FG} {c:FT} {f:FE}:∀ σ H Q,lift K Z (eComp js fi g c f) σ H Q->tComp js (liftI K Z fi) (liftG K Z0 g) (liftT K Z0 c) (lift K Z0 f) σ H Q:=by
 rintro σ H Q ⟨μ,M,L,hr,lr,p⟩
 refine aBd ⟨μ,M,L,hr,lr,p.bind.imp fun μ1 H1 M1 acc e1 hr1 _ p1 q vs h1 h2 h3=>?_⟩
 exact p1 μ1 H1 .refl hr1 _ (by simp only [Rw,Rp]; exact ⟨q,vs,rfl,h1,h2,h3⟩)
theorem cA {tg iter elt:Expr} {ifs:List Expr} {scope:Scope} {Nc:List Str} {js:List (Option Nat)} {fi:FI} {g:FG} {c:FT} {f:FE} (hc:X.calm=true) (T:CompOk X.N X.env.scope scope Nc js) (hit:Ei X K Z tg iter fi)
  (hg:∀ cl C fp pins s₂ H₂,Eg (compCx X Nc scope cl C fp pins s₂ H₂) K Z0 tg g) (hi:∀ cl C fp pins s₂ H₂,Eif (compCx X Nc scope cl C fp pins s₂ H₂) K Z0 ifs c) (he:∀ cl C fp pins s₂ H₂,Ev (compCx X Nc scope cl C fp pins s₂ H₂) K Z0 elt f)
  (hs:∀ x,foldedSetIterable iter X.env x=pure x:=by intro _; rfl):Ev X K Z (.ListComp elt [⟨tg,iter,ifs,0⟩] scope pos) (eComp js fi g c f) :=
 ⟨hit.k,cqE (aHo hc T hit.h (fun _ _ _ _ _ _=>(hg _ _ _ _ _ _).h) (fun _ _ _ _ _ _=>(hi _ _ _ _ _ _).h) (fun _ _ _ _ _ _=>(he _ _ _ _ _ _).h) hs) tJ⟩
theorem xU {tg iter elt:Expr} {ifs:List Expr} {scope:Scope} {Nc:List Str} {js:List (Option Nat)} {fi:FI} {g:FG} {c:FT} {f:FE} {i:Nat} {y:Str} {py spos:Pos} (hN:X.N.Nodup) (hc:X.calm=true) (T:CompOk X.N X.env.scope scope Nc js) (hit:Ei X K Z tg iter fi)
  (hg:∀ cl C fp pins s₂ H₂,Eg (compCx X Nc scope cl C fp pins s₂ H₂) K Z0 tg g) (hi:∀ cl C fp pins s₂ H₂,Eif (compCx X Nc scope cl C fp pins s₂ H₂) K Z0 ifs c) (he:∀ cl C fp pins s₂ H₂,Ev (compCx X Nc scope cl C fp pins s₂ H₂) K Z0 elt f)
  (hyi:X.N[i]?=some y:=by rfl) (hy:X.env.scope.names.lookup y=some .local:=by rfl)
  (hsw:swapsWith (.ListComp elt [⟨tg,iter,ifs,0⟩] scope pos) (some (.Name y py)) spos.line X.env=pure true:=by rfl)
  (hs:∀ x,foldedSetIterable iter X.env x=pure x:=by intro _; rfl):Es X K Z (.Assign [.Name y py] (.ListComp elt [⟨tg,iter,ifs,0⟩] scope pos) spos) (sAs (eComp js fi g c f) (gN i)):=by
 refine ⟨hit.k,cqS (aFt hN hyi hy hc T hit.h (fun _ _ _ _ _ _=>(hg _ _ _ _ _ _).h) (fun _ _ _ _ _ _=>(hi _ _ _ _ _ _).h) (fun _ _ _ _ _ _=>(he _ _ _ _ _ _).h) hsw hs) ?_⟩
 rintro E σ H ⟨μ,M,L,hr,lr,p⟩
 refine tJ _ _ _ ⟨μ,M,L,hr,lr,p.bind.imp fun μ1 H1 M1 x e1 hr1 _ p1 v rx=>?_⟩
 exact p1 μ1 H1 .refl hr1 _ (LR.set (lr.ext hr.lsts e1) rx)
noncomputable def retc (n:Nat) (w:W) (M:Mm):Oc W:=match w with
 | .d x=>.ok (.d x) (M.take n)
 | .ref i=>if i < n then .ok (.ref i) (M.take n) else match M[i]? with
  | some ds=>.ok (.d (.lst ds)) (M.take n)
  | none=>.bad
noncomputable def fnD (m n:Nat) (F:FS):Fn:=fun ws M=>if ws.length=m then (F (ws.map some++List.replicate (n - ws.length) none) M).bind fun o M'=>match o with
  | .rt w=>retc M.length w M'
  | .nx _=>.ok (.d .non) (M'.take M.length)
  | _=>.bad
 else .bad
noncomputable def fnR (m n:Nat) (F:FS):Fn:=fun ws M=>if ws.length=m then (F (ws.map some++List.replicate (n - ws.length) none) M).bind fun o M'=>match o with
  | .rt (.ref i)=>if M.length<=i then (match M'[i]? with
   | some ds=>.ok (.ref M.length) (M'.take M.length++[ds])
   | none=>.bad) else .bad
  | _=>.bad
 else .bad
noncomputable def spF (K:PySem.W.Frag) (Z:Zt) (m:Nat) (Fm:Fn):Sp:=fun vs H Q E=>vs.length=m/\∃ μ M ws,HR K μ H M/\Rws K μ H ws vs/\Pst K Z μ H (Fm ws M) (Wk K Q)
theorem oI {N:List Str} {ws:List W} {vs:List V} (r:Rws K μ H ws vs):LR K μ H (ws.map some++List.replicate (N.length - ws.length) none) (L2.start N vs):=by
 have hl:=r.length
 refine ⟨by simp [L2.start,hl],fun i w q=>?_⟩
 by_cases hi:i < ws.length
 ·rw [List.getElem?_append_left (by simpa using hi),List.getElem?_map] at q
  cases e:ws[i]? with
  | none=>rw [e] at q; cases q
  | some w' =>
   rw [e] at q; cases q
   obtain ⟨v,q1,q2⟩:=r.get e
   refine ⟨v,?_,q2⟩
   unfold L2.start
   rw [List.getElem?_append_left (by simp; omega),List.getElem?_map,q1]; rfl
 ·rw [List.getElem?_append_right (by simpa using hi),List.getElem?_replicate] at q
  split at q <;> cases q
theorem bY {P:Program} {w:World} {mg:Str->Option Value} {base:Heap} {x qual:Str} {st:Stmt} {fa:Addr} {fd:FuncData} {N ps:List Str} {k:Nat} {F:FS} (hf:Fun K x qual st fa fd) (S:FnScope N ps (defScope st))
  (hb:∀ (cdv:Value) (A:Around) (outer:List Env) (s:Shared) (H:Hp) (E:XK),Room k (A.deeper (envOfC qual (defScope st) s.heap.objs.size fa cdv))->Ess (cxOf CX0 P w K mg base N qual (defScope st) fa cdv A outer s H E).nox K Z0 (defBody st) F) :
  FnOk P w K mg base CX0 (k+1) fa fd ps (spF K Z0 ps.length (fnD ps.length N.length F)):=by
 refine hf.ok S (fun vs H Q E h=>h.1) fun cdv A outer s H vs Q E hr hsp=>⟨_,(hb cdv A outer s H E hr).h,?_⟩
 obtain ⟨hv,μ,M,ws,hr,rx,p⟩:=hsp
 refine ⟨μ,M,_,hr,oI rx,?_⟩
 unfold fnD at p
 rw [if_pos (by rw [rx.length]; exact hv)] at p
 cases q:F (ws.map some++List.replicate (N.length - ws.length) none) M with
 | bad=>rw [q] at p; exact p
 | ex z M'=>rw [q] at p; exact p
 | ok o M' =>
  rw [q] at p
  simp only [fE] at p
  intro μ1 H1 e1 hr1
  have hb:=hr1.back e1
  rw [hr.len] at hb
  cases o with
  | nx L'=>exact fun σ' lr'=>p μ H1 e1.back hb _ (by simp [Rw,Rp])
  | bk L'=>exact p.elim
  | ct L'=>exact p.elim
  | rt w =>
   intro v rv
   have hsub:∀ a,a∈μ->a∈μ1:=fun a ha=>by rw [<- e1.take] at ha; exact List.mem_of_mem_take ha
   cases w with
   | d x=>exact p μ H1 e1.back hb v (Rp.sub hsub x v rv)
   | ref i =>
    simp only [retc] at p
    split at p
    ·rename_i hi
     obtain ⟨a,qa,rfl⟩:=rv
     refine p μ H1 e1.back hb _ ⟨a,?_,rfl⟩
     rw [<- hr.len] at hi
     have:=e1.pre i μ[i] (by simp [hi])
     rw [qa] at this; cases this
     simp [hi]
    ·rename_i hi
     cases q2:M'[i]? with
     | none=>simp only [q2] at p; exact p.elim
     | some ds =>
      simp only [q2] at p
      obtain ⟨a,qa,rfl⟩:=rv
      obtain ⟨a',vs',qa',h1,r1⟩:=hr1.at q2
      rw [qa] at qa'; cases qa'
      refine p μ H1 e1.back hb _ ?_
      simp only [Rw,Rp]
      refine ⟨a,vs',rfl,h1,fun ha=>?_,Rps.sub hsub _ _ r1⟩
      obtain ⟨j,hj,ej⟩:=List.mem_iff_getElem.mp ha
      have h2:=e1.pre j a (by rw [<- ej]; simp [hj])
      have l1:=(List.getElem?_eq_some_iff.mp qa).1
      have l2:=(List.getElem?_eq_some_iff.mp h2).1
      have g1:=(List.getElem?_eq_some_iff.mp qa).2
      have g2:=(List.getElem?_eq_some_iff.mp h2).2
      have pw:=List.pairwise_iff_getElem.mp hr1.nd
      rw [hr.len] at hj
      exact pw j i l2 l1 (by omega) (g2.trans g1.symm)
theorem aCu {P:Program} {w:World} {mg:Str->Option Value} {base:Heap} {x qual:Str} {st:Stmt} {fa:Addr} {fd:FuncData} {N ps:List Str} {k:Nat} {F:FS} (hf:Fun K x qual st fa fd) (S:FnScope N ps (defScope st))
  (hb:∀ (cdv:Value) (A:Around) (outer:List Env) (s:Shared) (H:Hp) (E:XK),Room k (A.deeper (envOfC qual (defScope st) s.heap.objs.size fa cdv))->Ess (cxOf CX0 P w K mg base N qual (defScope st) fa cdv A outer s H E).nox K Z0 (defBody st) F) :
  FnOk P w K mg base CX0 (k+1) fa fd ps (spF K Z0 ps.length (fnR ps.length N.length F)):=by
 refine hf.ok S (fun vs H Q E h=>h.1) fun cdv A outer s H vs Q E hr hsp=>⟨_,(hb cdv A outer s H E hr).h,?_⟩
 obtain ⟨hv,μ,M,ws,hr,rx,p⟩:=hsp
 refine ⟨μ,M,_,hr,oI rx,?_⟩
 unfold fnR at p
 rw [if_pos (by rw [rx.length]; exact hv)] at p
 cases q:F (ws.map some++List.replicate (N.length - ws.length) none) M with
 | bad=>rw [q] at p; exact p
 | ex z M'=>rw [q] at p; exact p
 | ok o M' =>
  rw [q] at p
  simp only [fE] at p
  intro μ1 H1 e1 hr1
  have hb:=hr1.back e1
  rw [hr.len] at hb
  cases o with
  | nx L'=>exact p.elim
  | bk L'=>exact p.elim
  | ct L'=>exact p.elim
  | rt w =>
   intro v rv
   have hsub:∀ a,a∈μ->a∈μ1:=fun a ha=>by rw [<- e1.take] at ha; exact List.mem_of_mem_take ha
   cases w with
   | d x=>exact p.elim
   | ref i =>
    simp only at p
    split at p
    ·rename_i hi
     cases q2:M'[i]? with
     | none=>simp only [q2] at p; exact p.elim
     | some ds =>
      simp only [q2] at p
      obtain ⟨a,qa,rfl⟩:=rv
      obtain ⟨a',vs',qa',h1,r1⟩:=hr1.at q2
      rw [qa] at qa'; cases qa'
      have hna:a∉μ:=fun ha=>by
       obtain ⟨j,hj,ej⟩:=List.mem_iff_getElem.mp ha
       have h2:=e1.pre j a (by rw [<- ej]; simp [hj])
       have l1:=(List.getElem?_eq_some_iff.mp qa).1
       have l2:=(List.getElem?_eq_some_iff.mp h2).1
       have g1:=(List.getElem?_eq_some_iff.mp qa).2
       have g2:=(List.getElem?_eq_some_iff.mp h2).2
       have pw:=List.pairwise_iff_getElem.mp hr1.nd
       rw [hr.len] at hj
       exact pw j i l2 l1 (by omega) (g2.trans g1.symm)
      have hsub2:∀ b,b∈μ++[a]->b∈μ1:=fun b hb=>by
       rcases List.mem_append.mp hb with hb | hb
       ·exact hsub b hb
       ·rw [List.mem_singleton] at hb; subst hb; exact List.mem_of_getElem? qa
      refine p (μ++[a]) H1 ⟨e1.keep,fun b hb=>e1.new b (hsub2 b hb),fun j b hj=>by rw [List.getElem?_append_left (List.getElem?_eq_some_iff.mp hj).1]; exact hj⟩ ?_ _ ⟨a,by rw [<- hr.len]; simp,rfl⟩
      refine ⟨by simp [hb.len],List.nodup_append.mpr ⟨hb.nd,by simp,fun b hb' c hc=>by rw [List.mem_singleton] at hc; subst hc; rintro rfl; exact hna hb'⟩,fun j b es q1 q3=>?_⟩
      by_cases hj:j < μ.length
      ·rw [List.getElem?_append_left hj] at q1
       rw [List.getElem?_append_left (by rw [<- hb.len]; exact hj),List.getElem?_take] at q3
       split at q3
       ·obtain ⟨us,q4,q5⟩:=hr1.ent j b es (e1.pre j b q1) q3
        exact ⟨us,q4,Rps.sub hsub2 _ _ q5⟩
       ·cases q3
      ·have hj':j=μ.length:=by have:=(List.getElem?_eq_some_iff.mp q1).1; simp at this; omega
       subst hj'
       rw [List.getElem?_append_right (Nat.le_refl _)] at q1
       rw [hb.len,List.getElem?_append_right (Nat.le_refl _)] at q3
       simp at q1 q3
       subst q1 q3
       exact ⟨vs',h1,Rps.sub hsub2 _ _ r1⟩
    ·exact p.elim
theorem aH {k:Nat} {fd:FuncData} {fa:Addr} {ps:List Str} {m:Nat} {Fm:Fn} {x:Str} {p:Pos} (Gf:FnOk X.prog X.w X.K X.mg X.base CX0 k fa fd ps (spF K Z0 m Fm)) (hr:Room k X.A) (hm:X.mg x=some (.ref fa)) (hk:PySem.W.keepIn X.K (.ref fa)=true) (hb:Binds X.K fd ps [])
  (ha:Ea X K Z0 (e::es) fs) (hl:ps.length=m:=by rfl) (hg:Gl X x:=by rfl) (hdb:(x==("__debug__":Str))=false:=by decide) (he:starEach (e::es) X.env=(false,eval e X.env)::starEach es X.env:=by rfl) (hpl:(backTo pos (starEach es X.env)).any (·.1)=false:=by rfl)
  (hlen:∀ ws M,ws.length≠m->Fm ws M=.bad:=by intro ws M h; first | exact if_neg h | rfl):Ev X K Z0 (.Call (.Name x p) (e::es) [] pos) (eA Fm fs):=by
 refine ⟨ha.k,cqE (yS Gf hr hg hm hk hb .nil pass0 ha.h hdb he hpl) ?_⟩
 rintro σ H Q ⟨μ,M,L,hr,lr,p⟩
 refine ⟨μ,M,L,hr,lr,p.bind.imp fun μ1 H1 M1 ws e1 hr1 _ p1 vs rx=>?_⟩
 show spF K Z0 m Fm (vs++[]) H1 Q E0
 rw [List.append_nil]
 refine ⟨?_,μ1,M1,ws,hr1,rx,p1⟩
 by_cases hw:ws.length=m
 ·rw [<- rx.length]; exact hw
 ·rw [hlen ws M1 hw] at p1; exact p1.elim
theorem aKi {K:PySem.W.Frag} {Fm:Fn} {H:Hp} {a:Addr} {ns:List Int} (hO:Only H) (hS:SqL K H a (ns.map V.int)) (h:∃ M',Fm [.d (.fz (ns.map D.int))] []=.ok (.d (.bl true)) M'):spF K Z0 1 Fm [.ref a] H (fun v _=>v=.bl true) fun _ _ _=>False:=by
 obtain ⟨M',h⟩:=h
 refine ⟨rfl,[],[],[.d (.fz (ns.map D.int))],⟨rfl,List.nodup_nil,fun i a ds q=>by simp at q⟩,⟨.ref a,[],rfl,?_,rfl⟩,?_⟩
 ·simp only [Rw,Rp]
  refine ⟨a,ns.map V.int,rfl,?_,Rps.ints⟩
  rcases hS with (z | z) | z
  ·rcases hO a with q | ⟨o,xs,q⟩ <;> rw [z] at q <;> cases q
  ·exact .inl z
  ·exact .inr z
 ·rw [h]
  intro μ' H' _ _ v rv
  simpa only [Rw,Rp] using rv
end
end EV
namespace EV
open PySem PySem.Spec PyProof.Rows L2
@[irreducible] noncomputable def NW:Nat:=18446744073709551616
theorem aDz:NW=18446744073709551616:=by unfold NW; rfl
theorem bQ {k:Nat} {A:Around} (hr:Room k A):A.units+101 < cLine:=by have:=hr.un; omega
theorem rO {P:Program} {w:World} {K:PySem.W.Frag} {mg:Str->Option Value} {base:Heap} {CX:CXT} {k m:Nat} {Z:Zt} {f:Addr} {fd:FuncData} {ps:List Str} (hl:ps.length=m):FnOk P w K mg base CX k f fd ps (spF K Z m (fun _ _=>.bad)) :=
 ⟨fun vs H Q E h=>by rw [h.1,hl],fun A outer s H args us vs Q E _ _ _ _ h=>by obtain ⟨_,μ,M,ws,_,_,p⟩:=h; exact p.elim⟩
section
variable {X:Cx} {K:PySem.W.Frag} {Z:Zt} {μ:List Addr} {H:Hp} {M:Mm} {e a b o tg:Expr} {es:List Expr} {pos:Pos} {f fa fb fo:FE} {fs:FA} {st:Stmt} {rest:List Stmt} {F G:FS}
noncomputable def pAddR (x y:W) (M:Mm):Oc W:=match lv M x,lv M y with
 | some xs,some ys=>if xs.length+ys.length<=16777216 then .ok (.ref M.length) (M++[xs++ys]) else .bad
 | _,_=>.bad
theorem opAddR:OpG X K Z (binaryOp .Add) pAddR:=fun hk=>⟨_,aBh,by
 intro μ H M x y v u Q hr rx ry p
 unfold pAddR at p
 cases q1:lv M x with
 | none=>rw [q1] at p; exact p.elim
 | some xs =>
  cases q2:lv M y with
  | none=>rw [q1,q2] at p; exact p.elim
  | some ys =>
   rw [q1,q2] at p
   simp only at p
   split at p
   ·rename_i hz
    obtain ⟨a,vs,rfl,h1,r1⟩:=mC hr rx q1
    obtain ⟨b,us,rfl,h2,r2⟩:=mC hr ry q2
    exact ⟨a,b,vs,us,rfl,rfl,h1,h2,by rw [<- r1.length,<- r2.length,sizeLine_eq]; exact hz,mY hr (r1.append r2) p⟩
   ·exact p.elim⟩
noncomputable def pSlR (x:W) (lo hi:Option Int) (M:Mm):Oc W:=match lr M x with
  | some xs=>.ok (.ref M.length) (M++[cut xs lo hi])
  | none=>.bad
noncomputable def eSlR (f:FE) (fl fh:FO):FE:=fun L M=>(f L M).bind fun x M1=>(fl L M1).bind fun lo M2=>(fh L M2).bind fun hi M3=>pSlR x lo hi M3
end
end EV
namespace ZP
open PySem PySem.Spec PyProof.Rows
section
variable {prog:Program} {w:World} {A:Around} {E:Value->Shared->Prop} {s:Shared}
theorem kI {it l:Addr} {i:Nat} {items:Array Value} {x:Value} {Q:Value->Shared->Prop} (hit:s.heap.IsTupleIter it l i)
  (hl:s.heap.IsTuple l items) (hx:items[i]?=some x)
  (hQ:∀ h',h'.IsTupleIter it l (i+1)->Heap.SameBut it s.heap h'->Q x { s with heap:=h' }) :
  wpAny (model prog w) A (Builtin.SmallTypes.nextOf (.ref it)) Q E s:=by
 obtain ⟨o,ho,hc,hd⟩:=id hit
 obtain ⟨ol,hol,_,nl,hdl⟩:=hl
 unfold Builtin.SmallTypes.nextOf
 refine wpAny_bind (wpAny_callSpecial?_slot (name:=Str.ofString "__next__") hit.typeIs F.slot_tuple_iterator_next
  (wpAny_call_entry F.slot_tuple_iterator_next hit.typeIs F.entry_tuple_iterator_next ?_ (F.args_tuple_iterator_next_1 _)))
 show wpAny _ _ (field (.ref it) 0 >>= _) _ _ s
 refine wpAny_bind (wpAny_field ho hd (x:=.ref l) rfl ?_)
 show wpAny _ _ (if (Value.ref l==Value.none)=true then _ else _) _ _ s
 rw [if_neg (show ¬ ((Value.ref l==Value.none)=true) from Bool.false_ne_true)]
 show wpAny _ _ (field (.ref it) 1 >>= _) _ _ s
 refine wpAny_bind (wpAny_field ho hd (x:=.int i 0) rfl ?_)
 show wpAny _ _ (seqItems? (.ref l) >>= _) _ _ s
 refine wpAny_bind (wpAny_seqItems hol hdl ?_)
 simp only [Int.toNat_natCast,hx]
 refine wpAny_bind (wpAny_setField ho hd (by simp) (wpAny_pure ⟨x,rfl,wpAny_pure (hQ _ ?_ (Heap.SameBut.update ..))⟩))
 exact ⟨_,Heap.get?_update_self _ ho (Obj.isFreed_of_fields (Obj.data_mapFields hd _)),(Obj.cls_mapFields ..).trans hc,by
  rw [Obj.data_mapFields hd]; simp [rawInt]⟩
theorem lQ {it l:Addr} {i:Nat} {items:Array Value} {Q:Value->Shared->Prop} (hh:A.handled=none)
  (hit:s.heap.IsTupleIter it l i) (hl:s.heap.IsTuple l items) (hx:items[i]?=none)
  (hE:∀ h' e,Heap.ExtBut it s.heap h'->(∃ o,h'.get? e=some o/\o.cls=.type "StopIteration")->E (.ref e) { s with heap:=h' }) :
  wpAny (model prog w) A (Builtin.SmallTypes.nextOf (.ref it)) Q E s:=by
 obtain ⟨o,ho,hc,hd⟩:=id hit
 obtain ⟨ol,hol,_,nl,hdl⟩:=hl
 unfold Builtin.SmallTypes.nextOf
 refine wpAny_bind (wpAny_callSpecial?_slot (name:=Str.ofString "__next__") hit.typeIs F.slot_tuple_iterator_next
  (wpAny_call_entry F.slot_tuple_iterator_next hit.typeIs F.entry_tuple_iterator_next ?_ (F.args_tuple_iterator_next_1 _)))
 show wpAny _ _ (field (.ref it) 0 >>= _) _ _ s
 refine wpAny_bind (wpAny_field ho hd (x:=.ref l) rfl ?_)
 show wpAny _ _ (if (Value.ref l==Value.none)=true then _ else _) _ _ s
 rw [if_neg (show ¬ ((Value.ref l==Value.none)=true) from Bool.false_ne_true)]
 show wpAny _ _ (field (.ref it) 1 >>= _) _ _ s
 refine wpAny_bind (wpAny_field ho hd (x:=.int i 0) rfl ?_)
 show wpAny _ _ (seqItems? (.ref l) >>= _) _ _ s
 refine wpAny_bind (wpAny_seqItems hol hdl ?_)
 simp only [Int.toNat_natCast,hx]
 refine wpAny_bind (wpAny_rule (wpAny_bind (wpAny_setField ho hd (by simp) ?_)))
 show wpAny _ _ (newExc (.type "StopIteration") [] >>= _) _ _ _
 refine wpAny_bind ?_
 simp only [newExc,newTuple]
 refine wpAny_bind (wpAny_newObj_type ?_ (by size_fits))
 refine wpAny_bind (m:=firstArgMember _ _) (wpAny_of_eq (a:=Value.none) (by first | rfl | (simp only [firstArgMember]; rfl)) ?_)
 refine wpAny_newObj_type ?_ (by size_fits)
 simp only [raiseNew]
 refine wpAny_bind (wpAny_handled ?_)
 first | rw [show A.in1.handled=none from hh] | rw [hh]
 refine wpAny_bind (wpAny_pure (wpAny_throw ?_))
 exact hE _ _ (((Heap.SameBut.update ..).extBut.push _).push _) ⟨_,Heap.get?_push_size _ rfl,rfl⟩
noncomputable def It1 (h:Heap) (it src:Addr) (i:Nat) (xs:Array Value):Prop:=(h.IsListIter it src i/\h.IsList src xs)\/(h.IsTupleIter it src i/\h.IsTuple src xs)
theorem It1.at {h h':Heap} {it src:Addr} {i:Nat} {xs:Array Value} (x:It1 h it src i xs) (k1:∀ o,h.get? it=some o->h'.get? it=some o) (k2:∀ o,h.get? src=some o->h'.get? src=some o):It1 h' it src i xs:=by
 rcases x with ⟨a,b⟩ | ⟨a,b⟩
 ·exact .inl ⟨a.at k1,b.at k2⟩
 ·refine .inr ⟨a.at k1,?_⟩
  obtain ⟨o,ho,r⟩:=b
  exact ⟨o,k2 o ho,r⟩
theorem It1.lt {h:Heap} {it src:Addr} {i:Nat} {xs:Array Value} (x:It1 h it src i xs):it < h.objs.size:=by
 rcases x with ⟨⟨_,e,_⟩,_⟩ | ⟨⟨_,e,_⟩,_⟩ <;> exact Heap.lt_size e
theorem It1.ne {h:Heap} {it src:Addr} {i:Nat} {xs:Array Value} (x:It1 h it src i xs):src≠it:=by
 rintro rfl
 rcases x with ⟨⟨o,e,c,_⟩,⟨o',e',c',_⟩⟩ | ⟨⟨o,e,c,_⟩,⟨o',e',c',_⟩⟩ <;> (rw [e] at e'; cases e'; rw [c] at c'; simp at c')
theorem It1.next {it src:Addr} {i:Nat} {xs:Array Value} {x:Value} {Q:Value->Shared->Prop} (h:It1 s.heap it src i xs) (hx:xs[i]?=some x) (hQ:∀ h',It1 h' it src (i+1) xs->Heap.SameBut it s.heap h'->Q x { s with heap:=h' }) :
  wpAny (model prog w) A (Builtin.SmallTypes.nextOf (.ref it)) Q E s:=by
 have hn:=h.ne
 rcases h with ⟨a,b⟩ | ⟨a,b⟩
 ·exact wpAny_nextOf_list_item a b hx fun h' a' sb=>hQ h' (.inl ⟨a',b.extBut sb.extBut hn⟩) sb
 ·exact kI a b hx fun h' a' sb=>hQ h' (.inr ⟨a',b.extBut sb.extBut hn⟩) sb
theorem It1.stop {it src:Addr} {i:Nat} {xs:Array Value} {Q:Value->Shared->Prop} (hh:A.handled=none) (h:It1 s.heap it src i xs) (hx:xs[i]?=none)
  (hE:∀ h' e,Heap.ExtBut it s.heap h'->(∃ o,h'.get? e=some o/\o.cls=.type "StopIteration")->E (.ref e) { s with heap:=h' }):wpAny (model prog w) A (Builtin.SmallTypes.nextOf (.ref it)) Q E s:=by
 rcases h with ⟨a,b⟩ | ⟨a,b⟩
 ·exact wpAny_nextOf_list_end hh a b hx hE
 ·exact lQ hh a b hx hE
theorem loadAlive {a:Addr} {Q:Option Obj->Shared->Prop} (h:Q (s.heap.get? a) s):wpAny (model prog w) A (loadIfAlive a) Q E s:=by
 intro Γ p hΓ
 show Sem.wp _ _ (Sem.loadIfAlive a _) _ _ _ _
 rw [Sem.wp_loadIfAlive]
 simpa using h
noncomputable abbrev zobj (TI TO:Addr) (f0 f1:Value):Obj:={ cls:=.type "zip",dict:=none,data:=.fields #[f0,f1,.bool false,.ref TI,.ref TO],slots:=#[] }
structure Ap (z TI TO i1 i2 l1 l2:Addr):Prop where
 TIz:TI≠z
 TOz:TO≠z
 i1z:i1≠z
 i2z:i2≠z
 TITO:TI≠TO
 TIi1:TI≠i1
 TIi2:TI≠i2
 TOi1:TO≠i1
 TOi2:TO≠i2
 i12:i1≠i2
 l1z:l1≠z
 l1TO:l1≠TO
 l1i1:l1≠i1
 l1i2:l1≠i2
 l2z:l2≠z
 l2TO:l2≠TO
 l2i1:l2≠i1
 l2i2:l2≠i2
structure Zs (h:Heap) (z TI TO i1 i2 l1 l2:Addr) (i:Nat) (xs ys:Array Value):Prop where
 z:∃ f0 f1,h.get? z=some (zobj TI TO f0 f1)/\(f0=.none\/∃ T:Nat,f0=rawInt T)
 ti:IsPair h TI (.ref i1) (.ref i2)
 to:∃ a b,IsPair h TO a b
 a:It1 h i1 l1 i xs
 b:It1 h i2 l2 i ys
theorem yF {z TI TO:Addr} {f0 f1:Value} {Q:Bool->Shared->Prop} (hz:s.heap.get? z=some (zobj TI TO f0 f1)) (hf:f0=.none\/∃ T:Nat,f0=rawInt T) (h1:Q true s) (h2:∀ h' f1',h'.get? z=some (zobj TI TO f0 f1')->Heap.SameBut z s.heap h'->Q false { s with heap:=h' }) :
  wpAny (model prog w) A (Builtin.SmallTypes.ownedTupleIsFree (.ref z)) Q E s:=by
 unfold Builtin.SmallTypes.ownedTupleIsFree
 refine wpAny_bind (wpAny_field hz rfl (x:=f0) rfl ?_)
 rcases hf with rfl | ⟨T,rfl⟩
 ·exact wpAny_pure h1
 ·show wpAny _ _ (loadIfAlive _ >>= _) _ _ _
  refine wpAny_bind (loadAlive ?_)
  cases q:s.heap.get? ((T:Int).toNat) with
  | none=>exact wpAny_pure h1
  | some o =>
   show wpAny _ _ (field (.ref z) 1 >>= _) _ _ _
   refine wpAny_bind (wpAny_field hz rfl (x:=f1) rfl ?_)
   by_cases hb:(f1 != .bool true)=true
   ·rw [if_pos hb]
    refine wpAny_bind (wpAny_setField_rec hz (by simp) fun h1 hz1 hs1=>wpAny_pure (h2 h1 _ hz1 hs1))
   ·rw [if_neg hb]
    exact wpAny_pure (h2 s.heap f1 hz ⟨rfl,fun _ _=>rfl⟩)
theorem zip_next_item {z TI TO i1 i2 l1 l2:Addr} {k:Nat} {xs ys:Array Value} {x y:Value} {Q:Value->Shared->Prop} (D:Ap z TI TO i1 i2 l1 l2) (Z:Zs s.heap z TI TO i1 i2 l1 l2 k xs ys) (hx:xs[k]?=some x) (hy:ys[k]?=some y)
  (hQ:∀ h' T,Zs h' z TI TO i1 i2 l1 l2 (k+1) xs ys->IsPair h' T x y->s.heap.objs.size<=T->(∀ c o,c≠z->c≠TO->c≠i1->c≠i2->s.heap.get? c=some o->h'.get? c=some o)->Q (.ref T) { s with heap:=h' }) :
  wpAny (model prog w) A (Builtin.«zip.__next__» ⟨[.ref z],[]⟩) (fun fin s'=>∃ v,fin=.done (.ret v)/\Q v s') E s:=by
 obtain ⟨⟨f0,f1,hz,hf⟩,hTI,⟨a,b,hTO⟩,h1,h2⟩:=Z
 show wpAny _ _ (field (.ref z) 2 >>= _) _ _ _
 refine wpAny_bind (wpAny_field hz rfl (x:=.bool false) rfl ?_)
 show wpAny _ _ (field (.ref z) 3 >>= _) _ _ _
 refine wpAny_bind (wpAny_field hz rfl (x:=.ref TI) rfl ?_)
 refine wpAny_bind (wpAny_seqItems hTI rfl ?_)
 show wpAny _ _ (Builtin.SmallTypes.ownedTupleIsFree (.ref z) >>= _) _ _ _
 refine wpAny_bind (yF hz hf ?_ fun h₁ f1' hz₁ hs₁=>?_)
 ·simp only [if_true]
  refine wpAny_bind (wpAny_rule ?_)
  refine wpAny_bind (wpAny_field hz rfl (x:=.ref TO) rfl ?_)
  refine wpAny_bind (wpAny_setField_rec hz (by simp) fun h₁ hz₁ hs₁=>?_)
  replace hz₁:h₁.get? z=some (zobj TI TO .ellipsis f1):=hz₁
  refine wpAny_bind ?_
  simp only [List.zipIdx_cons,List.zipIdx_nil,List.forIn_cons,List.forIn_nil]
  refine wpAny_bind (wpAny_bind (wpAny_onRaise ?_))
  show wpAny _ _ (Builtin.SmallTypes.nextOf (.ref i1) >>= _) _ _ _
  refine wpAny_bind (It1.next (h1.at (fun o e=>hs₁.extBut _ _ D.i1z e) fun o e=>hs₁.extBut _ _ D.l1z e) hx fun h₂ h1₂ hs₂=>wpAny_pure ?_)
  have hTO₂:IsPair h₂ TO a b:=hs₂.extBut _ _ D.TOi1 (hs₁.extBut _ _ D.TOz hTO)
  refine wpAny_bind (wpAny_seqItems hTO₂ rfl ?_)
  refine wpAny_bind (wpAny_updateSeq_pair hTO₂ fun h₃ hTO₃ hs₃=>?_)
  replace hTO₃:IsPair h₃ TO x b:=hTO₃
  refine wpAny_bind (wpAny_letGo (wpAny_pure ?_))
  refine wpAny_bind (wpAny_bind (wpAny_onRaise ?_))
  show wpAny _ _ (Builtin.SmallTypes.nextOf (.ref i2) >>= _) _ _ _
  refine wpAny_bind (It1.next (h2.at (fun o e=>hs₃.extBut _ _ D.TOi2.symm (hs₂.extBut _ _ D.i12.symm (hs₁.extBut _ _ D.i2z e))) fun o e=>hs₃.extBut _ _ D.l2TO (hs₂.extBut _ _ D.l2i1 (hs₁.extBut _ _ D.l2z e))) hy fun h₄ h2₄ hs₄=>wpAny_pure ?_)
  have hTO₄:IsPair h₄ TO x b:=hs₄.extBut _ _ D.TOi2 hTO₃
  refine wpAny_bind (wpAny_seqItems hTO₄ rfl ?_)
  refine wpAny_bind (wpAny_updateSeq_pair hTO₄ fun h₅ hTO₅ hs₅=>?_)
  replace hTO₅:IsPair h₅ TO x y:=hTO₅
  refine wpAny_bind (wpAny_letGo (wpAny_pure (wpAny_pure ?_)))
  refine wpAny_bind (wpAny_seqItems hTO₅ rfl ?_)
  refine wpAny_bind (wpAny_newTuple ?_)
  have hsz:h₅.objs.size=s.heap.objs.size:=by rw [hs₅.1,hs₄.1,hs₃.1,hs₂.1,hs₁.1]
  have hz₅:h₅.get? z=some (zobj TI TO .ellipsis f1):=hs₅.extBut _ _ D.TOz.symm (hs₄.extBut _ _ D.i2z.symm (hs₃.extBut _ _ D.TOz.symm (hs₂.extBut _ _ D.i1z.symm hz₁)))
  have hk₅:∀ c o,c≠z->c≠TO->c≠i1->c≠i2->s.heap.get? c=some o->h₅.get? c=some o:=fun c o c1 c2 c3 c4 e =>
   hs₅.extBut _ _ c2 (hs₄.extBut _ _ c4 (hs₃.extBut _ _ c2 (hs₂.extBut _ _ c3 (hs₁.extBut _ _ c1 e))))
  have h1₅:It1 h₅ i1 l1 (k+1) xs:=h1₂.at (fun o e=>hs₅.extBut _ _ D.TOi1.symm (hs₄.extBut _ _ D.i12 (hs₃.extBut _ _ D.TOi1.symm e))) fun o e=>hs₅.extBut _ _ D.l1TO (hs₄.extBut _ _ D.l1i2 (hs₃.extBut _ _ D.l1TO e))
  have h2₅:It1 h₅ i2 l2 (k+1) ys:=h2₄.at (fun o e=>hs₅.extBut _ _ D.TOi2.symm e) fun o e=>hs₅.extBut _ _ D.l2TO e
  have hzlt:z < h₅.objs.size:=Heap.lt_size hz₅
  show wpAny _ _ (Builtin.SmallTypes.ownedTupleHandOut (.ref z) (.ref h₅.objs.size) >>= _) _ _ _
  refine wpAny_bind ?_
  unfold Builtin.SmallTypes.ownedTupleHandOut
  have hz₆:(h₅.push { cls:=.type "tuple",data:=.seq #[x,y] }).get? z=some (zobj TI TO .ellipsis f1):=Heap.get?_push_of_some _ hz₅
  refine wpAny_bind (wpAny_setField_rec hz₆ (by simp) fun h₇ hz₇ hs₇=>?_)
  replace hz₇:h₇.get? z=some (zobj TI TO (rawInt h₅.objs.size) f1):=hz₇
  refine wpAny_setField_rec hz₇ (by simp) fun h₈ hz₈ hs₈=>?_
  replace hz₈:h₈.get? z=some (zobj TI TO (rawInt h₅.objs.size) (.bool false)):=hz₈
  have up:∀ c o,c≠z->h₅.get? c=some o->h₈.get? c=some o:=fun c o c1 e=>hs₈.extBut _ _ c1 (hs₇.extBut _ _ c1 (Heap.get?_push_of_some _ e))
  have hT₈:IsPair h₈ h₅.objs.size x y:=hs₈.extBut _ _ (Nat.ne_of_gt hzlt) (hs₇.extBut _ _ (Nat.ne_of_gt hzlt) (Heap.get?_push_size _ rfl))
  refine wpAny_pure ⟨_,rfl,hQ h₈ h₅.objs.size ⟨⟨_,_,hz₈,.inr ⟨_,rfl⟩⟩,up _ _ D.TIz (hk₅ _ _ D.TIz D.TITO D.TIi1 D.TIi2 hTI),⟨_,_,up _ _ D.TOz hTO₅⟩,h1₅.at (fun o e=>up _ o D.i1z e) fun o e=>up _ o D.l1z e,h2₅.at (fun o e=>up _ o D.i2z e) fun o e=>up _ o D.l2z e⟩ hT₈ (by rw [hsz]; exact Nat.le_refl _) fun c o c1 c2 c3 c4 e=>up c o c1 (hk₅ c o c1 c2 c3 c4 e)⟩
 ·simp only [Bool.false_eq_true,if_false]
  refine wpAny_bind ?_
  simp only [List.forIn_toArray,List.forIn_cons,List.forIn_nil]
  refine wpAny_bind (wpAny_bind (wpAny_holding ?_))
  show wpAny _ _ (Builtin.SmallTypes.nextOf (.ref i1) >>= _) _ _ _
  refine wpAny_bind (It1.next (h1.at (fun o e=>hs₁.extBut _ _ D.i1z e) fun o e=>hs₁.extBut _ _ D.l1z e) hx fun h₂ h1₂ hs₂=>wpAny_pure (wpAny_pure ?_))
  refine wpAny_bind (wpAny_bind (wpAny_holding ?_))
  show wpAny _ _ (Builtin.SmallTypes.nextOf (.ref i2) >>= _) _ _ _
  refine wpAny_bind (It1.next (h2.at (fun o e=>hs₂.extBut _ _ D.i12.symm (hs₁.extBut _ _ D.i2z e)) fun o e=>hs₂.extBut _ _ D.l2i1 (hs₁.extBut _ _ D.l2z e)) hy fun h₃ h2₃ hs₃=>wpAny_pure (wpAny_pure (wpAny_pure ?_)))
  show wpAny _ _ (newTuple [x,y] >>= _) _ _ _
  refine wpAny_bind (wpAny_newTuple ?_)
  have hsz:h₃.objs.size=s.heap.objs.size:=by rw [hs₃.1,hs₂.1,hs₁.1]
  have kp:∀ c o,c≠z->c≠i1->c≠i2->s.heap.get? c=some o->(h₃.push { cls:=.type "tuple",data:=.seq #[x,y] }).get? c=some o:=fun c o c1 c2 c3 e=>Heap.get?_push_of_some _ (hs₃.extBut _ _ c3 (hs₂.extBut _ _ c2 (hs₁.extBut _ _ c1 e)))
  refine wpAny_pure ⟨_,rfl,hQ _ h₃.objs.size ⟨⟨f0,f1',Heap.get?_push_of_some _ (hs₃.extBut _ _ D.i2z.symm (hs₂.extBut _ _ D.i1z.symm hz₁)),hf⟩,kp _ _ D.TIz D.TIi1 D.TIi2 hTI,⟨_,_,kp _ _ D.TOz D.TOi1 D.TOi2 hTO⟩,?_,?_⟩ (Heap.get?_push_size _ rfl) (by rw [hsz]; exact Nat.le_refl _) fun c o c1 c2 c3 c4 e=>kp c o c1 c3 c4 e⟩
  ·exact h1₂.at (fun o e=>Heap.get?_push_of_some _ (hs₃.extBut _ _ D.i12 e)) fun o e=>Heap.get?_push_of_some _ (hs₃.extBut _ _ D.l1i2 e)
  ·exact h2₃.at (fun o e=>Heap.get?_push_of_some _ e) fun o e=>Heap.get?_push_of_some _ e
theorem zip_next_end {z TI TO i1 i2 l1 l2:Addr} {k:Nat} {xs ys:Array Value} {Q:Fin->Shared->Prop} (hh:A.handled=none) (D:Ap z TI TO i1 i2 l1 l2) (Z:Zs s.heap z TI TO i1 i2 l1 l2 k xs ys) (hend:xs[k]?=none\/ys[k]?=none)
  (hE:∀ h' e,(∀ c o,c≠z->c≠TO->c≠i1->c≠i2->s.heap.get? c=some o->h'.get? c=some o)->(∃ o,h'.get? e=some o/\o.cls=.type "StopIteration")->E (.ref e) { s with heap:=h' }) :
  wpAny (model prog w) A (Builtin.«zip.__next__» ⟨[.ref z],[]⟩) Q E s:=by
 obtain ⟨⟨f0,f1,hz,hf⟩,hTI,⟨a,b,hTO⟩,h1,h2⟩:=Z
 show wpAny _ _ (field (.ref z) 2 >>= _) _ _ _
 refine wpAny_bind (wpAny_field hz rfl (x:=.bool false) rfl ?_)
 show wpAny _ _ (field (.ref z) 3 >>= _) _ _ _
 refine wpAny_bind (wpAny_field hz rfl (x:=.ref TI) rfl ?_)
 refine wpAny_bind (wpAny_seqItems hTI rfl ?_)
 show wpAny _ _ (Builtin.SmallTypes.ownedTupleIsFree (.ref z) >>= _) _ _ _
 refine wpAny_bind (yF hz hf ?_ fun h₁ f1' hz₁ hs₁=>?_)
 ·simp only [if_true]
  refine wpAny_bind (wpAny_rule ?_)
  refine wpAny_bind (wpAny_field hz rfl (x:=.ref TO) rfl ?_)
  refine wpAny_bind (wpAny_setField_rec hz (by simp) fun h₁ hz₁ hs₁=>?_)
  replace hz₁:h₁.get? z=some (zobj TI TO .ellipsis f1):=hz₁
  refine wpAny_bind ?_
  simp only [List.zipIdx_cons,List.zipIdx_nil,List.forIn_cons,List.forIn_nil]
  refine wpAny_bind (wpAny_bind (wpAny_onRaise ?_))
  show wpAny _ _ (Builtin.SmallTypes.nextOf (.ref i1) >>= _) _ _ _
  have h1':=h1.at (h':=h₁) (fun o e=>hs₁.extBut _ _ D.i1z e) fun o e=>hs₁.extBut _ _ D.l1z e
  cases hx:xs[k]? with
  | none =>
   refine wpAny_bind (It1.stop hh h1' hx fun h₂ e hs₂ he=>?_)
   obtain ⟨oe,hoe,hce⟩:=he
   have hz₂:h₂.get? z=some (zobj TI TO .ellipsis f1):=hs₂ _ _ D.i1z.symm hz₁
   have hez:e≠z:=fun x=>by subst x; rw [hz₂] at hoe; cases hoe; simp at hce
   exact wpAny_setField_rec hz₂ (by simp) fun h₃ _ hs₃=>hE h₃ e (fun c o c1 _ c3 _ x=>hs₃.extBut _ _ c1 (hs₂ _ _ c3 (hs₁.extBut _ _ c1 x))) ⟨oe,hs₃.extBut _ _ hez hoe,hce⟩
  | some x =>
   have hy:ys[k]?=none:=by rcases hend with h | h; rw [hx] at h; cases h; exact h
   refine wpAny_bind (It1.next h1' hx fun h₂ h1₂ hs₂=>wpAny_pure ?_)
   have hTO₂:IsPair h₂ TO a b:=hs₂.extBut _ _ D.TOi1 (hs₁.extBut _ _ D.TOz hTO)
   refine wpAny_bind (wpAny_seqItems hTO₂ rfl ?_)
   refine wpAny_bind (wpAny_updateSeq_pair hTO₂ fun h₃ hTO₃ hs₃=>?_)
   refine wpAny_bind (wpAny_letGo (wpAny_pure ?_))
   refine wpAny_bind (wpAny_bind (wpAny_onRaise ?_))
   show wpAny _ _ (Builtin.SmallTypes.nextOf (.ref i2) >>= _) _ _ _
   refine wpAny_bind (It1.stop hh (h2.at (fun o e=>hs₃.extBut _ _ D.TOi2.symm (hs₂.extBut _ _ D.i12.symm (hs₁.extBut _ _ D.i2z e))) fun o e=>hs₃.extBut _ _ D.l2TO (hs₂.extBut _ _ D.l2i1 (hs₁.extBut _ _ D.l2z e))) hy fun h₄ e hs₄ he=>?_)
   obtain ⟨oe,hoe,hce⟩:=he
   have hz₄:h₄.get? z=some (zobj TI TO .ellipsis f1):=hs₄ _ _ D.i2z.symm (hs₃.extBut _ _ D.TOz.symm (hs₂.extBut _ _ D.i1z.symm hz₁))
   have hez:e≠z:=fun x=>by subst x; rw [hz₄] at hoe; cases hoe; simp at hce
   exact wpAny_setField_rec hz₄ (by simp) fun h₅ _ hs₅=>hE h₅ e (fun c o c1 c2 c3 c4 x=>hs₅.extBut _ _ c1 (hs₄ _ _ c4 (hs₃.extBut _ _ c2 (hs₂.extBut _ _ c3 (hs₁.extBut _ _ c1 x))))) ⟨oe,hs₅.extBut _ _ hez hoe,hce⟩
 ·simp only [Bool.false_eq_true,if_false]
  refine wpAny_bind ?_
  simp only [List.forIn_toArray,List.forIn_cons,List.forIn_nil]
  refine wpAny_bind (wpAny_bind (wpAny_holding ?_))
  show wpAny _ _ (Builtin.SmallTypes.nextOf (.ref i1) >>= _) _ _ _
  have h1':=h1.at (h':=h₁) (fun o e=>hs₁.extBut _ _ D.i1z e) fun o e=>hs₁.extBut _ _ D.l1z e
  cases hx:xs[k]? with
  | none=>exact wpAny_bind (It1.stop hh h1' hx fun h₂ e hs₂ he=>hE h₂ e (fun c o c1 _ c3 _ x=>hs₂ _ _ c3 (hs₁.extBut _ _ c1 x)) he)
  | some x =>
   have hy:ys[k]?=none:=by rcases hend with h | h; rw [hx] at h; cases h; exact h
   refine wpAny_bind (It1.next h1' hx fun h₂ h1₂ hs₂=>wpAny_pure (wpAny_pure ?_))
   refine wpAny_bind (wpAny_bind (wpAny_holding ?_))
   show wpAny _ _ (Builtin.SmallTypes.nextOf (.ref i2) >>= _) _ _ _
   exact wpAny_bind (It1.stop hh (h2.at (fun o e=>hs₂.extBut _ _ D.i12.symm (hs₁.extBut _ _ D.i2z e)) fun o e=>hs₂.extBut _ _ D.l2i1 (hs₁.extBut _ _ D.l2z e)) hy fun h₃ e hs₃ he=>hE h₃ e (fun c o c1 _ c3 c4 x=>hs₃ _ _ c4 (hs₂.extBut _ _ c3 (hs₁.extBut _ _ c1 x))) he)
end
end ZP
namespace ZP
open PySem PySem.Spec PyProof.Rows
section
variable {prog:Program} {w:World} {A:Around} {E:Value->Shared->Prop} {s:Shared}
noncomputable abbrev zH1LL (h:Heap) (l1:Addr):Heap:=h.push { cls:=.type "list_iterator",data:=.fields #[.ref l1,.int 0 0] }
noncomputable abbrev zH2LL (h:Heap) (l1 l2:Addr):Heap:=(zH1LL h l1).push { cls:=.type "list_iterator",data:=.fields #[.ref l2,.int 0 0] }
noncomputable abbrev zH3LL (h:Heap) (l1 l2:Addr):Heap:=(zH2LL h l1 l2).push { cls:=.type "tuple",data:=.seq #[.ref h.objs.size,.ref (zH1LL h l1).objs.size] }
noncomputable abbrev zH4LL (h:Heap) (l1 l2:Addr):Heap:=(zH3LL h l1 l2).push { cls:=.type "tuple",data:=.seq #[.none,.none] }
noncomputable abbrev zH5LL (h:Heap) (l1 l2:Addr):Heap:=(zH4LL h l1 l2).push { cls:=.type "zip",data:=.fields #[.none,.bool false,.bool false,.ref (zH2LL h l1 l2).objs.size,.ref (zH3LL h l1 l2).objs.size] }
theorem uL (l1 l2:Addr) (xs ys:Array Value) :
  Meets (Builtin.«zip.__new__» ⟨[.type "zip",.ref l1,.ref l2],[]⟩) (fun _ R s=>s.heap.IsList l1 xs/\s.heap.IsList l2 ys /\
   R (.ok (.ret (.ref (zH4LL s.heap l1 l2).objs.size))) { s with heap:=zH5LL s.heap l1 l2 }) :=
 .of_wp fun prog w A R s h=>by
  obtain ⟨hp,g,d,tk,os⟩:=s; obtain ⟨hl1,hl2,h⟩:=h
  have hsub:=sub_zip
  have hL1:Heap.IsList (Shared.heap ⟨hp,g,d,tk,os⟩) l1 xs:=hl1
  have hL2:Heap.IsList (Shared.heap ⟨hp.push { cls:=.type "list_iterator",data:=.fields #[.ref l1,.int 0 0] },g,d,tk,os⟩) l2 ys:=by
   obtain ⟨o,ho,r⟩:=hl2
   exact ⟨o,Heap.get?_push_of_some _ ho,r⟩
  wp_walk using wpAny_pyIter_list hL1,wpAny_pyIter_list hL2
  exact ⟨_,rfl,h⟩
theorem vQ {l1 l2:Addr} {xs ys:Array Value} {Q:Value->Shared->Prop} (hl1:s.heap.IsList l1 xs) (hl2:s.heap.IsList l2 ys)
  (h:∀ h',Zs h' (s.heap.objs.size+4) (s.heap.objs.size+2) (s.heap.objs.size+3) s.heap.objs.size (s.heap.objs.size+1) l1 l2 0 xs ys->h'.objs.size=s.heap.objs.size+5 ->
   (∀ c o,s.heap.get? c=some o->h'.get? c=some o)->Q (.ref (s.heap.objs.size+4)) { s with heap:=h' }) :
  wpAny (model prog w) A (call (.type "zip") [.ref l1,.ref l2]) Q E s:=by
 refine callType_new F.called_zip (by decide) (F.typeCall_zip_2 _ _) (F.newCall_zip_2 _ _) (fun obj=>F.args_object_init_3 obj _ _) F.entry_zip_new
  (uL l1 l2 xs ys) ⟨hl1,hl2,?_⟩
 have z1:(zH1LL s.heap l1).objs.size=s.heap.objs.size+1:=Heap.size_push ..
 have z2:(zH2LL s.heap l1 l2).objs.size=s.heap.objs.size+2:=by rw [Heap.size_push,z1]
 have z3:(zH3LL s.heap l1 l2).objs.size=s.heap.objs.size+3:=by rw [Heap.size_push,z2]
 have z4:(zH4LL s.heap l1 l2).objs.size=s.heap.objs.size+4:=by rw [Heap.size_push,z3]
 have z5:(zH5LL s.heap l1 l2).objs.size=s.heap.objs.size+5:=by rw [Heap.size_push,z4]
 have g5:(zH5LL s.heap l1 l2).get? (zH4LL s.heap l1 l2).objs.size=some _:=Heap.get?_push_size _ rfl
 have g4:(zH5LL s.heap l1 l2).get? (zH3LL s.heap l1 l2).objs.size=some _:=Heap.get?_push_of_some _ (Heap.get?_push_size _ rfl)
 have g3:(zH5LL s.heap l1 l2).get? (zH2LL s.heap l1 l2).objs.size=some _:=Heap.get?_push_of_some _ (Heap.get?_push_of_some _ (Heap.get?_push_size _ rfl))
 have g2:(zH5LL s.heap l1 l2).get? (zH1LL s.heap l1).objs.size=some _:=Heap.get?_push_of_some _ (Heap.get?_push_of_some _ (Heap.get?_push_of_some _ (Heap.get?_push_size _ rfl)))
 have g1:(zH5LL s.heap l1 l2).get? s.heap.objs.size=some _:=Heap.get?_push_of_some _ (Heap.get?_push_of_some _ (Heap.get?_push_of_some _ (Heap.get?_push_of_some _ (Heap.get?_push_size _ rfl))))
 have kp:∀ c o,s.heap.get? c=some o->(zH5LL s.heap l1 l2).get? c=some o:=fun c o x =>
  Heap.get?_push_of_some _ (Heap.get?_push_of_some _ (Heap.get?_push_of_some _ (Heap.get?_push_of_some _ (Heap.get?_push_of_some _ x))))
 show _/\_
 rw [z2,z3,z4] at g5
 rw [z1,z2] at g3
 rw [z3] at g4
 rw [z1] at g2
 rw [z4]
 refine ⟨⟨_,g5,rfl⟩,h _ ⟨⟨_,_,g5,.inl rfl⟩,g3,⟨_,_,g4⟩,.inl ⟨⟨_,g1,rfl,rfl⟩,?_⟩,.inl ⟨⟨_,g2,rfl,rfl⟩,?_⟩⟩ z5 kp⟩
 ·obtain ⟨o,ho,r⟩:=hl1; exact ⟨o,kp _ _ ho,r⟩
 ·obtain ⟨o,ho,r⟩:=hl2; exact ⟨o,kp _ _ ho,r⟩
noncomputable abbrev zH1LT (h:Heap) (l1:Addr):Heap:=h.push { cls:=.type "list_iterator",data:=.fields #[.ref l1,.int 0 0] }
noncomputable abbrev zH2LT (h:Heap) (l1 l2:Addr):Heap:=(zH1LT h l1).push { cls:=.type "tuple_iterator",data:=.fields #[.ref l2,.int 0 0] }
noncomputable abbrev zH3LT (h:Heap) (l1 l2:Addr):Heap:=(zH2LT h l1 l2).push { cls:=.type "tuple",data:=.seq #[.ref h.objs.size,.ref (zH1LT h l1).objs.size] }
noncomputable abbrev zH4LT (h:Heap) (l1 l2:Addr):Heap:=(zH3LT h l1 l2).push { cls:=.type "tuple",data:=.seq #[.none,.none] }
noncomputable abbrev zH5LT (h:Heap) (l1 l2:Addr):Heap:=(zH4LT h l1 l2).push { cls:=.type "zip",data:=.fields #[.none,.bool false,.bool false,.ref (zH2LT h l1 l2).objs.size,.ref (zH3LT h l1 l2).objs.size] }
theorem uR (l1 l2:Addr) (xs ys:Array Value) :
  Meets (Builtin.«zip.__new__» ⟨[.type "zip",.ref l1,.ref l2],[]⟩) (fun _ R s=>s.heap.IsList l1 xs/\s.heap.IsTuple l2 ys /\
   R (.ok (.ret (.ref (zH4LT s.heap l1 l2).objs.size))) { s with heap:=zH5LT s.heap l1 l2 }) :=
 .of_wp fun prog w A R s h=>by
  obtain ⟨hp,g,d,tk,os⟩:=s; obtain ⟨hl1,hl2,h⟩:=h
  have hsub:=sub_zip
  have hL1:Heap.IsList (Shared.heap ⟨hp,g,d,tk,os⟩) l1 xs:=hl1
  have hL2:Heap.IsTuple (Shared.heap ⟨hp.push { cls:=.type "list_iterator",data:=.fields #[.ref l1,.int 0 0] },g,d,tk,os⟩) l2 ys:=by
   obtain ⟨o,ho,r⟩:=hl2
   exact ⟨o,Heap.get?_push_of_some _ ho,r⟩
  wp_walk using wpAny_pyIter_list hL1,wpAny_pyIter_tuple hL2
  exact ⟨_,rfl,h⟩
theorem wN {l1 l2:Addr} {xs ys:Array Value} {Q:Value->Shared->Prop} (hl1:s.heap.IsList l1 xs) (hl2:s.heap.IsTuple l2 ys)
  (h:∀ h',Zs h' (s.heap.objs.size+4) (s.heap.objs.size+2) (s.heap.objs.size+3) s.heap.objs.size (s.heap.objs.size+1) l1 l2 0 xs ys->h'.objs.size=s.heap.objs.size+5 ->
   (∀ c o,s.heap.get? c=some o->h'.get? c=some o)->Q (.ref (s.heap.objs.size+4)) { s with heap:=h' }) :
  wpAny (model prog w) A (call (.type "zip") [.ref l1,.ref l2]) Q E s:=by
 refine callType_new F.called_zip (by decide) (F.typeCall_zip_2 _ _) (F.newCall_zip_2 _ _) (fun obj=>F.args_object_init_3 obj _ _) F.entry_zip_new
  (uR l1 l2 xs ys) ⟨hl1,hl2,?_⟩
 have z1:(zH1LT s.heap l1).objs.size=s.heap.objs.size+1:=Heap.size_push ..
 have z2:(zH2LT s.heap l1 l2).objs.size=s.heap.objs.size+2:=by rw [Heap.size_push,z1]
 have z3:(zH3LT s.heap l1 l2).objs.size=s.heap.objs.size+3:=by rw [Heap.size_push,z2]
 have z4:(zH4LT s.heap l1 l2).objs.size=s.heap.objs.size+4:=by rw [Heap.size_push,z3]
 have z5:(zH5LT s.heap l1 l2).objs.size=s.heap.objs.size+5:=by rw [Heap.size_push,z4]
 have g5:(zH5LT s.heap l1 l2).get? (zH4LT s.heap l1 l2).objs.size=some _:=Heap.get?_push_size _ rfl
 have g4:(zH5LT s.heap l1 l2).get? (zH3LT s.heap l1 l2).objs.size=some _:=Heap.get?_push_of_some _ (Heap.get?_push_size _ rfl)
 have g3:(zH5LT s.heap l1 l2).get? (zH2LT s.heap l1 l2).objs.size=some _:=Heap.get?_push_of_some _ (Heap.get?_push_of_some _ (Heap.get?_push_size _ rfl))
 have g2:(zH5LT s.heap l1 l2).get? (zH1LT s.heap l1).objs.size=some _:=Heap.get?_push_of_some _ (Heap.get?_push_of_some _ (Heap.get?_push_of_some _ (Heap.get?_push_size _ rfl)))
 have g1:(zH5LT s.heap l1 l2).get? s.heap.objs.size=some _:=Heap.get?_push_of_some _ (Heap.get?_push_of_some _ (Heap.get?_push_of_some _ (Heap.get?_push_of_some _ (Heap.get?_push_size _ rfl))))
 have kp:∀ c o,s.heap.get? c=some o->(zH5LT s.heap l1 l2).get? c=some o:=fun c o x =>
  Heap.get?_push_of_some _ (Heap.get?_push_of_some _ (Heap.get?_push_of_some _ (Heap.get?_push_of_some _ (Heap.get?_push_of_some _ x))))
 show _/\_
 rw [z2,z3,z4] at g5
 rw [z1,z2] at g3
 rw [z3] at g4
 rw [z1] at g2
 rw [z4]
 refine ⟨⟨_,g5,rfl⟩,h _ ⟨⟨_,_,g5,.inl rfl⟩,g3,⟨_,_,g4⟩,.inl ⟨⟨_,g1,rfl,rfl⟩,?_⟩,.inr ⟨⟨_,g2,rfl,rfl⟩,?_⟩⟩ z5 kp⟩
 ·obtain ⟨o,ho,r⟩:=hl1; exact ⟨o,kp _ _ ho,r⟩
 ·obtain ⟨o,ho,r⟩:=hl2; exact ⟨o,kp _ _ ho,r⟩
noncomputable abbrev zH1TL (h:Heap) (l1:Addr):Heap:=h.push { cls:=.type "tuple_iterator",data:=.fields #[.ref l1,.int 0 0] }
noncomputable abbrev zH2TL (h:Heap) (l1 l2:Addr):Heap:=(zH1TL h l1).push { cls:=.type "list_iterator",data:=.fields #[.ref l2,.int 0 0] }
noncomputable abbrev zH3TL (h:Heap) (l1 l2:Addr):Heap:=(zH2TL h l1 l2).push { cls:=.type "tuple",data:=.seq #[.ref h.objs.size,.ref (zH1TL h l1).objs.size] }
noncomputable abbrev zH4TL (h:Heap) (l1 l2:Addr):Heap:=(zH3TL h l1 l2).push { cls:=.type "tuple",data:=.seq #[.none,.none] }
noncomputable abbrev zH5TL (h:Heap) (l1 l2:Addr):Heap:=(zH4TL h l1 l2).push { cls:=.type "zip",data:=.fields #[.none,.bool false,.bool false,.ref (zH2TL h l1 l2).objs.size,.ref (zH3TL h l1 l2).objs.size] }
theorem sO (l1 l2:Addr) (xs ys:Array Value) :
  Meets (Builtin.«zip.__new__» ⟨[.type "zip",.ref l1,.ref l2],[]⟩) (fun _ R s=>s.heap.IsTuple l1 xs/\s.heap.IsList l2 ys /\
   R (.ok (.ret (.ref (zH4TL s.heap l1 l2).objs.size))) { s with heap:=zH5TL s.heap l1 l2 }) :=
 .of_wp fun prog w A R s h=>by
  obtain ⟨hp,g,d,tk,os⟩:=s; obtain ⟨hl1,hl2,h⟩:=h
  have hsub:=sub_zip
  have hL1:Heap.IsTuple (Shared.heap ⟨hp,g,d,tk,os⟩) l1 xs:=hl1
  have hL2:Heap.IsList (Shared.heap ⟨hp.push { cls:=.type "tuple_iterator",data:=.fields #[.ref l1,.int 0 0] },g,d,tk,os⟩) l2 ys:=by
   obtain ⟨o,ho,r⟩:=hl2
   exact ⟨o,Heap.get?_push_of_some _ ho,r⟩
  wp_walk using wpAny_pyIter_tuple hL1,wpAny_pyIter_list hL2
  exact ⟨_,rfl,h⟩
theorem vY {l1 l2:Addr} {xs ys:Array Value} {Q:Value->Shared->Prop} (hl1:s.heap.IsTuple l1 xs) (hl2:s.heap.IsList l2 ys)
  (h:∀ h',Zs h' (s.heap.objs.size+4) (s.heap.objs.size+2) (s.heap.objs.size+3) s.heap.objs.size (s.heap.objs.size+1) l1 l2 0 xs ys->h'.objs.size=s.heap.objs.size+5 ->
   (∀ c o,s.heap.get? c=some o->h'.get? c=some o)->Q (.ref (s.heap.objs.size+4)) { s with heap:=h' }) :
  wpAny (model prog w) A (call (.type "zip") [.ref l1,.ref l2]) Q E s:=by
 refine callType_new F.called_zip (by decide) (F.typeCall_zip_2 _ _) (F.newCall_zip_2 _ _) (fun obj=>F.args_object_init_3 obj _ _) F.entry_zip_new
  (sO l1 l2 xs ys) ⟨hl1,hl2,?_⟩
 have z1:(zH1TL s.heap l1).objs.size=s.heap.objs.size+1:=Heap.size_push ..
 have z2:(zH2TL s.heap l1 l2).objs.size=s.heap.objs.size+2:=by rw [Heap.size_push,z1]
 have z3:(zH3TL s.heap l1 l2).objs.size=s.heap.objs.size+3:=by rw [Heap.size_push,z2]
 have z4:(zH4TL s.heap l1 l2).objs.size=s.heap.objs.size+4:=by rw [Heap.size_push,z3]
 have z5:(zH5TL s.heap l1 l2).objs.size=s.heap.objs.size+5:=by rw [Heap.size_push,z4]
 have g5:(zH5TL s.heap l1 l2).get? (zH4TL s.heap l1 l2).objs.size=some _:=Heap.get?_push_size _ rfl
 have g4:(zH5TL s.heap l1 l2).get? (zH3TL s.heap l1 l2).objs.size=some _:=Heap.get?_push_of_some _ (Heap.get?_push_size _ rfl)
 have g3:(zH5TL s.heap l1 l2).get? (zH2TL s.heap l1 l2).objs.size=some _:=Heap.get?_push_of_some _ (Heap.get?_push_of_some _ (Heap.get?_push_size _ rfl))
 have g2:(zH5TL s.heap l1 l2).get? (zH1TL s.heap l1).objs.size=some _:=Heap.get?_push_of_some _ (Heap.get?_push_of_some _ (Heap.get?_push_of_some _ (Heap.get?_push_size _ rfl)))
 have g1:(zH5TL s.heap l1 l2).get? s.heap.objs.size=some _:=Heap.get?_push_of_some _ (Heap.get?_push_of_some _ (Heap.get?_push_of_some _ (Heap.get?_push_of_some _ (Heap.get?_push_size _ rfl))))
 have kp:∀ c o,s.heap.get? c=some o->(zH5TL s.heap l1 l2).get? c=some o:=fun c o x =>
  Heap.get?_push_of_some _ (Heap.get?_push_of_some _ (Heap.get?_push_of_some _ (Heap.get?_push_of_some _ (Heap.get?_push_of_some _ x))))
 show _/\_
 rw [z2,z3,z4] at g5
 rw [z1,z2] at g3
 rw [z3] at g4
 rw [z1] at g2
 rw [z4]
 refine ⟨⟨_,g5,rfl⟩,h _ ⟨⟨_,_,g5,.inl rfl⟩,g3,⟨_,_,g4⟩,.inr ⟨⟨_,g1,rfl,rfl⟩,?_⟩,.inl ⟨⟨_,g2,rfl,rfl⟩,?_⟩⟩ z5 kp⟩
 ·obtain ⟨o,ho,r⟩:=hl1; exact ⟨o,kp _ _ ho,r⟩
 ·obtain ⟨o,ho,r⟩:=hl2; exact ⟨o,kp _ _ ho,r⟩
noncomputable abbrev zH1TT (h:Heap) (l1:Addr):Heap:=h.push { cls:=.type "tuple_iterator",data:=.fields #[.ref l1,.int 0 0] }
noncomputable abbrev zH2TT (h:Heap) (l1 l2:Addr):Heap:=(zH1TT h l1).push { cls:=.type "tuple_iterator",data:=.fields #[.ref l2,.int 0 0] }
noncomputable abbrev zH3TT (h:Heap) (l1 l2:Addr):Heap:=(zH2TT h l1 l2).push { cls:=.type "tuple",data:=.seq #[.ref h.objs.size,.ref (zH1TT h l1).objs.size] }
noncomputable abbrev zH4TT (h:Heap) (l1 l2:Addr):Heap:=(zH3TT h l1 l2).push { cls:=.type "tuple",data:=.seq #[.none,.none] }
noncomputable abbrev zH5TT (h:Heap) (l1 l2:Addr):Heap:=(zH4TT h l1 l2).push { cls:=.type "zip",data:=.fields #[.none,.bool false,.bool false,.ref (zH2TT h l1 l2).objs.size,.ref (zH3TT h l1 l2).objs.size] }
theorem uH (l1 l2:Addr) (xs ys:Array Value) :
  Meets (Builtin.«zip.__new__» ⟨[.type "zip",.ref l1,.ref l2],[]⟩) (fun _ R s=>s.heap.IsTuple l1 xs/\s.heap.IsTuple l2 ys /\
   R (.ok (.ret (.ref (zH4TT s.heap l1 l2).objs.size))) { s with heap:=zH5TT s.heap l1 l2 }) :=
 .of_wp fun prog w A R s h=>by
  obtain ⟨hp,g,d,tk,os⟩:=s; obtain ⟨hl1,hl2,h⟩:=h
  have hsub:=sub_zip
  have hL1:Heap.IsTuple (Shared.heap ⟨hp,g,d,tk,os⟩) l1 xs:=hl1
  have hL2:Heap.IsTuple (Shared.heap ⟨hp.push { cls:=.type "tuple_iterator",data:=.fields #[.ref l1,.int 0 0] },g,d,tk,os⟩) l2 ys:=by
   obtain ⟨o,ho,r⟩:=hl2
   exact ⟨o,Heap.get?_push_of_some _ ho,r⟩
  wp_walk using wpAny_pyIter_tuple hL1,wpAny_pyIter_tuple hL2
  exact ⟨_,rfl,h⟩
theorem wK {l1 l2:Addr} {xs ys:Array Value} {Q:Value->Shared->Prop} (hl1:s.heap.IsTuple l1 xs) (hl2:s.heap.IsTuple l2 ys)
  (h:∀ h',Zs h' (s.heap.objs.size+4) (s.heap.objs.size+2) (s.heap.objs.size+3) s.heap.objs.size (s.heap.objs.size+1) l1 l2 0 xs ys->h'.objs.size=s.heap.objs.size+5 ->
   (∀ c o,s.heap.get? c=some o->h'.get? c=some o)->Q (.ref (s.heap.objs.size+4)) { s with heap:=h' }) :
  wpAny (model prog w) A (call (.type "zip") [.ref l1,.ref l2]) Q E s:=by
 refine callType_new F.called_zip (by decide) (F.typeCall_zip_2 _ _) (F.newCall_zip_2 _ _) (fun obj=>F.args_object_init_3 obj _ _) F.entry_zip_new
  (uH l1 l2 xs ys) ⟨hl1,hl2,?_⟩
 have z1:(zH1TT s.heap l1).objs.size=s.heap.objs.size+1:=Heap.size_push ..
 have z2:(zH2TT s.heap l1 l2).objs.size=s.heap.objs.size+2:=by rw [Heap.size_push,z1]
 have z3:(zH3TT s.heap l1 l2).objs.size=s.heap.objs.size+3:=by rw [Heap.size_push,z2]
 have z4:(zH4TT s.heap l1 l2).objs.size=s.heap.objs.size+4:=by rw [Heap.size_push,z3]
 have z5:(zH5TT s.heap l1 l2).objs.size=s.heap.objs.size+5:=by rw [Heap.size_push,z4]
 have g5:(zH5TT s.heap l1 l2).get? (zH4TT s.heap l1 l2).objs.size=some _:=Heap.get?_push_size _ rfl
 have g4:(zH5TT s.heap l1 l2).get? (zH3TT s.heap l1 l2).objs.size=some _:=Heap.get?_push_of_some _ (Heap.get?_push_size _ rfl)
 have g3:(zH5TT s.heap l1 l2).get? (zH2TT s.heap l1 l2).objs.size=some _:=Heap.get?_push_of_some _ (Heap.get?_push_of_some _ (Heap.get?_push_size _ rfl))
 have g2:(zH5TT s.heap l1 l2).get? (zH1TT s.heap l1).objs.size=some _:=Heap.get?_push_of_some _ (Heap.get?_push_of_some _ (Heap.get?_push_of_some _ (Heap.get?_push_size _ rfl)))
 have g1:(zH5TT s.heap l1 l2).get? s.heap.objs.size=some _:=Heap.get?_push_of_some _ (Heap.get?_push_of_some _ (Heap.get?_push_of_some _ (Heap.get?_push_of_some _ (Heap.get?_push_size _ rfl))))
 have kp:∀ c o,s.heap.get? c=some o->(zH5TT s.heap l1 l2).get? c=some o:=fun c o x =>
  Heap.get?_push_of_some _ (Heap.get?_push_of_some _ (Heap.get?_push_of_some _ (Heap.get?_push_of_some _ (Heap.get?_push_of_some _ x))))
 show _/\_
 rw [z2,z3,z4] at g5
 rw [z1,z2] at g3
 rw [z3] at g4
 rw [z1] at g2
 rw [z4]
 refine ⟨⟨_,g5,rfl⟩,h _ ⟨⟨_,_,g5,.inl rfl⟩,g3,⟨_,_,g4⟩,.inr ⟨⟨_,g1,rfl,rfl⟩,?_⟩,.inr ⟨⟨_,g2,rfl,rfl⟩,?_⟩⟩ z5 kp⟩
 ·obtain ⟨o,ho,r⟩:=hl1; exact ⟨o,kp _ _ ho,r⟩
 ·obtain ⟨o,ho,r⟩:=hl2; exact ⟨o,kp _ _ ho,r⟩
theorem call_zipG {l1 l2:Addr} {xs ys:Array Value} {Q:Value->Shared->Prop} (h1:s.heap.IsList l1 xs\/s.heap.IsTuple l1 xs) (h2:s.heap.IsList l2 ys\/s.heap.IsTuple l2 ys)
  (h:∀ h',Zs h' (s.heap.objs.size+4) (s.heap.objs.size+2) (s.heap.objs.size+3) s.heap.objs.size (s.heap.objs.size+1) l1 l2 0 xs ys->h'.objs.size=s.heap.objs.size+5 ->
   (∀ c o,s.heap.get? c=some o->h'.get? c=some o)->Q (.ref (s.heap.objs.size+4)) { s with heap:=h' }) :
  wpAny (model prog w) A (call (.type "zip") [.ref l1,.ref l2]) Q E s:=by
 rcases h1 with h1 | h1 <;> rcases h2 with h2 | h2
 ·exact vQ h1 h2 h
 ·exact wN h1 h2 h
 ·exact vY h1 h2 h
 ·exact wK h1 h2 h
end
end ZP
namespace ZP
open PySem PySem.Spec PyProof.Rows
section
variable {prog:Program} {w:World} {A:Around} {R:Result->Shared->Prop}
variable {E:Value->Shared->Prop} {s:Shared}
theorem ap_of {n l1 l2:Nat} (h1:l1 < n) (h2:l2 < n):Ap (n+4) (n+2) (n+3) n (n+1) l1 l2:=by
 constructor <;> (show (_:Nat)≠(_:Nat); omega)
end
end ZP
namespace EV
open PySem PySem.Spec PyProof.Rows L2
section
variable {X:Cx} {pins:List (Addr×Obj)} {σ:L2.St} {H H':Hp} {s:Shared} {h':Heap}
end
section
variable {X:Cx} {K:PySem.W.Frag} {Z:Zt} {a b:Expr} {fa fb:FE} {ta tb:TE} {p q pos pos2:Pos}
noncomputable def zipT (xs ys:List D):List D:=(xs.zip ys).map fun p=>.tup [p.1,p.2]
end
end EV
namespace RT
open PySem PySem.Spec PyProof.Rows
theorem eB:Slot "reversed" "__next__" "reversed.__next__" :=
 .of (owner:="reversed") (n:="__next__") (by rw [typeLookup_type,builtinLookup_eq_fast]; kernel_rfl) (by decide +kernel) (by decide +kernel) (by decide +kernel)
  (by first | exact .inl (by decide +kernel) | exact .inr (by decide +kernel)) (by rw [isSubtype_type]; kernel_rfl)
theorem kH:Slot "reversed" "__iter__" "reversed.__iter__" :=
 .of (owner:="reversed") (n:="__iter__") (by rw [typeLookup_type,builtinLookup_eq_fast]; kernel_rfl) (by decide +kernel) (by decide +kernel) (by decide +kernel)
  (by first | exact .inl (by decide +kernel) | exact .inr (by decide +kernel)) (by rw [isSubtype_type]; kernel_rfl)
theorem qS:Slot "reversed" "__init__" "object.__init__" :=
 .of (owner:="object") (n:="__init__") (by rw [typeLookup_type,builtinLookup_eq_fast]; kernel_rfl) (by decide +kernel) (by decide +kernel) (by decide +kernel)
  (by first | exact .inl (by decide +kernel) | exact .inr (by decide +kernel)) (by rw [isSubtype_type]; kernel_rfl)
theorem jU:entryFor table "reversed.__next__"=some Builtin.«reversed.__next__»:=entryFor_of_tree (by kernel_rfl)
theorem pH:entryFor table "reversed.__iter__"=some Builtin.«dict_keyiterator.__iter__» :=
 entryFor_alias (id':="dict_keyiterator.__iter__") (by kernel_rfl) (by first | rfl | decide +kernel | (unfold String.splitOn; simp +decide [String.splitOnAux])) (by decide +kernel) (by kernel_rfl)
theorem tK:Manifest.owners.lookup (String.ofList ['d','e','s','r','e','v','e','r'].reverse)=some Manifest.sig_reversed:=by kernel_rfl
theorem kY (a:Value):argsOk "reversed.__next__" ⟨[a],[]⟩:=by
 unfold argsOk; rw [signature?_of (id:="reversed.__next__") (n:=['_','_','t','x','e','n','_','_']) (o:=['d','e','s','r','e','v','e','r']) (by kernel_rfl) tK]; kernel_rfl
theorem sC (a:Value):argsOk "reversed.__iter__" ⟨[a],[]⟩:=by
 unfold argsOk; rw [signature?_of (id:="reversed.__iter__") (n:=['_','_','r','e','t','i','_','_']) (o:=['d','e','s','r','e','v','e','r']) (by kernel_rfl) tK]; kernel_rfl
theorem aAp:TypeCalled "reversed" "reversed.__new__" "object.__init__" :=
 ⟨by decide +kernel,by decide +kernel,⟨_,_,F.mro_reversed⟩,F.made_reversed,by decide +kernel,by rw [isSubtype_type]; kernel_rfl,qS⟩
theorem rD:typeLookup (.type "tuple") "__reversed__"=pure none:=by rw [typeLookup_type,builtinLookup_eq_fast]; kernel_rfl
theorem nD:isSubtype (.type "tuple") (.type "dict")=pure false:=by rw [isSubtype_type]; kernel_rfl
noncomputable abbrev rvObj (l:Addr) (i:Int):Obj:={ cls:=.type "reversed",dict:=none,data:=.fields #[.ref l,rawInt i],slots:=#[] }
theorem aEe (l:Addr) (items:Array Value):Meets (Builtin.«reversed.__new__» ⟨[.type "reversed",.ref l],[]⟩) (fun _ R s=>IsTup s.heap l items/\(items.size:Int) < 2 ^ 63 /\
   R (.ok (.ret (.ref s.heap.objs.size))) { s with heap:=s.heap.push (rvObj l ((items.size:Int) - 1)),toks:=s.toks+1+1 }) :=
 .of_wp fun prog w A R s h=>by
  obtain ⟨hl,hz,h⟩:=h
  unfold Builtin.«reversed.__new__»
  refine wpAny_bind (wpAny_of_eq (newClass_reversed _) ?_)
  try dsimp only
  refine wpAny_bind (wpAny_of_eq (a:=()) (by first | rfl | kernel_rfl) ?_)
  refine wpAny_bind (wpAny_of_eq (a:=()) (by first | rfl | kernel_rfl) ?_)
  try dsimp only
  refine wpAny_bind (wpAny_specialOf hl.typeIs rD ?_)
  try dsimp only
  refine wpAny_bind ?_
  refine wpAny_bind (wpAny_isInstance (T:="tuple") (b:=false) hl.typeIs nD ?_)
  try dsimp only
  refine wpAny_bind (wpAny_specialOf hl.typeIs F.slot_tuple_getitem.lookup ?_)
  refine wpAny_of_eq (a:=true) (by first | rfl | kernel_rfl) ?_
  show wpAny _ _ (call (.builtin "len") [.ref l] >>= _) _ _ _
  refine wpAny_bind (len_tuple hl hz ?_)
  refine wpAny_bind (wpAny_of_eq (a:=some (items.size:Int)) (by first | rfl | kernel_rfl) ?_)
  show wpAny _ _ (newObj (.type "reversed") (.fields #[.ref l,rawInt ((items.size:Int) - 1)]) >>= _) _ _ _
  exact wpAny_bind (wpAny_newObj_type (wpAny_pure ⟨_,rfl,h⟩))
end RT
namespace RT
open PySem PySem.Spec PyProof.Rows
section
variable {prog:Program} {w:World} {A:Around} {E:Value->Shared->Prop} {s:Shared}
theorem call_rev_tuple {l:Addr} {items:Array Value} {Q:Value->Shared->Prop} (hl:IsTup s.heap l items) (hz:(items.size:Int) < 2 ^ 63)
  (h:Q (.ref s.heap.objs.size) { s with heap:=s.heap.push (rvObj l ((items.size:Int) - 1)),toks:=s.toks+1+1 }):wpAny (model prog w) A (call (.type "reversed") [.ref l]) Q E s :=
 callType_new aAp (by decide) (F.typeCall_reversed_1 _) (F.newCall_reversed_1 _) (fun obj=>F.args_object_init_2 obj _) F.entry_reversed_new (aEe l items) ⟨hl,hz,⟨⟨_,Heap.get?_push_size _ rfl,rfl⟩,h⟩⟩
noncomputable def IsRvT (h:Heap) (a l:Addr) (i:Int):Prop:=∃ o,h.get? a=some o/\o.cls=.type "reversed"/\o.data=.fields #[.ref l,rawInt i]
theorem IsRvT.typeIs {a l:Addr} {i:Int} (x:IsRvT s.heap a l i):s.TypeIs (.ref a) "reversed":=let ⟨o,ho,hc,_⟩:=x; ⟨o,ho,hc⟩
theorem IsRvT.at {h h':Heap} {a l:Addr} {i:Int} (x:IsRvT h a l i) (e:∀ o,h.get? a=some o->h'.get? a=some o):IsRvT h' a l i:=let ⟨o,ho,r⟩:=x; ⟨o,e _ ho,r⟩
theorem next_item {it l:Addr} {i:Nat} {items:Array Value} {x:Value} {Q:Option Value->Shared->Prop} (hit:IsRvT s.heap it l (i:Int)) (hl:IsTup s.heap l items) (hz:(items.size:Int) < 2 ^ 63) (hx:items[i]?=some x)
  (hQ:∀ h' tk,IsRvT h' it l ((i:Int) - 1)->Heap.SameBut it s.heap h'->Q (some x) { s with heap:=h',toks:=tk }):wpAny (model prog w) A (pyNext (.ref it)) Q E s:=by
 obtain ⟨o,ho,hc,hd⟩:=id hit
 have hlt:i < items.size:=by
  rcases Nat.lt_or_ge i items.size with h | h
  ·exact h
  ·rw [Array.getElem?_eq_none h] at hx; cases hx
 unfold pyNext
 refine wpAny_bind (wpAny_attempt (wpAny_callSpecial?_slot (name:=Str.ofString "__next__") hit.typeIs eB
  (wpAny_call_entry eB hit.typeIs jU ?_ (kY _))))
 unfold Builtin.«reversed.__next__»
 refine wpAny_bind (wpAny_of_eq (a:=(Value.ref it,[])) rfl ?_)
 try dsimp only
 refine wpAny_bind (wpAny_field ho hd (x:=.ref l) rfl ?_)
 refine wpAny_bind (wpAny_field ho hd (x:=rawInt (i:Int)) rfl ?_)
 show wpAny _ _ (if (i:Int) < 0 then _ else _) _ _ s
 rw [if_neg (by omega)]
 show wpAny _ _ (specialOf (.ref l) (Str.ofString "__getitem__") >>= _) _ _ s
 refine wpAny_bind (wpAny_specialOf hl.typeIs F.slot_tuple_getitem.lookup ?_)
 show wpAny _ _ (mkInt (i:Int) >>= _) _ _ s
 refine wpAny_bind (wpAny_mkInt ?_)
 refine wpAny_bind (wpAny_attempt (getItem_tuple (j:=i) (x:=x) hl (by omega) (by omega) ?_ hx ?_))
 ·rw [seqIndex_of (by omega) (by omega)]; simp
 try dsimp only
 refine wpAny_bind (wpAny_field ho hd (x:=rawInt (i:Int)) rfl ?_)
 show wpAny _ _ (setField _ _ _ >>= _) _ _ _
 refine wpAny_bind (wpAny_setField ho hd (by simp) ?_)
 refine wpAny_pure ⟨x,rfl,wpAny_pure (hQ _ _ ?_ (Heap.SameBut.update ..))⟩
 exact ⟨_,Heap.get?_update_self _ ho (Obj.isFreed_of_fields (Obj.data_mapFields hd _)),(Obj.cls_mapFields ..).trans hc,by
  rw [Obj.data_mapFields hd]; simp⟩
theorem next_end {it l:Addr} {Q:Option Value->Shared->Prop} (hh:A.handled=none) (hit:IsRvT s.heap it l (-1))
  (hQ:∀ h',Heap.ExtBut it s.heap h'->Q none { s with heap:=h' }):wpAny (model prog w) A (pyNext (.ref it)) Q E s:=by
 obtain ⟨o,ho,hc,hd⟩:=id hit
 unfold pyNext
 refine wpAny_bind (wpAny_attempt (wpAny_callSpecial?_slot (name:=Str.ofString "__next__") hit.typeIs eB
  (wpAny_call_entry eB hit.typeIs jU ?_ (kY _))))
 unfold Builtin.«reversed.__next__»
 refine wpAny_bind (wpAny_of_eq (a:=(Value.ref it,[])) rfl ?_)
 try dsimp only
 refine wpAny_bind (wpAny_field ho hd (x:=.ref l) rfl ?_)
 refine wpAny_bind (wpAny_field ho hd (x:=rawInt (-1)) rfl ?_)
 show wpAny _ _ (if (-1:Int) < 0 then _ else _) _ _ s
 rw [if_pos (by decide)]
 refine wpAny_bind (wpAny_rule ?_)
 refine wpAny_bind ?_
 show wpAny _ _ (setField (.ref it) 1 (rawInt (-1)) >>= _) _ _ _
 refine wpAny_bind (wpAny_setField ho hd (by simp) ?_)
 refine wpAny_setField (Heap.get?_update_self _ ho (Obj.isFreed_of_fields (Obj.data_mapFields hd _))) (Obj.data_mapFields hd _) (by simp) ?_
 refine wpAny_bind ?_
 show wpAny _ _ (newExc (.type "StopIteration") [] >>= _) _ _ _
 refine wpAny_bind ?_
 simp only [newExc,newTuple]
 refine wpAny_bind (wpAny_newObj_type ?_ (by size_fits))
 refine wpAny_bind (m:=firstArgMember _ _) (wpAny_of_eq (a:=Value.none) (by first | rfl | (simp only [firstArgMember]; rfl)) ?_)
 refine wpAny_newObj_type ?_ (by size_fits)
 simp only [raiseNew]
 refine wpAny_bind (wpAny_handled ?_)
 first | rw [show A.in1.handled=none from hh] | rw [hh]
 refine wpAny_bind (wpAny_pure (wpAny_throw ?_))
 refine wpAny_bind (wpAny_isInstance (T:="StopIteration") (b:=true) ⟨_,Heap.get?_push_size _ rfl,rfl⟩ isSubtype_stop ?_)
 exact wpAny_pure (hQ _ ((((Heap.SameBut.update ..).extBut.trans (Heap.SameBut.update ..).extBut).push _).push _))
theorem iter_self {it l:Addr} {i:Int} {Q:Value->Shared->Prop} (hit:IsRvT s.heap it l i) (h:Q (.ref it) s):wpAny (model prog w) A (pyIter (.ref it)) Q E s:=by
 refine wpAny_pyIter_slot hit.typeIs kH (wpAny_call_entry kH hit.typeIs pH ?_ (sC _))
 show wpAny _ _ (ret (.ref it)) _ _ s
 exact wpAny_pure ⟨_,rfl,"reversed",_,hit.typeIs,eB.lookup,h⟩
end
end RT
namespace L2
open PySem PySem.Spec PyProof.Rows
noncomputable def Itw (K:PySem.W.Frag) (a:Addr) (xs:List V):It :=
 ⟨fun i H=>SqT K H a xs/\i < xs.length,fun i H x H'=>H'=H/\xs[xs.length - 1 - i]?=some x,fun i _=>xs.length<=i⟩
theorem aAq {P:Program} {w:World} {K:PySem.W.Frag} {tg:Expr} (a it:Addr) (xs:List V):Turn P w K tg (Itw K a xs) [it] it (fun i h=>i<=xs.length/\RT.IsRvT h it a ((xs.length:Int) - 1 - (i:Int))) where
 mem:=by simp
 obj:=fun i h st b hb=>by
  have e:b=it:=by simpa using hb
  subst e
  obtain ⟨o,e,c,d⟩:=st.2
  exact ⟨o,e,fun v z=>by rw [d] at z; cases z⟩
 keep:=fun i h h' st k=>⟨st.1,st.2.at fun o e=>k it (by simp) o e⟩
 item:=by
  intro X hP hw hK hc i pins s σ H E I hf st hg
  subst hP hw hK
  obtain ⟨hq,hx⟩:=hg
  obtain ⟨its,rv,p,hz⟩:=I.tuple hq
  have hlt:xs.length - 1 - i < xs.length:=by omega
  have hx':xs[xs.length - 1 - i]?=some xs[xs.length - 1 - i]:=List.getElem?_eq_getElem hlt
  obtain ⟨u,hu,ru⟩:=rv.get hx'
  obtain ⟨f0,f1,f2,f3,f4,f5⟩:=hf it (by simp)
  have st2:=st.2
  have e1:(xs.length:Int) - 1 - (i:Int)=((xs.length - 1 - i:Nat):Int):=by omega
  rw [e1] at st2
  have hlen:=rv.length
  refine RT.next_item st2 p (by rw [List.size_toArray,<- hlen]; have:sizeLine < 2 ^ 63:=by decide
                                omega) (x:=u) (by simpa using hu) fun h' tk st' sb=>?_
  have I1:Inv X pins σ H { s with heap:=h',toks:=tk }:=I.turned (t':=tk) (fun b o hb e=>(sb.2 b hb).trans e) f0 f1 f3 f4 f5
  have e2:((xs.length - 1 - i:Nat):Int) - 1=(xs.length:Int) - 1 - ((i+1:Nat):Int):=by omega
  rw [e2] at st'
  obtain ⟨o,e,c,d⟩:=id st'
  exact ⟨u,rfl,sX (s:={ s with heap:=h',toks:=tk }) e c d (by decide) ⟨_,H,I1,ru,⟨rfl,hx'⟩,⟨hx,st'⟩,fun b hb=>(hf b hb).1⟩⟩
 done:=by
  intro X hP hw hK hc i pins s σ H E I hf st hg
  subst hP hw hK
  have hx:xs.length<=i:=hg
  obtain ⟨f0,f1,f2,f3,f4,f5⟩:=hf it (by simp)
  have st2:=st.2
  have h1:=st.1
  have e1:(xs.length:Int) - 1 - (i:Int) = -1:=by omega
  rw [e1] at st2
  exact RT.next_end (I.ok.hd hc) st2 fun h' eb=>⟨rfl,I.turned (t':=s.toks) (fun b o hb e=>eb b o hb e) f0 f1 f3 f4 f5⟩
 self:=fun _ _ _ _ _ st h=>RT.iter_self st.2 h
noncomputable def iRvE (K:PySem.W.Frag) (ta:TA):TI:=fun σ H R=>ta σ H fun vs H1=>∃ a,vs=[.ref a]/\((∃ xs,SqL K H1 a xs/\R (Itv K a xs) H1)\/(∃ xs,SqT K H1 a xs/\R (Itw K a xs) H1))
theorem aJj {X:Cx} {tg:Expr} {a:Expr} {ta:TA} {p pos:Pos} (hg:Gl X "reversed") (hm:X.mg "reversed"=none) (ha:PA X [a] ta) (hs:starEach [a] X.env=[(false,eval a X.env)]:=by rfl):PI X tg (.Call (.Name "reversed" p) [a] [] pos) (iRvE X.K ta):=by
 intro pins s σ H R I h
 refine Call_ (iU I hg hm aEs (PyProof.Rows.callWith_type1 (thn (ha pos pins s σ H _ I h) fun us s1 ⟨vs,H1,I1,r1,q1⟩=>?_) hs rfl))
 obtain ⟨b,e,⟨xs,hq,q⟩ | ⟨xs,hq,q⟩⟩:=q1
 ·subst e
  cases r1 with
  | cons r rr =>
   cases rr
   cases r
   obtain ⟨its,rv,p,hz⟩:=I1.list hq
   have hlen:=rv.length
   refine call_reversed_list p.isList (wpAny_pyIter_revIter ⟨_,Heap.get?_push_size _ rfl,rfl,rfl⟩ ?_)
   have I2:Inv X pins σ H1 { s1 with heap:=s1.heap.push (revObj b ((its.toArray.size:Int) - 1)) }:=I1.kept (t':=s1.toks) fun b o e=>Heap.get?_push_of_some _ e
   refine ⟨s1.heap.objs.size,[s1.heap.objs.size],_,_,H1,rfl,I2,aDt b _ xs,⟨Nat.zero_le _,_,Heap.get?_push_size _ rfl,rfl,?_⟩,fun c hb=>?_,q⟩
   ·show Data.fields #[.ref b,rawInt ((its.toArray.size:Int) - 1)]=_
    rw [List.size_toArray,<- hlen]
    simp
   ·have e:c=s1.heap.objs.size:=by simpa using hb
    subst e
    exact I1.fpOk (Nat.le_refl _) (I1.hok.fresh (Nat.le_refl _))
 ·subst e
  cases r1 with
  | cons r rr =>
   cases rr
   cases r
   obtain ⟨its,rv,p,hz⟩:=I1.tuple hq
   have hlen:=rv.length
   refine RT.call_rev_tuple p (by rw [List.size_toArray,<- hlen]; have:sizeLine < 2 ^ 63:=by decide
                                  omega) (RT.iter_self (i:=(its.toArray.size:Int) - 1) ⟨_,Heap.get?_push_size _ rfl,rfl,rfl⟩ ?_)
   have I2:Inv X pins σ H1 { s1 with heap:=s1.heap.push (RT.rvObj b ((its.toArray.size:Int) - 1)),toks:=s1.toks+1+1 }:=I1.kept (t':=s1.toks+1+1) fun b o e=>Heap.get?_push_of_some _ e
   refine ⟨s1.heap.objs.size,[s1.heap.objs.size],_,_,H1,rfl,I2,aAq b _ xs,⟨Nat.zero_le _,_,Heap.get?_push_size _ rfl,rfl,?_⟩,fun c hb=>?_,q⟩
   ·show Data.fields #[.ref b,rawInt ((its.toArray.size:Int) - 1)]=_
    rw [List.size_toArray,<- hlen]
    simp
   ·have e:c=s1.heap.objs.size:=by simpa using hb
    subst e
    exact I1.fpOk (Nat.le_refl _) (I1.hok.fresh (Nat.le_refl _))
end L2
namespace EV
open PySem PySem.Spec PyProof.Rows L2
noncomputable def iRv (f:FE):FI:=fun L M=>(f L M).bind fun w M1=>match w with
 | .d (.tup xs)=>.ok ⟨xs.reverse,none⟩ M1
 | .d (.lst xs)=>.ok ⟨xs.reverse,none⟩ M1
 | .d (.fz xs)=>.ok ⟨xs.reverse,none⟩ M1
 | _=>.bad
section
variable {X:Cx} {K:PySem.W.Frag} {Z:Zt} {μ:List Addr} {H:Hp} {M:Mm} {a:Expr} {pos:Pos} {f:FE} {tg:Expr}
theorem kW {ds:List D} {vs:List V} {i:Nat} {d:D} (r:Rps K μ H ds vs) (h:ds.reverse[i]?=some d):∃ v,vs[vs.length - 1 - i]?=some v/\i < vs.length/\Rp K μ H d v:=by
 obtain ⟨v,q1,q2⟩:=r.reverse.get h
 have hi:i < vs.length:=by
  have:=(List.getElem?_eq_some_iff.mp q1).1
  simpa using this
 rw [List.getElem?_reverse hi] at q1
 exact ⟨v,q1,hi,q2⟩
theorem aCf {p:Addr} {ds:List D} {vs:List V} (S:List Addr->Hp->Prop) (s0:S μ H) (sx:∀ μ1 H1 μ2 H2,Lsts μ1 H1->S μ1 H1->Ext μ1 H1 μ2 H2->S μ2 H2)
  (rd:∀ μ1 H1,S μ1 H1->SqL K H1 p vs/\Rps K μ1 H1 ds vs):ItOk K μ H ⟨ds.reverse,none⟩ (Itv K p vs):=by
 refine ⟨S,s0,sx,fun μ1 H1 M1 i hr hS hc=>?_⟩
 obtain ⟨h1,r1⟩:=rd μ1 H1 hS
 refine ⟨fun d hd=>?_,fun hl=>?_⟩
 ·obtain ⟨v,q1,hi,q2⟩:=kW r1 hd
  refine ⟨⟨h1,hi⟩,fun x H2 y=>?_⟩
  obtain ⟨rfl,y⟩:=y
  rw [q1] at y
  cases y
  exact ⟨.refl,hr,q2⟩
 ·show vs.length<=i
  rw [<- r1.length]
  simpa using hl
theorem aKs {p:Addr} {ds:List D} {vs:List V} (S:List Addr->Hp->Prop) (s0:S μ H) (sx:∀ μ1 H1 μ2 H2,Lsts μ1 H1->S μ1 H1->Ext μ1 H1 μ2 H2->S μ2 H2)
  (rd:∀ μ1 H1,S μ1 H1->SqT K H1 p vs/\Rps K μ1 H1 ds vs):ItOk K μ H ⟨ds.reverse,none⟩ (Itw K p vs):=by
 refine ⟨S,s0,sx,fun μ1 H1 M1 i hr hS hc=>?_⟩
 obtain ⟨h1,r1⟩:=rd μ1 H1 hS
 refine ⟨fun d hd=>?_,fun hl=>?_⟩
 ·obtain ⟨v,q1,hi,q2⟩:=kW r1 hd
  refine ⟨⟨h1,hi⟩,fun x H2 y=>?_⟩
  obtain ⟨rfl,y⟩:=y
  rw [q1] at y
  cases y
  exact ⟨.refl,hr,q2⟩
 ·show vs.length<=i
  rw [<- r1.length]
  simpa using hl
theorem aKj {p:Pos} (hm:X.mg "reversed"=none) (ha:Ev X K Z a f) (hg:Gl X "reversed":=by rfl) (hs:starEach [a] X.env=[(false,eval a X.env)]:=by rfl):Ei X K Z tg (.Call (.Name "reversed" p) [a] [] pos) (iRv f):=by
 have h':=aJj (tg:=tg) (p:=p) (pos:=pos) hg hm (cZ ha.h fK hs) hs
 rw [ha.k] at h'
 refine ⟨ha.k,cqI h' ?_⟩
 rintro σ H R ⟨μ,M,L,hr,lr,p⟩
 refine ⟨μ,M,L,hr,lr,p.bind.imp fun μ1 H1 M1 w e1 hr1 _ p1 v rw'=>?_⟩
 cases w with
 | ref i=>exact p1.elim
 | d x=>cases x with
  | tup xs =>
   simp only [Rw,Rp] at rw'
   obtain ⟨p,vs,rfl,h1,r1⟩:=rw'
   refine ⟨p,rfl,.inr ⟨vs,SqT.of h1,p1 μ1 H1 .refl hr1 _ ?_⟩⟩
   refine aKs (fun μ2 H2=>H2 p=some (.tup vs)/\Rps K μ2 H2 xs vs) ⟨h1,r1⟩ (fun μ1 H1 μ2 H2 l z e=>⟨e.keep _ _ (fun q=>by obtain ⟨us,q⟩:=l p q; rw [z.1] at q; cases q) z.1,Rps.ext l e _ _ z.2⟩) fun μ1 H1 z=>⟨SqT.of z.1,z.2⟩
  | lst xs =>
   simp only [Rw,Rp] at rw'
   obtain ⟨p,vs,rfl,h1,hn,r1⟩:=rw'
   refine ⟨p,rfl,.inl ⟨vs,SqL.of h1,p1 μ1 H1 .refl hr1 _ ?_⟩⟩
   refine aCf (fun μ2 H2=>H2 p=some (.lst vs)/\p∉μ2/\Rps K μ2 H2 xs vs) ⟨h1,hn,r1⟩ (fun μ1 H1 μ2 H2 l z e=>⟨e.keep _ _ z.2.1 z.1,fun q=>(e.new p q).elim z.2.1 (fun q=>by rw [z.1] at q; cases q),Rps.ext l e _ _ z.2.2⟩) fun μ1 H1 z=>⟨SqL.of z.1,z.2.2⟩
  | fz xs =>
   simp only [Rw,Rp] at rw'
   obtain ⟨p,vs,rfl,h1,r1⟩:=rw'
   refine ⟨p,rfl,.inl ⟨vs,h1.sq,p1 μ1 H1 .refl hr1 _ ?_⟩⟩
   refine aCf (fun μ2 H2=>FzL K H2 p vs/\Rps K μ2 H2 xs vs) ⟨h1,r1⟩ (fun μ1 H1 μ2 H2 l z e=>⟨z.1.ext l e,Rps.ext l e _ _ z.2⟩) fun μ1 H1 z=>⟨z.1.sq,z.2⟩
  | _=>exact p1.elim
end
end EV
namespace EV
open PySem PySem.Spec PyProof.Rows L2
section
variable {X:Cx} {K:PySem.W.Frag} {Z:Zt} {μ:List Addr} {H:Hp} {M:Mm} {a:Expr} {pos pos2:Pos} {f:FE}
noncomputable def rInts (n:Nat):List Int:=(List.range n).map fun k=>(0:Int)+(k:Nat)
theorem lB {n:Nat} {acc:Array Value} (h:ItemsOf (fun i v=>∃ t,v=.int ((0:Int)+i*1) t) acc n):Vals ((rInts n).map V.int) acc.toList:=by
 have key:∀ (l:List Value) (k:Nat),(∀ j v,l[j]?=some v->∃ t,v=Value.int ((0:Int)+((k+j:Nat):Int)) t)->Vals ((List.range' k l.length).map fun i=>V.int ((0:Int)+(i:Nat))) l:=by
  intro l
  induction l with
  | nil=>intro k _; exact .nil
  | cons x r ih =>
   intro k hk
   rw [List.length_cons,List.range'_succ,List.map_cons]
   refine .cons ?_ (ih (k+1) fun j v e=>?_)
   ·obtain ⟨t,e⟩:=hk 0 x rfl
    exact ⟨t,by simpa using e⟩
   ·obtain ⟨t,e'⟩:=hk (j+1) v (by simpa using e)
    exact ⟨t,by rw [e']; congr 2; omega⟩
 have hl:acc.toList.length=n:=h.1
 have:=key acc.toList 0 fun j v e=>by
  obtain ⟨t,e'⟩:=h.2 j v (by simpa using e)
  exact ⟨t,by rw [e']; first | rfl | (congr 1 <;> omega)⟩
 rw [hl] at this
 unfold rInts
 rw [List.map_map,List.range_eq_range']
 exact this
theorem tW:bootBuiltins "range"=some (.type "range"):=by first | rfl | kernel_rfl
end
end EV
namespace EV
open PySem L2
@[irreducible] noncomputable def Okx {α:Type} (EX:D->Mm->Prop) (o:Oc α) (Q:α->Mm->Prop):Prop:=match o with
 | .ok a M=>Q a M
 | .ex x M=>EX x M
 | .bad=>False
noncomputable abbrev NX:D->Mm->Prop:=fun _ _=>False
noncomputable abbrev Ok {α:Type} (o:Oc α) (Q:α->Mm->Prop):Prop:=Okx NX o Q
section
variable {α β:Type} {EX EX':D->Mm->Prop} {o o':Oc α} {Q Q':α->Mm->Prop} {a:α} {M:Mm}
theorem jD:Okx EX o Q ↔ (∃ a M,o=.ok a M/\Q a M)\/∃ x M,o=.ex x M/\EX x M:=by
 unfold Okx
 cases o with
 | ok a M=>exact ⟨fun h=>.inl ⟨a,M,rfl,h⟩,fun h=>by rcases h with ⟨_,_,e,q⟩ | ⟨_,_,e,q⟩ <;> cases e; exact q⟩
 | ex x M=>exact ⟨fun h=>.inr ⟨x,M,rfl,h⟩,fun h=>by rcases h with ⟨_,_,e,q⟩ | ⟨_,_,e,q⟩ <;> cases e; exact q⟩
 | bad=>exact ⟨fun h=>h.elim,fun h=>by rcases h with ⟨_,_,e,q⟩ | ⟨_,_,e,q⟩ <;> cases e⟩
theorem lD:Ok o Q ↔ ∃ a M,o=.ok a M/\Q a M:=by
 refine Iff.trans (jD (EX:=NX)) ⟨fun h=>?_,.inl⟩
 rcases h with h | ⟨_,_,_,q⟩
 ·exact h
 ·exact q.elim
theorem aJ (q:Q a M):Okx EX (.ok a M) Q:=jD.mpr (.inl ⟨a,M,rfl,q⟩)
theorem kP {x:D} (q:EX x M):Okx EX (.ex x M:Oc α) Q:=jD.mpr (.inr ⟨x,M,rfl,q⟩)
theorem aF {k:α->Mm->Oc β} {Q:β->Mm->Prop} (h:Okx EX o fun a M=>Okx EX (k a M) Q):Okx EX (o.bind k) Q:=by
 rcases jD.mp h with ⟨a,M,rfl,q⟩ | ⟨x,M,rfl,q⟩
 ·exact q
 ·exact kP q
theorem Okx.mono (h:Okx EX o Q) (f:∀ a M,Q a M->Q' a M):Okx EX o Q':=by
 rcases jD.mp h with ⟨a,M,rfl,q⟩ | ⟨x,M,rfl,q⟩
 ·exact aJ (f _ _ q)
 ·exact kP q
theorem Okx.monoX (h:Okx EX o Q) (f:∀ a M,Q a M->Q' a M) (g:∀ x M,EX x M->EX' x M):Okx EX' o Q':=by
 rcases jD.mp h with ⟨a,M,rfl,q⟩ | ⟨x,M,rfl,q⟩
 ·exact aJ (f _ _ q)
 ·exact kP (g _ _ q)
theorem Ok.mono (h:Ok o Q) (f:∀ a M,Q a M->Q' a M):Okx EX o Q':=Okx.monoX h f fun _ _ z=>z.elim
theorem Okx.eq (h:Okx EX o' Q) (e:o=o'):Okx EX o Q:=e▸h
theorem Ok.eq (h:Ok o' Q) (e:o=o'):Ok o Q:=e▸h
end
section
variable {EX:D->Mm->Prop}
theorem xO {α:Type} {c:Bool} {a b:Oc α} {Q:α->Mm->Prop} (h1:c=true->Okx EX a Q) (h2:c=false->Okx EX b Q):Okx EX (if c=true then a else b) Q:=by cases c <;> simp_all
theorem jY {α:Type} {p:Prop} [Decidable p] {a b:Oc α} {Q:α->Mm->Prop} (h1:p->Okx EX a Q) (h2:¬ p->Okx EX b Q):Okx EX (if decide p=true then a else b) Q:=by by_cases h:p <;> simp_all
theorem aEr {α:Type} {p:Prop} [Decidable p] {a b:Oc α} {Q:α->Mm->Prop} (h1:p->Okx EX b Q) (h2:¬ p->Okx EX a Q):Okx EX (if (!decide p)=true then a else b) Q:=by by_cases h:p <;> simp_all
theorem vZ {α:Type} {c:Bool} {a b:Oc α} {Q:α->Mm->Prop} (h:c=true) (h1:Okx EX a Q):Okx EX (if c=true then a else b) Q:=by rw [if_pos h]; exact h1
theorem nI {α:Type} {c:Bool} {a b:Oc α} {Q:α->Mm->Prop} (h:c=false) (h1:Okx EX b Q):Okx EX (if c=true then a else b) Q:=by rw [if_neg (by simp [h])]; exact h1
section
variable {L:Lc} {M:Mm} {i j:Nat} {w x y:W} {Q:W->Mm->Prop} {QA:List W->Mm->Prop} {QS:Out->Mm->Prop} {QT:Bool->Mm->Prop} {QG:Lc->Mm->Prop} {f g h:FE} {F G:FS} {t u:FT} {fs:FA} {gg:FG}
theorem aMl (h:L[i]?=some (some w)) (q:Q w M):Okx EX (eV i L M) Q:=by unfold eV; rw [h]; exact aJ q
theorem aNg {d:D} (q:Q (.d d) M):Okx EX (eC d L M) Q:=aJ q
theorem yR {ns:List Int} (q:Q (.d (.lst (ns.map D.int))) M):Okx EX (eInts ns L M) Q:=aJ q
theorem aIa {p:W->Mm->Oc W} (h:Okx EX (f L M) fun x M1=>Okx EX (p x M1) Q):Okx EX (e1 p f L M) Q:=aF h
theorem aIl {p:W->W->Mm->Oc W} (h:Okx EX (f L M) fun x M1=>Okx EX (g L M1) fun y M2=>Okx EX (p x y M2) Q):Okx EX (e2 p f g L M) Q:=aF (h.mono fun _ _ z=>aF z)
theorem aMr {p:List W->Mm->Oc W} (h:Okx EX (fs L M) fun ws M1=>Okx EX (p ws M1) Q):Okx EX (eA p fs L M) Q:=aF h
theorem aHw (q:QA [] M):Okx EX (aNil L M) QA:=aJ q
theorem aIg (h:Okx EX (f L M) fun w M1=>Okx EX (fs L M1) fun ws M2=>QA (w::ws) M2):Okx EX (aCons f fs L M) QA:=aF (h.mono fun _ _ z=>aF (z.mono fun _ _ z=>aJ z))
theorem aKf (h:Okx EX (f L M) fun w M1=>∃ b,w=.d (.bl b)/\(b=true->Okx EX (g L M1) Q)/\(b=false->Q (.d (.bl false)) M1)):Okx EX (eAnd f g L M) Q:=by
 refine aF (h.mono fun w M1 ⟨b,e,h1,h2⟩=>?_)
 subst e
 cases b with
 | true=>exact h1 rfl
 | false=>exact aJ (h2 rfl)
theorem aNf (h:Okx EX (f L M) fun w M1=>∃ b,w=.d (.bl b)/\(b=true->Q (.d (.bl true)) M1)/\(b=false->Okx EX (g L M1) Q)):Okx EX (eOr f g L M) Q:=by
 refine aF (h.mono fun w M1 ⟨b,e,h1,h2⟩=>?_)
 subst e
 cases b with
 | true=>exact aJ (h1 rfl)
 | false=>exact h2 rfl
theorem aBu (h:Okx EX (t L M) fun c M1=>Okx EX (if c=true then f L M1 else g L M1) Q):Okx EX (eIf t f g L M) Q:=aF h
theorem aIb (h:Okx EX (f L M) fun w M1=>∃ b,w=.d (.bl b)/\QT b M1):Okx EX (EV.tB f L M) QT:=aF (h.mono fun w M1 ⟨b,e,q⟩=>by subst e; exact aJ q)
theorem aIp (h:Okx EX (f L M) fun w M1=>∃ b,tru M1 w=some b/\QT b M1):Okx EX (tV f L M) QT:=aF (h.mono fun w M1 ⟨b,e,q⟩=>by rw [e]; exact aJ q)
theorem aEw (h:Okx EX (t L M) fun b M1=>QT (!b) M1):Okx EX (EV.tNot t L M) QT:=aF (h.mono fun _ _ z=>aJ z)
theorem yM (h:Okx EX (t L M) fun b M1=>(b=true->Okx EX (u L M1) QT)/\(b=false->QT false M1)):Okx EX (EV.tAnd t u L M) QT:=aF (h.mono fun b M1 ⟨h1,h2⟩=>by cases b with | true=>exact h1 rfl | false=>exact aJ (h2 rfl))
theorem aBn (h:Okx EX (t L M) fun b M1=>(b=true->QT true M1)/\(b=false->Okx EX (u L M1) QT)):Okx EX (EV.tOr t u L M) QT:=aF (h.mono fun b M1 ⟨h1,h2⟩=>by cases b with | true=>exact aJ (h1 rfl) | false=>exact h2 rfl)
theorem wS (q:QT true M):Okx EX (EV.tYes L M) QT:=aJ q
theorem aDv (q:QS (.nx L) M):Okx EX (sNil L M) QS:=aJ q
theorem rB (h:Okx EX (F L M) fun o M1=>match o with
 | .nx L1=>Okx EX (G L1 M1) QS
 | .bk L1=>QS (.bk L1) M1
 | .ct L1=>QS (.ct L1) M1
 | .rt w=>QS (.rt w) M1):Okx EX (sSeq F G L M) QS:=aF (h.mono fun o M1 z=>by cases o with | nx L1=>exact z | bk L1=>exact aJ z | ct L1=>exact aJ z | rt w=>exact aJ z)
theorem aNb (q:QS (.bk L) M):Okx EX (sBk L M) QS:=aJ q
theorem aMj (q:QS (.ct L) M):Okx EX (sCt L M) QS:=aJ q
theorem aIn (h:Okx EX (f L M) fun _ M1=>QS (.nx L) M1):Okx EX (sEx f L M) QS:=aF (h.mono fun _ _ z=>aJ z)
theorem aIf (h:Okx EX (f L M) fun w M1=>QS (.rt w) M1):Okx EX (sRt f L M) QS:=aF (h.mono fun _ _ z=>aJ z)
theorem uT (h:Okx EX (t L M) fun b M1=>Okx EX (if b=true then F L M1 else G L M1) QS):Okx EX (sIf t F G L M) QS:=aF h
theorem wO (h:Okx EX (f L M) fun w M1=>Okx EX (gg w L M1) fun L1 M2=>QS (.nx L1) M2):Okx EX (sAs f gg L M) QS:=aF (h.mono fun _ _ z=>aF (z.mono fun _ _ z=>aJ z))
theorem yK (h:Okx EX (fs L M) fun ws M1=>∃ v w,ws=[v,w]/\QS (.nx ((L.set i (some v)).set j (some w))) M1):Okx EX (sPar i j fs L M) QS:=aF (h.mono fun ws M1 ⟨v,w,e,q⟩=>by subst e; exact aJ q)
theorem tI (q:QG (L.set i (some w)) M):Okx EX (gN i w L M) QG:=aJ q
theorem aIe {n:Nat} {gs:FGs} {xs:List D} (hn:xs.length=n) (h:Okx EX (gs xs L M) QG):Okx EX (gT n gs (.d (.tup xs)) L M) QG:=by unfold gT; simp only; rw [if_pos hn]; exact h
theorem aCo (q:QG L M):Okx EX (gsNil [] L M) QG:=aJ q
theorem aBv {gs:FGs} {d:D} {ds:List D} (h:Okx EX (gg (.d d) L M) fun L1 M1=>Okx EX (gs ds L1 M1) QG):Okx EX (gsCons gg gs (d::ds) L M) QG:=aF h
theorem aIi {d:D} (h:Okx EX (f L M) fun o M1=>Okx EX (g L M1) fun i M2=>∃ k j xs t,o=.ref k/\i=.d (.int j)/\M2[k]?=some xs/\ixN xs.length j=some t/\QG L (M2.set k (xs.set t d))):Okx EX (gS f g (.d d) L M) QG:=by
 refine aF (h.mono fun o M1 z=>aF (z.mono fun i M2 ⟨k,j,xs,t,e1,e2,e3,e4,q⟩=>?_))
 subst e1 e2
 simp only [e3,e4]
 exact aJ q
theorem aIk {c:Int->Int->Bool} {gg:Int->Int->D} {i j:Int} (hc:c i j=true) (q:Q (.d (gg i j)) M):Okx EX (pI c gg (.d (.int i)) (.d (.int j)) M) Q:=by unfold pI; simp only; rw [if_pos hc]; exact aJ q
theorem aDw {i j:Int} (q:Q (.d (.int (i+j))) M):Okx EX (pAdd (.d (.int i)) (.d (.int j)) M) Q:=aJ q
theorem eR {xs ys:List D} (hz:xs.length+ys.length<=16777216) (q:Q (.d (.tup (xs++ys))) M):Okx EX (pAdd (.d (.tup xs)) (.d (.tup ys)) M) Q:=by unfold pAdd; simp only; rw [if_pos hz]; exact aJ q
theorem aHb {xs ys:List D} (h1:lv M x=some xs) (h2:lv M y=some ys) (hz:xs.length+ys.length<=16777216) (q:Q (.ref M.length) (M++[xs++ys])):Okx EX (pAddR x y M) Q:=by
 unfold pAddR; rw [h1,h2]; simp only; rw [if_pos hz]; exact aJ q
theorem vK {i j:Int} (hz:mulOk i j=true) (q:Q (.d (.int (i*j))) M):Okx EX (pMulA (.d (.int i)) (.d (.int j)) M) Q:=by unfold pMulA pMul; simp only; rw [if_pos hz]; exact aJ q
theorem xZ {xs:List D} {k:Int} (hz:xs.length*k.toNat<=16777216/\k < 9223372036854775808 /\ -9223372036854775808<=k) (q:Q (.d (.tup (List.replicate k.toNat xs).flatten)) M):Okx EX (pMulA (.d (.tup xs)) (.d (.int k)) M) Q:=by
 unfold pMulA; simp only; rw [if_pos hz]; exact aJ q
theorem aEn {i:Int} (q:Q (.d (.int (-i))) M):Okx EX (pNeg (.d (.int i)) M) Q:=aJ q
theorem aIz {b:Bool} (q:Q (.d (.bl (!b))) M):Okx EX (pNot (.d (.bl b)) M) Q:=aJ q
theorem yB {a b:D} (h1:wd M x=some a) (h2:wd M y=some b) (hd:dep a<=100/\dep b<=100) (q:Q (.d (.bl (eqD a b))) M):Okx EX (pEq x y M) Q:=by unfold pEq; rw [h1,h2]; simp only; rw [if_pos hd]; exact aJ q
theorem yC {a b:D} (h1:wd M x=some a) (h2:wd M y=some b) (hd:dep a<=100/\dep b<=100) (q:Q (.d (.bl (!eqD a b))) M):Okx EX (pNe x y M) Q:=by unfold pNe; rw [h1,h2]; simp only; rw [if_pos hd]; exact aJ q
theorem aBc {i j:Int} (q:Q (.d (.bl (decide (i=j)))) M):Okx EX (pEq (.d (.int i)) (.d (.int j)) M) Q:=yB rfl rfl (by simp [dep]) (by simp only [eqD]; exact q)
theorem aBk {i j:Int} (q:Q (.d (.bl (!decide (i=j)))) M):Okx EX (pNe (.d (.int i)) (.d (.int j)) M) Q:=yC rfl rfl (by simp [dep]) (by simp only [eqD]; exact q)
theorem aCs {a b:Str} (q:Q (.d (.bl (a==b))) M):Okx EX (pEq (.d (.str a)) (.d (.str b)) M) Q:=yB rfl rfl (by simp [dep]) (by simpa only [eqD] using q)
theorem aMa {a b:Str} (q:Q (.d (.bl (!(a==b)))) M):Okx EX (pNe (.d (.str a)) (.d (.str b)) M) Q:=yC rfl rfl (by simp [dep]) (by simpa only [eqD] using q)
theorem aJx {a b:Bool} (q:Q (.d (.bl (!(a==b)))) M):Okx EX (pNe (.d (.bl a)) (.d (.bl b)) M) Q:=yC rfl rfl (by simp [dep]) (by simpa only [eqD] using q)
theorem aLb {a b:Bool} (q:Q (.d (.bl (a==b))) M):Okx EX (pEq (.d (.bl a)) (.d (.bl b)) M) Q:=yB rfl rfl (by simp [dep]) (by simpa only [eqD] using q)
theorem aIj (q:Q (.d (.bl (isN x))) M):Okx EX (pIs x (.d .non) M) Q:=aJ q
theorem aEi (q:Q (.d (.bl (!isN x))) M):Okx EX (pIsNot x (.d .non) M) Q:=aJ q
theorem iW {xs:List D} {k:Int} {d:D} (h:atI xs k=some d) (q:Q (.d d) M):Okx EX (pIx (.d (.tup xs)) (.d (.int k)) M) Q:=by unfold pIx; simp only [sv,h]; exact aJ q
theorem aBw {xs:List D} {k:Int} {d:D} (hs:∀ z,x≠.d (.str z)) (h1:sv M x=some xs) (h:atI xs k=some d) (q:Q (.d d) M):Okx EX (pIx x (.d (.int k)) M) Q:=by
 have:pIx x (.d (.int k)) M=.ok (.d d) M:=by
  cases x with
  | ref i=>simp only [pIx,h1,h]
  | d a=>cases a <;> first | (exact (hs _ rfl).elim) | (simp only [pIx,h1,h])
 rw [this]; exact aJ q
theorem dZ {xs:List D} {k:Int} {d:D} (h:atI xs k=some d) (q:Q (.d d) M):Okx EX (pIx (.d (.lst xs)) (.d (.int k)) M) Q:=aBw (by simp) rfl h q
theorem sI {xs:List D} {k:Int} {d:D} (h:atI xs k=some d) (q:Q (.d d) M):Okx EX (pIx (.d (.fz xs)) (.d (.int k)) M) Q:=aBw (by simp) rfl h q
theorem iC {b:Nat} {xs:List D} {k:Int} {d:D} (h1:M[b]?=some xs) (h:atI xs k=some d) (q:Q (.d d) M):Okx EX (pIx (.ref b) (.d (.int k)) M) Q:=aBw (by simp) h1 h q
theorem aBi {ws:List W} {ds:List D} (h:allD ws=some ds) (hz:ds.length<=16777216) (q:Q (.d (.tup ds)) M):Okx EX (mkT ws M) Q:=by unfold mkT; rw [h]; simp only; rw [if_pos hz]; exact aJ q
theorem aBa {ws:List W} {ds:List D} (h:allD ws=some ds) (hz:ds.length<=16777216) (q:Q (.d (.lst ds)) M):Okx EX (mkL ws M) Q:=by unfold mkL; rw [h]; simp only; rw [if_pos hz]; exact aJ q
theorem aDs {ws:List W} {ds:List D} (h:allD ws=some ds) (hz:ds.length<=16777216) (q:Q (.ref M.length) (M++[ds])):Okx EX (mkR ws M) Q:=by unfold mkR; rw [h]; simp only; rw [if_pos hz]; exact aJ q
theorem aIy {xs:List D} (hs:∀ z,x≠.d (.str z)) (h:sv M x=some xs) (q:Q (.d (.int xs.length)) M):Okx EX (cLen [x] M) Q:=by
 have:cLen [x] M=.ok (.d (.int xs.length)) M:=by
  cases x with
  | ref i=>simp only [cLen,h]
  | d a=>cases a <;> first | (exact (hs _ rfl).elim) | (simp only [cLen,h])
 rw [this]; exact aJ q
theorem yN {xs:List D} (q:Q (.d (.int xs.length)) M):Okx EX (cLen [.d (.tup xs)] M) Q:=aJ q
theorem yG {xs:List D} (q:Q (.d (.int xs.length)) M):Okx EX (cLen [.d (.lst xs)] M) Q:=aJ q
theorem xF {xs:List D} (q:Q (.d (.int xs.length)) M):Okx EX (cLen [.d (.fz xs)] M) Q:=aJ q
theorem aHn {b:Nat} {xs:List D} (h:M[b]?=some xs) (q:Q (.d (.int xs.length)) M):Okx EX (cLen [.ref b] M) Q:=aIy (by simp) h q
theorem yO {b:Bool} (q:Q (.d (.int (if b=true then 1 else 0))) M):Okx EX (cInt [.d (.bl b)] M) Q:=aJ q
theorem aFk {k:Int} (q:Q (.d (.int k)) M):Okx EX (cInt [.d (.int k)] M) Q:=aJ q
theorem aEd {k l:Int} (q:Q (.d (.int (if l > k then l else k))) M):Okx EX (cMax2 [.d (.int k),.d (.int l)] M) Q:=aJ q
theorem aKb {k l:Int} (q:Q (.d (.int (if l < k then l else k))) M):Okx EX (cMin2 [.d (.int k),.d (.int l)] M) Q:=aJ q
theorem cX {xs:List D} (h:sv M x=some xs) (q:Q (.d (.tup xs)) M):Okx EX (cTup [x] M) Q:=by unfold cTup; simp only [h]; exact aJ q
theorem xA {xs:List D} (h:sv M x=some xs) (q:Q (.ref M.length) (M++[xs])):Okx EX (cListR [x] M) Q:=by unfold cListR; simp only [h]; exact aJ q
theorem aJt {T:String} {b:Bool} (h:isT T M x=some b) (q:Q (.d (.bl b)) M):Okx EX (pIsI T x M) Q:=by unfold pIsI; rw [h]; exact aJ q
theorem aHy {p:W->W->Mm->Oc W} (h:Okx EX (f L M) fun x M1=>∃ k,x=.ref k/\Okx EX (g L M1) fun y M2=>Okx EX (p (.ref k) y M2) Q):Okx EX (eM1 p f g L M) Q:=aF (h.mono fun x M1 ⟨k,e,z⟩=>by subst e; exact aF z)
theorem qM {k:Nat} {d:D} {xs:List D} (h:M[k]?=some xs) (hz:xs.length < 16777216) (q:Q (.d .non) (M.set k (xs++[d]))):Okx EX (pAppend (.ref k) (.d d) M) Q:=by unfold pAppend; simp only [h]; rw [if_pos hz]; exact aJ q
theorem aIr {fl fh:FO} (z:Okx EX (f L M) fun x M1=>Okx EX (fl L M1) fun lo M2=>Okx EX (fh L M2) fun hi M3=>Okx EX (pSl x lo hi M3) Q):Okx EX (eSl f fl fh L M) Q:=aF (z.mono fun _ _ z=>aF (z.mono fun _ _ z=>aF z))
theorem aMc {fl fh:FO} (z:Okx EX (f L M) fun x M1=>Okx EX (fl L M1) fun lo M2=>Okx EX (fh L M2) fun hi M3=>Okx EX (pSlR x lo hi M3) Q):Okx EX (eSlR f fl fh L M) Q:=aF (z.mono fun _ _ z=>aF (z.mono fun _ _ z=>aF z))
theorem aDu {QO:Option Int->Mm->Prop} (q:QO none M):Okx EX (oNo L M) QO:=aJ q
theorem aDh {QO:Option Int->Mm->Prop} (h:Okx EX (f L M) fun w M1=>∃ k,w=.d (.int k)/\QO (some k) M1):Okx EX (oAt f L M) QO:=aF (h.mono fun w M1 ⟨k,e,q⟩=>by subst e; exact aJ q)
theorem aBo {xs:List D} {lo hi:Option Int} (q:Q (.d (.tup (cut xs lo hi))) M):Okx EX (pSl (.d (.tup xs)) lo hi M) Q:=aJ q
theorem aEo {fi:FI} {B:FS} (h:Okx EX (fi L M) fun s M1=>Okx EX (forD s gg B s.ds L M1) QS):Okx EX (sFor fi gg B L M) QS:=aF h
theorem aHv {s:Src} {QI:Src->Mm->Prop} (h:Okx EX (f L M) fun w M1=>∃ s,srcOf M1 w=some s/\QI s M1):Okx EX (iE f L M) QI:=aF (h.mono fun w M1 ⟨s,e,q⟩=>by rw [e]; exact aJ q)
theorem aDn {QI:Src->Mm->Prop} (h:Okx EX (f L M) fun w M1=>∃ j,w=.d (.int j)/\in62 j=true/\QI ⟨rngD 0 j.toNat,none⟩ M1):Okx EX (iR1 f L M) QI:=aF (h.mono fun w M1 ⟨j,e,hz,q⟩=>by subst e; simp only; rw [if_pos hz]; exact aJ q)
theorem aEl {QI:Src->Mm->Prop} (h:Okx EX (f L M) fun w M1=>Okx EX (g L M1) fun u M2=>∃ i j,w=.d (.int i)/\u=.d (.int j)/\(in62 i=true/\in62 j=true)/\QI ⟨rngD i (j - i).toNat,none⟩ M2):Okx EX (iR2 f g L M) QI :=
 aF (h.mono fun w M1 z=>aF (z.mono fun u M2 ⟨i,j,e1,e2,hz,q⟩=>by subst e1 e2; simp only; rw [if_pos hz]; exact aJ q))
theorem cE {s:Src} {B:FS} (I:Nat->Lc->Mm->Prop) (h0:I 0 L M) (hc:∀ i L M,i<=s.ds.length->I i L M->Chk s M)
  (hs:∀ i d L M,s.ds[i]?=some d->I i L M->Okx EX (gg (.d d) L M) fun L1 M1=>Okx EX (B L1 M1) fun o M2=>match o with
   | .nx L2=>I (i+1) L2 M2
   | .ct L2=>I (i+1) L2 M2
   | .bk L2=>QS (.nx L2) M2
   | .rt w=>QS (.rt w) M2) (hd:∀ L M,I s.ds.length L M->QS (.nx L) M):Okx EX (forD s gg B s.ds L M) QS:=by
 have key:∀ k i L M,s.ds.length - i=k->i<=s.ds.length->I i L M->Okx EX (forD s gg B (s.ds.drop i) L M) QS:=by
  intro k
  induction k with
  | zero =>
   intro i L M e hi hI
   have:i=s.ds.length:=by omega
   subst this
   rw [List.drop_eq_nil_of_le (Nat.le_refl _)]
   unfold forD
   rw [if_pos (hc _ L M (Nat.le_refl _) hI)]
   exact aJ (hd L M hI)
  | succ k ih =>
   intro i L M e hi hI
   have hlt:i < s.ds.length:=by omega
   rw [List.drop_eq_getElem_cons hlt]
   unfold forD
   rw [if_pos (hc _ L M hi hI)]
   refine aF ((hs i s.ds[i] L M (by simp [hlt]) hI).mono fun L1 M1 z=>aF (z.mono fun o M2 z=>?_))
   cases o with
   | nx L2=>exact ih (i+1) L2 M2 (by omega) (by omega) z
   | ct L2=>exact ih (i+1) L2 M2 (by omega) (by omega) z
   | bk L2=>exact aJ z
   | rt w=>exact aJ z
 simpa using key s.ds.length 0 L M (by omega) (by omega) h0
theorem lG {t:FT} {B:FS} (I:Nat->Lc->Mm->Prop) (hs:∀ m L M,I m L M->Okx EX (t L M) fun b M1=>(b=true->Okx EX (B L M1) fun o M2=>match o with
   | .nx L2=>∃ m',m' < m/\I m' L2 M2
   | .ct L2=>∃ m',m' < m/\I m' L2 M2
   | .bk L2=>QS (.nx L2) M2
   | .rt w=>QS (.rt w) M2)/\(b=false->QS (.nx L) M1)):∀ (n m:Nat) (L:Lc) (M:Mm),I m L M->m < n->Okx EX (whileD t B n L M) QS:=by
 intro n
 induction n with
 | zero=>intro m L M _ h; omega
 | succ n ih =>
  intro m L M hI hm
  unfold whileD
  refine aF ((hs m L M hI).mono fun b M1 ⟨h1,h2⟩=>?_)
  cases b with
  | false=>exact aJ (h2 rfl)
  | true =>
   refine aF ((h1 rfl).mono fun o M2 z=>?_)
   cases o with
   | nx L2=>obtain ⟨m',l,z⟩:=z; exact ih m' L2 M2 z (by omega)
   | ct L2=>obtain ⟨m',l,z⟩:=z; exact ih m' L2 M2 z (by omega)
   | bk L2=>exact aJ z
   | rt w=>exact aJ z
theorem bX {js:List (Option Nat)} {fi:FI} {c:FT} (I:Nat->List D->Lc->Mm->Prop)
  (h:Okx EX (fi L M) fun s M1=>(I 0 [] (outL js L) M1/\(∀ i acc L M,i<=s.ds.length->I i acc L M->M.length=M1.length/\Chk s (M++[acc])/\acc.length<=i)/\s.ds.length<=16777216 /\
   (∀ i d acc L M,s.ds[i]?=some d->I i acc L M->Ok (gg (.d d) L (M++[acc])) fun L1 M2=>Ok (c L1 M2) fun b M3=>(b=true->Ok (f L1 M3) fun w M4=>∃ x M5,w=.d x/\M4=M5++[acc]/\I (i+1) (acc++[x]) L1 M5)/\(b=false->∃ M5,M3=M5++[acc]/\I (i+1) acc L1 M5)) /\
   (∀ acc L M,I s.ds.length acc L M->Q (.d (.lst acc)) M))):Okx EX (eComp js fi gg c f L M) Q:=by
 unfold eComp compT
 refine aF (aF (h.mono fun s M1 ⟨h0,hc,hz,hs,hd⟩=>?_))
 have key:∀ k i acc L M,s.ds.length - i=k->i<=s.ds.length->I i acc L M->∃ acc' L' M',compD M1.length s gg c f (s.ds.drop i) L (M++[acc])=.ok () (M'++[acc'])/\I s.ds.length acc' L' M':=by
  intro k
  induction k with
  | zero =>
   intro i acc L M e hi hI
   have:i=s.ds.length:=by omega
   subst this
   rw [List.drop_eq_nil_of_le (Nat.le_refl _)]
   unfold compD
   rw [if_pos (hc _ acc L M (Nat.le_refl _) hI).2.1]
   exact ⟨acc,L,M,rfl,hI⟩
  | succ k ih =>
   intro i acc L M e hi hI
   have hlt:i < s.ds.length:=by omega
   rw [List.drop_eq_getElem_cons hlt]
   unfold compD
   obtain ⟨hl,hch,hal⟩:=hc _ acc L M hi hI
   rw [if_pos hch]
   obtain ⟨L1,M2,e1,hh⟩:=lD.mp (hs i s.ds[i] acc L M (by simp [hlt]) hI)
   obtain ⟨L1',M3,e2,h1,h2⟩:=lD.mp hh
   rw [e1]
   simp only [fE]
   rw [e2]
   simp only [fE]
   cases L1' with
   | false =>
    obtain ⟨M5,e3,hI'⟩:=h2 rfl
    subst e3
    simp only [Bool.false_eq_true,if_false]
    exact ih (i+1) acc L1 M5 (by omega) (by omega) hI'
   | true =>
    obtain ⟨w,M4,e3,x,M5,rfl,rfl,hI'⟩:=lD.mp (h1 rfl)
    simp only [if_true]
    rw [e3]
    simp only [fE]
    have hl5:=(hc _ _ _ _ (by omega) hI').1
    have g1:(M5++[acc])[M1.length]?=some acc:=by rw [<- hl5]; simp
    rw [g1]
    simp only
    rw [if_pos (by omega)]
    have g2:(M5++[acc]).set M1.length (acc++[x])=M5++[acc++[x]]:=by rw [<- hl5]; simp
    rw [g2]
    exact ih (i+1) (acc++[x]) L1 M5 (by omega) (by omega) hI'
 obtain ⟨acc,L',M',e,hI⟩:=key s.ds.length 0 [] (outL js L) M1 (by omega) (by omega) h0
 rw [List.drop_zero] at e
 rw [e]
 have hl:=(hc _ _ _ _ (Nat.le_refl _) hI).1
 have g1:(M'++[acc])[M1.length]?=some acc:=by rw [<- hl]; simp
 have g2:(M'++[acc]).take M1.length=M':=by rw [<- hl]; simp
 simp only [g1,g2]
 exact aJ (aJ (hd acc L' M' hI))
theorem bK {m n:Nat} {F:FS} {ws:List W} (hm:ws.length=m) (h:Okx EX (F (ws.map some++List.replicate (n - ws.length) none) M) fun o M'=>match o with
  | .rt w=>Okx EX (retc M.length w M') Q
  | .nx _=>Q (.d .non) (M'.take M.length)
  | _=>False):Okx EX (fnD m n F ws M) Q:=by
 unfold fnD
 rw [if_pos hm]
 refine aF (h.mono fun o M' z=>?_)
 cases o with
 | rt w=>exact z
 | nx L=>exact aJ z
 | bk L=>exact z.elim
 | ct L=>exact z.elim
theorem xS {n:Nat} {d:D} (q:Q (.d d) (M.take n)):Okx EX (retc n (.d d) M) Q:=aJ q
theorem wW {n b:Nat} {xs:List D} (hb:¬ b < n) (h:M[b]?=some xs) (q:Q (.d (.lst xs)) (M.take n)):Okx EX (retc n (.ref b) M) Q:=by unfold retc; simp only; rw [if_neg hb]; simp only [h]; exact aJ q
theorem aCe {m n:Nat} {F:FS} {ws:List W} (hm:ws.length=m) (h:Okx EX (F (ws.map some++List.replicate (n - ws.length) none) M) fun o M'=>∃ i ds,o=.rt (.ref i)/\M.length<=i/\M'[i]?=some ds/\Q (.ref M.length) (M'.take M.length++[ds])):Okx EX (fnR m n F ws M) Q:=by
 unfold fnR
 rw [if_pos hm]
 refine aF (h.mono fun o M' ⟨i,ds,e,hi,e2,q⟩=>?_)
 subst e
 simp only [e2]
 rw [if_pos hi]
 exact aJ q
end
noncomputable def Bx (M:Mm) (b:Nat):Prop:=∃ x y z,M[b]?=some [.int x,.int y,.int z]
noncomputable def Nx (b:Nat) (M M':Mm):Prop:=∃ x y z,M'=M.set b [.int x,.int y,.int z]
theorem Bx.lt {M:Mm} {b:Nat} (h:Bx M b):b < M.length:=by obtain ⟨x,y,z,e⟩:=h; exact (List.getElem?_eq_some_iff.mp e).1
theorem Nx.len {M M':Mm} {b:Nat} (h:Nx b M M'):M'.length=M.length:=by obtain ⟨x,y,z,rfl⟩:=h; simp
theorem Nx.bx {M M':Mm} {b:Nat} (h:Nx b M M') (l:Bx M b):Bx M' b:=by
 obtain ⟨x,y,z,rfl⟩:=h
 exact ⟨x,y,z,List.getElem?_set_self l.lt⟩
theorem Nx.trans {M M1 M2:Mm} {b:Nat} (h:Nx b M M1) (h':Nx b M1 M2):Nx b M M2:=by
 obtain ⟨x,y,z,rfl⟩:=h
 obtain ⟨x',y',z',rfl⟩:=h'
 exact ⟨x',y',z',by rw [List.set_set]⟩
theorem Nx.refl {M:Mm} {b:Nat} (h:Bx M b):Nx b M M:=by
 obtain ⟨x,y,z,e⟩:=h
 refine ⟨x,y,z,?_⟩
 apply List.ext_getElem?
 intro i
 by_cases hi:b=i
 ·subst hi; rw [List.getElem?_set_self (List.getElem?_eq_some_iff.mp e).1,e]
 ·rw [List.getElem?_set_ne hi]
theorem Nx.get {M M':Mm} {b i:Nat} (h:Nx b M M') (n:b≠i):M'[i]?=M[i]?:=by
 obtain ⟨x,y,z,rfl⟩:=h
 rw [List.getElem?_set_ne n]
theorem Nx.app {M M':Mm} {b:Nat} {J:Mm} (h:Nx b M M') (l:b < M.length):Nx b (M++J) (M'++J):=by
 obtain ⟨x,y,z,rfl⟩:=h
 exact ⟨x,y,z,by rw [List.set_append_left _ _ l]⟩
theorem Nx.unapp {M M' J:Mm} {b:Nat} (h:Nx b (M++J) M') (l:b < M.length):∃ M1,M'=M1++J/\Nx b M M1:=by
 obtain ⟨x,y,z,rfl⟩:=h
 exact ⟨_,List.set_append_left _ _ l,x,y,z,rfl⟩
theorem Bx.app {M J:Mm} {b:Nat} (h:Bx M b):Bx (M++J) b:=by
 obtain ⟨x,y,z,e⟩:=h
 exact ⟨x,y,z,by rw [List.getElem?_append_left (List.getElem?_eq_some_iff.mp e).1]; exact e⟩
theorem Nx.take {M M':Mm} {b:Nat} (h:Nx b M M'):M'.take M.length=M':=by rw [<- h.len,List.take_length]
mutual
noncomputable def sz:D->Nat
 | .tup xs=>szs xs+1
 | .lst xs=>szs xs+1
 | .fz xs=>szs xs+1
 | .exn _ _ xs=>szs xs+1
 | _=>1
noncomputable def szs:List D->Nat
 | []=>0
 | x::xs=>sz x+szs xs
end
mutual
noncomputable def noL:D->Bool
 | .tup xs=>noLs xs
 | .lst _=>false
 | .fz _=>false
 | .exn _ _ _=>false
 | _=>true
noncomputable def noLs:List D->Bool
 | []=>true
 | x::xs=>noL x&&noLs xs
end
theorem atBox (c:Int):atI [D.int 0,D.int c] (if decide ((10:Int) ^ (Int.toNat 18)<=c)=true then 1 else 0)=some (.int (if (1000000000000000000:Int)<=c then c else 0)):=by
 by_cases hc:(1000000000000000000:Int)<=c <;> simp [hc,atI,ixN]
end
end EV
namespace EV
open PySem PySem.Spec PyProof.Rows L2
variable {EX:D->Mm->Prop}
section
variable {X:Cx} {K:PySem.W.Frag} {Z:Zt} {pos:Pos}
end
section
variable {L:Lc} {M:Mm} {f:FE} {Q:W->Mm->Prop}
theorem aBg {QI:Src->Mm->Prop} (h:Okx EX (f L M) fun w M1=>∃ xs,(w=.d (.tup xs)\/w=.d (.lst xs)\/w=.d (.fz xs))/\QI ⟨xs.reverse,none⟩ M1):Okx EX (iRv f L M) QI:=by
 refine aF (h.mono ?_)
 rintro w M1 ⟨xs,rfl | rfl | rfl,q⟩ <;> exact aJ q
end
end EV
namespace EV
open PySem PySem.Spec PyProof.Rows L2
variable {EX:D->Mm->Prop}
section
variable {X:Cx} {K:PySem.W.Frag} {Z:Zt} {μ:List Addr} {H:Hp} {M:Mm} {a b c:Expr} {pos:Pos} {fs:FA}
noncomputable def sPar3 (i j k:Nat) (fs:FA):FS:=fun L M=>(fs L M).bind fun ws M1=>match ws with
 | [u,v,w]=>.ok (.nx (((L.set i (some u)).set j (some v)).set k (some w))) M1
 | _=>.bad
noncomputable def sBad:FS:=fun _ _=>.bad
theorem aCt {st:Stmt} (hk:X.K=K:=by rfl):Es X K Z st sBad:=⟨hk,cqS aEu fun _ _ _ ⟨_,_,_,_,_,p⟩=>p⟩
noncomputable def srt (ns:List Int):List Int:=ns.mergeSort fun a b=>decide (a<=b)
theorem kF (ns:List Int):(srt ns).Perm ns:=List.mergeSort_perm _ _
theorem oN (ns:List Int):(srt ns).Pairwise (·<=·):=by
 have:=List.pairwise_mergeSort (le:=fun a b:Int=>decide (a<=b)) (fun a b c h1 h2=>by simp at *; omega) (fun a b=>by simp; omega) ns
 exact this.imp fun h=>by simpa using h
theorem aDc {ns ns':List Int} (p:ns'.Perm ns) (o:ns'.Pairwise (·<=·)):ns'=srt ns :=
 List.Perm.eq_of_pairwise (le:=(·<=·)) (fun a b _ _ h1 h2=>Int.le_antisymm h1 h2) o (oN ns) (p.trans (kF ns).symm)
theorem wA (ns:List Int):(srt ns).length=ns.length:=(kF ns).length_eq
theorem aGk {ns:List Int} {x:Int}:x∈srt ns ↔ x∈ns:=(kF ns).mem_iff
theorem gZ {us:List Value}:∀ {ns:List Int},Vals (ns.map V.int) us->IntsAre us ns:=by
 induction us with
 | nil=>intro ns h; cases ns with
  | nil=>exact .nil
  | cons n r=>cases h
 | cons u us ih=>intro ns h; cases ns with
  | nil=>cases h
  | cons n r =>
   cases h with
   | cons p q =>
    obtain ⟨t,rfl⟩:=p
    exact .cons n t (ih q)
theorem tT {us:List Value} {ns:List Int} (h:IntsAre us ns):Vals (ns.map V.int) us:=by
 induction h with
 | nil=>exact .nil
 | cons n t _ ih=>exact .cons ⟨t,rfl⟩ ih
theorem uK:CallR X (.builtin "sorted") (fun xs H Q=>∃ p ns,xs=[.ref p]/\SqL X.K H p (ns.map V.int)/\ns.length < 64/\∀ l,H l=none->Q (.ref l) (upd H l (.lst ((srt ns).map V.int)))):=by
 intro pins s σ H xs us Q I r h
 obtain ⟨p,ns,rfl,hq,h64,q⟩:=h
 obtain ⟨u,rfl,rx⟩:=vals1 r
 cases rx
 obtain ⟨its,r',pl,hz⟩:=I.list hq
 have hI:=gZ r'
 have hlen:its.length=ns.length:=by have:=r'.length; simpa using this.symm
 refine sorted_ints pl.isList hI (by omega) fun out ns' a1 a2 a3=>?_
 have e:=aDc a2 a3
 subst e
 obtain ⟨c,hc⟩:=sortedAll_at s.heap its out
 refine ⟨.ref (s.heap.objs.size+1),_,I.laid (t':=s.toks) (fun b o e=>sortedAll_old e) (Nat.le_succ _) (show ObjOk X.prog X.w _ _ _ (.lst ((srt ns).map V.int)) from ⟨by rw [sizeLine_eq]; simp [wA]; omega,out.toList,c,tT a1,by simpa using hc⟩),rfl,q _ (I.hok.fresh (Nat.le_succ _))⟩
noncomputable def intsOf:List D->Option (List Int)
 | []=>some []
 | .int i::r=>(intsOf r).map (i::·)
 | _::_=>none
theorem iH (ns:List Int):intsOf (ns.map D.int)=some ns:=by
 induction ns with
 | nil=>rfl
 | cons n r ih=>simp only [List.map_cons,intsOf,ih,Option.map_some]
theorem fH:∀ {ds:List D} {ns:List Int},intsOf ds=some ns->ds=ns.map D.int
 | [],ns,h=>by cases h; rfl
 | .int i::r,ns,h=>by
  simp only [intsOf,Option.map_eq_some_iff] at h
  obtain ⟨ms,h1,rfl⟩:=h
  rw [fH h1]; rfl
 | .non::_,_,h=>by cases h
 | .bl _::_,_,h=>by cases h
 | .str _::_,_,h=>by cases h
 | .tup _::_,_,h=>by cases h
 | .lst _::_,_,h=>by cases h
 | .fz _::_,_,h=>by cases h
 | .exn _ _ _::_,_,h=>by cases h
theorem gE:∀ {ns:List Int} {vs:List V},Rps K μ H (ns.map D.int) vs->vs=ns.map V.int
 | [],vs,h=>by simpa [Rps] using h
 | n::r,vs,h=>by
  simp only [List.map_cons,Rps,Rp] at h
  obtain ⟨v,t,rfl,rfl,h3⟩:=h
  rw [gE h3]; rfl
noncomputable def cSorted (ws:List W) (M:Mm):Oc W:=match ws with
 | [w]=>match lr M w with
  | some xs=>match intsOf xs with
   | some ns=>if ns.length < 64 then okD (.lst ((srt ns).map .int)) M else .bad
   | none=>.bad
  | none=>.bad
 | _=>.bad
theorem callSorted (hc:X.calm=true):ClG X K Z (.builtin "sorted") cSorted:=fun hk=>by
 refine ⟨_,hk▸uK,?_⟩
 intro μ H M ws vs Q hr rx p
 match ws,rx,p with
 | [],_,p=>exact p.elim
 | [w],⟨v,r,e1,e2,e3⟩,p =>
  cases e3; subst e1
  simp only [cSorted] at p
  cases q:lr M w with
  | none=>rw [q] at p; exact p.elim
  | some xs =>
   rw [q] at p
   simp only at p
   cases q2:intsOf xs with
   | none=>rw [q2] at p; exact p.elim
   | some ns =>
    rw [q2] at p
    simp only at p
    split at p
    ·rename_i hz
     obtain ⟨a,us,rfl,h1,r1⟩:=uA hr e2 q
     have e:=fH q2
     subst e
     have e:=gE r1
     subst e
     exact ⟨a,ns,rfl,h1,hz,hG hr Rps.ints p⟩
    ·exact p.elim
 | _::_::_,_,p=>exact p.elim
theorem uN {pins:List (Addr×Obj)} {σ:St} {s:Shared} {p:Addr} {ys:List V} {Q:Value->Shared->Prop} (hc:X.calm=true) (I:Inv X pins σ H s) (hq:SqL X.K H p ys\/SqT X.K H p ys)
  (h:∀ (s2:Shared) (J:Addr) (fp:List Addr) (its:Array Value) (St:Nat->Heap->Prop),Vals ys its.toList->Walks X.prog X.w X.A.in1 J fp [J] its.size (fun i v=>its[i]?=some v) St->St 0 s2.heap->(∀ b∈fp,b < s2.heap.objs.size) ->
   (∀ h' tk,(∀ b o,b∉[J]->s2.heap.get? b=some o->h'.get? b=some o)->Inv X pins σ H { s2 with heap:=h',toks:=tk })->Q (.ref J) s2):wpAny (model X.prog X.w) X.A.in1 (pyIter (.ref p)) Q X.xe s:=by
 rcases hq with hq | hq
 ·obtain ⟨its,rv,pl,hz⟩:=I.list hq
  have hp:p < s.heap.objs.size:=by
   obtain ⟨o,e,_⟩:=pl.isList
   exact Heap.lt_size e
  have I1:Inv X pins σ H { s with heap:=s.heap.push { cls:=.type "list_iterator",data:=.fields #[.ref p,rawInt 0] } }:=I.kept (t':=s.toks) fun b o e=>Heap.get?_push_of_some _ e
  refine wpAny_pyIter_list pl.isList (h _ s.heap.objs.size [s.heap.objs.size,p] its.toArray _ (by simpa using rv) (Walks.list (by show X.A.in1.handled=none; exact I.ok.hd hc) s.heap.objs.size p (Nat.ne_of_lt hp) its.toArray) ⟨⟨_,Heap.get?_push_size _ rfl,rfl,rfl⟩,pl.isList.at fun o e=>Heap.get?_push_of_some _ e⟩ (fun b hb=>?_) fun h' tk hk=>?_)
  ·show b < (s.heap.push _).objs.size
   rw [Heap.size_push]
   simp only [List.mem_cons,List.not_mem_nil,or_false] at hb
   rcases hb with rfl | rfl
   ·exact Nat.lt_succ_self _
   ·exact Nat.lt_succ_of_lt hp
  ·obtain ⟨f0,f1,f2,f3,f4,f5⟩:=I.fpOk (H':=H) (Nat.le_refl _) (I.hok.fresh (Nat.le_refl _))
   exact I1.turned (t':=tk) (it:=s.heap.objs.size) (fun b o hb e=>hk b o (by simpa using hb) e) f0 f1 f3 f4 f5
 ·obtain ⟨its,rv,pl,hz⟩:=I.tuple hq
  have pl:s.heap.IsTuple p its.toArray:=pl
  have hp:p < s.heap.objs.size:=by
   obtain ⟨o,e,_⟩:=pl
   exact Heap.lt_size e
  have I1:Inv X pins σ H { s with heap:=s.heap.push { cls:=.type "tuple_iterator",data:=.fields #[.ref p,rawInt 0] } }:=I.kept (t':=s.toks) fun b o e=>Heap.get?_push_of_some _ e
  refine wpAny_pyIter_tuple pl (h _ s.heap.objs.size [s.heap.objs.size,p] its.toArray _ (by simpa using rv) (Walks.tuple (by show X.A.in1.handled=none; exact I.ok.hd hc) s.heap.objs.size p (Nat.ne_of_lt hp) its.toArray) ⟨⟨_,Heap.get?_push_size _ rfl,rfl,rfl⟩,pl.at fun o e=>Heap.get?_push_of_some _ e⟩ (fun b hb=>?_) fun h' tk hk=>?_)
  ·show b < (s.heap.push _).objs.size
   rw [Heap.size_push]
   simp only [List.mem_cons,List.not_mem_nil,or_false] at hb
   rcases hb with rfl | rfl
   ·exact Nat.lt_succ_self _
   ·exact Nat.lt_succ_of_lt hp
  ·obtain ⟨f0,f1,f2,f3,f4,f5⟩:=I.fpOk (H':=H) (Nat.le_refl _) (I.hok.fresh (Nat.le_refl _))
   exact I1.turned (t':=tk) (it:=s.heap.objs.size) (fun b o hb e=>hk b o (by simpa using hb) e) f0 f1 f3 f4 f5
theorem pQ (ns:List Int):∀ k,k<=ns.length->preSum (fun i=>ns.getD i 0) k=(ns.take k).sum
 | 0,_=>by simp [preSum]
 | k+1,h=>by
  rw [preSum,pQ ns k (by omega),List.take_add_one,List.sum_append]
  simp [List.getElem?_eq_getElem (show k < ns.length by omega)]
theorem aAw (hc:X.calm=true):CallR X (.builtin "sum") (fun xs H Q=>∃ (p:Addr) (ns:List Int),xs=[.ref p]/\(SqL X.K H p (ns.map V.int)\/SqT X.K H p (ns.map V.int))/\Q (.int ns.sum) H):=by
 intro pins s σ H xs us Q I r h
 obtain ⟨p,ns,rfl,hq,q⟩:=h
 obtain ⟨u,rfl,rx⟩:=vals1 r
 cases rx
 refine call_sum_walkG (uN hc I hq fun s2 J fp its St rv W st0 hfp hI=>?_)
 have hl:ns.length=its.size:=by have:=rv.length; simpa using this
 refine ⟨J,fp,[J],_,_,St,fun i=>ns.getD i 0,rfl,W,st0,hfp,fun i v hv=>?_,fun h' tk t' hk=>?_⟩
 ·have hv:its.toList[i]?=some v:=by simpa using hv
  have hlt:i < ns.length:=by rw [hl]; have:=(List.getElem?_eq_some_iff.mp hv).1; simpa using this
  obtain ⟨w',hw,rw'⟩:=rv.get (show (ns.map V.int)[i]?=some (.int (ns.getD i 0)) by simp [hlt])
  rw [hv] at hw
  cases hw
  exact rw'
 ·refine ⟨.int ns.sum,H,hI h' tk hk,⟨t',?_⟩,q⟩
  rw [<- hl,pQ ns _ (Nat.le_refl _),List.take_length]
noncomputable def cSum (ws:List W) (M:Mm):Oc W:=match ws with
 | [w]=>match sv M w with
  | some xs=>match intsOf xs with
   | some ns=>okD (.int ns.sum) M
   | none=>.bad
  | none=>.bad
 | _=>.bad
theorem callSum (hc:X.calm=true):ClG X K Z (.builtin "sum") cSum:=fun hk=>by
 refine ⟨_,hk▸aAw hc,?_⟩
 intro μ H M ws vs Q hr rx p
 match ws,rx,p with
 | [],_,p=>exact p.elim
 | [w],⟨v,r,e1,e2,e3⟩,p =>
  cases e3; subst e1
  simp only [cSum] at p
  cases q:sv M w with
  | none=>rw [q] at p; exact p.elim
  | some xs =>
   rw [q] at p
   simp only at p
   cases q2:intsOf xs with
   | none=>rw [q2] at p; exact p.elim
   | some ns =>
    rw [q2] at p
    obtain ⟨a,us,rfl,h1,r1⟩:=tZ hr e2 q
    have e:=fH q2
    subst e
    have e:=gE r1
    subst e
    exact ⟨a,ns,rfl,h1,p μ H .refl hr _ (by simp [Rw,Rp])⟩
 | _::_::_,_,p=>exact p.elim
noncomputable def blsOf:List D->Option (List Bool)
 | []=>some []
 | .bl i::r=>(blsOf r).map (i::·)
 | _::_=>none
theorem tE:∀ {ds:List D} {ns:List Bool},blsOf ds=some ns->ds=ns.map D.bl
 | [],ns,h=>by cases h; rfl
 | .bl i::r,ns,h=>by
  simp only [blsOf,Option.map_eq_some_iff] at h
  obtain ⟨ms,h1,rfl⟩:=h
  rw [tE h1]; rfl
 | .non::_,_,h=>by cases h
 | .int _::_,_,h=>by cases h
 | .str _::_,_,h=>by cases h
 | .tup _::_,_,h=>by cases h
 | .lst _::_,_,h=>by cases h
 | .fz _::_,_,h=>by cases h
 | .exn _ _ _::_,_,h=>by cases h
theorem xK:∀ {ns:List Bool} {vs:List V},Rps K μ H (ns.map D.bl) vs->vs=ns.map V.bl
 | [],vs,h=>by simpa [Rps] using h
 | n::r,vs,h=>by
  simp only [List.map_cons,Rps,Rp] at h
  obtain ⟨v,t,rfl,rfl,h3⟩:=h
  rw [xK h3]; rfl
theorem aNh {bs:List Bool} {its:Array Value} (rv:Vals (bs.map V.bl) its.toList) {i:Nat} {v:Value} (hv:its[i]?=some v):v=.bool (bs.getD i false):=by
 have hv:its.toList[i]?=some v:=by simpa using hv
 have hlt:i < bs.length:=by have:=(List.getElem?_eq_some_iff.mp hv).1; have h2:=rv.length; simp at h2 this; omega
 obtain ⟨w',hw,rw'⟩:=rv.get (show (bs.map V.bl)[i]?=some (.bl (bs.getD i false)) by simp [hlt])
 rw [hv] at hw
 cases hw
 exact rw'
theorem zA (bs:List Bool):(List.range bs.length).any (fun i=>bs.getD i false)=bs.any id:=by
 rw [Bool.eq_iff_iff,List.any_eq_true,List.any_eq_true]
 constructor
 ·rintro ⟨i,hi,h⟩
  have hi:=List.mem_range.mp hi
  exact ⟨bs[i],List.getElem_mem hi,by simpa [hi] using h⟩
 ·rintro ⟨x,hx,h⟩
  obtain ⟨i,hi,rfl⟩:=List.mem_iff_getElem.mp hx
  exact ⟨i,List.mem_range.mpr hi,by simpa [hi] using h⟩
theorem aAv (hc:X.calm=true):CallR X (.builtin "any") (fun xs H Q=>∃ (p:Addr) (bs:List Bool),xs=[.ref p]/\(SqL X.K H p (bs.map V.bl)\/SqT X.K H p (bs.map V.bl))/\Q (.bl (bs.any id)) H):=by
 intro pins s σ H xs us Q I r h
 obtain ⟨p,bs,rfl,hq,q⟩:=h
 obtain ⟨u,rfl,rx⟩:=vals1 r
 cases rx
 refine call_any_walk (uN hc I hq fun s2 J fp its St rv W st0 hfp hI=>?_)
 have hl:bs.length=its.size:=by have:=rv.length; simpa using this
 refine ⟨J,fp,[J],_,_,St,fun i=>bs.getD i false,rfl,W,st0,fun i v s3 Q3 E3 hv q3=>?_,fun h' tk hk=>?_⟩
 ·rw [aNh rv hv]; exact wpAny_truthy_bool q3
 ·rw [<- hl,zA]
  exact ⟨.bl _,H,hI h' tk hk,rfl,q⟩
noncomputable def cBls (g:List Bool->Bool) (ws:List W) (M:Mm):Oc W:=match ws with
 | [w]=>match sv M w with
  | some xs=>match blsOf xs with
   | some bs=>okD (.bl (g bs)) M
   | none=>.bad
  | none=>.bad
 | _=>.bad
noncomputable abbrev cAny:=cBls fun bs=>bs.any id
theorem clBls {g:List Bool->Bool}:Cl K Z (fun xs H Q=>∃ (p:Addr) (bs:List Bool),xs=[.ref p]/\(SqL K H p (bs.map V.bl)\/SqT K H p (bs.map V.bl))/\Q (.bl (g bs)) H) (cBls g):=by
 intro μ H M ws vs Q hr rx p
 match ws,rx,p with
 | [],_,p=>exact p.elim
 | [w],⟨v,r,e1,e2,e3⟩,p =>
  cases e3; subst e1
  simp only [cBls] at p
  cases q:sv M w with
  | none=>rw [q] at p; exact p.elim
  | some xs =>
   rw [q] at p
   simp only at p
   cases q2:blsOf xs with
   | none=>rw [q2] at p; exact p.elim
   | some ns =>
    rw [q2] at p
    obtain ⟨a,us,rfl,h1,r1⟩:=tZ hr e2 q
    have e:=tE q2
    subst e
    have e:=xK r1
    subst e
    exact ⟨a,ns,rfl,h1,p μ H .refl hr _ (by simp [Rw,Rp])⟩
 | _::_::_,_,p=>exact p.elim
theorem callAny (hc:X.calm=true):ClG X K Z (.builtin "any") cAny:=fun hk=>⟨_,hk▸aAv hc,clBls⟩
end
section
variable {L:Lc} {M:Mm} {w x:W} {f:FE} {fs:FA} {Q:W->Mm->Prop} {QS:Out->Mm->Prop}
theorem aHh {i j k:Nat} (h:Okx EX (fs L M) fun ws M1=>∃ u v w,ws=[u,v,w]/\QS (.nx (((L.set i (some u)).set j (some v)).set k (some w))) M1):Okx EX (sPar3 i j k fs L M) QS:=aF (h.mono fun ws M1 ⟨u,v,w,e,q⟩=>by subst e; exact aJ q)
theorem zC {ns:List Int} {ds:List D} (h:lr M x=some ds) (e:ds=ns.map D.int) (hz:ns.length < 64) (q:Q (.d (.lst ((srt ns).map D.int))) M):Okx EX (cSorted [x] M) Q:=by
 subst e
 unfold cSorted; simp only [h,iH]; rw [if_pos hz]; exact aJ q
theorem aJw {ns:List Int} {ds:List D} (h:sv M x=some ds) (e:ds=ns.map D.int) (q:Q (.d (.int ns.sum)) M):Okx EX (cSum [x] M) Q:=by
 subst e
 unfold cSum; simp only [h,iH]; exact aJ q
end
end EV
namespace EV
open PySem PySem.Spec PyProof.Rows L2
variable {EX:D->Mm->Prop}
section
variable {X:Cx} {K:PySem.W.Frag} {Z:Zt} {μ:List Addr} {H:Hp} {M:Mm} {a b c o i e:Expr} {pos:Pos} {fs:FA} {fa fb fc fo fi fe:FE}
theorem aDf:PGet X (fun o i H Q=>∃ p xs j v,o=.ref p/\i=.int j/\0<=j/\SqL X.K H p xs/\xs[j.toNat]?=some v/\Q v H):=by
 intro pins s σ H o i ov iv Q I ro ri h
 obtain ⟨p,xs,j,v,rfl,rfl,h0,hq,he,q⟩:=h
 cases ro
 obtain ⟨t,rfl⟩:=ri
 obtain ⟨its,r,pl,hz⟩:=I.list hq
 obtain ⟨w,ew,rw'⟩:=r.get he
 have hl:=r.length
 have hn:=line63
 have hlt:j.toNat < xs.length:=(List.getElem?_eq_some_iff.mp he).1
 exact wpAny_getItem_list pl.isList h0 (by omega) (by simpa using ew) ⟨v,H,I,rw',q⟩
noncomputable def sAugS (g:Int->Int->Int) (fo fi fe:FE):FS:=fun L M=>(fo L M).bind fun o M1=>(fi L M1).bind fun i M2=>match o,i with
 | .ref k,.d (.int j)=>match M2[k]? with
  | some xs=>if 0<=j then match xs[j.toNat]? with
   | some (.int x)=>(fe L M2).bind fun y M3=>match y with
    | .d (.int z)=>match M3[k]? with
     | some ys=>if j.toNat < ys.length then .ok (.nx L) (M3.set k (ys.set j.toNat (.int (g x z)))) else .bad
     | none=>.bad
    | _=>.bad
   | _=>.bad
   else .bad
  | none=>.bad
 | _,_=>.bad
theorem aFs {op:Operator} {g:Int->Int->Int} {tpos:Pos} (hp:PIp X op (ipI g)) (ho:Ev X K Z o fo) (hi:Ev X K Z i fi) (he:Ev X K Z e fe)
  (ha:∀ ov iv new,augStore i ov iv new=(do holding [new,ov,iv] (setItem ov iv new); release [new,ov,iv] []; pure .next):=by intros; rfl):Es X K Z (.AugAssign (.Subscript o i tpos) op e pos) (sAugS g fo fi fe):=by
 refine ⟨ho.k,cqS (aFd ho.h hi.h aDf he.h hp tX ha) ?_⟩
 rintro E σ H ⟨μ,M,L,hr,lr,p⟩
 refine ⟨μ,M,L,hr,lr,p.bind.imp fun μ1 H1 M1 x e1 hr1 _ p1 vo ro=>?_⟩
 refine ⟨μ1,M1,L,hr1,lr.ext hr.lsts e1,p1.bind.imp fun μ2 H2 M2 y e2 hr2 _ p2 vi ri=>?_⟩
 cases x with
 | d x=>exact p2.elim
 | ref k=>cases y with
  | ref j=>exact p2.elim
  | d y=>cases y with
   | int j =>
    simp only at p2
    cases q1:M2[k]? with
    | none=>simp only [q1] at p2; exact p2.elim
    | some xs =>
     simp only [q1] at p2
     split at p2
     ·rename_i h0
      cases q2:xs[j.toNat]? with
      | none=>simp only [q2] at p2; exact p2.elim
      | some d =>
       simp only [q2] at p2
       cases d with
       | int z =>
        simp only at p2
        have ro:=ro.ext hr1.lsts e2
        obtain ⟨a,qa,rfl⟩:=ro
        obtain ⟨a',vs,qa',h1,r1⟩:=hr2.at q1
        rw [qa] at qa'; cases qa'
        simp only [Rw,Rp] at ri
        subst ri
        obtain ⟨u,hu,ru⟩:=r1.get q2
        simp only [Rp] at ru
        subst ru
        refine ⟨a,vs,j,_,rfl,rfl,h0,SqL.of h1,hu,?_⟩
        refine ⟨μ2,M2,L,hr2,lr.ext hr.lsts (e1.trans e2),p2.bind.imp fun μ3 H3 M3 w e3 hr3 _ p3 vw rw'=>?_⟩
        cases w with
        | ref i=>exact p3.elim
        | d w=>cases w with
         | int t =>
          simp only at p3
          simp only [Rw,Rp] at rw'
          subst rw'
          cases q3:M3[k]? with
          | none=>simp only [q3] at p3; exact p3.elim
          | some ys =>
           simp only [q3] at p3
           split at p3
           ·rename_i hlt
            have qa3:=e3.pre _ _ qa
            obtain ⟨a',vs',qa',h3,r3⟩:=hr3.at q3
            rw [qa3] at qa'; cases qa'
            refine ⟨z,t,rfl,rfl,a,vs',j,j.toNat,rfl,rfl,h3,?_,?_⟩
            ·rw [<- r3.length]
             unfold ixN
             rw [if_pos h0,if_pos (by omega)]
            ·exact p3 μ3 _ (dQ qa3) (hr3.set qa3 (Rps.set (by simp [Rp]) _ r3)) σ ((lr.ext hr.lsts ((e1.trans e2).trans e3)).ext hr3.lsts (dQ qa3))
           ·exact p3.elim
         | _=>exact p3.elim
       | _=>exact p2.elim
     ·exact p2.elim
   | _=>exact p2.elim
end
section
variable {L:Lc} {M:Mm} {fo fi fe:FE} {QS:Out->Mm->Prop}
theorem rK {g:Int->Int->Int} (h:Okx EX (fo L M) fun o M1=>Okx EX (fi L M1) fun i M2=>∃ k j xs x,o=.ref k/\i=.d (.int j)/\M2[k]?=some xs/\0<=j/\xs[j.toNat]?=some (.int x)/\Okx EX (fe L M2) fun y M3=>∃ z ys,y=.d (.int z)/\M3[k]?=some ys/\j.toNat < ys.length/\QS (.nx L) (M3.set k (ys.set j.toNat (.int (g x z))))):Okx EX (sAugS g fo fi fe L M) QS:=by
 refine aF (h.mono fun o M1 z=>aF (z.mono fun i M2 ⟨k,j,xs,x,e1,e2,e3,h0,e4,z'⟩=>?_))
 subst e1 e2
 simp only [e3]
 rw [if_pos h0]
 simp only [e4]
 refine aF (z'.mono fun y M3 ⟨z,ys,e5,e6,h1,q⟩=>?_)
 subst e5
 simp only [e6]
 rw [if_pos h1]
 exact aJ q
end
end EV
namespace L2
open PySem PySem.Spec PyProof.Rows
section
variable {X:Cx} {pins:List (Addr×Obj)} {σ:St} {H:Hp} {s:Shared} {h':Heap} {fp:List Addr}
theorem Inv.turnLay {t':Nat} {T:Addr} {o:HO} (I:Inv X pins σ H s) (hf:∀ b∈fp,FpOk X pins H b) (k:∀ b u,b∉fp->s.heap.get? b=some u->h'.get? b=some u) (hT:s.heap.objs.size<=T) (new:ObjOk X.prog X.w (upd H T o) h' T o) :
  Inv X pins σ (upd H T o) { s with heap:=h',toks:=t' }:=by
 have hn:H T=none:=I.hok.fresh hT
 have nfp:∀ b u,H b=some u->b∉fp:=fun b u e z=>by rw [(hf b z).1] at e; cases e
 have lt:∀ b u,s.heap.get? b=some u->b≠T:=fun b u e z=>by subst z; exact absurd (Heap.lt_size e) (Nat.not_lt.mpr hT)
 have neT:∀ b u,H b=some u->b≠T:=fun b u e z=>by rw [z,hn] at e; cases e
 refine I.step (g':=s.gens) (d':=s.drawn) (ch:=fp) (fun b hb=>?_) (fun b u _ _ hc e _=>k b u hc e) (fun b u _ _ hc e _=>⟨u.slots,k b u hc e⟩) (fun b u _ e n=>by rw [aT (lt b u e)]; exact n)
  (fun b u hc e=>⟨u,k b u hc e⟩) (fun b xs e=>by rw [aT (neT b _ e)]; exact e) (fun b u v e=>by rw [aT (neT b _ e)]; exact e) (fun b ps e=>⟨#[],by rw [aT (neT b _ e),e]; simp⟩) (fun m hm=>?_) (fun b u e=>?_) I.bare
 ·obtain ⟨_,f1,_,f3,f4,f5⟩:=hf b hb
  exact ⟨f3,f1,f4,f5⟩
 ·obtain ⟨u,es,ep,ho,r⟩:=hm
  exact ⟨u,es,ep,k _ u (fun z=>(hf _ z).2.1 rfl) ho,r⟩
 ·by_cases hb:b=T
  ·subst hb; rw [dL] at e; cases e; exact new
  ·rw [aT hb] at e
   refine (I.hok b u e).stay (fun c v hc q=>k c v ?_ q) (fun c q=>by rw [aT (neT c _ q)]; exact q) fun c xs q=>by rw [aT (neT c _ q)]; exact q
   rcases hc with z | z
   ·rw [z]; exact nfp b u e
   ·exact nfp c _ z
theorem Inv.turnedL {t':Nat} (I:Inv X pins σ H s) (hf:∀ b∈fp,FpOk X pins H b) (k:∀ b u,b∉fp->s.heap.get? b=some u->h'.get? b=some u):Inv X pins σ H { s with heap:=h',toks:=t' }:=by
 have nfp:∀ b u,H b=some u->b∉fp:=fun b u e z=>by rw [(hf b z).1] at e; cases e
 refine I.step (g':=s.gens) (d':=s.drawn) (ch:=fp) (fun b hb=>?_) (fun b u _ _ hc e _=>k b u hc e) (fun b u _ _ hc e _=>⟨u.slots,k b u hc e⟩) (fun _ _ _ _ n=>n)
  (fun b u hc e=>⟨u,k b u hc e⟩) (fun _ _ e=>e) (fun _ _ _ e=>e) (fun b ps e=>⟨#[],by rw [e]; simp⟩) (fun m hm=>?_) (fun b u e=>?_) I.bare
 ·obtain ⟨_,f1,_,f3,f4,f5⟩:=hf b hb
  exact ⟨f3,f1,f4,f5⟩
 ·obtain ⟨u,es,ep,ho,r⟩:=hm
  exact ⟨u,es,ep,k _ u (fun z=>(hf _ z).2.1 rfl) ho,r⟩
 ·refine (I.hok b u e).stay (fun c v hc q=>k c v ?_ q) (fun _ q=>q) fun _ _ q=>q
  rcases hc with z | z
  ·rw [z]; exact nfp b u e
  ·exact nfp c _ z
end
noncomputable def SqB (b:Bool) (K:PySem.W.Frag) (H:Hp) (a:Addr) (xs:List V):Prop:=if b=true then SqL K H a xs else SqT K H a xs
noncomputable def It0 (b:Bool) (h:Heap) (it src:Addr) (i:Nat):Prop:=if b=true then h.IsListIter it src i else h.IsTupleIter it src i
noncomputable def IsB (b:Bool) (h:Heap) (a:Addr) (xs:Array Value):Prop:=if b=true then h.IsList a xs else h.IsTuple a xs
theorem It0.at {b:Bool} {h h':Heap} {it src:Addr} {i:Nat} (x:It0 b h it src i) (k:∀ o,h.get? it=some o->h'.get? it=some o):It0 b h' it src i:=by
 cases b
 ·exact Heap.IsTupleIter.at x k
 ·exact Heap.IsListIter.at x k
theorem It0.obj {b:Bool} {h:Heap} {it src:Addr} {i:Nat} (x:It0 b h it src i):∃ o,h.get? it=some o/\∀ v,o.data≠.cell v:=by
 cases b
 ·obtain ⟨o,e,c,d⟩:=(show h.IsTupleIter it src i from x)
  exact ⟨o,e,fun v z=>by rw [d] at z; cases z⟩
 ·obtain ⟨o,e,c,d⟩:=(show h.IsListIter it src i from x)
  exact ⟨o,e,fun v z=>by rw [d] at z; cases z⟩
theorem lF {b:Bool} {h:Heap} {it src:Addr} {i:Nat} {xs:Array Value} (x:It0 b h it src i) (y:IsB b h src xs):ZP.It1 h it src i xs:=by
 cases b
 ·exact .inr ⟨x,y⟩
 ·exact .inl ⟨x,y⟩
theorem oY {b:Bool} {h:Heap} {it src:Addr} {i:Nat} {xs ys:Array Value} (y:IsB b h src ys) (x:ZP.It1 h it src i xs):It0 b h it src i:=by
 cases b
 ·rcases x with ⟨_,o,e,c,_⟩ | ⟨x,_⟩
  ·obtain ⟨o',e',c',_⟩:=(show h.IsTuple src ys from y)
   rw [e] at e'; cases e'; rw [c] at c'; simp at c'
  ·exact x
 ·rcases x with ⟨x,_⟩ | ⟨_,o,e,c,_⟩
  ·exact x
  ·obtain ⟨o',e',c',_⟩:=(show h.IsList src ys from y)
   rw [e] at e'; cases e'; rw [c] at c'; simp at c'
theorem IsB.at {b:Bool} {h h':Heap} {a:Addr} {xs:Array Value} (x:IsB b h a xs) (k:∀ o,h.get? a=some o->h'.get? a=some o):IsB b h' a xs:=by
 cases b
 ·obtain ⟨o,e,r⟩:=(show h.IsTuple a xs from x); exact ⟨o,k o e,r⟩
 ·obtain ⟨o,e,r⟩:=(show h.IsList a xs from x); exact ⟨o,k o e,r⟩
theorem IsB.lt {b:Bool} {h:Heap} {a:Addr} {xs:Array Value} (x:IsB b h a xs):a < h.objs.size:=by
 cases b
 ·obtain ⟨o,e,r⟩:=(show h.IsTuple a xs from x); exact Heap.lt_size e
 ·obtain ⟨o,e,r⟩:=(show h.IsList a xs from x); exact Heap.lt_size e
theorem SqB.inv {X:Cx} {pins:List (Addr×Obj)} {σ:St} {H:Hp} {s:Shared} {b:Bool} {a:Addr} {xs:List V} (I:Inv X pins σ H s) (h:SqB b X.K H a xs):∃ its:List Value,Vals xs its/\IsB b s.heap a its.toArray/\xs.length<=sizeLine:=by
 cases b
 ·obtain ⟨its,r,pl,hz⟩:=I.tuple (show SqT X.K H a xs from h); exact ⟨its,r,pl,hz⟩
 ·obtain ⟨its,r,pl,hz⟩:=I.list (show SqL X.K H a xs from h); exact ⟨its,r,pl.isList,hz⟩
section
variable {prog:Program} {w:World} {A:Around} {E:Value->Shared->Prop} {s:Shared}
theorem zN {elts:List Expr} {x1} {pos:Pos} {z TI TO T:Addr} {f0 f1:Value} {Q:Unit->Shared->Prop} (hz:s.heap.get? z=some (ZP.zobj TI TO f0 f1)) (hf:f0=.none\/∃ T:Nat,f0=rawInt T)
  (hQ:∀ h' g0,h'.get? z=some (ZP.zobj TI TO g0 f1)->(g0=.none\/∃ T:Nat,g0=rawInt T)->Heap.SameBut z s.heap h'->Q () { s with heap:=h' }):wpAny (model prog w) A (letOwnedTupleGo (.Tuple elts x1 pos) (.ref z) (.ref T)) Q E s:=by
 unfold letOwnedTupleGo
 refine wpAny_bind (wpAny_load hz ?_)
 show wpAny _ A (if (["enumerate","zip","dict_itemiterator","dict_reverseitemiterator","odict_iterator","itertools.zip_longest","itertools.pairwise"].contains "zip"&&(#[f0,f1,.bool false,.ref TI,.ref TO]:Array Value)[0]?==some (rawInt T))=true then _ else _) Q E s
 by_cases hc:(["enumerate","zip","dict_itemiterator","dict_reverseitemiterator","odict_iterator","itertools.zip_longest","itertools.pairwise"].contains "zip"&&(#[f0,f1,.bool false,.ref TI,.ref TO]:Array Value)[0]?==some (rawInt T))=true
 ·rw [if_pos hc]
  refine wpAny_bind (wpAny_rule ?_)
  show wpAny _ A (setField (.ref z) 0 .none) Q E s
  exact wpAny_setField_rec hz (by simp) fun h' hz' hs'=>hQ h' .none hz' (.inl rfl) hs'
 ·rw [if_neg hc]
  exact wpAny_pure (hQ s.heap f0 hz hf ⟨rfl,fun _ _=>rfl⟩)
end
noncomputable def tnz (b1 b2:Bool) (z TI TO i1 i2 l1 l2:Addr) (i:Nat) (h:Heap):Prop :=
 (∃ f0 f1,h.get? z=some (ZP.zobj TI TO f0 f1)/\(f0=.none\/∃ T:Nat,f0=rawInt T))/\IsPair h TI (.ref i1) (.ref i2)/\(∃ a b,IsPair h TO a b)/\It0 b1 h i1 l1 i/\It0 b2 h i2 l2 i
noncomputable def Itz (b1 b2:Bool) (K:PySem.W.Frag) (l1 l2:Addr) (xs ys:List V):It :=
 ⟨fun i H=>SqB b1 K H l1 xs/\SqB b2 K H l2 ys/\i < xs.length/\i < ys.length,fun i H x H'=>∃ T u v,H T=none/\x=.ref T/\xs[i]?=some u/\ys[i]?=some v/\H'=upd H T (.tup [u,v]),fun i H=>SqB b1 K H l1 xs/\SqB b2 K H l2 ys/\(xs.length<=i\/ys.length<=i)⟩
theorem uS {P:Program} {w:World} {K:PySem.W.Frag} {elts:List Expr} {x1} {pos:Pos} {b1 b2:Bool} {z TI TO i1 i2 l1 l2:Addr} (D:ZP.Ap z TI TO i1 i2 l1 l2) (xs ys:List V):Turn P w K (.Tuple elts x1 pos) (Itz b1 b2 K l1 l2 xs ys) [z,TI,TO,i1,i2] z (tnz b1 b2 z TI TO i1 i2 l1 l2) where
 mem:=by simp
 obj:=fun i h st b hb=>by
  obtain ⟨⟨f0,f1,hz,_⟩,hTI,⟨a,c,hTO⟩,h1,h2⟩:=st
  simp only [List.mem_cons,List.not_mem_nil,or_false] at hb
  rcases hb with rfl | rfl | rfl | rfl | rfl
  ·exact ⟨_,hz,fun v z=>by cases z⟩
  ·exact ⟨_,hTI,fun v z=>by cases z⟩
  ·exact ⟨_,hTO,fun v z=>by cases z⟩
  ·exact h1.obj
  ·exact h2.obj
 keep:=fun i h h' st k=>by
  obtain ⟨⟨f0,f1,hz,hf⟩,hTI,⟨a,c,hTO⟩,h1,h2⟩:=st
  exact ⟨⟨f0,f1,k z (by simp) _ hz,hf⟩,k TI (by simp) _ hTI,⟨a,c,k TO (by simp) _ hTO⟩,h1.at fun o e=>k i1 (by simp) o e,h2.at fun o e=>k i2 (by simp) o e⟩
 item:=by
  intro X hP hw hK hc i pins s σ H E I hf st hg
  subst hP hw hK
  obtain ⟨sx,sy,hx,hy⟩:=hg
  obtain ⟨its1,r1,y1,z1⟩:=sx.inv I
  obtain ⟨its2,r2,y2,z2⟩:=sy.inv I
  obtain ⟨⟨f0,f1,hz,hf0⟩,hTI,hTO,h1,h2⟩:=st
  have hT:s.TypeIs (.ref z) "zip":=⟨_,hz,rfl⟩
  obtain ⟨u,hu,ru⟩:=r1.get (List.getElem?_eq_getElem hx)
  obtain ⟨v,hv,rv⟩:=r2.get (List.getElem?_eq_getElem hy)
  have zlt:z < s.heap.objs.size:=Heap.lt_size hz
  unfold pyNext
  refine wpAny_bind (wpAny_attempt (wpAny_callSpecial?_slot (name:=Str.ofString "__next__") hT F.slot_zip_next
   (wpAny_call_entry F.slot_zip_next hT F.entry_zip_next
    (ZP.zip_next_item D ⟨⟨f0,f1,hz,hf0⟩,hTI,hTO,lF h1 y1,lF h2 y2⟩ (x:=u) (y:=v) (by simpa using hu) (by simpa using hv) fun h' T z' p' n' k'=>wpAny_pure ?_) (F.args_zip_next_1 _))))
  refine ⟨_,rfl,?_⟩
  obtain ⟨⟨g0,g1,hz',hg0⟩,hTI',⟨c,d,hTO'⟩,a1',a2'⟩:=z'
  have y1':IsB b1 h' l1 its1.toArray:=y1.at fun o e=>k' l1 o D.l1z D.l1TO D.l1i1 D.l1i2 e
  have y2':IsB b2 h' l2 its2.toArray:=y2.at fun o e=>k' l2 o D.l2z D.l2TO D.l2i1 D.l2i2 e
  refine zN (s:={ s with heap:=h' }) hz' hg0 fun h2 g2 hz2 hg2 sb=>?_
  have sb:Heap.SameBut z h' h2:=sb
  have kk:∀ b o,b∉[z,TI,TO,i1,i2]->s.heap.get? b=some o->h2.get? b=some o:=fun b o hb e=>by
   simp only [List.mem_cons,List.not_mem_nil,or_false,not_or] at hb
   obtain ⟨q1,q2,q3,q4,q5⟩:=hb
   exact sb.extBut b o q1 (k' b o q1 q3 q4 q5 e)
  have hTz:T≠z:=fun e=>absurd zlt (Nat.not_lt.mpr (e▸n'))
  have hp2:h2.get? T=some { cls:=.type "tuple",data:=.seq #[u,v] }:=sb.extBut T _ hTz p'
  refine ⟨.ref T,upd H T (.tup [xs[i],ys[i]]),I.turnLay (t':=s.toks) hf kk n' (show ObjOk X.prog X.w _ h2 T (.tup [xs[i],ys[i]]) from ⟨by show 2<=sizeLine; decide,[u,v],.cons ru (.cons rv .nil),_,hp2,rfl,_,rfl⟩),rfl,⟨T,xs[i],ys[i],I.hok.fresh n',rfl,List.getElem?_eq_getElem hx,List.getElem?_eq_getElem hy,rfl⟩,?_,fun b hb=>?_⟩
  ·exact ⟨⟨g2,g1,hz2,hg2⟩,sb.extBut TI _ D.TIz hTI',⟨c,d,sb.extBut TO _ D.TOz hTO'⟩,(oY y1' a1').at fun o e=>sb.extBut i1 o D.i1z e,(oY y2' a2').at fun o e=>sb.extBut i2 o D.i2z e⟩
  ·rw [aT]
   ·exact (hf b hb).1
   ·rintro rfl
    simp only [List.mem_cons,List.not_mem_nil,or_false] at hb
    have:b < s.heap.objs.size:=by
     rcases hb with rfl | rfl | rfl | rfl | rfl
     ·exact zlt
     ·exact Heap.lt_size hTI
     ·obtain ⟨_,_,q⟩:=hTO; exact Heap.lt_size q
     ·obtain ⟨o,q,_⟩:=h1.obj; exact Heap.lt_size q
     ·obtain ⟨o,q,_⟩:=h2.obj; exact Heap.lt_size q
    exact absurd this (Nat.not_lt.mpr n')
 done:=by
  intro X hP hw hK hc i pins s σ H E I hf st hg
  subst hP hw hK
  obtain ⟨sx,sy,hend⟩:=hg
  obtain ⟨its1,r1,y1,z1⟩:=sx.inv I
  obtain ⟨its2,r2,y2,z2⟩:=sy.inv I
  obtain ⟨⟨f0,f1,hz,hf0⟩,hTI,hTO,h1,h2⟩:=st
  have hT:s.TypeIs (.ref z) "zip":=⟨_,hz,rfl⟩
  have l1':=r1.length
  have l2':=r2.length
  unfold pyNext
  refine wpAny_bind (wpAny_attempt (wpAny_callSpecial?_slot (name:=Str.ofString "__next__") hT F.slot_zip_next
   (wpAny_call_entry F.slot_zip_next hT F.entry_zip_next (ZP.zip_next_end (I.ok.hd hc) D ⟨⟨f0,f1,hz,hf0⟩,hTI,hTO,lF h1 y1,lF h2 y2⟩ (by
    rcases hend with q | q
    ·exact .inl (by simp; omega)
    ·exact .inr (by simp; omega)) fun h' e hk he=>?_) (F.args_zip_next_1 _))))
  obtain ⟨o,ho,hcl⟩:=he
  refine wpAny_bind (wpAny_isInstance (T:="StopIteration") (b:=true) ⟨o,ho,hcl⟩ isSubtype_stop ?_)
  refine wpAny_pure ⟨rfl,I.turnedL (t':=s.toks) hf fun b o hb e=>?_⟩
  simp only [List.mem_cons,List.not_mem_nil,or_false,not_or] at hb
  obtain ⟨q1,q2,q3,q4,q5⟩:=hb
  exact hk b o q1 q3 q4 q5 e
 self:=fun A i s Q E st hQ=>by
  obtain ⟨⟨f0,f1,hz,_⟩,_⟩:=st
  have hT:s.TypeIs (.ref z) "zip":=⟨_,hz,rfl⟩
  refine wpAny_pyIter_slot hT F.slot_zip_iter (wpAny_call_entry F.slot_zip_iter hT F.entry_zip_iter ?_ (F.args_zip_iter_1 _))
  show wpAny _ _ (ret (.ref z)) _ _ s
  exact wpAny_pure ⟨_,rfl,"zip",_,hT,F.slot_zip_next.lookup,hQ⟩
theorem aLw {X:Cx} {elts:List Expr} {x1} {tpos:Pos} {a b:Expr} {ta tb:TE} {p pos:Pos} (hg:Gl X "zip") (hm:X.mg "zip"=none) (ha:PE X a ta) (hb:PE X b tb)
  (hs2:starEach [a,b] X.env=(false,eval a X.env)::starEach [b] X.env:=by rfl) (hs3:starEach [b] X.env=(false,eval b X.env)::starEach [] X.env:=by rfl) (hpl2:(backTo pos (starEach [b] X.env)).any (·.1)=false:=by rfl) :
  PI X (.Tuple elts x1 tpos) (.Call (.Name "zip" p) [a,b] [] pos) (fun σ H R=>ta σ H fun x H1=>tb σ H1 fun y H2=>∃ l1 l2 b1 b2 xs ys,x=.ref l1/\y=.ref l2/\SqB b1 X.K H2 l1 xs/\SqB b2 X.K H2 l2 ys/\R (Itz b1 b2 X.K l1 l2 xs ys) H2):=by
 intro pins s σ H R I h
 refine wpAny_Call_Name_kw (iU I hg hm aJb ?_)
 refine PyProof.Rows.callWith_type1 (thn (cZ ha (cZ hb fK hs3) hs2 pos pins s σ H (fun vs H2=>match vs with | [x,y]=>∃ l1 l2 b1 b2 xs ys,x=.ref l1/\y=.ref l2/\SqB b1 X.K H2 l1 xs/\SqB b2 X.K H2 l2 ys/\R (Itz b1 b2 X.K l1 l2 xs ys) H2 | _=>False) I h) fun us s1 ⟨vs,H1,I1,r1,hr⟩=>?_) hs2 hpl2
 match vs,r1,hr with
 | [],_,hr=>exact hr.elim
 | [_],_,hr=>exact hr.elim
 | _::_::_::_,_,hr=>exact hr.elim
 | [x,y],r1,hr =>
 obtain ⟨u1,u2,rfl,rx,ry⟩:=r1.two
 obtain ⟨l1,l2,b1,b2,xs,ys,rfl,rfl,sx,sy,hq⟩:=hr
 cases rx
 cases ry
 obtain ⟨its,q1,p1,z1⟩:=sx.inv I1
 obtain ⟨its2,q2,p2,z2⟩:=sy.inv I1
 have hl1:=p1.lt
 have hl2:=p2.lt
 have e1:s1.heap.IsList l1 its.toArray\/s1.heap.IsTuple l1 its.toArray:=by cases b1; exact .inr p1; exact .inl p1
 have e2:s1.heap.IsList l2 its2.toArray\/s1.heap.IsTuple l2 its2.toArray:=by cases b2; exact .inr p2; exact .inl p2
 have D:=ZP.ap_of hl1 hl2
 refine ZP.call_zipG e1 e2 fun h1 Zs1 hsz kp=>?_
 obtain ⟨⟨f0,f1,hz,hf0⟩,hTI,hTO,a1,a2⟩:=Zs1
 have tz:tnz b1 b2 (s1.heap.objs.size+4) (s1.heap.objs.size+2) (s1.heap.objs.size+3) s1.heap.objs.size (s1.heap.objs.size+1) l1 l2 0 h1:=⟨⟨f0,f1,hz,hf0⟩,hTI,hTO,oY (p1.at fun o e=>kp l1 o e) a1,oY (p2.at fun o e=>kp l2 o e) a2⟩
 refine (uS (P:=X.prog) (w:=X.w) (K:=X.K) (elts:=elts) (x1:=x1) (pos:=tpos) (b1:=b1) (b2:=b2) D xs ys).self _ 0 _ _ _ tz ?_
 refine ⟨s1.heap.objs.size+4,_,_,_,H1,rfl,I1.kept (t':=s1.toks) fun b o e=>kp b o e,uS D xs ys,tz,fun b hb=>?_,hq⟩
 refine I1.fpOk ?_ (I1.hok.fresh ?_) <;>
 ·simp only [List.mem_cons,List.not_mem_nil,or_false] at hb
  rcases hb with rfl | rfl | rfl | rfl | rfl <;> (show (_:Nat)<=(_:Nat); omega)
end L2
namespace EV
open PySem PySem.Spec PyProof.Rows L2
variable {EX:D->Mm->Prop}
section
variable {X:Cx} {K:PySem.W.Frag} {Z:Zt} {μ:List Addr} {H:Hp} {M:Mm} {a b:Expr} {pos:Pos} {f g:FE} {tg:Expr}
noncomputable def dz:W->Option (List D)
 | .d (.tup xs)=>some xs
 | .d (.lst xs)=>some xs
 | .d (.fz xs)=>some xs
 | _=>none
theorem rH {w:W} {v:V} {ds:List D} (r:Rw K μ H w v) (h:dz w=some ds):∃ (b:Bool) (a:Addr) (vs:List V) (S:List Addr->Hp->Prop),v=.ref a/\S μ H/\(∀ μ1 H1 μ2 H2,Lsts μ1 H1->S μ1 H1->Ext μ1 H1 μ2 H2->S μ2 H2)/\∀ μ1 H1,S μ1 H1->SqB b K H1 a vs/\Rps K μ1 H1 ds vs:=by
 cases w with
 | ref i=>cases h
 | d x=>cases x with
  | tup xs =>
   cases h
   simp only [Rw,Rp] at r
   obtain ⟨p,vs,rfl,h1,r1⟩:=r
   exact ⟨false,p,vs,fun μ2 H2=>H2 p=some (.tup vs)/\Rps K μ2 H2 ds vs,rfl,⟨h1,r1⟩,fun μ1 H1 μ2 H2 l z e=>⟨e.keep _ _ (fun q=>by obtain ⟨us,q⟩:=l p q; rw [z.1] at q; cases q) z.1,Rps.ext l e _ _ z.2⟩,fun μ1 H1 z=>⟨SqT.of z.1,z.2⟩⟩
  | lst xs =>
   cases h
   simp only [Rw,Rp] at r
   obtain ⟨p,vs,rfl,h1,hn,r1⟩:=r
   exact ⟨true,p,vs,fun μ2 H2=>H2 p=some (.lst vs)/\p∉μ2/\Rps K μ2 H2 ds vs,rfl,⟨h1,hn,r1⟩,fun μ1 H1 μ2 H2 l z e=>⟨e.keep _ _ z.2.1 z.1,fun q=>(e.new p q).elim z.2.1 (fun q=>by rw [z.1] at q; cases q),Rps.ext l e _ _ z.2.2⟩,fun μ1 H1 z=>⟨SqL.of z.1,z.2.2⟩⟩
  | fz xs =>
   cases h
   simp only [Rw,Rp] at r
   obtain ⟨p,vs,rfl,h1,r1⟩:=r
   exact ⟨true,p,vs,fun μ2 H2=>FzL K H2 p vs/\Rps K μ2 H2 ds vs,rfl,⟨h1,r1⟩,fun μ1 H1 μ2 H2 l z e=>⟨z.1.ext l e,Rps.ext l e _ _ z.2⟩,fun μ1 H1 z=>⟨z.1.sq,z.2⟩⟩
  | _=>cases h
theorem iY {xs ys:List D} {i:Nat} {d:D} (h:(zipT xs ys)[i]?=some d):∃ x y,xs[i]?=some x/\ys[i]?=some y/\d=.tup [x,y]:=by
 unfold zipT at h
 rw [List.getElem?_map,Option.map_eq_some_iff] at h
 obtain ⟨p,h1,rfl⟩:=h
 rw [List.getElem?_zip_eq_some] at h1
 exact ⟨_,_,h1.1,h1.2,rfl⟩
theorem fQ {xs ys:List D}:(zipT xs ys).length=min xs.length ys.length:=by simp [zipT]
theorem kU {T:Addr} {x y:D} {u v:V} (hr:HR K μ H M) (hT:H T=none) (r1:Rp K μ H x u) (r2:Rp K μ H y v):Ext μ H μ (upd H T (.tup [u,v]))/\HR K μ (upd H T (.tup [u,v])) M/\Rp K μ (upd H T (.tup [u,v])) (.tup [x,y]) (.ref T):=by
 have e:=iG (o:=.tup [u,v]) hr hT
 refine ⟨e,hr.lay hT,?_⟩
 simp only [Rp]
 exact ⟨T,[u,v],rfl,dL,.cons (Rp.ext hr.lsts e _ _ r1) (.cons (Rp.ext hr.lsts e _ _ r2) .nil)⟩
noncomputable def cz (M:Mm):W->Option (Nat×List D)
 | .ref t=>match M[t]? with
  | some ys=>if (intsOf ys).isSome then some (t,ys) else none
  | none=>none
 | _=>none
theorem aMh {M:Mm} {y:W} {t:Nat} {ys:List D} (h:cz M y=some (t,ys)):y=.ref t/\M[t]?=some ys/\∃ ns:List Int,ys=ns.map D.int:=by
 cases y with
 | d x=>cases h
 | ref t' =>
  simp only [cz] at h
  cases q:M[t']? with
  | none=>simp only [q] at h; cases h
  | some ys' =>
   simp only [q] at h
   cases e:intsOf ys' with
   | none=>simp [e] at h
   | some ns =>
    simp only [e,Option.isSome_some,if_true,Option.some.injEq,Prod.mk.injEq] at h
    obtain ⟨rfl,rfl⟩:=h
    exact ⟨rfl,q,ns,fH e⟩
noncomputable def iZip (f g:FE):FI:=fun L M=>(f L M).bind fun x M1=>(g L M1).bind fun y M2=>match dz x,dz y with
 | some xs,some ys=>.ok ⟨zipT xs ys,none⟩ M2
 | some xs,none=>match cz M2 y with
  | some (t,ys)=>.ok ⟨zipT xs ys,some (.two t ys)⟩ M2
  | none=>.bad
 | _,_=>.bad
theorem rY {elts:List Expr} {x1} {tpos p:Pos} (hm:X.mg "zip"=none) (ha:Ev X K Z a f) (hb:Ev X K Z b g) (hg:Gl X "zip":=by rfl)
  (hs2:starEach [a,b] X.env=(false,eval a X.env)::starEach [b] X.env:=by rfl) (hs3:starEach [b] X.env=(false,eval b X.env)::starEach [] X.env:=by rfl) (hpl2:(backTo pos (starEach [b] X.env)).any (·.1)=false:=by rfl):Ei X K Z (.Tuple elts x1 tpos) (.Call (.Name "zip" p) [a,b] [] pos) (iZip f g):=by
 have h':=aLw (elts:=elts) (x1:=x1) (tpos:=tpos) (p:=p) (pos:=pos) hg hm ha.h hb.h hs2 hs3 hpl2
 rw [ha.k] at h'
 refine ⟨ha.k,cqI h' ?_⟩
 rintro σ H R ⟨μ,M,L,hr,lr,p⟩
 refine ⟨μ,M,L,hr,lr,p.bind.imp fun μ1 H1 M1 w e1 hr1 _ p1 v rw'=>?_⟩
 refine ⟨μ1,M1,L,hr1,lr.ext hr.lsts e1,p1.bind.imp fun μ2 H2 M2 w2 e2 hr2 _ p2 v2 rw2=>?_⟩
 cases q1:dz w with
 | none=>simp only [q1] at p2; exact p2.elim
 | some xs =>
  cases q2:dz w2 with
  | none =>
   cases q3:cz M2 w2 with
   | none=>simp only [q1,q2,q3] at p2; exact p2.elim
   | some ty =>
   obtain ⟨t,ys⟩:=ty
   simp only [q1,q2,q3] at p2
   obtain ⟨rfl,hM,ns,rfl⟩:=aMh q3
   obtain ⟨b1,l1,vs1,S1,rfl,s1,x1,d1⟩:=rH (rw'.ext hr1.lsts e2) q1
   obtain ⟨a,qa,rfl⟩:=rw2
   have cell:∀ {μ3:List Addr} {H3:Hp} {M3:Mm},HR K μ3 H3 M3->μ3[t]?=some a->M3[t]?=some (ns.map D.int)->SqB true K H3 a (ns.map V.int):=fun hr3 z c=>by
    obtain ⟨a',vs,qa',h1,r1⟩:=hr3.at c
    rw [z] at qa'; cases qa'
    rw [gE r1] at h1
    exact SqL.of h1
   refine ⟨l1,a,b1,true,vs1,ns.map V.int,rfl,rfl,(d1 _ _ s1).1,cell hr2 qa hM,p2 μ2 H2 .refl hr2 _ ?_⟩
   refine ⟨fun μ H=>S1 μ H/\μ[t]?=some a,⟨s1,qa⟩,fun μ1 H1 μ2 H2 l z e=>⟨x1 _ _ _ _ l z.1 e,e.pre _ _ z.2⟩,fun μ3 H3 M3 i hr3 hS hc=>?_⟩
   obtain ⟨c1,r1⟩:=d1 _ _ hS.1
   have c2:=cell hr3 hS.2 (hc _ rfl)
   have r2:Rps K μ3 H3 (ns.map D.int) (ns.map V.int):=Rps.ints
   refine ⟨fun d hd=>?_,fun hl=>?_⟩
   ·obtain ⟨x,y,hx,hy,rfl⟩:=iY hd
    obtain ⟨u,hu,ru⟩:=r1.get hx
    obtain ⟨v,hv,rv⟩:=r2.get hy
    refine ⟨⟨c1,c2,(List.getElem?_eq_some_iff.mp hu).1,(List.getElem?_eq_some_iff.mp hv).1⟩,fun x' H4 hy4=>?_⟩
    obtain ⟨T,u',v',hT,rfl,hu',hv',rfl⟩:=hy4
    rw [hu] at hu'; cases hu'
    rw [hv] at hv'; cases hv'
    exact kU hr3 hT ru rv
   ·refine ⟨c1,c2,?_⟩
    simp only [fQ] at hl
    rw [<- r1.length,<- r2.length]
    omega
  | some ys =>
   simp only [q1,q2] at p2
   obtain ⟨b1,l1,vs1,S1,rfl,s1,x1,d1⟩:=rH (rw'.ext hr1.lsts e2) q1
   obtain ⟨b2,l2,vs2,S2,rfl,s2,x2,d2⟩:=rH rw2 q2
   refine ⟨l1,l2,b1,b2,vs1,vs2,rfl,rfl,(d1 _ _ s1).1,(d2 _ _ s2).1,p2 μ2 H2 .refl hr2 _ ?_⟩
   refine ⟨fun μ H=>S1 μ H/\S2 μ H,⟨s1,s2⟩,fun μ1 H1 μ2 H2 l z e=>⟨x1 _ _ _ _ l z.1 e,x2 _ _ _ _ l z.2 e⟩,fun μ3 H3 M3 i hr3 hS hc=>?_⟩
   obtain ⟨c1,r1⟩:=d1 _ _ hS.1
   obtain ⟨c2,r2⟩:=d2 _ _ hS.2
   refine ⟨fun d hd=>?_,fun hl=>?_⟩
   ·obtain ⟨x,y,hx,hy,rfl⟩:=iY hd
    obtain ⟨u,hu,ru⟩:=r1.get hx
    obtain ⟨v,hv,rv⟩:=r2.get hy
    refine ⟨⟨c1,c2,(List.getElem?_eq_some_iff.mp hu).1,(List.getElem?_eq_some_iff.mp hv).1⟩,fun x' H4 hy4=>?_⟩
    obtain ⟨T,u',v',hT,rfl,hu',hv',rfl⟩:=hy4
    rw [hu] at hu'; cases hu'
    rw [hv] at hv'; cases hv'
    exact kU hr3 hT ru rv
   ·refine ⟨c1,c2,?_⟩
    simp only [fQ] at hl
    rw [<- r1.length,<- r2.length]
    omega
end
section
variable {L:Lc} {M:Mm} {f g:FE}
theorem sA {QI:Src->Mm->Prop} (h:Okx EX (f L M) fun x M1=>Okx EX (g L M1) fun y M2=>∃ xs ys,dz x=some xs/\dz y=some ys/\QI ⟨zipT xs ys,none⟩ M2):Okx EX (iZip f g L M) QI :=
 aF (h.mono fun x M1 z=>aF (z.mono fun y M2 ⟨xs,ys,e1,e2,q⟩=>by simp only [e1,e2]; exact aJ q))
theorem uM {QI:Src->Mm->Prop} (h:Okx EX (f L M) fun x M1=>Okx EX (g L M1) fun y M2=>∃ (xs:List D) (t:Nat) (ns:List Int),dz x=some xs/\y=.ref t/\M2[t]?=some (ns.map D.int)/\QI ⟨zipT xs (ns.map D.int),some (.two t (ns.map D.int))⟩ M2):Okx EX (iZip f g L M) QI :=
 aF (h.mono fun x M1 z=>aF (z.mono fun y M2 ⟨xs,t,ns,e1,e2,e3,q⟩=>by
  subst e2
  have:cz M2 (.ref t)=some (t,ns.map D.int):=by simp only [cz,e3,iH,Option.isSome_some,if_true]
  have e0:dz (.ref t)=none:=rfl
  simp only [e1,e0,this]; exact aJ q))
end
end EV
namespace L2
open PySem PySem.Spec PyProof.Rows
section
variable {prog:Program} {w:World} {A:Around} {E:Value->Shared->Prop} {s:Shared}
theorem aAj {e it src:Addr} {i:Nat} {c:Int} {xs:Array Value} {x old:Value} {Q:Value->Shared->Prop} (he:IsEnum s.heap e it c old) (h1:ZP.It1 s.heap it src i xs) (hx:xs[i]?=some x) (hne:e≠it) (hes:src≠e)
  (hQ:∀ h',IsEnumOut h' e it (c+1) x s.heap.objs.size->ZP.It1 h' it src (i+1) xs->h'.get? s.heap.objs.size=some { cls:=.type "tuple",data:=.seq #[.int c s.toks,x] } ->
   (∀ b o,b≠e->b≠it->s.heap.get? b=some o->h'.get? b=some o)->Q (.ref s.heap.objs.size) { s with heap:=h',toks:=s.toks+1 }) :
  wpAny (model prog w) A (Builtin.«enumerate.__next__» ⟨[.ref e],[]⟩) (fun fin s'=>∃ v,fin=.done (.ret v)/\Q v s') E s:=by
 obtain ⟨hp,g,d,tk,os⟩:=s
 show wpAny _ _ (field (.ref e) 2 >>= _) _ _ _
 refine wpAny_bind (wpAny_field he rfl (x:=.ref it) rfl (wpAny_bind (h1.next hx fun k1 hit1 hs1=>?_)))
 have hs1:Heap.SameBut it hp k1:=hs1
 have he1:IsEnum k1 e it c old:=(hs1.2 e hne).trans he
 show wpAny _ _ (field (.ref e) 3 >>= _) _ _ ⟨k1,g,d,tk,os⟩
 refine wpAny_bind (wpAny_field he1 rfl (x:=rawInt c) rfl ?_)
 show wpAny _ _ (field (.ref e) 4 >>= _) _ _ ⟨k1,g,d,tk,os⟩
 refine wpAny_bind (wpAny_field he1 rfl (x:=.none) rfl ?_)
 show wpAny _ _ (mkInt c >>= _) _ _ ⟨k1,g,d,tk,os⟩
 refine wpAny_bind (wpAny_mkInt ?_)
 show wpAny _ _ (setField (.ref e) 3 (rawInt (c+1)) >>= _) _ _ ⟨k1,g,d,tk+1,os⟩
 refine wpAny_bind (wpAny_setField_rec he1 (by simp) fun k2 he2 hs2=>?_)
 have hs2:Heap.SameBut e k1 k2:=hs2
 have he2:IsEnum k2 e it (c+1) old:=he2
 show wpAny _ _ (setField (.ref e) 4 .none >>= _) _ _ ⟨k2,g,d,tk+1,os⟩
 refine wpAny_bind (wpAny_setField_rec he2 (by simp) fun k3 he3 hs3=>?_)
 have hs3:Heap.SameBut e k2 k3:=hs3
 have he3:IsEnum k3 e it (c+1) old:=he3
 show wpAny _ _ (newTuple [.int c tk,x] >>= _) _ _ ⟨k3,g,d,tk+1,os⟩
 refine wpAny_bind (wpAny_newTuple ?_)
 have hsz:k3.objs.size=hp.objs.size:=by rw [hs3.1,hs2.1,hs1.1]
 have hel:e < hp.objs.size:=Heap.lt_size he
 obtain ⟨k4,hk4⟩:∃ k4,k4=k3.push { cls:=.type "tuple",data:=.seq #[.int c tk,x] }:=⟨_,rfl⟩
 rw [<- hk4]
 have he4:IsEnum k4 e it (c+1) old:=by rw [hk4]; exact Heap.get?_push_of_some _ he3
 have ht4:k4.get? hp.objs.size=some { cls:=.type "tuple",data:=.seq #[.int c tk,x] }:=by rw [hk4,<- hsz]; exact Heap.get?_push_size _ rfl
 have kp4:∀ b o,b≠e->b≠it->hp.get? b=some o->k4.get? b=some o:=fun b o q1 q2 q=>by
  rw [hk4]; exact Heap.get?_push_of_some _ (hs3.extBut b o q1 (hs2.extBut b o q1 (hs1.extBut b o q2 q)))
 have it4:ZP.It1 k4 it src (i+1) xs:=by
  rw [hk4]
  exact hit1.at (fun o q=>Heap.get?_push_of_some _ (hs3.extBut it o hne.symm (hs2.extBut it o hne.symm q))) fun o q=>Heap.get?_push_of_some _ (hs3.extBut src o hes (hs2.extBut src o hes q))
 show wpAny _ _ (Builtin.SmallTypes.ownedTupleIsFree (.ref e) >>= _) _ _ ⟨k4,g,d,tk+1,os⟩
 rw [hsz]
 clear hk4 he3 hs3 he2 hs2 he1 hs1 hit1 hsz
 refine wpAny_bind ?_
 unfold Builtin.SmallTypes.ownedTupleIsFree
 refine wpAny_bind (wpAny_field he4 rfl (x:=.none) rfl (wpAny_pure ?_))
 simp only [if_true]
 refine wpAny_bind (wpAny_rule (wpAny_bind (wpAny_field he4 rfl (x:=old) rfl (wpAny_bind (wpAny_setField_rec he4 (by simp) fun k5 he5 hs5=>?_)))))
 have hs5:Heap.SameBut e k4 k5:=hs5
 have he5:IsEnum k5 e it (c+1) x:=he5
 show wpAny _ _ (Builtin.SmallTypes.ownedTupleHandOut (.ref e) (.ref hp.objs.size) >>= _) _ _ ⟨k5,g,d,tk+1,os⟩
 refine wpAny_bind ?_
 unfold Builtin.SmallTypes.ownedTupleHandOut
 refine wpAny_bind (wpAny_setField_rec he5 (by simp) fun k6 he6 hs6=>?_)
 have hs6:Heap.SameBut e k5 k6:=hs6
 have he6:IsEnumOut k6 e it (c+1) x hp.objs.size:=he6
 refine wpAny_setField_rec he6 (by simp) fun k7 he7 hs7=>?_
 have hs7:Heap.SameBut e k6 k7:=hs7
 have he7:IsEnumOut k7 e it (c+1) x hp.objs.size:=he7
 have up:∀ b o,b≠e->k4.get? b=some o->k7.get? b=some o:=fun b o q1 q=>hs7.extBut b o q1 (hs6.extBut b o q1 (hs5.extBut b o q1 q))
 refine wpAny_bind (wpAny_letGo (wpAny_pure ⟨_,rfl,hQ k7 he7 (it4.at (fun o q=>up it o hne.symm q) fun o q=>up src o hes q) (up _ _ (Nat.ne_of_gt hel) ht4) fun b o q1 q2 q=>up b o q1 (kp4 b o q1 q2 q)⟩))
theorem zM {e it src:Addr} {i:Nat} {c:Int} {xs:Array Value} {old:Value} {Q:Option Value->Shared->Prop} (hh:A.handled=none) (he:IsEnum s.heap e it c old) (h1:ZP.It1 s.heap it src i xs) (hx:xs[i]?=none)
  (hQ:∀ h',Heap.ExtBut it s.heap h'->Q none { s with heap:=h' }):wpAny (model prog w) A (pyNext (.ref e)) Q E s:=by
 have hT:s.TypeIs (.ref e) "enumerate":=⟨_,he,rfl⟩
 unfold pyNext
 refine wpAny_bind (wpAny_attempt (wpAny_callSpecial?_slot (name:=Str.ofString "__next__") hT F.slot_enumerate_next (wpAny_call_entry F.slot_enumerate_next hT F.entry_enumerate_next ?_ (F.args_enumerate_next_1 _))))
 show wpAny _ _ (field (.ref e) 2 >>= _) _ _ _
 refine wpAny_bind (wpAny_field he rfl (x:=.ref it) rfl (wpAny_bind (h1.stop hh hx fun h' x he' hx'=>?_)))
 obtain ⟨o,ho,hc⟩:=hx'
 refine wpAny_bind (wpAny_isInstance (T:="StopIteration") (b:=true) ⟨o,ho,hc⟩ isSubtype_stop (wpAny_pure (hQ _ he')))
end
noncomputable def tne (b:Bool) (e it src:Addr) (c:Int) (i:Nat) (h:Heap):Prop:=(∃ old,IsEnum h e it (c+i) old)/\It0 b h it src i
noncomputable def Ite (b:Bool) (K:PySem.W.Frag) (src:Addr) (c:Int) (xs:List V):It :=
 ⟨fun i H=>SqB b K H src xs/\i < xs.length,fun i H x H'=>∃ T u,H T=none/\x=.ref T/\xs[i]?=some u/\H'=upd H T (.tup [.int (c+i),u]),fun i H=>SqB b K H src xs/\xs.length<=i⟩
theorem jL {P:Program} {w:World} {K:PySem.W.Frag} {elts:List Expr} {x1} {pos:Pos} {b:Bool} {e it src:Addr} (c:Int) (hne:e≠it) (hes:src≠e) (his:src≠it) (xs:List V):Turn P w K (.Tuple elts x1 pos) (Ite b K src c xs) [e,it] e (tne b e it src c) where
 mem:=by simp
 obj:=fun i h st q hb=>by
  simp only [List.mem_cons,List.not_mem_nil,or_false] at hb
  rcases hb with rfl | rfl
  ·obtain ⟨old,he⟩:=st.1; exact ⟨_,he,fun v z=>by cases z⟩
  ·exact st.2.obj
 keep:=fun i h h' st k=>by
  obtain ⟨⟨old,he⟩,h1⟩:=st
  exact ⟨⟨old,k e (by simp) _ he⟩,h1.at fun o q=>k it (by simp) o q⟩
 item:=by
  intro X hP hw hK hc i pins s σ H E I hf st hg
  subst hP hw hK
  obtain ⟨sx,hx⟩:=hg
  obtain ⟨its,r1,y1,z1⟩:=sx.inv I
  obtain ⟨⟨old,he⟩,h1⟩:=st
  have hT:s.TypeIs (.ref e) "enumerate":=⟨_,he,rfl⟩
  obtain ⟨u,hu,ru⟩:=r1.get (List.getElem?_eq_getElem hx)
  have elt:e < s.heap.objs.size:=Heap.lt_size he
  unfold pyNext
  refine wpAny_bind (wpAny_attempt (wpAny_callSpecial?_slot (name:=Str.ofString "__next__") hT F.slot_enumerate_next (wpAny_call_entry F.slot_enumerate_next hT F.entry_enumerate_next
   (aAj he (lF h1 y1) (x:=u) (by simpa using hu) hne hes fun h' he' a1 ht k'=>wpAny_pure ?_) (F.args_enumerate_next_1 _))))
  refine ⟨_,rfl,?_⟩
  have y1':IsB b h' src its.toArray:=y1.at fun o q=>k' src o hes his q
  refine wpAny_letOwnedTupleGo_enum (s:={ s with heap:=h',toks:=s.toks+1 }) he' fun h2 he2 sb=>?_
  have sb:Heap.SameBut e h' h2:=sb
  have kk:∀ q o,q∉[e,it]->s.heap.get? q=some o->h2.get? q=some o:=fun q o hb z=>by
   simp only [List.mem_cons,List.not_mem_nil,or_false,not_or] at hb
   exact sb.extBut q o hb.1 (k' q o hb.1 hb.2 z)
  have hp2:=sb.extBut _ _ (Nat.ne_of_gt elt) ht
  refine ⟨.ref s.heap.objs.size,upd H s.heap.objs.size (.tup [.int (c+i),xs[i]]),I.turnLay (t':=s.toks+1) hf kk (Nat.le_refl _) (show ObjOk X.prog X.w _ h2 _ (.tup [.int (c+i),xs[i]]) from ⟨by show 2<=sizeLine; decide,[.int (c+i) s.toks,u],.cons ⟨_,rfl⟩ (.cons ru .nil),_,hp2,rfl,_,rfl⟩),rfl,⟨_,xs[i],I.hok.fresh (Nat.le_refl _),rfl,List.getElem?_eq_getElem hx,rfl⟩,?_,fun q hb=>?_⟩
  ·refine ⟨⟨_,by rw [show c+((i+1:Nat):Int)=c+i+1 by omega]; exact he2⟩,(oY y1' a1).at fun o q=>sb.extBut it o hne.symm q⟩
  ·rw [aT]
   ·exact (hf q hb).1
   ·rintro rfl
    simp only [List.mem_cons,List.not_mem_nil,or_false] at hb
    rcases hb with q | q
    ·rw [q] at elt; exact absurd elt (Nat.lt_irrefl _)
    ·obtain ⟨o,z,_⟩:=h1.obj
     rw [<- q] at z
     exact absurd (Heap.lt_size z) (Nat.lt_irrefl _)
 done:=by
  intro X hP hw hK hc i pins s σ H E I hf st hg
  subst hP hw hK
  obtain ⟨sx,hend⟩:=hg
  obtain ⟨its,r1,y1,z1⟩:=sx.inv I
  obtain ⟨⟨old,he⟩,h1⟩:=st
  have l1:=r1.length
  refine zM (I.ok.hd hc) he (lF h1 y1) (by simp; omega) fun h' hk=>⟨rfl,I.turnedL (t':=s.toks) hf fun q o hb z=>?_⟩
  simp only [List.mem_cons,List.not_mem_nil,or_false,not_or] at hb
  exact hk q o hb.2 z
 self:=fun A i s Q E st hQ=>by
  obtain ⟨⟨old,he⟩,_⟩:=st
  have hT:s.TypeIs (.ref e) "enumerate":=⟨_,he,rfl⟩
  refine wpAny_pyIter_slot hT F.slot_enumerate_iter (wpAny_call_entry F.slot_enumerate_iter hT F.entry_enumerate_iter ?_ (F.args_enumerate_iter_1 _))
  show wpAny _ _ (ret (.ref e)) _ _ s
  exact wpAny_pure ⟨_,rfl,"enumerate",_,hT,F.slot_enumerate_next.lookup,hQ⟩
end L2
namespace L2
open PySem PySem.Spec PyProof.Rows
open AutoSeq1 (wpAny_loadPart')
noncomputable abbrev eH1 (b:Bool) (h:Heap) (l:Addr):Heap:=h.push { cls:=.type (if b=true then "list_iterator" else "tuple_iterator"),data:=.fields #[.ref l,.int 0 0] }
noncomputable abbrev eH2 (b:Bool) (h:Heap) (l:Addr) (c:Int):Heap:=(eH1 b h l).push { cls:=.type "enumerate",data:=.fields #[.none,.bool false,.ref h.objs.size,rawInt c,.none,.none] }
theorem sU (l:Addr) (items:Array Value) :
  Meets (Builtin.«enumerate.__new__» ⟨[.type "enumerate",.ref l],[]⟩) (fun _ R s=>s.heap.IsTuple l items/\R (.ok (.ret (.ref (eH1 false s.heap l).objs.size))) { s with heap:=eH2 false s.heap l 0 }) :=
 .of_wp fun prog w A R s h=>by
  obtain ⟨hp,g,d,tk,os⟩:=s; obtain ⟨hl,h⟩:=h
  have hsub:=sub_enumerate
  have hL:Heap.IsTuple (Shared.heap ⟨hp,g,d,tk,os⟩) l items:=hl
  wp_walk
  refine wpAny_stack_any fun st=>wpAny_pure ?_
  split
  ·rename_i c _ _ _ _ _
   cases (c==Value.type "enumerate") <;> (wp_walk using wpAny_pyIter_tuple hL; exact ⟨_,rfl,h⟩)
  ·wp_walk using wpAny_pyIter_tuple hL
   exact ⟨_,rfl,h⟩
section
variable {prog:Program} {w:World} {A:Around} {E:Value->Shared->Prop} {s:Shared}
theorem tN (b:Bool) (h:Heap) (l:Addr) (c:Int):(eH1 b h l).objs.size=h.objs.size+1/\IsEnum (eH2 b h l c) (h.objs.size+1) h.objs.size c .none/\It0 b (eH2 b h l c) h.objs.size l 0/\∀ q o,h.get? q=some o->(eH2 b h l c).get? q=some o:=by
 have z1:(eH1 b h l).objs.size=h.objs.size+1:=Heap.size_push ..
 refine ⟨z1,?_,?_,fun q o x=>Heap.get?_push_of_some _ (Heap.get?_push_of_some _ x)⟩
 ·have:=Heap.get?_push_size (eH1 b h l) (o:={ cls:=.type "enumerate",data:=.fields #[.none,.bool false,.ref h.objs.size,rawInt c,.none,.none] }) rfl
  rw [z1] at this; exact this
 ·cases b
  ·exact ⟨_,Heap.get?_push_of_some _ (Heap.get?_push_size _ rfl),rfl,rfl⟩
  ·exact ⟨_,Heap.get?_push_of_some _ (Heap.get?_push_size _ rfl),rfl,rfl⟩
theorem aAi {b:Bool} {l:Addr} {items:Array Value} {Q:Value->Shared->Prop} (hl:IsB b s.heap l items)
  (h:∀ h',IsEnum h' (s.heap.objs.size+1) s.heap.objs.size 0 .none->It0 b h' s.heap.objs.size l 0->(∀ q o,s.heap.get? q=some o->h'.get? q=some o)->Q (.ref (s.heap.objs.size+1)) { s with heap:=h' }) :
  wpAny (model prog w) A (call (.type "enumerate") [.ref l]) Q E s:=by
 cases b with
 | true=>exact call_enumerate_list (show s.heap.IsList l items from hl) fun h' a1 a2 _ k=>h h' a1 a2 k
 | false =>
  obtain ⟨z1,f1,f2,f3⟩:=tN false s.heap l 0
  refine callType_new F.called_enumerate (by decide) (F.typeCall_enumerate_1 _) (F.newCall_enumerate_1 _) (fun obj=>F.args_object_init_2 obj _) F.entry_enumerate_new (sU l items) ⟨hl,?_⟩
  show _/\_
  rw [z1]
  exact ⟨⟨_,f1,rfl⟩,h _ f1 f2 f3⟩
end
theorem aFy {X:Cx} {elts:List Expr} {x1} {tpos:Pos} {a:Expr} {ta:TE} {p pos:Pos} (hg:Gl X "enumerate") (hm:X.mg "enumerate"=none) (ha:PE X a ta) (hs:starEach [a] X.env=[(false,eval a X.env)]) :
  PI X (.Tuple elts x1 tpos) (.Call (.Name "enumerate" p) [a] [] pos) (fun σ H R=>ta σ H fun x H1=>∃ l b xs,x=.ref l/\SqB b X.K H1 l xs/\R (Ite b X.K l 0 xs) H1):=by
 intro pins s σ H R I h
 refine Call_ (iU I hg hm kO (PyProof.Rows.callWith_type1 (thn (cZ ha fK hs pos pins s σ H (fun vs H2=>match vs with | [x]=>∃ l b xs,x=.ref l/\SqB b X.K H2 l xs/\R (Ite b X.K l 0 xs) H2 | _=>False) I h) fun us s1 ⟨vs,H1,I1,r1,hr⟩=>?_) hs rfl))
 match vs,r1,hr with
 | [],_,hr=>exact hr.elim
 | _::_::_,_,hr=>exact hr.elim
 | [x],r1,hr =>
 obtain ⟨l,b,xs,rfl,sx,hq⟩:=hr
 obtain ⟨u,rfl,rx⟩:=vals1 r1
 cases rx
 obtain ⟨its,q1,p1,z1⟩:=sx.inv I1
 have hl:l < s1.heap.objs.size:=p1.lt
 refine aAi p1 fun h' a1 a2 k=>?_
 have hne:s1.heap.objs.size+1≠s1.heap.objs.size:=Nat.succ_ne_self _
 have hes:l≠s1.heap.objs.size+1:=Nat.ne_of_lt (Nat.lt_succ_of_lt hl)
 have his:l≠s1.heap.objs.size:=Nat.ne_of_lt hl
 have tz:tne b (s1.heap.objs.size+1) s1.heap.objs.size l 0 0 h':=⟨⟨_,by simpa using a1⟩,a2⟩
 refine (jL (P:=X.prog) (w:=X.w) (K:=X.K) (elts:=elts) (x1:=x1) (pos:=tpos) 0 hne hes his xs).self _ 0 _ _ _ tz ?_
 refine ⟨s1.heap.objs.size+1,_,_,_,H1,rfl,I1.kept (t':=s1.toks) fun q o e=>k q o e,jL 0 hne hes his xs,tz,fun q hb=>?_,hq⟩
 refine I1.fpOk ?_ (I1.hok.fresh ?_) <;>
 ·simp only [List.mem_cons,List.not_mem_nil,or_false] at hb
  rcases hb with rfl | rfl <;> (show (_:Nat)<=(_:Nat); omega)
end L2
namespace EV
open PySem PySem.Spec PyProof.Rows L2
variable {EX:D->Mm->Prop}
section
variable {X:Cx} {K:PySem.W.Frag} {Z:Zt} {μ:List Addr} {H:Hp} {M:Mm} {a b:Expr} {pos:Pos} {f g:FE} {tg:Expr}
noncomputable def enumT (c:Int) (xs:List D):List D:=xs.mapIdx fun i d=>.tup [.int (c+i),d]
theorem gD {c:Int} {xs:List D} {i:Nat} {d:D} (h:(enumT c xs)[i]?=some d):∃ x,xs[i]?=some x/\d=.tup [.int (c+i),x]:=by
 unfold enumT at h
 rw [List.getElem?_mapIdx,Option.map_eq_some_iff] at h
 obtain ⟨x,h1,rfl⟩:=h
 exact ⟨x,h1,rfl⟩
theorem cM {c:Int} {xs:List D}:(enumT c xs).length=xs.length:=by simp [enumT]
theorem aFp {w:W} {v:V} {xs:List D} {c:Int} (r:Rw K μ H w v) (q:dz w=some xs):∃ l b vs,v=.ref l/\SqB b K H l vs/\ItOk K μ H ⟨enumT c xs,none⟩ (Ite b K l c vs):=by
 obtain ⟨b1,l1,vs1,S1,rfl,s1,x1,d1⟩:=rH r q
 refine ⟨l1,b1,vs1,rfl,(d1 _ _ s1).1,S1,s1,x1,fun μ3 H3 M3 i hr3 hS hc=>?_⟩
 obtain ⟨c1,r1⟩:=d1 _ _ hS
 refine ⟨fun d hd=>?_,fun hl=>?_⟩
 ·obtain ⟨x,hx,rfl⟩:=gD hd
  obtain ⟨u,hu,ru⟩:=r1.get hx
  refine ⟨⟨c1,(List.getElem?_eq_some_iff.mp hu).1⟩,fun x' H4 hy4=>?_⟩
  obtain ⟨T,u',hT,rfl,hu',rfl⟩:=hy4
  rw [hu] at hu'; cases hu'
  exact kU hr3 hT (by simp [Rp]) ru
 ·refine ⟨c1,?_⟩
  simp only [cM] at hl
  rw [<- r1.length]
  exact hl
noncomputable def iEnum (f:FE):FI:=fun L M=>(f L M).bind fun x M1=>match dz x with
 | some xs=>.ok ⟨enumT 0 xs,none⟩ M1
 | _=>.bad
theorem xX {elts:List Expr} {x1} {tpos p:Pos} (hm:X.mg "enumerate"=none) (ha:Ev X K Z a f) (hg:Gl X "enumerate":=by rfl) (hs:starEach [a] X.env=[(false,eval a X.env)]:=by rfl):Ei X K Z (.Tuple elts x1 tpos) (.Call (.Name "enumerate" p) [a] [] pos) (iEnum f):=by
 have h':=aFy (elts:=elts) (x1:=x1) (tpos:=tpos) (p:=p) (pos:=pos) hg hm ha.h hs
 rw [ha.k] at h'
 refine ⟨ha.k,cqI h' ?_⟩
 rintro σ H R ⟨μ,M,L,hr,lr,p⟩
 refine ⟨μ,M,L,hr,lr,p.bind.imp fun μ1 H1 M1 w e1 hr1 _ p1 v rw'=>?_⟩
 cases q1:dz w with
 | none=>simp only [q1] at p1; exact p1.elim
 | some xs =>
  simp only [q1] at p1
  obtain ⟨l,b,vs,rfl,h1,h2⟩:=aFp (c:=0) rw' q1
  exact ⟨l,b,vs,rfl,h1,p1 μ1 H1 .refl hr1 _ h2⟩
end
section
variable {L:Lc} {M:Mm} {f g:FE}
theorem tQ {QI:Src->Mm->Prop} (h:Okx EX (f L M) fun x M1=>∃ xs,dz x=some xs/\QI ⟨enumT 0 xs,none⟩ M1):Okx EX (iEnum f L M) QI :=
 aF (h.mono fun x M1 ⟨xs,e1,q⟩=>by simp only [e1]; exact aJ q)
end
end EV
namespace L2
open PySem PySem.Spec PyProof.Rows
open AutoSeq1 (wpAny_loadPart')
section
variable {X:Cx}
end
end L2
namespace EV
open PySem PySem.Spec PyProof.Rows L2
variable {EX:D->Mm->Prop}
section
variable {X:Cx} {K:PySem.W.Frag} {Z:Zt} {μ:List Addr} {H:Hp} {M:Mm} {a b c o e i:Expr} {es:List Expr} {pos:Pos} {fs:FA} {f fa fb fc fo fe fi:FE} {tg:Expr}
noncomputable def pLtA (x y:W) (M:Mm):Oc W:=match x,y with
 | .d (.tup xs),.d (.tup ys)=>match intsOf xs,intsOf ys with
  | some ns,some ms=>okD (.bl (HT.lexLt ns ms)) M
  | _,_=>.bad
 | x,y=>pLt x y M
noncomputable def ePick (fs:FA) (fi:FE):FE:=fun L M=>(fs L M).bind fun ws M1=>if ws.length<=1000 then (fi L M1).bind fun i M2=>match i with
  | .d (.int j)=>match atI ws j with
   | some w=>.ok w M2
   | none=>.bad
  | _=>.bad
 else .bad
noncomputable def forW (g:FG) (B:FS):List W->FS
 | []=>fun L M=>.ok (.nx L) M
 | w::r=>fun L M=>(g w L M).bind fun L1 M1=>(B L1 M1).bind fun o M2=>match o with
   | .nx L2=>forW g B r L2 M2
   | .ct L2=>forW g B r L2 M2
   | .bk L2=>.ok (.nx L2) M2
   | .rt w=>.ok (.rt w) M2
noncomputable def sForW (fs:FA) (g:FG) (B:FS):FS:=fun L M=>(fs L M).bind fun ws M1=>if ws.length<=1000 then forW g B ws L M1 else .bad
end
section
variable {L:Lc} {M:Mm} {f:FE} {fs:FA} {fi:FE} {x y:W} {Q:W->Mm->Prop} {QS:Out->Mm->Prop}
theorem aGc (h:Okx EX (fs L M) fun ws M1=>ws.length<=1000/\Okx EX (fi L M1) fun i M2=>∃ j w,i=.d (.int j)/\atI ws j=some w/\Q w M2):Okx EX (ePick fs fi L M) Q:=by
 refine aF (h.mono fun ws M1 ⟨hz,h⟩=>?_)
 rw [if_pos hz]
 refine aF (h.mono fun i M2 ⟨j,w,e1,e2,q⟩=>?_)
 subst e1
 simp only [e2]
 exact aJ q
theorem aLg {i j:Int} (q:Q (.d (.bl (decide (i < j)))) M):Okx EX (pLtA (.d (.int i)) (.d (.int j)) M) Q:=aJ q
theorem aHd {g:FG} {B:FS} (h:Okx EX (fs L M) fun ws M1=>ws.length<=1000/\Okx EX (forW g B ws L M1) QS):Okx EX (sForW fs g B L M) QS:=aF (h.mono fun ws M1 ⟨hz,h⟩=>by rw [if_pos hz]; exact h)
end
end EV
namespace L2
open PySem PySem.Spec PyProof.Rows
section
variable {prog:Program} {w:World} {A:Around} {E:Value->Shared->Prop} {s:Shared}
theorem qK {it t:Addr} {items:Array Value} (hne:t≠it):∀ (n i:Nat) (s:Shared) (Q:List Value->Shared->Prop),s.heap.IsListIter it t i->s.heap.IsList t items->i+n<=items.size ->
  (∀ h',h'.IsListIter it t (i+n)->Heap.SameBut it s.heap h'->Q ((items.toList.drop i).take n) { s with heap:=h' })->wpAny (model prog w) A (draw (.ref it) n) Q E s
 | 0,i,s,Q,hit,_,_,hQ=>by
  show wpAny _ _ (pure []) Q E s
  exact wpAny_pure (by simpa using hQ s.heap hit (Heap.SameBut.refl ..))
 | n+1,i,s,Q,hit,ht,hle,hQ=>by
  have hlt:i < items.size:=by omega
  show wpAny _ _ (pyNext (.ref it) >>= _) Q E s
  refine wpAny_bind (wpAny_pyNext_list_item hit ht (x:=items[i]) (by simp [hlt]) fun h₁ hit₁ hs₁=>?_)
  have ht₁:h₁.IsList t items:=by obtain ⟨o,ho,r⟩:=ht; exact ⟨o,hs₁.extBut t o hne ho,r⟩
  refine wpAny_bind (wpAny_holding (qK hne n (i+1) _ _ hit₁ ht₁ (by omega) fun h₂ hit₂ hs₂=>wpAny_pure ?_))
  have hd:items.toList.drop i=items[i]::items.toList.drop (i+1):=by simp [List.drop_eq_getElem_cons,hlt]
  have:=hQ h₂ (by rw [show i+(n+1)=i+1+n by omega]; exact hit₂) (hs₁.trans hs₂)
  rw [hd,List.take_succ_cons] at this
  exact this
theorem lK {t:Addr} {items:Array Value} {Q:List Value->Shared->Prop} (hh:A.handled=none) (ht:s.heap.IsList t items)
  (hQ:∀ h',Heap.ExtBut s.heap.objs.size s.heap h'->Q items.toList { s with heap:=h' }):wpAny (model prog w) A (unpackItems (.ref t) items.size none) Q E s:=by
 have hlt:t≠s.heap.objs.size:=by obtain ⟨o,ho,_⟩:=ht; exact Nat.ne_of_lt (Heap.lt_size ho)
 unfold unpackItems
 refine wpAny_bind ?_
 ·unfold notIterableAtAll
  refine wpAny_bind (wpAny_specialOf ht.typeIs slot_list_iter.lookup ?_)
  refine wpAny_pure ?_
  simp only [Bool.false_eq_true,if_false]
  refine wpAny_bind (wpAny_holding (wpAny_pyIter_list ht ?_))
  have hp:(s.heap.push { cls:=.type "list_iterator",data:=.fields #[.ref t,.int 0 0] }).IsList t items:=by obtain ⟨o,ho,r⟩:=ht; exact ⟨o,Heap.get?_push_of_some _ ho,r⟩
  refine wpAny_bind (wpAny_holding (qK hlt items.size 0 _ _ ⟨_,Heap.get?_push_size _ rfl,rfl,rfl⟩ hp (by omega) fun h₁ hit₁ hs₁=>?_))
  have hall:List.take items.size (List.drop 0 items.toList)=items.toList:=by
   rw [List.drop_zero]; exact List.take_of_length_le (by simp)
  rw [hall]
  rw [if_neg (by simp)]
  have ht₁:h₁.IsList t items:=by obtain ⟨o,ho,r⟩:=hp; exact ⟨o,hs₁.extBut t o hlt ho,r⟩
  refine wpAny_bind (wpAny_holding (wpAny_pyNext_list_end hh hit₁ ht₁ (by simp) fun h₂ he₂=>?_))
  simp only [Option.isSome_none,Bool.false_eq_true,if_false]
  refine wpAny_pure (hQ h₂ fun b o hb e=>he₂ b o hb (hs₁.extBut b o hb (Heap.get?_push_of_some _ e)))
theorem kX {env:Env} {elts:List Expr} {x1} {pos:Pos} {t:Addr} {items:Array Value} {Q:Unit->Shared->Prop} (hh:A.handled=none) (ht:s.heap.IsList t items)
  (hn:(assignEach elts env).length=items.size) (hstar:(assignEach elts env).findIdx? (·.1)=none)
  (h:∀ h',Heap.ExtBut s.heap.objs.size s.heap h'->wpAny (model prog w) A (assignInOrder ((assignEach elts env).map (·.2)) items.toList) Q E { s with heap:=h' }) :
  wpAny (model prog w) A (assign (.Tuple elts x1 pos) env (.ref t)) Q E s:=by
 rw [assign_Tuple]
 refine wpAny_bind (wpAny_standAt ?_)
 unfold unpack
 rw [hn,hstar]
 exact wpAny_bind (wpAny_holding (lK hh ht h))
end
section
variable {X:Cx} {pos:Pos}
noncomputable def gTupL (K:PySem.W.Frag) (n:Nat) (t:TGs):TG:=fun v σ H Q=>∃ a xs,v=.ref a/\SqL K H a xs/\xs.length=n/\t xs σ H Q
theorem aGh {es:List Expr} {k:Nat} {t:TGs} {n:Nat} (hc:X.calm=true) (h:PGs X es t)
  (hn:(assignEach es X.env).length=n:=by rfl) (hst:(assignEach es X.env).findIdx? (·.1)=none:=by rfl):PG X (.Tuple es k pos) (gTupL X.K n t):=by
 intro pins s σ H v u Q I r hw
 obtain ⟨a,xs,e1,hq,hl,hw⟩:=hw
 subst e1
 cases r
 obtain ⟨its,rv,pl,hz⟩:=I.list hq
 have ht:s.heap.IsList a its.toArray:=pl.isList
 refine kX (I.ok.hd hc) ht (by simp [hn,<- hl,rv.length]) hst fun h' hx=>?_
 have I1:Inv X pins σ H { s with heap:=h' }:=I.kept (t':=s.toks) fun b o e=>hx b o (Nat.ne_of_lt (Heap.lt_size e)) e
 exact h pins _ σ H xs _ Q I1 (by simpa using rv) hw
end
end L2
namespace EV
open PySem PySem.Spec PyProof.Rows L2
variable {EX:D->Mm->Prop}
section
variable {X:Cx} {K:PySem.W.Frag} {Z:Zt} {es:List Expr} {pos:Pos}
noncomputable def gTL (n:Nat) (gs:FGs):FG:=fun w L M=>match w with
 | .d (.lst xs)=>if xs.length=n then gs xs L M else .bad
 | _=>.bad
theorem aFu {k n:Nat} {gs:FGs} (hc:X.calm=true) (h:Egs X K Z es gs) (hn:(assignEach es X.env).length=n:=by rfl) (hst:(assignEach es X.env).findIdx? (·.1)=none:=by rfl):Eg X K Z (.Tuple es k pos) (gTL n gs):=by
 have h':=aGh (k:=k) (pos:=pos) hc h.h hn hst
 rw [h.k] at h'
 refine ⟨h.k,cqG h' fun v σ H Q ⟨μ,M,L,w,hr,lr,rx,p⟩=>?_⟩
 cases w with
 | ref i=>exact p.elim
 | d x=>cases x with
  | lst xs =>
   simp only [gTL] at p
   split at p
   ·simp only [Rw,Rp] at rx
    obtain ⟨a,vs,e1,q1,_,r1⟩:=rx
    exact ⟨a,vs,e1,SqL.of q1,by rw [<- r1.length]; assumption,μ,M,L,xs,hr,lr,r1,p⟩
   ·exact p.elim
  | _=>exact p.elim
end
section
variable {L:Lc} {M:Mm} {QG:Lc->Mm->Prop}
theorem aEf {n:Nat} {gs:FGs} {xs:List D} (hn:xs.length=n) (h:Okx EX (gs xs L M) QG):Okx EX (gTL n gs (.d (.lst xs)) L M) QG:=by unfold gTL; simp only; rw [if_pos hn]; exact h
end
end EV
namespace L2
open PySem PySem.Spec PyProof.Rows
end L2
namespace EV
open PySem PySem.Spec PyProof.Rows L2
variable {EX:D->Mm->Prop}
section
variable {X:Cx} {K:PySem.W.Frag} {Z:Zt}
noncomputable def pMulR (x y:W) (M:Mm):Oc W:=match y with
 | .d (.int k)=>match lv M x with
  | some xs=>if xs.length*k.toNat<=16777216/\k < 9223372036854775808 /\ -9223372036854775808<=k then .ok (.ref M.length) (M++[(List.replicate k.toNat xs).flatten]) else .bad
  | none=>.bad
 | _=>.bad
theorem opMulR:OpG X K Z (binaryOp .Mult) pMulR:=fun hk=>⟨_,aEj,by
 intro μ H M x y v u Q hr rx ry p
 cases y with
 | ref j=>exact p.elim
 | d y=>cases y with
  | int k =>
   have ry':u=.int k:=by simpa only [Rw,Rp] using ry
   subst ry'
   simp only [pMulR] at p
   cases q1:lv M x with
   | none=>rw [q1] at p; exact p.elim
   | some xs =>
    rw [q1] at p
    simp only at p
    split at p
    ·rename_i hz
     obtain ⟨a,vs,rfl,h1,r1⟩:=mC hr rx q1
     exact ⟨a,k,vs,rfl,rfl,h1,hz.2.2,hz.2.1,by rw [<- r1.length,sizeLine_eq]; exact hz.1,mY hr (r1.rep k.toNat) p⟩
    ·exact p.elim
  | _=>exact p.elim⟩
end
section
variable {L:Lc} {M:Mm} {x:W} {Q:W->Mm->Prop}
theorem xJ {xs:List D} {k:Int} (h:lv M x=some xs) (hz:xs.length*k.toNat<=16777216/\k < 9223372036854775808 /\ -9223372036854775808<=k) (q:Q (.ref M.length) (M++[(List.replicate k.toNat xs).flatten])):Okx EX (pMulR x (.d (.int k)) M) Q:=by
 unfold pMulR; simp only [h]; rw [if_pos hz]; exact aJ q
end
end EV
namespace EV
open PySem PySem.Spec PyProof.Rows L2
variable {EX:D->Mm->Prop}
section
variable {X:Cx} {K:PySem.W.Frag} {Z:Zt} {μ:List Addr} {H:Hp} {M:Mm} {a tg:Expr} {pos pos2:Pos} {f:FE}
noncomputable def downD (n:Nat):List D:=(List.range n).map fun i=>D.int ((n:Int) - 1 - (i:Nat))
noncomputable def iDown (f:FE):FI:=fun L M=>(f L M).bind fun w M1=>match w with
 | .d (.int j)=>if 0<=j/\j < 4611686018427387904 then .ok ⟨downD j.toNat,none⟩ M1 else .bad
 | _=>.bad
end
section
variable {L:Lc} {M:Mm} {f:FE}
theorem aEc {QI:Src->Mm->Prop} (h:Okx EX (f L M) fun x M1=>∃ j:Int,x=.d (.int j)/\0<=j/\j < 4611686018427387904/\QI ⟨downD j.toNat,none⟩ M1):Okx EX (iDown f L M) QI :=
 aF (h.mono fun x M1 ⟨j,e,h0,h1,q⟩=>by subst e; simp only; rw [if_pos ⟨h0,h1⟩]; exact aJ q)
end
end EV
namespace EV
open PySem PySem.Spec PyProof.Rows L2
variable {EX:D->Mm->Prop}
section
variable {X:Cx} {K:PySem.W.Frag} {Z:Zt} {pos:Pos} {F:FS}
noncomputable def eTrim (f:FE):FE:=fun L M=>(f L M).bind fun w M'=>match w with
 | .d x=>.ok (.d x) (M'.take M.length)
 | _=>.bad
theorem aFq {e:Expr} {f:FE} (h:Ev X K Z e f):Ev X K Z e (eTrim f):=by
 refine ⟨h.k,cqE h.h ?_⟩
 rintro σ H Q ⟨μ,M,L,hr,lr,p⟩
 refine ⟨μ,M,L,hr,lr,p.bind.imp fun μ' H' M' w e hr' eq p1 v rv=>?_⟩
 cases w with
 | ref i=>exact p1.elim
 | d x =>
  have hsub:∀ a,a∈μ->a∈μ':=fun a ha=>by rw [<- e.take] at ha; exact List.mem_of_mem_take ha
  have q1:=hr'.back e
  unfold eTrim at p
  rw [eq] at p
  exact p μ H' e.back (by rw [<- hr.len]; exact q1) v (Rp.sub hsub x v rv)
end
section
variable {L:Lc} {M:Mm} {f:FE} {Q:W->Mm->Prop}
theorem yH (h:Okx EX (f L M) fun w M'=>∃ x,w=.d x/\Q (.d x) (M'.take M.length)):Okx EX (eTrim f L M) Q :=
 aF (h.mono fun w M' ⟨x,e,q⟩=>by subst e; exact aJ q)
end
end EV
namespace EV
open PySem PySem.Spec PyProof.Rows L2
noncomputable def ZR (K:PySem.W.Frag) (R:Addr->Hp->Prop):Zt:=⟨fun x M μ H=>∀ μ' H',Ext μ H μ' H'->HR K μ' H' M->∀ a,Rp K μ' H' x (.ref a)->R a H',fun e h μ' H' e' hr a ra=>h μ' H' (e.trans e') hr a ra⟩
noncomputable abbrev wishR (E:XK):Addr->Hp->Prop:=fun a H'=>E (.ref a) none H'
section
variable {X:Cx} {K:PySem.W.Frag} {Z:Zt} {R:Addr->Hp->Prop} {μ:List Addr} {H:Hp} {M:Mm} {e a b:Expr} {es:List Expr} {pos:Pos} {f fa fb fc:FE} {fs:FA} {st:Stmt} {rest:List Stmt} {F G:FS}
theorem Pst.never {α:Type} {o:Oc α} {Q:List Addr->Hp->Mm->α->Prop} (h:Pst K Z0 μ H o Q):Pst K Z μ H o Q:=by
 cases o with
 | ok a M=>exact h
 | ex x M=>exact h.elim
 | bad=>exact h
structure FunG (K:PySem.W.Frag) (x qual:Str) (st:Stmt) (f:Addr) (fd:FuncData):Prop where
 ex:∃ (oc:Value) (od:Option Addr) (dV kV doc pm:Value) (an:Option Addr) (cdv ct:Value) (osl:Array (Option Value)),
  fd=PySem.W.fnOf x qual (defArgs st) (defBody st) (defScope st) dV kV doc pm an cdv ct/\K.lookup f=some ⟨oc,od,.func fd,osl⟩/\PySem.W.codeIn K cdv qual=true
theorem _root_.L2.Fun.g {x qual:Str} {st:Stmt} {f:Addr} {fd:FuncData} (F:Fun K x qual st f fd):FunG K x qual st f fd:=by
 obtain ⟨oc,od,kV,doc,pm,an,cdv,ct,osl,h⟩:=F.ex
 exact ⟨oc,od,_,kV,doc,pm,an,cdv,ct,osl,h⟩
structure FunD (K:PySem.W.Frag) (x qual:Str) (st:Stmt) (f:Addr) (fd:FuncData) (d:Value):Prop where
 ex:∃ (T:Addr) (oc:Value) (od:Option Addr) (kV doc pm:Value) (an:Option Addr) (cdv ct:Value) (osl:Array (Option Value)),
  fd=PySem.W.fnOf x qual (defArgs st) (defBody st) (defScope st) (.ref T) kV doc pm an cdv ct/\K.lookup f=some ⟨oc,od,.func fd,osl⟩/\PySem.W.codeIn K cdv qual=true/\∃ c dd n sl,K.lookup T=some ⟨c,dd,.seq #[d] n,sl⟩
theorem FunD.g {x qual:Str} {st:Stmt} {f:Addr} {fd:FuncData} {d:Value} (F:FunD K x qual st f fd d):FunG K x qual st f fd:=by
 obtain ⟨T,oc,od,kV,doc,pm,an,cdv,ct,osl,h1,h2,h3,_⟩:=F.ex
 exact ⟨oc,od,_,kV,doc,pm,an,cdv,ct,osl,h1,h2,h3⟩
theorem FunD.binds {x qual:Str} {st:Stmt} {f:Addr} {fd:FuncData} {ps:List Str} {d:Value} (F:FunD K x qual st f fd d)
  (h:∀ (T:Addr) (kV doc pm:Value) (an:Option Addr) (cdv ct:Value) (us:List Value),us.length=ps.length->∃ k,bindArgs (PySem.W.fnOf x qual (defArgs st) (defBody st) (defScope st) (.ref T) kV doc pm an cdv ct) ⟨us,[]⟩=seqItems? (.ref T) >>= k/\k (some #[d])=pure (ps.zip us)):Binds K fd ps []:=by
 obtain ⟨T,oc,od,kV,doc,pm,an,cdv,ct,osl,rfl,h2,h3,c,dd,n,sl,hT⟩:=F.ex
 intro s us X hl
 rw [List.append_nil] at hl ⊢
 obtain ⟨k,h1,h2⟩:=h T kV doc pm an cdv ct us hl
 exact PySem.W.binds_K X rfl hT rfl h1 h2
theorem FunD.binds1 {x qual:Str} {st:Stmt} {f:Addr} {fd:FuncData} {ps:List Str} {d:Value} (F:FunD K x qual st f fd d)
  (h:∀ (T:Addr) (kV doc pm:Value) (an:Option Addr) (cdv ct:Value) (us:List Value),(us++[d]).length=ps.length->∃ k,bindArgs (PySem.W.fnOf x qual (defArgs st) (defBody st) (defScope st) (.ref T) kV doc pm an cdv ct) ⟨us,[]⟩=seqItems? (.ref T) >>= k/\k (some #[d])=pure (ps.zip (us++[d]))):Binds K fd ps [d]:=by
 obtain ⟨T,oc,od,kV,doc,pm,an,cdv,ct,osl,rfl,h2,h3,c,dd,n,sl,hT⟩:=F.ex
 intro s us X hl
 obtain ⟨k,h1,h2⟩:=h T kV doc pm an cdv ct us hl
 exact PySem.W.binds_K X rfl hT rfl h1 h2
theorem qN {x qual:Str} {st:Stmt} {f T:Addr} {oc:Value} {od an:Option Addr} {osl:Array (Option Value)} {kV doc pm cdv ct d c:Value} {dd:Option Addr} {n:Nat} {sl:Array (Option Value)} (l:K.lookup f=some ⟨oc,od,.func (PySem.W.fnOf x qual (defArgs st) (defBody st) (defScope st) (.ref T) kV doc pm an cdv ct),osl⟩)
  (h:PySem.W.codeIn K cdv qual=true) (t:K.lookup T=some ⟨c,dd,.seq #[d] n,sl⟩):FunD K x qual st f (PySem.W.fnOf x qual (defArgs st) (defBody st) (defScope st) (.ref T) kV doc pm an cdv ct) d:=⟨T,oc,od,kV,doc,pm,an,cdv,ct,osl,rfl,l,h,c,dd,n,sl,t⟩
noncomputable abbrev EofR (R:Addr->Hp->Prop):XK:=fun v _ H'=>∃ a,v=.ref a/\R a H'
theorem ZR.to (h:∀ a H,R a H->wishR (EofR R) a H:=fun a H h=>⟨a,rfl,h⟩) {α:Type} {o:Oc α} {Q:List Addr->Hp->Mm->α->Prop} (p:Pst K (ZR K R) μ H o Q):Pst K (ZR K (wishR (EofR R))) μ H o Q:=by
 cases o with
 | ok a M=>exact p
 | ex x M=>exact fun μ' H' e hr a ra=>h a H' (p μ' H' e hr a ra)
 | bad=>exact p
noncomputable def aDef (fs:FA) (ds:List D):FA:=fun L M=>(fs L M).bind fun ws M1=>.ok (ws++ds.map W.d) M1
theorem Rws.append:∀ {ws us:List W} {vs zs:List V},Rws K μ H ws vs->Rws K μ H us zs->Rws K μ H (ws++us) (vs++zs)
 | [],_,_,_,h,t=>by cases h; exact t
 | _::_,_,_,_,⟨v,r,e1,e2,e3⟩,t=>by subst e1; exact ⟨v,_,rfl,e2,Rws.append e3 t⟩
noncomputable def nx (Fm:Fn):Fn:=fun ws M=>match Fm ws M with
 | .ok w M'=>.ok w M'
 | _=>.bad
noncomputable def sRaise (c f:Str) (fe:FE):FS:=fun L M=>(fe L M).bind fun w M1=>match w with
 | .d d=>.ex (.exn c f [d]) M1
 | _=>.bad
end
end EV
namespace EV
open PySem PySem.Spec PyProof.Rows L2
noncomputable def noX {α:Type} (f:Lc->Mm->Oc α):Lc->Mm->Oc α:=fun L M=>match f L M with
 | .ok a M1=>.ok a M1
 | _=>.bad
theorem Pst.noX {α:Type} {K:PySem.W.Frag} {Z:Zt} {μ:List Addr} {H:Hp} {f:Lc->Mm->Oc α} {L:Lc} {M:Mm} {Q:List Addr->Hp->Mm->α->Prop} (p:Pst K Z μ H (noX f L M) Q):Pst K Z0 μ H (f L M) Q:=by
 unfold EV.noX at p
 cases q:f L M with
 | ok a M'=>rw [q] at p; exact p
 | ex x M'=>rw [q] at p; exact p.elim
 | bad=>rw [q] at p; exact p
noncomputable def liftX (K:PySem.W.Frag) (f:FE) (σ:L2.St) (H:Hp) (Q:VK) (R:Addr->Hp->Prop):Prop:=∃ μ M L,HR K μ H M/\LR K μ H L σ/\Pst K (ZR K R) μ H (f L M) (Wk K Q)
noncomputable def liftB (K:PySem.W.Frag) (F:FS) (D:Ends) (R:Addr->Hp->Prop) (σ:L2.St) (H:Hp):Prop:=∃ μ M L,HR K μ H M/\LR K μ H L σ/\Pst K (ZR K R) μ H (F L M) (Sk K D)
structure Exx (X:Cx) (K:PySem.W.Frag) (e:Expr) (f:FE):Prop where
 k:X.K=K
 h:PEx X e (liftX K f)
structure Tb (X:Cx) (K:PySem.W.Frag) (b:List Stmt) (F:FS):Prop where
 k:X.K=K
 h:PBx X b (liftB K F)
section
variable {X:Cx} {K:PySem.W.Frag} {Z:Zt} {R:Addr->Hp->Prop} {μ:List Addr} {H:Hp} {M:Mm} {e a b:Expr} {es:List Expr} {pos:Pos} {f fa fb fc:FE} {fs:FA} {st:Stmt} {rest:List Stmt} {F G:FS}
end
end EV
namespace EV
open PySem PySem.Spec PyProof.Rows L2
noncomputable def mt (cn c:Str):Bool:=c==cn || cn=="LentError" || cn=="ValueError"
section
variable {K:PySem.W.Frag}
end
structure Ecs (X:Cx) (K:PySem.W.Frag) (es:List Expr) (cns:List Str):Prop where
 k:X.K=K
 h:∃ ys cvs,PA X es (fun _ H Q=>Q ys H)/\ys.map clV=cvs.map some/\ys.length<=es.length/\∀ c C LE,Xc K c C LE->PySem.W.kitAny K (.ref C) cvs=some (cns.any fun n=>mt n c)
section
variable {X:Cx} {K:PySem.W.Frag} {Z:Zt} {R:Addr->Hp->Prop} {μ:List Addr} {H:Hp} {M:Mm} {e a b:Expr} {es:List Expr} {pos:Pos} {f fa fb fc:FE} {fs:FA} {st:Stmt} {rest:List Stmt} {F G:FS}
noncomputable def pIsX (cns:List Str) (w:W) (M:Mm):Oc W:=match w with
 | .d (.exn c _ _)=>.ok (.d (.bl (cns.any fun n=>mt n c))) M
 | _=>.bad
noncomputable def pFld (ff:Str) (w:W) (M:Mm):Oc W:=match w with
 | .d (.exn _ g [d])=>if g=ff then .ok (.d d) M else .bad
 | _=>.bad
end
end EV
namespace EV
open PySem L2
section
variable {EX:D->Mm->Prop} {L:Lc} {M:Mm} {i j:Nat} {w x y:W} {Q:W->Mm->Prop} {QA:List W->Mm->Prop} {QS:Out->Mm->Prop} {f g h:FE} {F G FB FH:FS} {fs:FA} {Fm:Fn} {ws:List W}
theorem aMy (h:Ok (Fm ws M) Q):Okx EX (nx Fm ws M) Q:=by
 obtain ⟨a,M',e,q⟩:=lD.mp h
 unfold nx; rw [e]; exact aJ q
theorem aMe {α:Type} {f:Lc->Mm->Oc α} {Q:α->Mm->Prop} (h:Ok (f L M) Q):Okx EX (noX f L M) Q:=by
 obtain ⟨a,M',e,q⟩:=lD.mp h
 unfold noX; rw [e]; exact aJ q
theorem wR {ds:List D} (h:Okx EX (fs L M) fun ws M1=>QA (ws++ds.map W.d) M1):Okx EX (aDef fs ds L M) QA:=aF (h.mono fun _ _ z=>aJ z)
theorem zX {c ff:Str} (h:Okx EX (f L M) fun w M1=>∃ d,w=.d d/\EX (.exn c ff [d]) M1):Okx EX (sRaise c ff f L M) QS:=aF (h.mono fun w M1 ⟨d,e,q⟩=>by subst e; exact kP q)
theorem aIw {cns:List Str} {c ff:Str} {xs:List D} (q:Q (.d (.bl (cns.any fun n=>mt n c))) M):Okx EX (pIsX cns (.d (.exn c ff xs)) M) Q:=aJ q
theorem aKp {c ff:Str} {d:D} (q:Q (.d d) M):Okx EX (pFld ff (.d (.exn c ff [d])) M) Q:=by
 have:pFld ff (.d (.exn c ff [d])) M=.ok (.d d) M:=if_pos rfl
 rw [this]; exact aJ q
end
end EV
namespace EV
open PySem PySem.Spec PySem.W PyProof.Rows L2
section
variable {X:Cx} {K:Frag} {Z:Zt} {pos:Pos}
end
end EV
namespace LS
open PySem L2 EV
noncomputable def Cg (n a b:Int):Prop:=∃ k,a=b+n*k
theorem Cg.rfl {n a:Int}:Cg n a a:=⟨0,by simp⟩
theorem Cg.symm {n a b:Int} (h:Cg n a b):Cg n b a:=by obtain ⟨k,rfl⟩:=h; exact ⟨-k,by grind⟩
theorem Cg.trans {n a b c:Int} (h:Cg n a b) (g:Cg n b c):Cg n a c:=by obtain ⟨k,rfl⟩:=h; obtain ⟨l,rfl⟩:=g; exact ⟨k+l,by grind⟩
theorem Cg.add {n a b c d:Int} (h:Cg n a b) (g:Cg n c d):Cg n (a+c) (b+d):=by obtain ⟨k,rfl⟩:=h; obtain ⟨l,rfl⟩:=g; exact ⟨k+l,by grind⟩
theorem Cg.sub {n a b c d:Int} (h:Cg n a b) (g:Cg n c d):Cg n (a - c) (b - d):=by obtain ⟨k,rfl⟩:=h; obtain ⟨l,rfl⟩:=g; exact ⟨k - l,by grind⟩
theorem Cg.neg {n a b:Int} (h:Cg n a b):Cg n (-a) (-b):=by obtain ⟨k,rfl⟩:=h; exact ⟨-k,by grind⟩
theorem Cg.mul {n a b c d:Int} (h:Cg n a b) (g:Cg n c d):Cg n (a*c) (b*d):=by obtain ⟨k,rfl⟩:=h; obtain ⟨l,rfl⟩:=g; exact ⟨b*l+d*k+n*k*l,by grind⟩
theorem Cg.mod {n a:Int}:Cg n (a % n) a:=⟨-(a / n),by have:=Int.emod_def a n; grind⟩
theorem Cg.modT {n a b:Int} (h:Cg n a b):Cg n (a % n) b:=Cg.mod.trans h
theorem Cg.emod {n a b:Int} (h:Cg n a b):a % n=b % n:=by obtain ⟨k,rfl⟩:=h; simp [Int.add_mul_emod_self_left]
theorem Cg.of {n a b:Int} (h:a % n=b % n):Cg n a b:=Cg.mod.symm.trans (h▸Cg.mod)
theorem Cg.of_eq {n a b:Int} (h:a=b):Cg n a b:=h▸Cg.rfl
theorem aHq {n a b a' b':Int} (h:Cg n a a') (g:Cg n b b') (e:a'=b'):a % n=b % n:=(h.trans (e▸g.symm)).emod
theorem aGr {n a b a':Int} (l:0<=b) (u:b < n) (h:Cg n a a') (e:a'=b):a % n=b:=by rw [aHq h Cg.rfl e,Int.emod_eq_of_lt l u]
local macro_rules | `(tactic| clean_wf) => `(tactic| repeat decreasing_trivial_pre_omega)
local macro_rules | `(tactic| decreasing_trivial_pre_omega) => `(tactic| with_reducible first
 | apply Cg.modT | apply Cg.add | apply Cg.sub | apply Cg.mul | apply Cg.neg | exact Cg.rfl)
inductive Dd
 | add (s:Nat) (c:Int) (gs ts:List Nat)
 | scale (s:Nat) (u:Int)
noncomputable def natsD (xs:List Nat):D:=.tup (xs.map fun k=>.int (k:Nat))
noncomputable def intsD (xs:List Int):D:=.tup (xs.map .int)
noncomputable def encD:Dd->D
 | .add s c gs ts=>.tup [.str "add",.int s,.int c,natsD gs,natsD ts]
 | .scale s u=>.tup [.str "scale",.int s,.int u]
noncomputable def pr (xs:List Int) (is:List Nat):Int:=is.foldl (fun a i=>a*xs.getD i 0) 1
theorem aBl (xs:List Int) (is:List Nat) (c:Int):is.foldl (fun a i=>a*xs.getD i 0) c=c*pr xs is:=by
 induction is generalizing c with
 | nil=>simp [pr]
 | cons i r ih=>rw [List.foldl_cons,ih]; show _=c*(List.foldl _ (1*_) r); rw [ih (1*_)]; grind
theorem mT (xs:List Int) (i:Nat) (r:List Nat):pr xs (i::r)=xs.getD i 0*pr xs r:=by
 simp only [pr,List.foldl_cons,Int.one_mul]; exact aBl xs r _
theorem vJ (xs:List Int):pr xs []=1:=rfl
theorem aLs (xs:List Int) (i:Nat):pr xs [i]=xs.getD i 0:=by simp [pr]
theorem aJh {xs:List Int} {s:Nat} {v:Int} {is:List Nat} (h:s∉is):pr (xs.set s v) is=pr xs is:=by
 induction is with
 | nil=>rfl
 | cons i r ih =>
  rw [mT,mT,ih (fun z=>h (by simp [z]))]
  have:s≠i:=fun z=>h (by simp [z])
  simp [List.getElem?_set_ne this]
noncomputable def dn (n:Int) (gs cs:List Int):Dd->List Int
 | .add s c g t=>cs.set s ((cs.getD s 0+c*pr gs g*pr cs t) % n)
 | .scale s u=>cs.set s (cs.getD s 0*u % n)
noncomputable def rn (n:Int) (gs:List Int) (ds:List Dd) (cs:List Int):List Int:=ds.foldl (fun cs d=>dn n gs cs d) cs
theorem aJq {n:Int} {gs cs:List Int}:rn n gs [] cs=cs:=rfl
theorem gX {n:Int} {gs cs:List Int} {d:Dd} {ds:List Dd}:rn n gs (d::ds) cs=rn n gs ds (dn n gs cs d):=rfl
theorem eL {n:Int} {gs cs:List Int} {ds es:List Dd}:rn n gs (ds++es) cs=rn n gs es (rn n gs ds cs):=by simp [rn]
theorem gL {n:Int} {gs cs:List Int} {d:Dd}:(dn n gs cs d).length=cs.length:=by cases d <;> simp [dn]
theorem cB {n:Int} {gs:List Int} {ds:List Dd}:∀ {cs:List Int},(rn n gs ds cs).length=cs.length:=by
 induction ds with
 | nil=>intro cs; rfl
 | cons d ds ih=>intro cs; rw [gX,ih,gL]
noncomputable def Rs (n:Int) (cs:List Int):Prop:=∀ c∈cs,0<=c/\c < n
theorem Rs.getD {n:Int} {cs:List Int} (h:Rs n cs) {i:Nat} (hi:i < cs.length):0<=cs.getD i 0/\cs.getD i 0 < n:=h _ (by simp [hi])
theorem Rs.set {n:Int} {cs:List Int} (h:Rs n cs) {i:Nat} {v:Int} (l:0<=v) (u:v < n):Rs n (cs.set i v):=by
 intro c hc
 rcases List.mem_or_eq_of_mem_set hc with hc | rfl
 ·exact h c hc
 ·exact ⟨l,u⟩
theorem Rs.setM {n:Int} {cs:List Int} (hn:0 < n) (h:Rs n cs) {i:Nat} {v:Int}:Rs n (cs.set i (v % n)):=h.set (Int.emod_nonneg _ (by omega)) (Int.emod_lt_of_pos _ hn)
theorem Rs.dn {n:Int} {gs cs:List Int} (hn:0 < n) (h:Rs n cs) {d:Dd}:Rs n (dn n gs cs d):=by cases d <;> exact h.setM hn
theorem Rs.rn {n:Int} {gs:List Int} (hn:0 < n) {ds:List Dd}:∀ {cs:List Int},Rs n cs->Rs n (rn n gs ds cs):=by
 induction ds with
 | nil=>intro cs h; exact h
 | cons d ds ih=>intro cs h; rw [gX]; exact ih (h.dn hn)
noncomputable def IsIv (n u v:Int):Prop:=0<=v/\v < n/\(u*v) % n=1 % n
theorem IsIv.uniq {n u v w:Int} (h:IsIv n u v) (g:IsIv n u w):v=w:=by
 obtain ⟨l,k,e⟩:=h
 obtain ⟨l',k',e'⟩:=g
 have e1:Cg n (u*v) 1:=Cg.of e
 have e2:Cg n (u*w) 1:=Cg.of e'
 have:Cg n v w:=by
  have h1:Cg n v (v*(u*w)):=by simpa using Cg.mul (Cg.rfl (a:=v)) e2.symm
  have h2:Cg n ((u*v)*w) (1*w):=Cg.mul e1 Cg.rfl
  exact h1.trans ((Cg.of_eq (by grind)).trans (h2.trans (Cg.of_eq (by grind))))
 have:=this.emod
 rwa [Int.emod_eq_of_lt l k,Int.emod_eq_of_lt l' k'] at this
open Classical in
noncomputable def iv (n u:Int):Int:=if h:∃ v,IsIv n u v then Classical.choose h else 0
theorem aHx {n u v:Int} (h:IsIv n u v):iv n u=v:=by
 have hx:∃ v,IsIv n u v:=⟨v,h⟩
 unfold iv
 rw [dif_pos hx]
 exact (Classical.choose_spec hx).uniq h
theorem xH {n u:Int} (h:∃ v,IsIv n u v):IsIv n u (iv n u):=by obtain ⟨v,h⟩:=h; rw [aHx h]; exact h
noncomputable def Un (n u:Int):Prop:=0<=u/\u < n/\∃ v,IsIv n u v
theorem Un.iv {n u:Int} (h:Un n u):Un n (iv n u):=by
 have h':=xH h.2.2
 exact ⟨h'.1,h'.2.1,u,h.1,h.2.1,by rw [Int.mul_comm]; exact h'.2.2⟩
noncomputable def OkD (n:Int) (G S:Nat):Dd->Prop
 | .add s c g t=>s < S/\0<=c/\c < n/\(∀ i∈g,i < G)/\(∀ i∈t,i < S)/\s∉t/\g.length<=4/\t.length<=4
 | .scale s u=>s < S/\Un n u
noncomputable def bD (n:Int):Dd->Dd
 | .add s c g t=>.add s (-c % n) g t
 | .scale s u=>.scale s (iv n u)
noncomputable def bDs (n:Int) (ds:List Dd):List Dd:=ds.reverse.map (bD n)
theorem OkD.back {n:Int} {G S:Nat} (hn:0 < n) {d:Dd} (h:OkD n G S d):OkD n G S (bD n d):=by
 cases d with
 | add s c g t=>obtain ⟨a,b,c,r⟩:=h; exact ⟨a,Int.emod_nonneg _ (by omega),Int.emod_lt_of_pos _ hn,r⟩
 | scale s u=>exact ⟨h.1,h.2.iv⟩
theorem OkD.backs {n:Int} {G S:Nat} (hn:0 < n) {ds:List Dd} (h:∀ d∈ds,OkD n G S d):∀ d∈bDs n ds,OkD n G S d:=by
 intro d hd
 obtain ⟨x,hx,rfl⟩:=List.mem_map.mp hd
 exact (h x (List.mem_reverse.mp hx)).back hn
theorem oJ {n:Int} {ds:List Dd}:(bDs n ds).length=ds.length:=by simp [bDs]
theorem xG (cs:List Int) (s:Nat):cs.set s (cs.getD s 0)=cs:=by
 apply List.ext_getElem?
 intro i
 by_cases hi:s=i
 ·subst hi
  by_cases h:s < cs.length
  ·rw [List.getElem?_set_self h]; simp [h]
  ·rw [List.getElem?_eq_none (by simpa using h),List.getElem?_eq_none (by simpa using h)]
 ·rw [List.getElem?_set_ne hi]
theorem jT {cs:List Int} {s:Nat} {v:Int} (h:s < cs.length):(cs.set s v).getD s 0=v:=by simp [h]
theorem aFr {n:Int} {G:Nat} {gs cs:List Int} (hn:0 < n) (hc:Rs n cs) {d:Dd} (h:OkD n G cs.length d):dn n gs (dn n gs cs d) (bD n d)=cs:=by
 cases d with
 | add s c g t =>
  obtain ⟨hs,_,_,_,_,hst,_⟩:=h
  simp only [dn,bD]
  rw [jT hs,aJh hst,List.set_set]
  have:((cs.getD s 0+c*pr gs g*pr cs t) % n + -c % n*pr gs g*pr cs t) % n=cs.getD s 0:=by
   apply aGr ((hc.getD hs).1) ((hc.getD hs).2)
   ·clean_wf
   ·grind
  rw [this,xG]
 | scale s u =>
  obtain ⟨hs,hu⟩:=h
  simp only [dn,bD]
  rw [jT hs,List.set_set]
  have:cs.getD s 0*u % n*iv n u % n=cs.getD s 0:=by
   have e:Cg n (u*iv n u) 1:=Cg.of (xH hu.2.2).2.2
   have h1:Cg n (cs.getD s 0*u % n*iv n u) (cs.getD s 0*(u*iv n u)):=(Cg.mul Cg.mod Cg.rfl).trans (Cg.of_eq (by grind))
   have h2:=(h1.trans (Cg.mul Cg.rfl e)).emod
   rw [h2,Int.mul_one,Int.emod_eq_of_lt (hc.getD hs).1 (hc.getD hs).2]
  rw [this,xG]
theorem sJ {n:Int} {G:Nat} {gs:List Int} (hn:0 < n) {ds:List Dd}:∀ {cs:List Int},Rs n cs->(∀ d∈ds,OkD n G cs.length d)->rn n gs (bDs n ds) (rn n gs ds cs)=cs:=by
 induction ds with
 | nil=>intro cs _ _; rfl
 | cons d ds ih =>
  intro cs hc h
  have e:bDs n (d::ds)=bDs n ds++[bD n d]:=by simp [bDs]
  rw [e,eL,gX (ds:=ds),ih (hc.dn hn) (fun x hx=>by rw [gL]; exact h x (by simp [hx]))]
  exact aFr hn hc (h d (by simp))
inductive Wd | sum | less | times
noncomputable def Wd.str:Wd->Str
 | .sum=>"sum"
 | .less=>"less"
 | .times=>"times"
noncomputable def Wd.ev (n:Int):Wd->Int->Int->Int
 | .sum,x,y=>(x+y) % n
 | .less,x,y=>(x - y) % n
 | .times,x,y=>x*y % n
inductive E
 | num (c:Int)
 | giv (i:Nat)
 | op (w:Wd) (a b:E)
noncomputable def val (n:Int) (gs:List Int):E->Int
 | .num c=>c % n
 | .giv i=>gs.getD i 0
 | .op w a b=>w.ev n (val n gs a) (val n gs b)
noncomputable def dp:E->Nat
 | .num _=>0
 | .giv _=>0
 | .op _ a b=>max (dp a) (dp b)+1
noncomputable def wf (m:Nat):E->Prop
 | .num c=>0<=c/\c < 1000000
 | .giv i=>i < m
 | .op _ a b=>wf m a/\wf m b
theorem wf.mono {m k:Nat} (h:m<=k):∀ {e:E},wf m e->wf k e
 | .num _,w=>w
 | .giv _,w=>Nat.lt_of_lt_of_le w h
 | .op _ _ _,w=>⟨w.1.mono h,w.2.mono h⟩
noncomputable def many:E->Nat
 | .num _=>1
 | .giv _=>1
 | .op .times a b=>2*(many a+many b)
 | .op _ a b=>many a+many b
theorem eF {P:Dd->Prop} {a b:List Dd} (h:∀ d∈a,P d) (g:∀ d∈b,P d):∀ d∈a++b,P d:=fun d hd=>(List.mem_append.mp hd).elim (h d) (g d)
end LS
namespace LS
open PySem L2 EV
variable {EX:D->Mm->Prop}
theorem at2I (x y:Int) (c:Bool):atI [D.int x,D.int y] (if c=true then 1 else 0)=some (D.int (if c=true then y else x)):=by cases c <;> rfl
theorem at2 {d:Int} (l:0<=d) (u:d < 2) (x y:D):∃ w,atI [x,y] d=some w/\(w=x\/w=y):=by
 have:d=0\/d=1:=by omega
 rcases this with rfl | rfl
 ·exact ⟨x,rfl,by simp⟩
 ·exact ⟨y,rfl,by simp⟩
theorem at4 {d:Int} (l:0<=d) (u:d < 4) (x y z t:D):∃ w,atI [x,y,z,t] d=some w/\(w=x\/w=y\/w=z\/w=t):=by
 have:d=0\/d=1\/d=2\/d=3:=by omega
 rcases this with rfl | rfl | rfl | rfl
 ·exact ⟨x,rfl,by simp⟩
 ·exact ⟨y,rfl,by simp⟩
 ·exact ⟨z,rfl,by simp⟩
 ·exact ⟨t,rfl,by simp⟩
theorem gY {cs:List Int} {i:Nat} (h:i < cs.length):atI (cs.map D.int) (i:Int)=some (.int (cs.getD i 0)):=by
 simp only [atI,ixN,List.length_map]
 rw [if_pos (by omega),if_pos (by omega)]
 simp [h]
theorem aKo {cs:List D} {s:Nat} (h:s<=cs.length):cut cs none (some (s:Int))=cs.take s:=by
 simp only [cut,HT.sIx]
 rw [if_neg (by omega)]
 simp only [List.drop_zero,Nat.sub_zero,Int.toNat_natCast]
 rw [Nat.min_eq_left h]
theorem aJm {cs:List D} {s:Nat} (h:s<=cs.length):cut cs (some (s:Int)) none=cs.drop s:=by
 simp only [cut,HT.sIx]
 rw [if_neg (by omega)]
 simp only [Int.toNat_natCast]
 rw [Nat.min_eq_left h,List.take_of_length_le (by simp)]
noncomputable def encP (n G S:Int) (ds:List Dd):D:=.tup [.int n,.int G,.int S,.tup (ds.map encD)]
theorem foldm {n:Int} {xs:List Int} (is:List Nat) (c:Int):Cg n (is.foldl (fun a i=>a*xs.getD i 0 % n) c) (c*pr xs is):=by
 induction is generalizing c with
 | nil=>rw [vJ,Int.mul_one]; exact Cg.rfl
 | cons i r ih =>
  rw [List.foldl_cons,mT]
  exact (ih _).trans ((Cg.mul Cg.mod Cg.rfl).trans (Cg.of_eq (by grind)))
theorem mF {n:Int} (hn:0 < n) {xs:List Int} (is:List Nat) {c:Int} (l:0<=c) (u:c < n):0<=is.foldl (fun a i=>a*xs.getD i 0 % n) c/\is.foldl (fun a i=>a*xs.getD i 0 % n) c < n:=by
 induction is generalizing c with
 | nil=>exact ⟨l,u⟩
 | cons i r ih=>rw [List.foldl_cons]; exact ih (Int.emod_nonneg _ (by omega)) (Int.emod_lt_of_pos _ hn)
theorem qT {cs:List Int} {s:Nat} {v:Int}:(cs.map D.int).set s (.int v)=(cs.set s v).map D.int:=by rw [List.map_set]
theorem mR {k i:Nat} (h:i < k):ixN k (i:Int)=some i:=by
 simp only [ixN]
 rw [if_pos (by omega),if_pos (by omega)]
 simp
mutual
theorem oB:∀ d:D,eqD d d=true
 | .non=>by simp [eqD]
 | .bl b=>by simp [eqD]
 | .int i=>by simp [eqD]
 | .str x=>by simp [eqD]
 | .tup xs=>by simp only [eqD]; exact gR xs
 | .lst xs=>by simp only [eqD]; exact gR xs
 | .fz xs=>by simp only [eqD]; exact gR xs
 | .exn c f xs=>by simp only [eqD]; rw [gR xs]; simp
theorem gR:∀ ds:List D,eqDs ds ds=true
 | []=>by simp [eqDs]
 | d::ds=>by simp only [eqDs,oB d,gR ds,Bool.and_true]
end
theorem aCk (xs:List Int):dep (intsD xs)<=3:=by
 have:deps (xs.map D.int)<=1:=by
  induction xs with
  | nil=>simp [deps]
  | cons x r ih=>simp [deps,dep]; omega
 simp only [intsD,dep]
 omega
theorem iV (xs:List Int):dep (intsD xs)<=100:=Nat.le_trans (aCk xs) (by omega)
section
variable {M:Mm} {x y:W} {Q:W->Mm->Prop}
theorem aKe {a b:D} (h1:wd M x=some a) (h2:wd M y=some b) (e:a=b) (hd:dep a<=100) (q:Q (.d (.bl true)) M):Okx EX (pEq x y M) Q:=by
 subst e
 exact yB h1 h2 ⟨hd,hd⟩ (by rw [oB]; exact q)
theorem aCz {a b:D} (h1:wd M x=some a) (h2:wd M y=some b) (e:a=b) (hd:dep a<=100) (q:Q (.d (.bl false)) M):Okx EX (pNe x y M) Q:=by
 subst e
 exact yC h1 h2 ⟨hd,hd⟩ (by rw [oB]; exact q)
end
end LS
namespace LS
open PySem L2 EV
variable {EX:D->Mm->Prop}
theorem natsOf {xs:List Int} (h:∀ x∈xs,0<=x):∃ ks:List Nat,xs=ks.map (fun k:Nat=>(k:Int)):=by
 refine ⟨xs.map Int.toNat,?_⟩
 rw [List.map_map]
 conv=>lhs; rw [<- List.map_id xs]
 exact List.map_congr_left fun x hx=>by simp; have:=h x hx; omega
theorem aCb (ns:List Nat):∃ ks:List Nat,srt (ns.map fun k:Nat=>(k:Int))=ks.map (fun k:Nat=>(k:Int))/\ks.Perm ns/\ks.Pairwise (·<=·):=by
 obtain ⟨ks,e⟩:=natsOf (xs:=srt (ns.map fun k:Nat=>(k:Int))) (fun x hx=>by
  rw [aGk] at hx; obtain ⟨k,_,rfl⟩:=List.mem_map.mp hx; omega)
 refine ⟨ks,e,?_,?_⟩
 ·have p:=kF (ns.map fun k:Nat=>(k:Int))
  rw [e] at p
  have:=p.map Int.toNat
  simpa [List.map_map,Function.comp_def] using this
 ·have o:=oN (ns.map fun k:Nat=>(k:Int))
  rw [e,List.pairwise_map] at o
  exact o.imp fun h=>by omega
theorem mW {ns:List Nat} {i:Int} (l:0<=i) (u:i < ns.length):∃ k∈ns,atI (ns.map fun x=>D.int (x:Nat)) i=some (.int (k:Nat)):=by
 have hi:i.toNat < ns.length:=by omega
 refine ⟨ns[i.toNat],List.getElem_mem hi,?_⟩
 simp only [atI,ixN,List.length_map]
 rw [if_pos l,if_pos u]
 simp [hi]
end LS
namespace LS
open PySem L2 EV
variable {EX:D->Mm->Prop}
end LS
namespace LS
open PySem L2 EV
variable {EX:D->Mm->Prop}
noncomputable def pl (ps:List Nat) (i:Nat):Nat:=ps.getD i 0
theorem eG {ps:List Nat} {i:Nat} (h:i < ps.length):pl ps i∈ps:=by simp [pl,h]
theorem aLy {ps:List Nat} (nd:ps.Nodup) {i j:Nat} (hi:i < ps.length) (hj:j < ps.length) (e:pl ps i=pl ps j):i=j:=by
 have e':ps[i]=ps[j]:=by simpa [pl,hi,hj] using e
 have pw:=List.pairwise_iff_getElem.mp nd
 rcases Nat.lt_trichotomy i j with l | l | l
 ·exact (pw i j hi hj l e').elim
 ·exact l
 ·exact (pw j i hj hi l e'.symm).elim
theorem yA {ns:List Nat} {i:Nat} (h:i < ns.length):atI (ns.map fun x=>D.int (x:Nat)) (i:Int)=some (.int (pl ns i:Nat)):=by
 simp only [atI,ixN,List.length_map]
 rw [if_pos (by omega),if_pos (by omega)]
 simp [pl,h]
end LS
namespace LS
open PySem L2 EV
variable {EX:D->Mm->Prop}
noncomputable def ho:Dd->Dd->Bool
 | .scale _ _,_=>false
 | .add s _ _ t,.scale s' _=>decide (s'=s) || decide (s'∈t)
 | .add _ _ _ t,.add s' _ _ _=>decide (s'∈t)
noncomputable def gp (a b:Dd):Bool:=!ho a b&&!ho b a
theorem fS (a b:Dd):gp a b=gp b a:=by simp [gp,Bool.and_comm]
end LS
namespace LS
open PySem L2 EV
variable {EX:D->Mm->Prop}
end LS
namespace LS
open PySem L2 EV
noncomputable def plc:List Nat->List Int->List Int->List Int
 | p::ps,c::cs,l=>plc ps cs (l.set p c)
 | _,_,l=>l
end LS
namespace LS
open PySem
noncomputable def kd:Dd->Nat×Bool×List Nat×List Nat
 | .add s _ g t=>(s,false,g,t)
 | .scale s _=>(s,true,[],[])
noncomputable def lexN:List Nat->List Nat->Bool
 | [],[]=>false
 | [],_::_=>true
 | _::_,[]=>false
 | x::xs,y::ys=>if x=y then lexN xs ys else decide (x < y)
noncomputable def rl (a b:Nat×Bool×List Nat×List Nat):Bool :=
 if a.1=b.1 then (if a.2.1=b.2.1 then (if a.2.2.1=b.2.2.1 then lexN a.2.2.2 b.2.2.2 else lexN a.2.2.1 b.2.2.1) else !a.2.1) else decide (a.1 < b.1)
theorem eZ:∀ xs:List Nat,lexN xs xs=false
 | []=>rfl
 | x::xs=>by simp [lexN,eZ xs]
theorem nV:∀ {xs ys:List Nat},lexN xs ys=false->lexN ys xs=false->xs=ys
 | [],[],_,_=>rfl
 | [],_::_,h,_=>by simp [lexN] at h
 | _::_,[],_,h=>by simp [lexN] at h
 | x::xs,y::ys,h,g=>by
  simp only [lexN] at h g
  by_cases e:x=y
  ·subst e
   simp only [if_true] at h g
   rw [nV h g]
  ·rw [if_neg e] at h
   rw [if_neg (Ne.symm e)] at g
   simp at h g
   omega
theorem fJ:∀ {xs ys zs:List Nat},lexN xs ys=true->lexN ys zs=true->lexN xs zs=true
 | [],[],_,h,_=>by simp [lexN] at h
 | [],_::_,[],_,g=>by simp [lexN] at g
 | [],_::_,_::_,_,_=>rfl
 | _::_,[],_,h,_=>by simp [lexN] at h
 | _::_,_::_,[],_,g=>by simp [lexN] at g
 | x::xs,y::ys,z::zs,h,g=>by
  simp only [lexN] at h g ⊢
  by_cases e:x=y
  ·subst e
   by_cases f:x=z
   ·subst f
    simp only [if_true] at h g ⊢
    exact fJ h g
   ·rw [if_neg f] at g ⊢
    exact g
  ·rw [if_neg e] at h
   by_cases f:y=z
   ·subst f
    rw [if_neg e]
    exact h
   ·rw [if_neg f] at g
    simp at h g
    rw [if_neg (by omega)]
    simp
    omega
theorem zK (a:Nat×Bool×List Nat×List Nat):rl a a=false:=by simp [rl,eZ]
theorem sM {a b c:Nat×Bool×List Nat×List Nat} (h:rl a b=true) (g:rl b c=true):rl a c=true:=by
 obtain ⟨a1,a2,a3,a4⟩:=a
 obtain ⟨b1,b2,b3,b4⟩:=b
 obtain ⟨c1,c2,c3,c4⟩:=c
 simp only [rl] at h g ⊢
 by_cases e1:a1=b1
 ·subst e1
  simp only [if_true] at h
  by_cases f1:a1=c1
  ·subst f1
   simp only [if_true] at g ⊢
   by_cases e2:a2=b2
   ·subst e2
    simp only [if_true] at h
    by_cases f2:a2=c2
    ·subst f2
     simp only [if_true] at g ⊢
     by_cases e3:a3=b3
     ·subst e3
      simp only [if_true] at h
      by_cases f3:a3=c3
      ·subst f3
       simp only [if_true] at g ⊢
       exact fJ h g
      ·rw [if_neg f3] at g ⊢
       exact g
     ·rw [if_neg e3] at h
      by_cases f3:b3=c3
      ·subst f3
       rw [if_neg e3]
       exact h
      ·rw [if_neg f3] at g
       have:=fJ h g
       rw [if_neg (fun z=>by rw [z,eZ] at this; cases this)]
       exact this
    ·rw [if_neg f2] at g ⊢
     exact g
   ·rw [if_neg e2] at h
    by_cases f2:b2=c2
    ·subst f2
     rw [if_neg e2]
     exact h
    ·rw [if_neg f2] at g
     cases a2 <;> cases b2 <;> cases c2 <;> simp_all
  ·rw [if_neg f1] at g ⊢
   exact g
 ·rw [if_neg e1] at h
  by_cases f1:b1=c1
  ·subst f1
   rw [if_neg e1]
   exact h
  ·rw [if_neg f1] at g
   simp at h g
   rw [if_neg (by omega)]
   simp
   omega
theorem aCa {a b:Nat×Bool×List Nat×List Nat} (h:rl a b=true):rl b a=false:=by
 cases g:rl b a with
 | false=>rfl
 | true=>have:=sM h g; rw [zK] at this; cases this
theorem xQ {a b c:Dd} (h:kd a=kd b):gp a c=gp b c:=by
 cases a <;> cases b <;> simp only [kd,Prod.mk.injEq,reduceCtorEq,and_true,true_and,and_false,false_and,Bool.true_eq_false,Bool.false_eq_true] at h
 ·obtain ⟨rfl,rfl,rfl⟩:=h
  cases c <;> rfl
 ·subst h
  cases c <;> rfl
noncomputable def mg (n:Int):Dd->Dd->Dd
 | .add s c g t,.add _ c' _ _=>.add s ((c+c') % n) g t
 | .scale s u,.scale _ u'=>.scale s (u*u' % n)
 | a,_=>a
noncomputable def idle:Dd->Bool
 | .add _ c _ _=>decide (c=0)
 | .scale _ u=>decide (u=1)
noncomputable def tk (n:Int) (d:Dd):List Dd->Option (List Dd)
 | []=>none
 | x::r=>if kd x=kd d then some (if idle (mg n x d) then r else mg n x d::r) else if gp x d then (tk n d r).map (x::·) else none
noncomputable def pcs (d:Dd):List Dd->Option (List Dd)
 | []=>none
 | x::r=>if gp x d then (match pcs d r with
  | some r'=>some (x::r')
  | none=>if rl (kd d) (kd x) then some (x::d::r) else none) else none
noncomputable def ins (n:Int) (d:Dd) (r:List Dd):List Dd:=if idle d then r else match tk n d r with
 | some r'=>r'
 | none=>match pcs d r with
  | some r'=>r'
  | none=>d::r
noncomputable def Nor (n:Int):List Dd->Prop
 | []=>True
 | x::r=>idle x=false/\tk n x r=none/\pcs x r=none/\Nor n r
theorem oE {n:Int} {d e:Dd} (h:kd d=kd e):∀ r:List Dd,tk n d r=none->tk n e r=none
 | [],_=>rfl
 | x::r,g=>by
  simp only [tk] at g ⊢
  rw [<- h]
  split at g
  ·cases g
  ·rename_i hk
   rw [if_neg hk,fS x e,<- xQ (c:=x) h,fS d x]
   split at g
   ·rename_i hg
    rw [if_pos hg]
    rw [Option.map_eq_none_iff] at g ⊢
    exact oE h r g
   ·rename_i hg
    rw [if_neg hg]
theorem mB {d e:Dd} (h:kd d=kd e):∀ r:List Dd,pcs d r=none->pcs e r=none
 | [],_=>rfl
 | x::r,g=>by
  simp only [pcs] at g ⊢
  rw [<- h,fS x e,<- xQ (c:=x) h,fS d x]
  split at g
  ·rename_i hg
   rw [if_pos hg]
   cases hp:pcs d r with
   | some r'=>rw [hp] at g; cases g
   | none =>
    rw [hp] at g
    rw [mB h r hp]
    simp only at g ⊢
    split at g
    ·cases g
    ·rename_i hx
     rw [if_neg hx]
  ·rename_i hg
   rw [if_neg hg]
theorem aMk {n:Int} {x d:Dd} (h:kd x=kd d):kd (mg n x d)=kd d:=by
 rw [<- h]
 cases x <;> cases d <;> rfl
theorem xD {n:Int} {d:Dd} (hm:∀ x,kd x=kd d->kd (mg n x d)=kd d):∀ {r r1:List Dd} {y:Dd},tk n d r=some r1->gp y d=true->kd y≠kd d->tk n y r=none->pcs y r=none->tk n y r1=none/\pcs y r1=none
 | [],_,_,g,_,_,_,_=>by cases g
 | x::r,r1,y,g,hy,hk,h1,h2=>by
  simp only [tk] at g
  simp only [tk] at h1
  split at h1
  ·cases h1
  rename_i hxy
  simp only [pcs] at h2
  split at g
  ·rename_i hx
   have gxy:gp x y=true:=by rw [xQ (c:=y) hx,fS]; exact hy
   rw [if_pos gxy,Option.map_eq_none_iff] at h1
   rw [if_pos gxy] at h2
   have p2:pcs y r=none:=by
    cases hp:pcs y r with
    | none=>rfl
    | some s=>rw [hp] at h2; cases h2
   rw [p2] at h2
   cases g
   by_cases hi:idle (mg n x d)=true
   ·rw [if_pos hi]
    exact ⟨h1,p2⟩
   ·rw [if_neg hi]
    have hkm:=hm x hx
    have gmy:gp (mg n x d) y=true:=by rw [xQ (c:=y) hkm,fS]; exact hy
    refine ⟨?_,?_⟩
    ·simp only [tk]
     rw [if_neg (by rw [hkm]; exact Ne.symm hk),if_pos gmy,h1]
     rfl
    ·simp only [pcs]
     rw [if_pos gmy,p2]
     simp only at h2 ⊢
     rw [hkm,<- hx]
     split at h2
     ·cases h2
     ·rename_i hz
      rw [if_neg hz]
  ·rename_i hx
   split at g
   ·rename_i hg
    rw [Option.map_eq_some_iff] at g
    obtain ⟨s,hs,rfl⟩:=g
    by_cases gxy:gp x y=true
    ·rw [if_pos gxy,Option.map_eq_none_iff] at h1
     rw [if_pos gxy] at h2
     have p2:pcs y r=none:=by
      cases hp:pcs y r with
      | none=>rfl
      | some s=>rw [hp] at h2; cases h2
     rw [p2] at h2
     obtain ⟨q1,q2⟩:=xD hm hs hy hk h1 p2
     refine ⟨?_,?_⟩
     ·simp only [tk]
      rw [if_neg hxy,if_pos gxy,q1]
      rfl
     ·simp only [pcs]
      rw [if_pos gxy,q2]
      simp only at h2 ⊢
      split at h2
      ·cases h2
      ·rename_i hz
       rw [if_neg hz]
    ·refine ⟨?_,?_⟩
     ·simp only [tk]
      rw [if_neg hxy,if_neg gxy]
     ·simp only [pcs]
      rw [if_neg gxy]
   ·cases g
theorem Nor.tk {n:Int} {d:Dd} (hm:∀ x,kd x=kd d->kd (mg n x d)=kd d):∀ {r r1:List Dd},Nor n r->LS.tk n d r=some r1->Nor n r1
 | [],_,_,g=>by cases g
 | x::r,r1,hN,g=>by
  obtain ⟨n1,n2,n3,n4⟩:=hN
  simp only [LS.tk] at g
  split at g
  ·rename_i hx
   cases g
   by_cases hi:idle (mg n x d)=true
   ·rw [if_pos hi]
    exact n4
   ·rw [if_neg hi]
    have hkm:=hm x hx
    exact ⟨by simpa using hi,oE (hx.trans hkm.symm) r n2,mB (hx.trans hkm.symm) r n3,n4⟩
  ·rename_i hx
   split at g
   ·rename_i hg
    rw [Option.map_eq_some_iff] at g
    obtain ⟨s,hs,rfl⟩:=g
    obtain ⟨q1,q2⟩:=xD hm hs hg hx n2 n3
    exact ⟨n1,q1,q2,Nor.tk hm n4 hs⟩
   ·cases g
theorem uG {n:Int} {d:Dd}:∀ {r r1:List Dd} {y:Dd},pcs d r=some r1->gp y d=true->kd y≠kd d->tk n y r=none->pcs y r=none->tk n y r1=none/\pcs y r1=none
 | [],_,_,g,_,_,_,_=>by cases g
 | x::r,r1,y,g,hy,hk,h1,h2=>by
  simp only [pcs] at g
  split at g
  ·rename_i hg
   simp only [tk] at h1
   split at h1
   ·cases h1
   rename_i hxy
   simp only [pcs] at h2
   by_cases gxy:gp x y=true
   ·rw [if_pos gxy,Option.map_eq_none_iff] at h1
    rw [if_pos gxy] at h2
    have p2:pcs y r=none:=by
     cases hp:pcs y r with
     | none=>rfl
     | some s=>rw [hp] at h2; cases h2
    rw [p2] at h2
    simp only at h2
    have hz:¬ rl (kd y) (kd x)=true:=by
     intro z
     rw [if_pos z] at h2
     cases h2
    cases hp:pcs d r with
    | some s =>
     rw [hp] at g
     cases g
     obtain ⟨q1,q2⟩:=uG hp hy hk h1 p2
     refine ⟨?_,?_⟩
     ·simp only [tk]
      rw [if_neg hxy,if_pos gxy,q1]
      rfl
     ·simp only [pcs]
      rw [if_pos gxy,q2]
      simp only
      rw [if_neg hz]
    | none =>
     rw [hp] at g
     simp only at g
     split at g
     ·rename_i hr
      cases g
      have gdy:gp d y=true:=by rw [fS]; exact hy
      have hd:¬ rl (kd y) (kd d)=true:=fun z=>hz (sM z hr)
      refine ⟨?_,?_⟩
      ·simp only [tk]
       rw [if_neg hxy,if_pos gxy,if_neg (Ne.symm hk),if_pos gdy,h1]
       rfl
      ·simp only [pcs]
       rw [if_pos gxy,if_pos gdy,p2]
       simp only
       rw [if_neg hd]
       simp only
       rw [if_neg hz]
     ·cases g
   ·have t1:∀ s,tk n y (x::s)=none:=fun s=>by
     simp only [tk]
     rw [if_neg hxy,if_neg gxy]
    have t2:∀ s,pcs y (x::s)=none:=fun s=>by
     simp only [pcs]
     rw [if_neg gxy]
    cases hp:pcs d r with
    | some s=>rw [hp] at g; cases g; exact ⟨t1 _,t2 _⟩
    | none =>
     rw [hp] at g
     simp only at g
     split at g
     ·cases g; exact ⟨t1 _,t2 _⟩
     ·cases g
  ·cases g
theorem Nor.pcs {n:Int} {d:Dd} (hi:idle d=false):∀ {r r1:List Dd},Nor n r->LS.tk n d r=none->LS.pcs d r=some r1->Nor n r1
 | [],_,_,_,g=>by cases g
 | x::r,r1,hN,ht,g=>by
  obtain ⟨n1,n2,n3,n4⟩:=hN
  simp only [LS.tk] at ht
  split at ht
  ·cases ht
  rename_i hx
  simp only [LS.pcs] at g
  split at g
  ·rename_i hg
   rw [if_pos hg,Option.map_eq_none_iff] at ht
   cases hp:LS.pcs d r with
   | some s =>
    rw [hp] at g
    cases g
    obtain ⟨q1,q2⟩:=uG hp hg hx n2 n3
    exact ⟨n1,q1,q2,Nor.pcs hi n4 ht hp⟩
   | none =>
    rw [hp] at g
    simp only at g
    split at g
    ·rename_i hr
     cases g
     have gdx:gp d x=true:=by rw [fS]; exact hg
     refine ⟨n1,?_,?_,hi,ht,hp,n4⟩
     ·simp only [LS.tk]
      rw [if_neg (Ne.symm hx),if_pos gdx,n2]
      rfl
     ·simp only [LS.pcs]
      rw [if_pos gdx,n3]
      simp only
      rw [if_neg (by rw [aCa hr]; exact Bool.false_ne_true)]
    ·cases g
  ·cases g
theorem Nor.ins {n:Int} {d:Dd} {r:List Dd} (h:Nor n r):Nor n (LS.ins n d r):=by
 unfold LS.ins
 by_cases hi:idle d=true
 ·rw [if_pos hi]; exact h
 ·rw [if_neg hi]
  cases ht:LS.tk n d r with
  | some r1=>exact h.tk (fun x hx=>aMk hx) ht
  | none =>
   cases hp:LS.pcs d r with
   | some r1=>exact h.pcs (by simpa using hi) ht hp
   | none=>exact ⟨by simpa using hi,ht,hp,h⟩
theorem Nor.same {n:Int} {x:Dd} {r:List Dd} (h:Nor n (x::r)):LS.ins n x r=x::r:=by
 obtain ⟨n1,n2,n3,_⟩:=h
 unfold LS.ins
 rw [if_neg (by rw [n1]; exact Bool.false_ne_true),n2,n3]
noncomputable def nf (n:Int) (ds:List Dd) (r:List Dd):List Dd:=ds.foldl (fun r d=>ins n d r) r
end LS
namespace LS
open PySem
noncomputable def sg (m:Nat) (g:Nat->Int):Int:=((List.range m).map g).sum
theorem eN {m:Nat} {g:Nat->Int}:sg (m+1) g=sg m g+g m:=by simp [sg,List.range_succ]
theorem aNn {g:Nat->Int}:sg 0 g=0:=rfl
theorem wL {g h:Nat->Int}:∀ {m:Nat},sg m (fun i=>g i+h i)=sg m g+sg m h
 | 0=>rfl
 | m+1=>by rw [eN,eN,eN,wL]; omega
theorem rM {c:Int} {g:Nat->Int}:∀ {m:Nat},sg m (fun i=>c*g i)=c*sg m g
 | 0=>by simp [sg]
 | m+1=>by rw [eN,eN,rM,Int.mul_add]
theorem aCv:∀ {m:Nat},sg m (fun _=>1)=m
 | 0=>rfl
 | m+1=>by rw [eN,aCv]; simp
theorem geo (x:Int):∀ m:Nat,(x - 1)*sg m (fun i=>x ^ i)=x ^ m - 1
 | 0=>by simp [sg]
 | m+1=>by rw [eN,Int.mul_add,geo x m,Int.pow_succ]; grind
noncomputable def Rt (n w:Int) (m:Nat):Prop:=w ^ m % n=1/\∀ i:Nat,1<=i->i < m->∃ v,IsIv n (w ^ i % n - 1) v
theorem Cg.pow {n a b:Int} (h:Cg n a b):∀ k:Nat,Cg n (a ^ k) (b ^ k)
 | 0=>Cg.of_eq (by simp)
 | k+1=>by rw [Int.pow_succ,Int.pow_succ]; exact Cg.mul (Cg.pow h k) h
theorem Rt.one {n w:Int} {m:Nat} (h:Rt n w m):Cg n (w ^ m) 1:=by
 have:Cg n (w ^ m % n) 1:=Cg.of_eq h.1
 exact Cg.mod.symm.trans this
theorem Rt.geo {n w:Int} {m k:Nat} (h:Rt n w m) (h1:1<=k) (h2:k < m):Cg n (sg m fun i=>w ^ (i*k)) 0:=by
 obtain ⟨v,_,_,hv⟩:=h.2 k h1 h2
 have e0:Cg n ((w ^ k - 1)*v) 1:=(Cg.mul (Cg.sub Cg.mod.symm Cg.rfl) Cg.rfl).trans (Cg.of hv)
 have e1:sg m (fun i=>w ^ (i*k))=sg m (fun i=>(w ^ k) ^ i):=by
  congr 1
  funext i
  rw [<- Int.pow_mul,Nat.mul_comm]
 have e2:=LS.geo (w ^ k) m
 have e3:Cg n ((w ^ k) ^ m - 1) 0:=by
  rw [<- Int.pow_mul,Nat.mul_comm,Int.pow_mul]
  exact (Cg.sub ((h.one).pow k) Cg.rfl).trans (Cg.of_eq (show (1:Int) ^ k - 1=0 by rw [Int.one_pow]; rfl))
 rw [e1]
 generalize sg m (fun i=>(w ^ k) ^ i)=T at e2
 have e4:Cg n (v*((w ^ k - 1)*T)) (v*0):=Cg.mul Cg.rfl (by rw [e2]; exact e3)
 refine Cg.trans ?_ (e4.trans (Cg.of_eq (by simp)))
 refine Cg.trans ?_ (Cg.of_eq (show (w ^ k - 1)*v*T=v*((w ^ k - 1)*T) by grind))
 exact (Cg.of_eq (by simp)).trans (Cg.mul e0.symm Cg.rfl)
noncomputable def pf (g:Nat->Int):List Nat->Int
 | []=>1
 | t::r=>g t*pf g r
theorem aIh {n:Int} {g h:Nat->Int}:∀ {t:List Nat},(∀ i∈t,Cg n (g i) (h i))->Cg n (pf g t) (pf h t)
 | [],_=>Cg.rfl
 | t::r,e=>Cg.mul (e t (by simp)) (aIh fun i hi=>e i (by simp [hi]))
theorem aIq {xs:List Int}:∀ t:List Nat,pr xs t=pf (fun i=>xs.getD i 0) t
 | []=>rfl
 | t::r=>by rw [mT,aIq r]; rfl
theorem polysum {n w:Int} {m:Nat} (h:Rt n w m) {x v:Nat->Int}:∀ (t:List Nat) (j:Nat),j+t.length < m->Cg n (sg m fun i=>w ^ (i*j)*pf (fun s=>x s*w ^ i+v s) t) (if j=0 then m*pf v t else 0)
 | [],j,hj=>by
  have e:sg m (fun i=>w ^ (i*j)*pf (fun s=>x s*w ^ i+v s) [])=sg m fun i=>w ^ (i*j):=by congr 1; funext i; simp [pf]
  rw [e]
  by_cases h0:j=0
  ·subst h0
   rw [if_pos rfl]
   have:sg m (fun i=>w ^ (i*0))=sg m fun _=>1:=by congr 1; funext i; simp
   rw [this,aCv]
   exact Cg.of_eq (by simp [pf])
  ·rw [if_neg h0]
   exact h.geo (by omega) (by simpa using hj)
 | s::t,j,hj=>by
  simp only [List.length_cons] at hj
  have i1:=polysum h (x:=x) (v:=v) t (j+1) (by omega)
  have i2:=polysum h (x:=x) (v:=v) t j (by omega)
  have e:sg m (fun i=>w ^ (i*j)*pf (fun s=>x s*w ^ i+v s) (s::t))=x s*sg m (fun i=>w ^ (i*(j+1))*pf (fun s=>x s*w ^ i+v s) t)+v s*sg m (fun i=>w ^ (i*j)*pf (fun s=>x s*w ^ i+v s) t):=by
   rw [<- rM,<- rM,<- wL]
   congr 1
   funext i
   rw [Nat.mul_add,Nat.mul_one,Int.pow_add]
   simp only [pf]
   grind
  rw [e]
  refine (Cg.add (Cg.mul Cg.rfl i1) (Cg.mul Cg.rfl i2)).trans (Cg.of_eq ?_)
  rw [if_neg (by omega)]
  by_cases h0:j=0
  ·rw [if_pos h0,if_pos h0]; simp only [pf]; grind
  ·rw [if_neg h0,if_neg h0]; simp
theorem vL {n:Int} {a b:List Int} (ha:Rs n a) (hb:Rs n b) (hl:a.length=b.length) (h:∀ s,s < a.length->Cg n (a.getD s 0) (b.getD s 0)):a=b:=by
 refine List.ext_getElem hl fun i h1 h2=>?_
 have e:=(h i h1).emod
 have a1:=ha.getD h1
 have b1:=hb.getD h2
 rw [Int.emod_eq_of_lt a1.1 a1.2,Int.emod_eq_of_lt b1.1 b1.2] at e
 simpa [List.getD,h1,h2] using e
noncomputable def Brg (n:Int) (gs:List Int) (S:Nat) (ds:List Dd) (f:Nat->Int):Prop:=∀ cs,Rs n cs->cs.length=S->∀ s,s < S->Cg n ((rn n gs ds cs).getD s 0) (cs.getD s 0+f s)
theorem Brg.cg {n:Int} {gs:List Int} {S:Nat} {ds:List Dd} {f g:Nat->Int} (h:Brg n gs S ds f) (e:∀ s,s < S->Cg n (f s) (g s)):Brg n gs S ds g:=fun cs h1 h2 s hs=>(h cs h1 h2 s hs).trans (Cg.add Cg.rfl (e s hs))
theorem Brg.app {n:Int} {gs:List Int} {S:Nat} {ds es:List Dd} {f g:Nat->Int} (hn:0 < n) (h:Brg n gs S ds f) (h':Brg n gs S es g):Brg n gs S (ds++es) fun s=>f s+g s:=fun cs h1 h2 s hs=>by
 rw [eL]
 refine (h' _ (Rs.rn hn h1) (by rw [cB]; exact h2) s hs).trans ?_
 exact (Cg.add (h cs h1 h2 s hs) Cg.rfl).trans (Cg.of_eq (by show _=_+(f s+g s); omega))
theorem Brg.nil {n:Int} {gs:List Int} {S:Nat}:Brg n gs S [] fun _=>0:=fun cs _ _ s _=>Cg.of_eq (by show _=_+0; simp [rn])
noncomputable def mkA (d:Nat×Int×List Nat):Dd:=.add d.1 d.2.1 [] d.2.2
noncomputable def isum (ad:List (Nat×Int×List Nat)) (g:Nat->Int) (s:Nat):Int:=(ad.map fun d=>if d.1=s then d.2.1*pf g d.2.2 else 0).sum
theorem mZ {n:Int} {g h:Nat->Int} {s:Nat}:∀ {ad:List (Nat×Int×List Nat)},(∀ d∈ad,∀ t∈d.2.2,Cg n (g t) (h t))->Cg n (isum ad g s) (isum ad h s)
 | [],_=>Cg.rfl
 | d::ad,e=>by
  simp only [isum,List.map_cons,List.sum_cons]
  refine Cg.add ?_ (mZ (ad:=ad) fun x hx=>e x (by simp [hx]))
  split
  ·exact Cg.mul Cg.rfl (aIh (e d (by simp)))
  ·exact Cg.rfl
theorem sP {g:Nat->Int} {s:Nat}:∀ {ad:List (Nat×Int×List Nat)},(∀ d∈ad,d.1≠s)->isum ad g s=0
 | [],_=>rfl
 | d::ad,e=>by
  have:=sP (g:=g) (s:=s) (ad:=ad) fun x hx=>e x (by simp [hx])
  simp only [isum,List.map_cons,List.sum_cons] at this ⊢
  rw [this,if_neg (e d (by simp))]
  rfl
theorem qI {n:Int} {gs:List Int} {P:List Nat}:∀ {ad:List (Nat×Int×List Nat)} {cs:List Int},(∀ d∈ad,d.1∉P/\d.1 < cs.length/\∀ t∈d.2.2,t∈P)->∀ s,s < cs.length->Cg n ((rn n gs (ad.map mkA) cs).getD s 0) (cs.getD s 0+isum ad (fun t=>cs.getD t 0) s)
 | [],cs,_,s,_=>Cg.of_eq (by simp [rn,isum])
 | d::ad,cs,h,s,hs=>by
  obtain ⟨h1,h2,h3⟩:=h d (by simp)
  obtain ⟨cs',hc'⟩:∃ cs',cs'=dn n gs cs (mkA d):=⟨_,rfl⟩
  have hl:cs'.length=cs.length:=by rw [hc']; exact gL
  have at':∀ t,cs'.getD t 0=if t=d.1 then (cs.getD d.1 0+d.2.1*pf (fun t=>cs.getD t 0) d.2.2) % n else cs.getD t 0:=by
   intro t
   rw [hc']
   simp only [mkA,dn,vJ,Int.mul_one,<- aIq]
   by_cases e:t=d.1
   ·subst e; rw [if_pos rfl]; simp [List.getD,h2]
   ·rw [if_neg e]; simp [List.getD,List.getElem?_set_ne (Ne.symm e)]
  have ih:=qI (n:=n) (gs:=gs) (P:=P) (ad:=ad) (cs:=cs') (fun x hx=>by rw [hl]; exact h x (by simp [hx])) s (by omega)
  rw [List.map_cons,gX,<- hc']
  refine ih.trans ?_
  have e1:Cg n (isum ad (fun t=>cs'.getD t 0) s) (isum ad (fun t=>cs.getD t 0) s):=mZ fun x hx t ht=>by
   have:t≠d.1:=fun e=>h1 (e▸(h x (by simp [hx])).2.2 t ht)
   rw [at',if_neg this]
   exact Cg.rfl
  refine (Cg.add Cg.rfl e1).trans ?_
  rw [at']
  simp only [isum,List.map_cons,List.sum_cons]
  by_cases e:s=d.1
  ·rw [if_pos e,if_pos e.symm,e]
   exact (Cg.add Cg.mod Cg.rfl).trans (Cg.of_eq (by omega))
  ·rw [if_neg e,if_neg (Ne.symm e)]
   exact Cg.of_eq (by omega)
theorem oR {n w:Int} {gs:List Int}:∀ {P:List Nat} {cs:List Int},P.Nodup->(∀ s∈P,s < cs.length)->∀ s,s < cs.length->Cg n ((rn n gs (P.map fun s=>Dd.scale s w) cs).getD s 0) (if s∈P then cs.getD s 0*w else cs.getD s 0)
 | [],cs,_,_,s,_=>Cg.of_eq (by simp [rn])
 | p::P,cs,nd,h,s,hs=>by
  have hp:=h p (by simp)
  rw [List.map_cons,gX]
  have at':∀ t,(dn n gs cs (.scale p w)).getD t 0=if t=p then cs.getD p 0*w % n else cs.getD t 0:=by
   intro t
   simp only [dn]
   by_cases e:t=p
   ·subst e; rw [if_pos rfl]; simp [List.getD,hp]
   ·rw [if_neg e]; simp [List.getD,List.getElem?_set_ne (Ne.symm e)]
  have hl:(dn n gs cs (.scale p w)).length=cs.length:=gL
  obtain ⟨hnp,nd'⟩:=List.nodup_cons.mp nd
  refine (oR nd' (fun x hx=>by rw [hl]; exact h x (by simp [hx])) s (by omega)).trans ?_
  rw [at']
  by_cases e:s=p
  ·subst e
   rw [if_neg hnp,if_pos rfl,if_pos (by simp)]
   exact Cg.mod
  ·rw [if_neg e]
   have:(s∈p::P)=(s∈P):=by simp [e]
   simp only [this]
   exact Cg.rfl
noncomputable def rnd (n w:Int) (row:List Dd) (ad:List (Nat×Int×List Nat)) (P:List Nat):List Dd:=row++ad.map mkA++bDs n row++P.map fun s=>.scale s w
theorem aAo {n w:Int} {gs:List Int} {G S:Nat} {row:List Dd} {ad:List (Nat×Int×List Nat)} {P:List Nat} {f:Nat->Int} (hn:2<=n) (ok:∀ d∈row,OkD n G S d) (hb:Brg n gs S row f) (nd:P.Nodup) (hP:∀ s∈P,s < S) (ha:∀ d∈ad,d.1∉P/\d.1 < S/\∀ t∈d.2.2,t∈P)
  {cs:List Int} (hc:Rs n cs) (hl:cs.length=S):∀ s,s < S->Cg n ((rn n gs (rnd n w row ad P) cs).getD s 0) (if s∈P then cs.getD s 0*w else cs.getD s 0+isum ad (fun t=>cs.getD t 0+f t) s):=by
 have h0:0 < n:=by omega
 intro s hs
 obtain ⟨c1,e1⟩:∃ c1,c1=rn n gs row cs:=⟨_,rfl⟩
 have r1:Rs n c1:=by rw [e1]; exact Rs.rn h0 hc
 have l1:c1.length=S:=by rw [e1,cB]; exact hl
 have k1:∀ s,s < S->Cg n (c1.getD s 0) (cs.getD s 0+f s):=by rw [e1]; exact hb cs hc hl
 obtain ⟨c2,e2⟩:∃ c2,c2=rn n gs (ad.map mkA) c1:=⟨_,rfl⟩
 have r2:Rs n c2:=by rw [e2]; exact Rs.rn h0 r1
 have l2:c2.length=S:=by rw [e2,cB]; exact l1
 have k2:∀ s,s < S->Cg n (c2.getD s 0) (c1.getD s 0+isum ad (fun t=>c1.getD t 0) s):=by rw [e2]; exact fun s hs=>qI (P:=P) (by rw [l1]; exact ha) s (by omega)
 have ks:∀ s,Cg n (isum ad (fun t=>c1.getD t 0) s) (isum ad (fun t=>cs.getD t 0+f t) s):=fun s=>mZ fun d hd t ht=>k1 t (hP t ((ha d hd).2.2 t ht))
 obtain ⟨y,ey⟩:∃ y:List Int,y=(List.range S).map fun s=>(cs.getD s 0+isum ad (fun t=>cs.getD t 0+f t) s) % n:=⟨_,rfl⟩
 have ry:Rs n y:=by
  intro c hc
  rw [ey] at hc
  obtain ⟨s,_,rfl⟩:=List.mem_map.mp hc
  exact ⟨Int.emod_nonneg _ (by omega),Int.emod_lt_of_pos _ h0⟩
 have ly:y.length=S:=by rw [ey]; simp
 have ky:∀ s,s < S->y.getD s 0=(cs.getD s 0+isum ad (fun t=>cs.getD t 0+f t) s) % n:=by intro s hs; rw [ey]; simp [hs]
 have ec:rn n gs row y=c2:=by
  refine vL (Rs.rn h0 ry) r2 (by rw [cB,ly,l2]) fun s hs=>?_
  rw [cB,ly] at hs
  refine (hb y ry ly s hs).trans ?_
  refine Cg.trans ?_ (k2 s hs).symm
  rw [ky s hs]
  refine (Cg.add Cg.mod Cg.rfl).trans ?_
  refine Cg.trans (Cg.of_eq ?_) (Cg.add (k1 s hs).symm (ks s).symm)
  omega
 have e3:rn n gs (bDs n row) c2=y:=by rw [<- ec]; exact sJ h0 ry (by rw [ly]; exact ok)
 unfold rnd
 rw [eL,eL,eL,<- e1,<- e2,e3]
 refine (oR nd (by rw [ly]; exact hP) s (by omega)).trans ?_
 rw [ky s hs]
 by_cases hp:s∈P
 ·rw [if_pos hp,if_pos hp]
  refine (Cg.mul Cg.mod Cg.rfl).trans (Cg.of_eq ?_)
  rw [sP (fun d hd e=>(ha d hd).1 (e▸hp)),Int.add_zero]
 ·rw [if_neg hp,if_neg hp]
  exact Cg.mod
theorem yW {w:Int} {x v:Nat->Int} {s m:Nat}:∀ {ad:List (Nat×Int×List Nat)},sg m (fun j=>isum ad (fun t=>x t*w ^ j+v t) s)=(ad.map fun d=>if d.1=s then d.2.1*sg m (fun j=>pf (fun t=>x t*w ^ j+v t) d.2.2) else 0).sum
 | []=>by
  simp only [isum,List.map_nil,List.sum_nil]
  induction m with
  | zero=>rfl
  | succ m ih=>rw [eN,ih]; rfl
 | d::ad=>by
  have ih:=yW (w:=w) (x:=x) (v:=v) (s:=s) (m:=m) (ad:=ad)
  rw [List.map_cons,List.sum_cons,<- ih]
  have:sg m (fun j=>isum (d::ad) (fun t=>x t*w ^ j+v t) s)=sg m (fun j=>(if d.1=s then d.2.1*pf (fun t=>x t*w ^ j+v t) d.2.2 else 0)+isum ad (fun t=>x t*w ^ j+v t) s):=by
   congr 1
  rw [this,wL]
  congr 1
  by_cases e:d.1=s
  ·simp only [if_pos e]; exact rM
  ·simp only [if_neg e]
   clear this ih
   induction m with
   | zero=>rfl
   | succ m ih=>rw [eN,ih]; rfl
theorem wP {n w u:Int} {gs:List Int} {G S m:Nat} {row:List Dd} {ad:List (Nat×Int×List Nat)} {P:List Nat} {f:Nat->Int} (hn:2<=n) (hw:Rt n w m) (ok:∀ d∈row,OkD n G S d) (hb:Brg n gs S row f) (nd:P.Nodup) (hP:∀ s∈P,s < S) (ha:∀ d∈ad,d.1∉P/\d.1 < S/\(∀ t∈d.2.2,t∈P)/\d.2.2.length < m) :
  Brg n gs S (List.replicate m (rnd n w row ad P)).flatten fun s=>if s∈P then 0 else (ad.map fun d=>if d.1=s then d.2.1*(m*pf f d.2.2) else 0).sum:=by
 have h0:0 < n:=by omega
 intro cs hc hl
 have key:∀ i,Rs n (rn n gs (List.replicate i (rnd n w row ad P)).flatten cs)/\(rn n gs (List.replicate i (rnd n w row ad P)).flatten cs).length=S/\∀ s,s < S->Cg n ((rn n gs (List.replicate i (rnd n w row ad P)).flatten cs).getD s 0) (if s∈P then cs.getD s 0*w ^ i else cs.getD s 0+sg i fun j=>isum ad (fun t=>cs.getD t 0*w ^ j+f t) s):=by
  intro i
  refine ⟨Rs.rn h0 hc,by rw [cB]; exact hl,?_⟩
  induction i with
  | zero =>
   intro s hs
   refine Cg.of_eq ?_
   simp [rn,sg]
  | succ i ih =>
   intro s hs
   rw [List.replicate_succ',List.flatten_append,List.flatten_singleton,eL]
   obtain ⟨X,eX⟩:∃ X,X=rn n gs (List.replicate i (rnd n w row ad P)).flatten cs:=⟨_,rfl⟩
   rw [<- eX] at ih ⊢
   have rX:Rs n X:=by rw [eX]; exact Rs.rn h0 hc
   have lX:X.length=S:=by rw [eX,cB]; exact hl
   refine (aAo hn ok hb nd hP (fun d hd=>⟨(ha d hd).1,(ha d hd).2.1,(ha d hd).2.2.1⟩) rX lX s hs).trans ?_
   by_cases hp:s∈P
   ·have:=ih s hs
    rw [if_pos hp] at this ⊢
    rw [if_pos hp]
    exact (Cg.mul this Cg.rfl).trans (Cg.of_eq (by rw [Int.pow_succ]; grind))
   ·have:=ih s hs
    rw [if_neg hp] at this ⊢
    rw [if_neg hp,eN]
    refine (Cg.add this (mZ (h:=fun t=>cs.getD t 0*w ^ i+f t) fun d hd t ht=>?_)).trans (Cg.of_eq (show _=cs.getD s 0+(sg i (fun j=>isum ad (fun t=>cs.getD t 0*w ^ j+f t) s)+isum ad (fun t=>cs.getD t 0*w ^ i+f t) s) by omega))
    have tp:=(ha d hd).2.2.1 t ht
    have:=ih t (hP t tp)
    rw [if_pos tp] at this
    exact Cg.add this Cg.rfl
 intro s hs
 refine ((key m).2.2 s hs).trans ?_
 dsimp only
 by_cases hp:s∈P
 ·rw [if_pos hp,if_pos hp]
  exact (Cg.mul Cg.rfl hw.one).trans (Cg.of_eq (by omega))
 ·rw [if_neg hp,if_neg hp]
  refine Cg.add Cg.rfl ?_
  rw [yW]
  have all:∀ ad':List (Nat×Int×List Nat),(∀ d∈ad',d.2.2.length < m)->Cg n ((ad'.map fun d=>if d.1=s then d.2.1*sg m (fun j=>pf (fun t=>cs.getD t 0*w ^ j+f t) d.2.2) else 0).sum) ((ad'.map fun d=>if d.1=s then d.2.1*(m*pf f d.2.2) else 0).sum):=by
   intro ad'
   induction ad' with
   | nil=>intro _; exact Cg.rfl
   | cons d ad' ih =>
    intro h
    rw [List.map_cons,List.map_cons,List.sum_cons,List.sum_cons]
    refine Cg.add ?_ (ih fun x hx=>h x (by simp [hx]))
    by_cases e:d.1=s
    ·rw [if_pos e,if_pos e]
     refine Cg.mul Cg.rfl ?_
     have:=polysum hw (x:=fun t=>cs.getD t 0) (v:=f) d.2.2 0 (by have:=h d (by simp); omega)
     rw [if_pos rfl] at this
     refine Cg.trans (Cg.of_eq ?_) this
     congr 1
     funext i
     simp
    ·rw [if_neg e,if_neg e]
     exact Cg.rfl
  exact all ad fun d hd=>(ha d hd).2.2.2
end LS
namespace L2
open PySem PySem.Spec PyProof.Rows
open AutoSeq1 (wpAny_loadPart')
section
variable {prog:Program} {w:World} {A:Around} {E:Value->Shared->Prop} {s:Shared}
theorem mM {R:Result->Shared->Prop} {r:Addr} {a b c:Int} {t u v:Tok} {n:Nat} (hh:A.handled=none) (hr:IsRange s.heap r a b c t u v) (hsmall:Builtin.Range.small a b c=true)
  (hn:Builtin.Range.rangeSize a b c=n) (hlen:n<=2 ^ 24) (S:Addr) (c₀:Nat) (hS:s.heap.get? S=some { cls:=.type "list",data:=.seq #[] c₀ })
  (hR:∀ h' tk acc' c',(∀ b o,b≠S->s.heap.get? b=some o->h'.get? b=some o)->h'.get? S=some { cls:=.type "list",dict:=none,data:=.seq acc' c',slots:=#[] } ->
   ItemsOf (fun i v=>∃ t,v=.int (a+i*c) t) acc' n->R (.ok (.ret (.ref S))) { s with heap:=h',toks:=tk }) :
  codeAny (model prog w) A (.builtin "list.__iadd__" ⟨[.ref S,.ref r],[]⟩) R s:=by
 refine codeAny_builtin F.entry_list_iadd ?_
 rw [Around.under_plainId F.plain_list_iadd _]
 show wpAny _ A.in1 (Builtin.List.listExtendWith (.ref S) (.ref r) (.ref S)) _ _ _
 exact wpAny_extend_range (R:=R) hh hr hsmall hn hlen S _ c₀ hS hR
theorem pO {Q:List Value->Shared->Prop} {r:Addr} {a b c:Int} {t u v:Tok} {n:Nat} (hh:A.handled=none) (hr:IsRange s.heap r a b c t u v) (hsmall:Builtin.Range.small a b c=true)
  (hn:Builtin.Range.rangeSize a b c=n) (hlen:n<=2 ^ 24)
  (hQ:∀ s' acc,(∀ b o,s.heap.get? b=some o->s'.heap.get? b=some o)->s'.gens=s.gens->s'.drawn=s.drawn->s'.os=s.os->s.heap.objs.size<=s'.heap.objs.size->ItemsOf (fun i v=>∃ t,v=.int (a+i*c) t) acc n->Q acc.toList s') :
  wpAny (model prog w) A (collect (.ref r)) Q E s:=by
 unfold collect
 refine wpAny_bind (wpAny_runValue (codeAny_builtin F.entry_proto_collect ?_))
 rw [Around.under_plainId F.plain_proto_collect _]
 show wpAny _ A.in1 (newList [] >>= fun l=>again (.builtin "list.__iadd__" ⟨[l,.ref r],[]⟩)) _ _ s
 refine wpAny_bind (wpAny_newObj_type ?_)
 have hS₁:(s.heap.push { cls:=.type "list",data:=.seq ([]:List Value).toArray }).get? s.heap.objs.size=some { cls:=.type "list",data:=.seq ([]:List Value).toArray }:=Heap.get?_push_size _ rfl
 refine wpAny_pure ⟨plainId_quiet F.plain_list_iadd _,mM (s:={ s with heap:=s.heap.push { cls:=.type "list",data:=.seq ([]:List Value).toArray } }) hh (Heap.get?_push_of_some _ hr) hsmall hn hlen s.heap.objs.size _ hS₁ fun h' tk acc' c' kp hS' hacc=>?_⟩
 show wpAny _ A (load s.heap.objs.size >>= _) _ _ _
 refine wpAny_bind (wpAny_load hS' ?_)
 exact wpAny_pure (hQ _ acc' (fun b o e=>kp b o (Nat.ne_of_lt (Heap.lt_size e)) (Heap.get?_push_of_some _ e)) rfl rfl rfl (Nat.le_of_lt (Heap.lt_size hS')) hacc)
theorem kN (r:Addr) (a b c:Int) (t u v:Tok) (n:Nat) (hsmall:Builtin.Range.small a b c=true) (hn:Builtin.Range.rangeSize a b c=n) (hlen:n<=2 ^ 24) :
  Meets (Builtin.«tuple.__new__» ⟨[.type "tuple",.ref r],[]⟩)
   (fun A R s=>A.handled=none/\IsRange s.heap r a b c t u v/\∀ (s':Shared) (acc:Array Value),(∀ b o,s.heap.get? b=some o->s'.heap.get? b=some o)->s'.gens=s.gens->s'.drawn=s.drawn->s'.os=s.os->s.heap.objs.size<=s'.heap.objs.size->ItemsOf (fun i v=>∃ t,v=.int (a+i*c) t) acc n ->
    R (.ok (.ret (.ref s'.heap.objs.size))) { s' with heap:=s'.heap.push { cls:=.type "tuple",data:=.seq acc } }) :=
 .of_wp fun prog w A R s h=>by
  obtain ⟨hh,hr,h⟩:=h
  have hsub:=sub_tuple_self
  have hinit:=init_tuple_lookup
  have hmh:=madeHere_tuple
  have hT:s.TypeIs (.ref r) "range":=⟨_,hr,rfl⟩
  have hh1:A.in1.handled=none:=hh
  wp_walk using wpAny_typeOf hT,pO hh1 hr hsmall hn hlen
  intro s' acc hk hg hd hos hle hacc
  show wpAny _ _ (Builtin.Tuple.tupleExact acc.toList.toArray >>= fun v=>ret v) _ _ _
  unfold Builtin.Tuple.tupleExact
  refine wpAny_bind (wpAny_newObj_type ?_ (show acc.toList.toArray.size<=sizeLine by simp only [Array.toArray_toList]; rw [hacc.1,sizeLine_eq]; omega))
  refine wpAny_pure ⟨_,rfl,?_⟩
  have e:acc.toList.toArray=acc:=by simp
  rw [e]
  exact h s' acc hk hg hd hos hle hacc
theorem lT {Q:Value->Shared->Prop} {r:Addr} {a b c:Int} {t u v:Tok} {n:Nat} (hh:A.handled=none) (hr:IsRange s.heap r a b c t u v) (hsmall:Builtin.Range.small a b c=true)
  (hn:Builtin.Range.rangeSize a b c=n) (hlen:n<=2 ^ 24)
  (h:∀ (h':Heap) (tk:Nat) (acc:Array Value),(∀ b o,s.heap.get? b=some o->h'.get? b=some o)->s.heap.objs.size<=h'.objs.size->ItemsOf (fun i v=>∃ t,v=.int (a+i*c) t) acc n->Q (.ref h'.objs.size) { s with heap:=h'.push { cls:=.type "tuple",data:=.seq acc },toks:=tk }) :
  wpAny (model prog w) A (call (.type "tuple") [.ref r]) Q E s:=by
 refine callType_new F.called_tuple (by decide) (F.typeCall_tuple_1 _) (F.newCall_tuple_1 _) (fun obj=>F.args_object_init_2 obj _) F.entry_tuple_new
  (kN r a b c t u v n hsmall hn hlen) ⟨hh,hr,fun s' acc hk hg hd hos hle hacc=>⟨⟨_,Heap.get?_push_size _ rfl,rfl⟩,?_⟩⟩
 obtain ⟨h',g',d',tk',os'⟩:=s'
 have e1:g'=s.gens:=hg
 have e2:d'=s.drawn:=hd
 have e3:os'=s.os:=hos
 subst e1 e2 e3
 exact h h' tk' acc hk hle hacc
end
section
variable {X:Cx}
theorem tO:CallR X (.type "range") (fun xs H Q=>∃ i j,xs=[.int i,.int j]/\∀ p,H p=none->Q (.ref p) (upd H p (.rng i j))):=by
 intro pins s σ H xs us Q I r h
 obtain ⟨i,j,e,q⟩:=h
 subst e
 obtain ⟨u1,u2,rfl,r1,r2⟩:=r.two
 obtain ⟨t1,rfl⟩:=r1
 obtain ⟨t2,rfl⟩:=r2
 refine call_range_2 ⟨.ref s.heap.objs.size,upd H s.heap.objs.size (.rng i j),?_,rfl,q _ (I.hok.fresh (Nat.le_refl _))⟩
 exact I.laid (fun b u e=>Heap.get?_push_of_some _ e) (Nat.le_refl _) ⟨_,_,_,Heap.get?_push_size _ rfl⟩
end
end L2
namespace EV
open PySem PySem.Spec PyProof.Rows L2
section
variable {X:Cx} {K:PySem.W.Frag} {Z:Zt} {μ:List Addr} {H:Hp} {M:Mm} {a b:Expr} {pos pos2:Pos} {f g:FE}
noncomputable def rInts2 (lo:Int) (n:Nat):List Int:=(List.range n).map fun k=>lo+(k:Nat)
theorem vM {lo:Int} {n:Nat}:rngD lo n=(rInts2 lo n).map D.int:=by unfold rngD rInts2; rw [List.map_map]; rfl
theorem wC {lo:Int} {n:Nat} {acc:Array Value} (h:ItemsOf (fun i v=>∃ t,v=.int (lo+i*1) t) acc n):Vals ((rInts2 lo n).map V.int) acc.toList:=by
 have key:∀ (l:List Value) (k:Nat),(∀ j v,l[j]?=some v->∃ t,v=Value.int (lo+((k+j:Nat):Int)) t)->Vals ((List.range' k l.length).map fun i=>V.int (lo+(i:Nat))) l:=by
  intro l
  induction l with
  | nil=>intro k _; exact .nil
  | cons x r ih =>
   intro k hk
   rw [List.length_cons,List.range'_succ,List.map_cons]
   refine .cons ?_ (ih (k+1) fun j v e=>?_)
   ·obtain ⟨t,e⟩:=hk 0 x rfl
    exact ⟨t,by simpa using e⟩
   ·obtain ⟨t,e'⟩:=hk (j+1) v (by simpa using e)
    exact ⟨t,by rw [e']; congr 2; omega⟩
 have hl:acc.toList.length=n:=h.1
 have:=key acc.toList 0 fun j v e=>by
  obtain ⟨t,e'⟩:=h.2 j v (by simpa using e)
  exact ⟨t,by rw [e']; first | rfl | (congr 1 <;> omega)⟩
 rw [hl] at this
 unfold rInts2
 rw [List.map_map,List.range_eq_range']
 exact this
noncomputable def rTR:List V->Hp->VK->Prop:=fun xs H Q=>∃ p i j,xs=[.ref p]/\H p=some (.rng i j)/\(-1000000<=i/\i<=1000000 /\ -1000000<=j/\j<=1000000)/\∀ l,H l=none->Q (.ref l) (upd H l (.tup ((rInts2 i (j - i).toNat).map V.int)))
theorem rN (hc:X.calm=true):CallR X (.type "tuple") rTR:=by
 intro pins s σ H xs us Q I r h
 obtain ⟨p,i,j,rfl,hq,⟨h0,h1,h2,h3⟩,q⟩:=h
 obtain ⟨u,rfl,rx⟩:=vals1 r
 cases rx
 obtain ⟨t,u,v,ho⟩:=(show ObjOk X.prog X.w H s.heap p (.rng i j) from I.hok p _ hq)
 refine lT (n:=(j - i).toNat) (I.ok.hd hc) ho (small_one (by omega) (by omega) (by omega) (by omega)) (by rw [rangeSize_one]; split <;> omega) (by omega) fun h' tk acc kp hle hacc=>?_
 refine ⟨.ref h'.objs.size,_,I.laid (t':=tk) (fun b o e=>Heap.get?_push_of_some _ (kp b o e)) hle (show ObjOk X.prog X.w _ _ _ (.tup ((rInts2 i (j - i).toNat).map V.int)) from ⟨by rw [sizeLine_eq]; simp [rInts2]; omega,acc.toList,wC hacc,_,Heap.get?_push_size _ rfl,rfl,0,by simp⟩),rfl,q _ (I.hok.fresh hle)⟩
noncomputable def cTR (w u:W) (M:Mm):Oc W:=match w,u with
 | .d (.int i),.d (.int j)=>if -1000000<=i/\i<=1000000 /\ -1000000<=j/\j<=1000000 then okD (.tup (rngD i (j - i).toNat)) M else .bad
 | _,_=>.bad
noncomputable abbrev eTupleRange2 (f g:FE):FE:=e2 cTR f g
theorem uD:bootBuiltins "tuple"=some (.type "tuple"):=by first | rfl | kernel_rfl
theorem oV {p p2:Pos} (hc:X.calm=true) (hm:X.mg "tuple"=none) (hm2:X.mg "range"=none) (ha:Ev X K Z a f) (hb:Ev X K Z b g) (hg:Gl X "tuple":=by rfl) (hg2:Gl X "range":=by rfl) (hs:starEach [a,b] X.env=[(false,eval a X.env),(false,eval b X.env)]:=by rfl) (hs3:starEach [b] X.env=[(false,eval b X.env)]:=by rfl)
  (hs2:starEach [.Call (.Name "range" p2) [a,b] [] pos2] X.env=[(false,eval (.Call (.Name "range" p2) [a,b] [] pos2) X.env)]:=by rfl):Ev X K Z (.Call (.Name "tuple" p) [.Call (.Name "range" p2) [a,b] [] pos2] [] pos) (eTupleRange2 f g):=by
 refine ⟨ha.k,cqE (lI (rN hc) hg hm uD (cZ (lI tO hg2 hm2 tW (cZ ha.h (cZ hb.h fK hs3) (by rw [hs,hs3])) (by decide) (by decide) (by rw [hs,hs3]) (by rw [hs3]; rfl)) fK hs2) (by decide) (by decide) hs2 rfl) ?_⟩
 rintro σ H Q ⟨μ,M,L,hr,lr,p⟩
 refine ⟨μ,M,L,hr,lr,p.bind.imp fun μ1 H1 M1 w e1 hr1 _ p1 v rw'=>?_⟩
 refine ⟨μ1,M1,L,hr1,lr.ext hr.lsts e1,p1.bind.imp fun μ2 H2 M2 u e2 hr2 _ p2 v2 ru=>?_⟩
 have rw':=rw'.ext hr1.lsts e2
 cases w with
 | ref i=>exact p2.elim
 | d x=>cases x with
  | int i=>cases u with
   | ref j=>exact p2.elim
   | d y=>cases y with
    | int j =>
     simp only [cTR] at p2
     split at p2
     ·rename_i hz
      simp only [Rw,Rp] at rw' ru
      subst rw' ru
      refine ⟨i,j,rfl,fun q hq=>⟨q,i,j,rfl,dL,hz,?_⟩⟩
      have p3:=Pst.mono (iG (o:=.rng i j) hr2 hq) p2
      rw [vM] at p3
      exact jK (hr2.lay hq) Rps.ints p3
     ·exact p2.elim
    | _=>exact p2.elim
  | _=>exact p2.elim
end
section
variable {L:Lc} {M:Mm} {EX:D->Mm->Prop}
theorem aNa {i j:Int} {Q:W->Mm->Prop} (hz : -1000000<=i/\i<=1000000 /\ -1000000<=j/\j<=1000000) (q:Q (.d (.tup (rngD i (j - i).toNat))) M):Okx EX (cTR (.d (.int i)) (.d (.int j)) M) Q:=by
 simp only [cTR]; rw [if_pos hz]; exact aJ q
end
end EV
namespace EV
open PySem
theorem exS {P:List Value->Prop} {k:Nat} (h:∀ a us,us.length=k->P (a::us)):∀ us:List Value,us.length=k+1->P us
 | a::us,e=>h a us (Nat.succ.inj e)
theorem ex0 {P:List Value->Prop} (h:P []) (us:List Value) (e:us.length=0):P us:=by rw [List.eq_nil_of_length_eq_zero e]; exact h
theorem ex1 {P:List Value->Prop} (h:∀ a,P [a]):∀ us:List Value,us.length=1->P us:=exS fun a=>ex0 (P:=fun us=>P (a::us)) (h a)
theorem ex2 {P:List Value->Prop} (h:∀ a b,P [a,b]):∀ us:List Value,us.length=2->P us:=exS fun a=>ex1 (P:=fun us=>P (a::us)) (h a)
theorem ex3 {P:List Value->Prop} (h:∀ a b c,P [a,b,c]):∀ us:List Value,us.length=3->P us:=exS fun a=>ex2 (P:=fun us=>P (a::us)) (h a)
theorem ex4 {P:List Value->Prop} (h:∀ a b c d,P [a,b,c,d]):∀ us:List Value,us.length=4->P us:=exS fun a=>ex3 (P:=fun us=>P (a::us)) (h a)
theorem ex5 {P:List Value->Prop} (h:∀ a b c d e,P [a,b,c,d,e]):∀ us:List Value,us.length=5->P us:=exS fun a=>ex4 (P:=fun us=>P (a::us)) (h a)
theorem ex6 {P:List Value->Prop} (h:∀ a b c d e f,P [a,b,c,d,e,f]):∀ us:List Value,us.length=6->P us:=exS fun a=>ex5 (P:=fun us=>P (a::us)) (h a)
theorem ex7 {P:List Value->Prop} (h:∀ a b c d e f g,P [a,b,c,d,e,f,g]):∀ us:List Value,us.length=7->P us:=exS fun a=>ex6 (P:=fun us=>P (a::us)) (h a)
end EV
set_option maxHeartbeats 400000
namespace ZP
open PySem PySem.Spec PyProof.Rows
section
variable {prog:Program} {w:World} {A:Around} {E:Value->Shared->Prop} {s:Shared}
noncomputable abbrev IsTrip (h:Heap) (T:Addr) (a b c:Value):Prop:=h.get? T=some { cls:=.type "tuple",data:=.seq #[a,b,c] }
set_option genSizeOf false in
set_option genInjectivity false in
structure Ap3 (z TI TO i1 i2 i3 l1 l2 l3:Addr):Prop where
 z_TI:z≠TI
 z_TO:z≠TO
 z_i1:z≠i1
 z_i2:z≠i2
 z_i3:z≠i3
 TI_z:TI≠z
 TI_TO:TI≠TO
 TI_i1:TI≠i1
 TI_i2:TI≠i2
 TI_i3:TI≠i3
 TO_z:TO≠z
 TO_TI:TO≠TI
 TO_i1:TO≠i1
 TO_i2:TO≠i2
 TO_i3:TO≠i3
 i1_z:i1≠z
 i1_TI:i1≠TI
 i1_TO:i1≠TO
 i1_i2:i1≠i2
 i1_i3:i1≠i3
 i2_z:i2≠z
 i2_TI:i2≠TI
 i2_TO:i2≠TO
 i2_i1:i2≠i1
 i2_i3:i2≠i3
 i3_z:i3≠z
 i3_TI:i3≠TI
 i3_TO:i3≠TO
 i3_i1:i3≠i1
 i3_i2:i3≠i2
 l1_z:l1≠z
 l1_TI:l1≠TI
 l1_TO:l1≠TO
 l1_i1:l1≠i1
 l1_i2:l1≠i2
 l1_i3:l1≠i3
 l2_z:l2≠z
 l2_TI:l2≠TI
 l2_TO:l2≠TO
 l2_i1:l2≠i1
 l2_i2:l2≠i2
 l2_i3:l2≠i3
 l3_z:l3≠z
 l3_TI:l3≠TI
 l3_TO:l3≠TO
 l3_i1:l3≠i1
 l3_i2:l3≠i2
 l3_i3:l3≠i3
structure Zs3 (h:Heap) (z TI TO i1 i2 i3 l1 l2 l3:Addr) (i:Nat) (xs ys us:Array Value):Prop where
 z:∃ f0 f1,h.get? z=some (zobj TI TO f0 f1)/\(f0=.none\/∃ T:Nat,f0=rawInt T)
 ti:IsTrip h TI (.ref i1) (.ref i2) (.ref i3)
 to:∃ a b c,IsTrip h TO a b c
 a:It1 h i1 l1 i xs
 b:It1 h i2 l2 i ys
 c:It1 h i3 l3 i us
end
end ZP
namespace L2
open PySem PySem.Spec PyProof.Rows
theorem Vals.three:∀ {x y z:V} {us:List Value},Vals [x,y,z] us->∃ u v w,us=[u,v,w]/\RelV x u/\RelV y v/\RelV z w
 | _,_,_,_,.cons r (.cons q (.cons p .nil))=>⟨_,_,_,rfl,r,q,p⟩
end L2
namespace EV
open PySem PySem.Spec PyProof.Rows L2
variable {EX:D->Mm->Prop}
section
variable {X:Cx} {K:PySem.W.Frag} {Z:Zt} {μ:List Addr} {H:Hp} {M:Mm} {a b c:Expr} {pos:Pos} {f g k:FE} {tg:Expr}
noncomputable def zipT3:List D->List D->List D->List D
 | x::xs,y::ys,r::rs=>.tup [x,y,r]::zipT3 xs ys rs
 | _,_,_=>[]
noncomputable def iZip3 (f g k:FE):FI:=fun L M=>(f L M).bind fun x M1=>(g L M1).bind fun y M2=>(k L M2).bind fun r M3=>match x,y,r with
 | .d (.tup xs),.d (.tup ys),.d (.tup rs)=>if xs.length=ys.length/\xs.length=rs.length then .ok ⟨zipT3 xs ys rs,none⟩ M3 else .bad
 | _,_,_=>.bad
end
section
variable {L:Lc} {M:Mm} {f g k:FE}
theorem aDm {QI:Src->Mm->Prop} (h:Okx EX (f L M) fun x M1=>Okx EX (g L M1) fun y M2=>Okx EX (k L M2) fun r M3=>∃ xs ys rs,x=.d (.tup xs)/\y=.d (.tup ys)/\r=.d (.tup rs)/\xs.length=ys.length/\xs.length=rs.length/\QI ⟨zipT3 xs ys rs,none⟩ M3):Okx EX (iZip3 f g k L M) QI :=
 aF (h.mono fun x M1 z=>aF (z.mono fun y M2 z=>aF (z.mono fun r M3 ⟨xs,ys,rs,e1,e2,e3,h1,h2,q⟩=>by subst e1 e2 e3; simp only []; rw [if_pos ⟨h1,h2⟩]; exact aJ q)))
end
end EV
namespace RT
open PySem PySem.Spec PyProof.Rows
section
variable {prog:Program} {w:World} {A:Around} {E:Value->Shared->Prop} {s:Shared}
end
end RT
namespace L2
open PySem PySem.Spec PyProof.Rows
end L2
namespace EV
open PySem PySem.Spec PyProof.Rows L2
section
variable {X:Cx} {K:PySem.W.Frag} {Z:Zt} {μ:List Addr} {H:Hp} {M:Mm} {a:Expr} {pos pos2:Pos} {f:FE}
noncomputable def cTupRev (w:W) (M:Mm):Oc W:=match w with
 | .d (.tup xs)=>if xs.length<=16777216 then okD (.tup xs.reverse) M else .bad
 | _=>.bad
end
section
variable {L:Lc} {M:Mm} {EX:D->Mm->Prop}
theorem zL {xs:List D} {Q:W->Mm->Prop} (hz:xs.length<=16777216) (q:Q (.d (.tup xs.reverse)) M):Okx EX (cTupRev (.d (.tup xs)) M) Q:=by
 simp only [cTupRev]; rw [if_pos hz]; exact aJ q
end
end EV
namespace EV
open PySem
end EV
namespace L2
open PySem PySem.Spec PyProof.Rows
structure CompOkC (p:Str) (N0:List Str) (sc0:Scope) (scope:Scope) (Nc:List Str) (js:List (Option Nat)):Prop where
 kind:scope.kind=.function
 one:scope.names.filter (fun y=>y.2==.cell)=[(p,.cell)]
 pc:scope.names.lookup p=some .cell
 names:∀ y∈scope.names,y.2=.local->scope.names.lookup y.1=some .local
 free:∀ y∈scope.names,y.2=.free->sc0.names.lookup y.1=some .cell
 len:js.length=Nc.length
 slots:∀ p∈Nc.zip js,∀ j∈p.2,N0[j]?=some p.1/\scope.names.lookup p.1=some .free/\sc0.names.lookup p.1=some .cell
noncomputable def compOkCB (p:Str) (N0:List Str) (sc0 scope:Scope) (Nc:List Str) (js:List (Option Nat)):Bool :=
 decide (scope.kind=.function)&&(scope.names.filter (fun y=>y.2==.cell)==[(p,.cell)])&&(scope.names.lookup p==some .cell)&&scope.names.all (fun y=>y.2 != .local || scope.names.lookup y.1==some .local)&&scope.names.all (fun y=>y.2 != .free || sc0.names.lookup y.1==some .cell) &&
  (js.length==Nc.length)&&(Nc.zip js).all (fun p=>match p.2 with | none=>true | some j=>N0[j]?==some p.1&&scope.names.lookup p.1==some .free&&sc0.names.lookup p.1==some .cell)
theorem CompOkC.of {p:Str} {N0:List Str} {sc0 scope:Scope} {Nc:List Str} {js:List (Option Nat)} (h:compOkCB p N0 sc0 scope Nc js=true):CompOkC p N0 sc0 scope Nc js:=by
 unfold compOkCB at h
 simp only [Bool.and_eq_true,List.all_eq_true,beq_iff_eq,decide_eq_true_eq] at h
 obtain ⟨⟨⟨⟨⟨⟨h1,h2⟩,h7⟩,h3⟩,h4⟩,h5⟩,h6⟩:=h
 refine ⟨h1,h2,h7,fun y hy e=>?_,fun y hy e=>?_,h5,fun p hp j hj=>?_⟩
 ·have:=h3 y hy
  simpa [e] using this
 ·have:=h4 y hy
  simpa [e] using this
 ·have:=h6 p hp
  have hj:p.2=some j:=hj
  rw [hj] at this
  simpa [and_assoc] using this
section
variable {X:Cx} {pins:List (Addr×Obj)} {σ:St} {H₂:Hp} {s₂:Shared} {fp:List Addr} {Nc:List Str} {scope:Scope} {js:List (Option Nat)} {cl:List (Str×Addr)} {C Cc:Addr} {p:Str}
end
section
variable {X:Cx} {tg iter elt:Expr} {ifs:List Expr} {scope:Scope} {pos:Pos} {Nc:List Str} {js:List (Option Nat)} {g:TG} {ti:TT} {te:TE} {wi:TI} {pn:Str}
end
end L2
namespace EV
open PySem PySem.Spec PyProof.Rows L2
section
variable {X:Cx} {K:PySem.W.Frag} {Z:Zt} {pos:Pos} {pn:Str}
end
end EV
namespace L2
open PySem PySem.Spec PyProof.Rows
section
variable {X:Cx}
end
end L2
namespace EV
open PySem PySem.Spec PyProof.Rows L2
section
variable {X:Cx} {K:PySem.W.Frag} {Z:Zt}
noncomputable def pIsNotB (x y:W) (M:Mm):Oc W:=match x,y with
 | .d (.bl a),.d (.bl b)=>.ok (.d (.bl (a != b))) M
 | _,_=>.bad
end
section
variable {M:Mm} {EX:D->Mm->Prop}
theorem aAs {a b:Bool} {Q:W->Mm->Prop} (q:Q (.d (.bl (a != b))) M):Okx EX (pIsNotB (.d (.bl a)) (.d (.bl b)) M) Q:=aJ q
end
end EV
namespace L2
open PySem PySem.Spec PySem.W PySem.Calls PyProof.Rows Builtin Builtin.ObjectAttr
section
variable {X:Cx} {C LE:Addr} {e:Expr} {pos:Pos}
end
end L2
namespace L2
open PySem PySem.Spec PyProof.Rows
section
variable {X:Cx}
end
end L2
namespace EV
open PySem PySem.Spec PyProof.Rows L2
section
variable {X:Cx} {K:PySem.W.Frag} {Z:Zt}
variable {R:Addr->Hp->Prop} {μ:List Addr} {H:Hp} {M:Mm} {a:Expr} {pos:Pos} {fa:FE}
end
section
variable {M:Mm} {EX:D->Mm->Prop}
end
end EV
namespace EV
open PySem
section
variable {EX:D->Mm->Prop} {L:Lc} {M:Mm} {f:FE} {gg:FG} {Q:W->Mm->Prop}
end
end EV
namespace L2
open PySem PySem.Spec PyProof.Rows
noncomputable def XRs (P:Addr->Prop) (H:Hp) (h:Heap) (e C:Addr) (d:Option Addr):Prop :=
 ∃ vs sl T cT dT ts sT,h.get? e=some ⟨.ref C,d,.fields vs,sl⟩/\1 < vs.size/\vs[1]?=some (.ref T)/\P T/\H T=none/\h.get? T=some ⟨cT,dT,.fields ts,sT⟩/\3 < ts.size
section
variable {M:Model} {A A':Around} {E:Value->Shared->Prop} {s:Shared} {env env':Env} {outer:List Env} {base:Heap} {L e C:Addr} {d:Option Addr} {H:Hp} {P:Addr->Prop} {Q:Unit->Shared->Prop}
theorem qJ {vs:Array Value} {sl:Array (Option Value)} {head:Value} {hb:Bool} (hfr:A.frames=some (env::outer)) (hl:s.heap.FunFrames base (env::outer)) (hf:env.frame=some L)
  (he:s.heap.get? e=some ⟨.ref C,d,.fields vs,sl⟩) (hz:1 < vs.size) (hP:∀ T,s.heap.objs.size<=T->P T) (hN:∀ T,s.heap.objs.size<=T->H T=none)
  (hQ:∀ h',(∀ b o,b≠e->b∉frs (env::outer)->s.heap.get? b=some o->h'.get? b=some o)->(∀ b o,b∈frs (env::outer)->s.heap.get? b=some o->∃ sl,h'.get? b=some { o with slots:=sl }) ->
   XRs P H h' e C d->Q () { s with heap:=h' }) :
  wpAny M A (do let a <- frameOf env; let pl <- entryPlaceOf L hb; let t <- EntryCells.newEntry head a .none (rawInt L) .none pl; setField (.ref e) 1 t) Q E s:=by
 have nfr:e∉frs (env::outer):=fun z=>by
  obtain ⟨_,o,q,n⟩:=hl.mem z
  rw [he] at q; cases q; exact n vs rfl
 refine wpAny_bind (wpAny_frameOf_fun hfr hl hf fun h1 so=>?_)
 refine wpAny_bind (wpAny_entryPlaceOf fun pl isp=>wpAny_bind ?_)
 unfold EntryCells.newEntry newFields
 refine wpAny_newObj_type ?_ (isp.sizeOk5 _ _ _ _ _)
 generalize eT:([head,Value.ref L,.none,rawInt L,.none]++(if pl.isEmpty then List.replicate 6 Value.none else pl)).toArray=tv
 have hsz:3 < tv.size:=by rw [<- eT]; simp only [List.size_toArray,List.length_append,List.length_cons]; omega
 have e1:h1.get? e=some ⟨.ref C,d,.fields vs,sl⟩:=(so.2.1 e nfr).trans he
 have ne:e≠h1.objs.size:=Nat.ne_of_lt (Heap.lt_size e1)
 generalize eo:({ cls:=.type "traceback",dict:=none,data:=.fields tv }:Obj)=oT
 have e2:(h1.push oT).get? e=some ⟨.ref C,d,.fields vs,sl⟩:=Heap.get?_push_of_some _ e1
 have t3:((h1.push oT).update e (Obj.mapFields (·.setIfInBounds 1 (.ref h1.objs.size)))).get? h1.objs.size=some ⟨.type "traceback",none,.fields tv,#[]⟩:=by
  rw [dE (Ne.symm ne),<- eo]; exact Heap.get?_push_size h1 rfl
 refine wpAny_setField e2 rfl hz (hQ _ (fun b o nb nf q=>?_) (fun b o bf q=>?_) ⟨_,sl,h1.objs.size,_,_,tv,_,iF e2,by simpa using hz,by simp [hz],hP _ (by rw [so.1]; exact Nat.le_refl _),hN _ (by rw [so.1]; exact Nat.le_refl _),t3,hsz⟩)
 ·rw [dE nb]
  exact Heap.get?_push_of_some _ ((so.2.1 b nf).trans q)
 ·obtain ⟨sl',q1⟩:=so.2.2 b o q
  have nb:b≠e:=fun z=>nfr (z▸bf)
  exact ⟨sl',by rw [dE nb]; exact Heap.get?_push_of_some _ q1⟩
theorem noted (hfr:A.frames=some (env::outer)) (hl:s.heap.FunFrames base (env::outer)) (hf:env.frame=some L) (hfe:env'.frame=env.frame) (x:XRec P H s.heap e C d) (he:H e≠none)
  (hP:∀ T,s.heap.objs.size<=T->P T) (hN:∀ T,s.heap.objs.size<=T->H T=none)
  (hQ:∀ (h':Heap) (ch:List Addr),(∀ b∈ch,P b/\H b=none/\b∉frs (env::outer))->(∀ b o,b≠e->b∉frs (env::outer)->b∉ch->s.heap.get? b=some o->h'.get? b=some o)->(∀ b o,b∈frs (env::outer)->s.heap.get? b=some o->∃ sl,h'.get? b=some { o with slots:=sl }) ->
   (∀ b o,s.heap.get? b=some o->∃ o',h'.get? b=some o')->XRs P H h' e C d->Q () { s with heap:=h' }) :
  wpAny M A (noteFrame (.ref e) env') Q E s:=by
 have ef:noteFrame (.ref e) env'=noteFrame (.ref e) env:=by unfold noteFrame PySem.frameOf; rw [hfe]
 rw [ef]
 obtain ⟨vs,sl,h1,h2,h3 | ⟨T,cT,dT,ts,sT,a1,a2,a3,a4,a5⟩⟩:=x
 ·unfold noteFrame
  simp only [hf]
  refine wpAny_bind (wpAny_field h1 rfl h3 ?_)
  rw [if_neg (by decide)]
  refine qJ (P:=P) (H:=H) hfr hl hf h1 h2 hP hN fun h' k1 k2 r=>hQ h' [] (fun _ z=>nomatch z) (fun b o n nf _ q=>k1 b o n nf q) k2 (fun b o q=>?_) r
  by_cases hb:b∈frs (env::outer)
  ·obtain ⟨sl,q⟩:=k2 b o hb q; exact ⟨_,q⟩
  ·by_cases hbe:b=e
   ·subst hbe; obtain ⟨_,_,_,_,_,_,_,r,_⟩:=r; exact ⟨_,r⟩
   ·exact ⟨_,k1 b o hbe hb q⟩
 ·have ne:e≠T:=fun z=>he (z▸a3)
  have nfr:T∉frs (env::outer):=fun z=>by
   obtain ⟨_,o,q,n⟩:=hl.mem z
   rw [a4] at q; cases q; exact n ts rfl
  unfold noteFrame
  simp only [hf]
  refine wpAny_bind (wpAny_field h1 rfl a1 ?_)
  rw [if_pos (show (Value.ref T != Value.none)=true by simp)]
  refine wpAny_bind (wpAny_field a4 rfl (Array.getElem?_eq_getElem a5) ?_)
  by_cases here:(ts[3]==rawInt L)=true
  ·rw [if_pos here]
   exact wpAny_pure (hQ s.heap [] (fun _ z=>nomatch z) (fun _ _ _ _ _ q=>q) (fun b o _ q=>⟨o.slots,q⟩) (fun b o q=>⟨o,q⟩) ⟨vs,sl,T,cT,dT,ts,sT,h1,h2,a1,a2,a3,a4,a5⟩)
  rw [if_neg here]
  refine wpAny_bind (wpAny_setField a4 rfl a5 ?_)
  have hsz:(s.heap.update T (Obj.mapFields (·.setIfInBounds 3 Value.none))).objs.size=s.heap.objs.size:=Heap.size_after_update ..
  refine qJ (P:=P) (H:=H) hfr (hl.of_keeps fun b o q n=>⟨o,(dE fun z=>?_).trans q,rfl⟩) hf ((dE ne).trans h1) h2 (fun U hU=>hP U (by rw [<- hsz]; exact hU)) (fun U hU=>hN U (by rw [<- hsz]; exact hU)) fun h' k1 k2 r=>hQ h' [T] (fun b hb=>?_) (fun b o n nf nc q=>k1 b o n nf ((dE fun z=>nc (by simp [z])).trans q)) (fun b o bf q=>k2 b o bf ((dE (a:=T) (fun (z:b=T)=>nfr (z▸bf))).trans q)) (fun b o q=>?_) r
  ·subst z; rw [a4] at q; cases q; exact n ts rfl
  ·rw [List.mem_singleton] at hb; subst hb; exact ⟨a2,a3,nfr⟩
  ·have:∃ o1,(s.heap.update T (Obj.mapFields (·.setIfInBounds 3 Value.none))).get? b=some o1:=by
    by_cases z:b=T
    ·subst z; exact ⟨_,iF a4⟩
    ·exact ⟨o,(dE z).trans q⟩
   obtain ⟨o1,q⟩:=this
   by_cases hb:b∈frs (env::outer)
   ·obtain ⟨sl,q⟩:=k2 b o1 hb q; exact ⟨_,q⟩
   ·by_cases hbe:b=e
    ·subst hbe; obtain ⟨_,_,_,_,_,_,_,r,_⟩:=r; exact ⟨_,r⟩
    ·exact ⟨_,k1 b o1 hbe hb q⟩
end
section
variable {X:Cx} {pins:List (Addr×Obj)} {σ:List (Option V)} {H H':Hp} {s s':Shared} {e C:Addr} {d:Option Addr} {M:Model} {A A':Around} {E:Value->Shared->Prop}
variable {R:Addr->Hp->Prop} {Nc:List Str} {scope:Scope} {cl:List (Str×Addr)} {fp:List Addr} {H₂:Hp} {s₂:Shared}
end
section
variable {X:Cx} {tg iter elt:Expr} {ifs:List Expr} {scope:Scope} {pos:Pos} {Nc:List Str} {js:List (Option Nat)} {g:TG} {ti:TT} {te:TE} {wi:TI}
end
end L2
namespace EV
open PySem PySem.Spec PyProof.Rows L2
section
variable {X:Cx} {K:PySem.W.Frag} {R:Addr->Hp->Prop} {pos:Pos} {μ:List Addr} {H:Hp} {M:Mm}
end
end EV
namespace L2
open PySem PySem.Spec PyProof.Rows
structure RoomH (k:Nat) (A:Around):Prop where
 dp:A.depth+3*k+5 < recursionLimit
 un:A.units+16*k+200 < cLine
theorem RoomH.mono {j k:Nat} {A:Around} (r:RoomH k A) (h:j<=k):RoomH j A:=⟨by have:=r.dp; omega,by have:=r.un; omega⟩
theorem RoomH.deeper {k:Nat} {A:Around} (r:RoomH (k+1) A) (env:Env):RoomH k (A.deeper env) :=
 ⟨by have:=r.dp; show A.depth+1+3*k+5 < _; omega,by have:=r.un; show A.units+3+16*k+200 < _; omega⟩
structure FnOkH (P:Program) (w:World) (K:PySem.W.Frag) (mg:Str->Option Value) (base:Heap) (k:Nat) (f:Addr) (fd:FuncData) (ps:List Str) (sp:Sp):Prop where
 len:∀ vs H Q E,sp vs H Q E->vs.length=ps.length
 run:∀ (A:Around) (outer:List Env) (s:Shared) (H:Hp) (args:Args) (us:List Value) (vs:List V) (Q:VK) (E:XK),RoomH k A->Env0 P w K mg base A outer s H->BindsTo s fd args (ps.zip us)->Vals vs us->sp vs H Q E ->
  codeAny (model P w) A (.call (.ref f) args) (CR CX0 outer P w H s Q E) s
section
variable {X:Cx} {k:Nat} {f:Addr} {fd:FuncData} {ps:List Str} {sp:Sp} {x:Str} {p pos:Pos} {e:Expr} {es:List Expr} {t:TA}
end
end L2
namespace EV
open PySem PySem.Spec PyProof.Rows L2
section
variable {X:Cx} {K:PySem.W.Frag} {Z:Zt} {e:Expr} {es:List Expr} {pos:Pos} {fs:FA}
end
section
variable {EX:D->Mm->Prop} {L:Lc} {M:Mm} {Q:W->Mm->Prop} {f:FE} {gg:FG}
end
end EV
namespace L2
open PySem PySem.Spec PyProof.Rows
section
variable {s:Shared} {A:Around} {prog:Program} {w:World} {E:Value->Shared->Prop}
end
end L2
namespace EV
open PySem PySem.Spec PyProof.Rows L2
section
variable {X:Cx} {K:PySem.W.Frag} {Z:Zt}
variable {EX:D->Mm->Prop} {M:Mm} {Q:W->Mm->Prop}
end
end EV
set_option maxHeartbeats 4000000
namespace L2
open PySem PySem.Spec PyProof.Rows
section
variable {prog:Program} {w:World} {A:Around} {E:Value->Shared->Prop} {s:Shared}
end
section
variable {X:Cx} {tg:Expr}
end
end L2
namespace EV
open PySem PySem.Spec PyProof.Rows L2
variable {EX:D->Mm->Prop}
section
variable {X:Cx} {K:PySem.W.Frag} {Z:Zt} {μ:List Addr} {H:Hp} {M:Mm} {a b tg:Expr} {pos pos2:Pos} {f g:FE}
noncomputable def downE (b:Int) (n:Nat):List D:=(List.range n).map fun i=>D.int (b - 1 - (i:Nat))
noncomputable def iDown2 (f g:FE):FI:=fun L M=>(f L M).bind fun w M1=>(g L M1).bind fun u M2=>match w,u with
 | .d (.int i),.d (.int j)=>if 0<=i/\i<=j/\j < 4611686018427387904 then .ok ⟨downE j (j - i).toNat,none⟩ M2 else .bad
 | _,_=>.bad
end
section
variable {L:Lc} {M:Mm} {f g:FE}
theorem aAn {QI:Src->Mm->Prop} (h:Okx EX (f L M) fun x M1=>∃ i:Int,x=.d (.int i)/\Okx EX (g L M1) fun y M2=>∃ j:Int,y=.d (.int j)/\0<=i/\i<=j/\j < 4611686018427387904/\QI ⟨downE j (j - i).toNat,none⟩ M2):Okx EX (iDown2 f g L M) QI :=
 aF (h.mono fun x M1 ⟨i,e,h2⟩=>aF (h2.mono fun y M2 ⟨j,e',h0,h1,h3,q⟩=>by subst e; subst e'; simp only; rw [if_pos ⟨h0,h1,h3⟩]; exact aJ q))
end
end EV
namespace EV
open PySem
section
variable {EX:D->Mm->Prop} {L:Lc} {M:Mm} {f:FE} {gg:FG} {Q:W->Mm->Prop}
theorem Okx.self {α:Type} {o:Oc α} {Q:α->Mm->Prop} (h:Okx EX o Q):Okx EX o fun a M=>o=.ok a M/\Q a M:=by
 unfold Okx at h ⊢
 cases o with
 | ok a M=>exact ⟨rfl,h⟩
 | ex x M=>exact h
 | bad=>exact h
theorem Chk.app {s:Src} {M:Mm} {J:Mm} (h:Chk s M):Chk s (M++J):=fun t e=>by
 have:=h t e
 cases t with
 | one t =>
  show (M++J)[t]?=_
  rw [List.getElem?_append_left (List.getElem?_eq_some_iff.mp this).1]
  exact this
 | two t ys =>
  show (M++J)[t]?=_
  rw [List.getElem?_append_left (List.getElem?_eq_some_iff.mp this).1]
  exact this
theorem kT {js:List (Option Nat)} {fi:FI} (h:Okx EX (fi L M) fun s M1=>∃ g:D->D,s.ds.length<=16777216/\Chk s M1/\(∀ d∈s.ds,∀ acc,Ok (f (some (.d d)::outL js L) (M1++[acc])) fun w M'=>w=.d (g d)/\M'=M1++[acc])/\Q (.d (.lst (s.ds.map g))) M1):Okx EX (eComp (none::js) fi (gN 0) tYes f L M) Q:=by
 refine bX (fun i acc L' M'=>∃ s M1 g,fi L M=.ok s M1/\(s.ds.length<=16777216/\Chk s M1/\(∀ d∈s.ds,∀ acc,Ok (f (some (.d d)::outL js L) (M1++[acc])) fun w M'=>w=.d (g d)/\M'=M1++[acc])/\Q (.d (.lst (s.ds.map g))) M1)/\acc=(s.ds.take i).map g/\M'=M1/\∃ a,L'=a::outL js L) (h.self.mono ?_)
 rintro s M1 ⟨e,g,hz,hc,hf,q⟩
 refine ⟨⟨s,M1,g,e,⟨hz,hc,hf,q⟩,rfl,rfl,none,rfl⟩,?_,hz,?_,?_⟩
 ·rintro i acc L' M' hi ⟨s',M1',g',e',_,rfl,rfl,_⟩
  rw [e] at e'
  cases e'
  exact ⟨rfl,hc.app,by simp; omega⟩
 ·rintro i d acc L' M' hd ⟨s',M1',g',e',⟨_,_,hf',q'⟩,rfl,rfl,a,rfl⟩
  rw [e] at e'
  cases e'
  refine tI (aJ ⟨fun _=>(hf' d (List.mem_of_getElem? hd) _).mono ?_,fun h=>by cases h⟩)
  rintro _ _ ⟨rfl,rfl⟩
  refine ⟨_,_,rfl,rfl,s,_,g',e,⟨hz,hc,hf',q'⟩,?_,rfl,_,rfl⟩
  rw [List.take_add_one,hd]; simp
 ·rintro acc L' M' ⟨s',M1',g',e',⟨_,_,_,q'⟩,rfl,rfl,_⟩
  rw [e] at e'
  cases e'
  rw [List.take_length]
  exact q'
end
end EV
namespace EV
open PySem PySem.Spec PyProof.Rows L2
section
variable {X:Cx} {K:PySem.W.Frag} {Z:Zt}
variable {EX:D->Mm->Prop} {M:Mm} {Q:W->Mm->Prop}
end
end EV
namespace L2
open PySem PySem.Spec PyProof.Rows
section
variable {X:Cx} {e st:Expr} {te:TE} {ts:TO} {pos p2:Pos}
end
end L2
namespace EV
open PySem PySem.Spec PyProof.Rows L2
section
variable {X:Cx} {K:PySem.W.Frag} {Z:Zt} {e st:Expr} {f:FE} {fs:FO} {pos p2:Pos}
noncomputable def pRev (x:W) (o:Option Int) (M:Mm):Oc W:=match o,lr M x with
 | some (-1),some xs=>okD (.lst xs.reverse) M
 | _,_=>.bad
noncomputable def eRev (f:FE) (fs:FO):FE:=fun L M=>(f L M).bind fun x M1=>(fs L M1).bind fun o M2=>pRev x o M2
variable {EX:D->Mm->Prop} {M:Mm} {L:Lc} {Q:W->Mm->Prop}
theorem aFi (z:Okx EX (f L M) fun x M1=>Okx EX (fs L M1) fun o M2=>Okx EX (pRev x o M2) Q):Okx EX (eRev f fs L M) Q:=aF (z.mono fun _ _ z=>aF z)
end
end EV
namespace EV
open PySem
end EV
namespace L2
open PySem PySem.Spec PyProof.Rows
section
variable {X:Cx} {o i:Expr} {to ti:TE} {pos tpos:Pos}
end
end L2
namespace EV
open PySem PySem.Spec PyProof.Rows L2
section
variable {X:Cx} {K:PySem.W.Frag} {Z:Zt} {o i:Expr} {fo fi:FE} {pos tpos:Pos}
noncomputable def sDel (fo fi:FE):FS:=fun L M=>(fo L M).bind fun o M1=>(fi L M1).bind fun i M2=>match o,i with
 | .ref k,.d (.int j)=>match M2[k]? with
  | some xs=>if -9223372036854775808<=j/\j < 9223372036854775808 then (match ixN xs.length j with
   | some t=>.ok (.nx L) (M2.set k (xs.eraseIdx t))
   | none=>.bad) else .bad
  | none=>.bad
 | _,_=>.bad
variable {EX:D->Mm->Prop} {M:Mm} {L:Lc} {Q:Out->Mm->Prop}
theorem aHe (h:Okx EX (fo L M) fun x M1=>Okx EX (fi L M1) fun y M2=>∃ k j xs t,x=.ref k/\y=.d (.int j)/\M2[k]?=some xs/\(-9223372036854775808<=j/\j < 9223372036854775808)/\ixN xs.length j=some t/\Q (.nx L) (M2.set k (xs.eraseIdx t))):Okx EX (sDel fo fi L M) Q :=
 aF (h.mono fun x M1 z=>aF (z.mono fun y M2 ⟨k,j,xs,t,e1,e2,q1,hz,q2,q⟩=>by
  subst e1; subst e2; simp only [q1]; rw [if_pos hz]; simp only [q2]; exact aJ q))
end
end EV
namespace L2
open PySem PySem.Spec PyProof.Rows
section
variable {prog:Program} {w:World} {A:Around} {E:Value->Shared->Prop} {s:Shared}
end
section
variable {X:Cx} {o:Expr} {lo hi:Option Expr} {to:TE} {tl th:TO} {pos p2:Pos}
end
end L2
namespace EV
open PySem PySem.Spec PyProof.Rows L2
section
variable {X:Cx} {K:PySem.W.Frag} {Z:Zt} {o:Expr} {lo hi:Option Expr} {fo:FE} {fl fh:FO} {pos p2:Pos}
noncomputable def putD (xs ys:List D) (lo hi:Option Int):List D:=xs.take (HT.sIx xs.length 0 lo)++ys++xs.drop (max (HT.sIx xs.length 0 lo) (HT.sIx xs.length xs.length hi))
noncomputable def gCutD (fo:FE) (fl fh:FO):FG:=fun w L M=>(fo L M).bind fun o M1=>(fl L M1).bind fun l M2=>(fh L M2).bind fun h M3=>match o,w with
 | .ref k,.d (.lst ys)=>match M3[k]? with
  | some xs=>if xs.length+ys.length<=16777216 then .ok L (M3.set k (putD xs ys l h)) else .bad
  | none=>.bad
 | _,_=>.bad
variable {EX:D->Mm->Prop} {M:Mm} {L:Lc} {QG:Lc->Mm->Prop}
theorem aFj {ys:List D} (h:Okx EX (fo L M) fun x M1=>Okx EX (fl L M1) fun l M2=>Okx EX (fh L M2) fun u M3=>∃ k xs,x=.ref k/\M3[k]?=some xs/\xs.length+ys.length<=16777216/\QG L (M3.set k (putD xs ys l u))):Okx EX (gCutD fo fl fh (.d (.lst ys)) L M) QG :=
 aF (h.mono fun x M1 z=>aF (z.mono fun l M2 z=>aF (z.mono fun u M3 ⟨k,xs,e1,q1,hz,q⟩=>by
  subst e1; simp only [q1]; rw [if_pos hz]; exact aJ q)))
end
end EV
namespace L2
open PySem PySem.Spec PyProof.Rows
section
variable {X:Cx} {tg:Expr}
end
end L2
namespace EV
open PySem PySem.Spec PyProof.Rows L2
variable {EX:D->Mm->Prop}
section
variable {X:Cx} {K:PySem.W.Frag} {Z:Zt} {a b c tg:Expr} {pos:Pos} {fa fb fc:FE}
noncomputable def iR3 (fa fb fc:FE):FI:=fun L M=>(fa L M).bind fun w M1=>(fb L M1).bind fun u M2=>(fc L M2).bind fun z M3=>match w,u,z with
 | .d (.int i),.d (.int j),.d (.int (-1))=>if -2305843009213693952<=i/\i < 2305843009213693952 /\ -2305843009213693952<=j/\j < 2305843009213693952 then .ok ⟨downE (i+1) (i - j).toNat,none⟩ M3 else .bad
 | _,_,_=>.bad
end
section
variable {L:Lc} {M:Mm} {fa fb fc:FE}
theorem aJe {QI:Src->Mm->Prop} (h:Okx EX (fa L M) fun x M1=>∃ i:Int,x=.d (.int i)/\Okx EX (fb L M1) fun y M2=>∃ j:Int,y=.d (.int j)/\Okx EX (fc L M2) fun z M3=>z=.d (.int (-1))/\(-2305843009213693952<=i/\i < 2305843009213693952 /\ -2305843009213693952<=j/\j < 2305843009213693952)/\QI ⟨downE (i+1) (i - j).toNat,none⟩ M3):Okx EX (iR3 fa fb fc L M) QI :=
 aF (h.mono fun x M1 ⟨i,e,h2⟩=>aF (h2.mono fun y M2 ⟨j,e',h3⟩=>aF (h3.mono fun z M3 ⟨e'',hz,q⟩=>by subst e; subst e'; subst e''; simp only; rw [if_pos hz]; exact aJ q)))
end
end EV
namespace HT
open PySem PyProof.Rows
noncomputable def RcLt (A:Around) (s:Shared) (v w:Value) (r:Bool):Prop:=∀ (prog:Program) (wo:World) (E:Value->Shared->Prop) (Q:Value->Shared->Prop),Q (.bool r) s->wpAny (model prog wo) A (richCompare .Lt v w) Q E s
inductive LtOk (A:Around) (s:Shared):List Value->List Value->Bool->Prop where
 | nn:LtOk A s [] [] false
 | nc {w ws}:LtOk A s [] (w::ws) true
 | cn {v vs}:LtOk A s (v::vs) [] false
 | eq {v w vs ws r}:SeqAt.EqAt A s v w true->LtOk A s vs ws r->LtOk A s (v::vs) (w::ws) r
 | ne {v w vs ws r}:SeqAt.EqAt A s v w false->RcLt A s v w r->LtOk A s (v::vs) (w::ws) r
section
open PySem.SeqAt
open PySem.AutoSeq1 (wpAny_loadPart')
open PySem.MeetsSeq PySem.MeetsSeq2 PySem.MeetsSeq3
end
section
variable {prog:Program} {w:World} {A:Around} {E:Value->Shared->Prop} {s:Shared}
end
end HT
namespace EV
open PySem PySem.Spec PyProof.Rows L2
section
variable {X:Cx} {K:PySem.W.Frag} {Z:Zt}
noncomputable def ltE (x y:D):Option Bool:=match x,y with
 | .int a,.int b=>some (decide (a < b))
 | .bl a,.bl b=>some (decide (b2i a < b2i b))
 | .tup xs,.tup ys=>match intsOf xs,intsOf ys with
  | some ns,some ms=>some (HT.lexLt ns ms)
  | _,_=>none
 | _,_=>none
noncomputable def ltT:List D->List D->Option Bool
 | [],[]=>some false
 | [],_::_=>some true
 | _::_,[]=>some false
 | x::xs,y::ys=>if eqD x y=true then ltT xs ys else ltE x y
theorem aLm {pins:List (Addr×Obj)} {σ:St} {μ:List Addr} {H:Hp} {s:Shared} {A:Around} (I:L2.Inv X pins σ H s) (hk:X.K=K) (hu:A.units < cLine) {x y:D} {v u:V} {v' u':Value} {r:Bool} (hx:Rp K μ H x v) (hy:Rp K μ H y u) (qx:RelV v v') (qy:RelV u u') (h:ltE x y=some r):HT.RcLt A s v' u' r:=by
 unfold ltE at h
 split at h
 ·simp only [Rp] at hx hy
  subst hx hy
  obtain ⟨t,rfl⟩:=qx
  obtain ⟨t',rfl⟩:=qy
  cases h
  exact fun prog w E Q q=>HT.rcLt_int A s _ _ _ _ prog w E Q q
 ·simp only [Rp] at hx hy
  subst hx hy
  cases qx
  cases qy
  cases h
  exact fun prog w E Q q=>(lt_bool q:wpAny (model prog w) A (compareOp .Lt _ _) Q E s)
 ·rename_i xs ys
  split at h
  ·rename_i ns ms q1 q2
   cases h
   have e1:=fH q1
   have e2:=fH q2
   subst e1 e2
   simp only [Rp] at hx hy
   obtain ⟨a,vs,rfl,h1,r1⟩:=hx
   obtain ⟨b,us,rfl,h2,r2⟩:=hy
   have e1:=gE r1
   have e2:=gE r2
   subst e1 e2
   cases qx
   cases qy
   obtain ⟨its,t1,p1,_⟩:=I.tuple (SqT.of h1)
   obtain ⟨its2,t2,p2,_⟩:=I.tuple (SqT.of h2)
   exact fun prog w E Q q=>(HT.lt_tupInts p1 p2 (by simpa using gZ t1) (by simpa using gZ t2) hu q:wpAny (model prog w) A (compareOp .Lt _ _) Q E s)
  ·cases h
 ·cases h
theorem aCy {pins:List (Addr×Obj)} {σ:St} {μ:List Addr} {H:Hp} {s:Shared} {A:Around} {r:Bool} (I:L2.Inv X pins σ H s) (hk:X.K=K) (hu:A.units+60 < cLine):∀ {xs ys:List D} {vs us:List V} {vs' us':List Value},Rps K μ H xs vs->Rps K μ H ys us->Vals vs vs'->Vals us us'->deps xs<=50->deps ys<=50->ltT xs ys=some r->HT.LtOk A s vs' us' r
 | [],[],_,_,_,_,hx,hy,qx,qy,_,_,h=>by
  simp only [Rps] at hx hy; subst hx hy; cases qx; cases qy; cases h; exact .nn
 | [],_::_,_,_,_,_,hx,hy,qx,qy,_,_,h=>by
  simp only [Rps] at hx hy; obtain ⟨_,_,rfl,_,_⟩:=hy; subst hx; cases qx; cases qy; cases h; exact .nc
 | _::_,[],_,_,_,_,hx,hy,qx,qy,_,_,h=>by
  simp only [Rps] at hx hy; obtain ⟨_,_,rfl,_,_⟩:=hx; subst hy; cases qx; cases qy; cases h; exact .cn
 | x::xs,y::ys,_,_,_,_,hx,hy,qx,qy,mx,my,h=>by
  simp only [Rps] at hx hy
  obtain ⟨v,vr,rfl,e1,e2⟩:=hx
  obtain ⟨u,ur,rfl,f1,f2⟩:=hy
  simp only [deps] at mx my
  cases qx with
  | cons q1 q2 =>
   cases qy with
   | cons p1 p2 =>
    have he:=aEt I hk x A y v u _ _ (by omega) (by omega) (by omega) e1 f1 q1 p1
    simp only [ltT] at h
    split at h
    ·rename_i hq
     rw [hq] at he
     exact .eq he (aCy I hk hu e2 f2 q2 p2 (by omega) (by omega) h)
    ·rename_i hq
     rw [Bool.not_eq_true] at hq
     rw [hq] at he
     exact .ne he (aLm I hk (by omega) e1 f1 q1 p1 h)
noncomputable def pLtN (x y:W) (M:Mm):Oc W:=match x,y with
 | .d (.tup xs),.d (.tup ys)=>if deps xs<=50/\deps ys<=50 then (match ltT xs ys with
  | some r=>okD (.bl r) M
  | none=>.bad) else .bad
 | x,y=>pLt x y M
variable {EX:D->Mm->Prop} {M:Mm} {Q:W->Mm->Prop}
theorem aGg {i j:Int} (q:Q (.d (.bl (decide (i < j)))) M):Okx EX (pLtN (.d (.int i)) (.d (.int j)) M) Q:=aJ q
end
end EV
set_option maxHeartbeats 400000
namespace L2
open PySem PySem.W PyProof.Rows
noncomputable def krun {α:Type} (lt:Nat->Nat->Bool):KasT α->α
 | .ret a=>a
 | .ask i j k=>krun lt (k (lt i j))
noncomputable def kok {α:Type} (lt:Nat->Nat->Bool) (n:Nat):KasT α->Prop
 | .ret _=>True
 | .ask i j k=>i < n/\j < n/\kok lt n (k (lt i j))
theorem fG {α β:Type} {lt:Nat->Nat->Bool} {f:α->KasT β}:∀ t:KasT α,krun lt (t.bind f)=krun lt (f (krun lt t))
 | .ret _=>rfl
 | .ask i j k=>fG (k (lt i j))
theorem fA {α β:Type} {lt:Nat->Nat->Bool} {n:Nat} {f:α->KasT β}:∀ t:KasT α,kok lt n t->kok lt n (f (krun lt t))->kok lt n (t.bind f)
 | .ret _,_,h=>h
 | .ask i j k,⟨a,b,c⟩,h=>⟨a,b,fA (k (lt i j)) c h⟩
theorem kwp {α:Type} {lt:Nat->Nat->Bool} {n:Nat} {cmp:Nat->Nat->(Bool->Shared->Prop)->Shared->Prop} {Q:α->Shared->Prop} {s:Shared} (hc:∀ i j (C:Bool->Shared->Prop),i < n->j < n->C (lt i j) s->cmp i j C s) :
  ∀ t:KasT α,kok lt n t->Q (krun lt t) s->t.kasWp cmp Q s
 | .ret _,_,h=>h
 | .ask i j k,⟨a,b,c⟩,h=>hc i j _ a b (kwp hc (k (lt i j)) c h)
structure Lin (lt:Nat->Nat->Bool) (n:Nat):Prop where
 tot:∀ i j,i < n->j < n->i≠j->lt i j=!lt j i
 tr:∀ i j k,i < n->j < n->k < n->lt i j=true->lt j k=true->lt i k=true
structure PPm (n:Nat) (p:Array Nat):Prop where
 sz:p.size=n
 pm:p.toList.Perm (List.range n)
section
variable {lt:Nat->Nat->Bool} {n:Nat} {p:Array Nat}
theorem PPm.lo (h:PPm n p) (hn:0 < n) (i:Nat):p.getD i 0 < n:=by
 by_cases hi:i < p.size
 ·have:p.getD i 0∈p.toList:=by simp [Array.getD,hi]
  exact List.mem_range.mp (h.pm.mem_iff.mp this)
 ·simp [Array.getD,hi]; exact hn
theorem PPm.ne (h:PPm n p) {i j:Nat} (hij:i < j) (hj:j < n):p.getD i 0≠p.getD j 0:=by
 have nd:p.toList.Nodup:=h.pm.nodup_iff.mpr List.nodup_range
 have hz:=h.sz
 have h1:i < p.size:=by omega
 have h2:j < p.size:=by omega
 have:=List.pairwise_iff_getElem.mp nd i j (by simpa using h1) (by simpa using h2) hij
 simpa [Array.getD,h1,h2] using this
theorem PPm.of (h:PPm n p) {q:Array Nat} (hq:q.Perm p) (hz:q.size=p.size):PPm n q:=⟨hz.trans h.sz,(Array.perm_iff_toList_perm.mp hq).trans h.pm⟩
noncomputable def SPf (lt:Nat->Nat->Bool) (p:Array Nat) (m:Nat):Prop:=∀ i j,i < j->j < m->lt (p.getD i 0) (p.getD j 0)=true
theorem SPf.succ (L:Lin lt n) (h:PPm n p) {m:Nat} (s:SPf lt p m) (h1:1<=m) (hm:m < n) (c:lt (p.getD (m - 1) 0) (p.getD m 0)=true):SPf lt p (m+1):=by
 have hn:0 < n:=by omega
 intro i j hij hj
 by_cases e:j < m
 ·exact s i j hij e
 ·have:j=m:=by omega
  subst this
  by_cases e:i=j - 1
  ·subst e; exact c
  ·exact L.tr _ _ _ (h.lo hn _) (h.lo hn _) (h.lo hn _) (s i (j - 1) (by omega) (by omega)) c
theorem SPf.one:SPf lt p 1:=fun i j a b=>by omega
theorem vB (L:Lin lt n) (h:PPm n p):∀ (f m:Nat),1<=m->m+f<=n->SPf lt p m->kok lt n (kas_asc p f m)/\m<=krun lt (kas_asc p f m)/\krun lt (kas_asc p f m)<=m+f/\SPf lt p (krun lt (kas_asc p f m))/\(krun lt (kas_asc p f m) < m+f->lt (p.getD (krun lt (kas_asc p f m)) 0) (p.getD (krun lt (kas_asc p f m) - 1) 0)=true)
 | 0,m,h1,h2,s=>⟨trivial,Nat.le_refl _,Nat.le_refl _,s,fun z=>absurd z (by show ¬ m < m+0; omega)⟩
 | f+1,m,h1,h2,s=>by
  have hn:0 < n:=by omega
  cases c:lt (p.getD m 0) (p.getD (m - 1) 0) with
  | true =>
   have e:krun lt (kas_asc p (f+1) m)=m:=by
    show krun lt (if lt (p.getD m 0) (p.getD (m - 1) 0)=true then _ else _)=m
    rw [if_pos c]; rfl
   rw [e]
   exact ⟨⟨h.lo hn _,h.lo hn _,by simp only [c,if_true]; trivial⟩,Nat.le_refl _,by omega,s,fun _=>c⟩
  | false =>
   have e:krun lt (kas_asc p (f+1) m)=krun lt (kas_asc p f (m+1)):=by
    show krun lt (if lt (p.getD m 0) (p.getD (m - 1) 0)=true then _ else _)=_
    rw [c]; rfl
   have c':lt (p.getD (m - 1) 0) (p.getD m 0)=true:=by
    rw [L.tot _ _ (h.lo hn _) (h.lo hn _) (h.ne (by omega) (by omega)),c]; rfl
   obtain ⟨a1,a2,a3,a4,a5⟩:=vB L h f (m+1) (by omega) (by omega) (s.succ L h h1 (by omega) c')
   rw [e]
   refine ⟨⟨h.lo hn _,h.lo hn _,?_⟩,by omega,by omega,a4,fun z=>a5 (by omega)⟩
   simp only [c,Bool.false_eq_true,if_false]
   exact a1
noncomputable def DPf (lt:Nat->Nat->Bool) (p:Array Nat) (m:Nat):Prop:=∀ i j,i < j->j < m->lt (p.getD j 0) (p.getD i 0)=true
theorem xE (L:Lin lt n) (h:PPm n p):∀ (f m:Nat),2<=m->m+f<=n->DPf lt p m->∃ k,kok lt n (kas_desc f p m 0)/\krun lt (kas_desc f p m 0)=(p,k,0)/\m<=k/\k<=m+f/\DPf lt p k
 | 0,m,h1,h2,s=>⟨m,trivial,rfl,Nat.le_refl _,Nat.le_refl _,s⟩
 | f+1,m,h1,h2,s=>by
  have hn:0 < n:=by omega
  cases c:lt (p.getD m 0) (p.getD (m - 1) 0) with
  | true =>
   have s':DPf lt p (m+1):=by
    intro i j hij hj
    by_cases e:j < m
    ·exact s i j hij e
    ·have:j=m:=by omega
     subst this
     by_cases e:i=j - 1
     ·subst e; exact c
     ·exact L.tr _ _ _ (h.lo hn _) (h.lo hn _) (h.lo hn _) c (s i (j - 1) (by omega) (by omega))
   obtain ⟨k,a1,a2,a3,a4,a5⟩:=xE L h f (m+1) (by omega) (by omega) s'
   refine ⟨k,⟨h.lo hn _,h.lo hn _,?_⟩,?_,by omega,by omega,a5⟩
   ·simp only [c,if_true,gt_iff_lt,Nat.lt_irrefl,if_false]; exact a1
   ·simp only [kas_desc,krun,c,if_true,gt_iff_lt,Nat.lt_irrefl,if_false]; exact a2
  | false =>
   have c':lt (p.getD (m - 1) 0) (p.getD m 0)=true:=by
    rw [L.tot _ _ (h.lo hn _) (h.lo hn _) (h.ne (by omega) (by omega)),c]; rfl
   refine ⟨m,⟨h.lo hn _,h.lo hn _,?_⟩,?_,Nat.le_refl _,by omega,s⟩
   ·simp only [c,Bool.false_eq_true,if_false]
    exact ⟨h.lo hn _,h.lo hn _,by simp only [c',if_true]; trivial⟩
   ·simp only [kas_desc,krun,c,c',Bool.false_eq_true,if_false,if_true]
theorem hX (q:Array Nat) (k:Nat):q.getD k 0=(q[k]?).getD 0:=by simp
theorem kW {m:Nat} (hm:m<=p.size) (k:Nat):(kas_rev p 0 m).getD k 0=if k < m then p.getD (m - 1 - k) 0 else p.getD k 0:=by
 have:=getElem?_mirror_all (xs:=p) (i:=0) (j:=m) hm k
 unfold kas_rev
 rw [hX,this,hX,hX]
 by_cases h:k < m
 ·rw [if_pos ⟨by omega,h⟩,if_pos h]; congr 2; omega
 ·rw [if_neg (by omega),if_neg h]
theorem yI {k l:Nat} (hk:k < p.size) (hl:l<=k) (i:Nat):(bubble p k (k - l)).getD i 0=if i=l then p.getD k 0 else if l < i/\i<=k then p.getD (i - 1) 0 else p.getD i 0:=by
 have:=getElem?_bubble (xs:=p) hk (k - l) (by omega) i
 rw [hX,this,hX,hX,hX]
 rw [show k - (k - l)=l by omega]
 split
 ·rfl
 ·split <;> rfl
theorem nJ (L:Lin lt n) (h:PPm n p) {k:Nat} (hk:k < n) (s:SPf lt p k):∀ (f l r:Nat),r - l<=f->l<=r->r<=k->(∀ i,i < l->lt (p.getD i 0) (p.getD k 0)=true)->(∀ i,r<=i->i < k->lt (p.getD k 0) (p.getD i 0)=true) ->
  ∃ m,kok lt n (kas_place p k f l r)/\krun lt (kas_place p k f l r)=m/\m<=k/\(∀ i,i < m->lt (p.getD i 0) (p.getD k 0)=true)/\(∀ i,m<=i->i < k->lt (p.getD k 0) (p.getD i 0)=true)
 | 0,l,r,h0,h1,h2,a,b=>⟨l,trivial,rfl,by omega,a,fun i hi hk=>b i (by omega) hk⟩
 | f+1,l,r,h0,h1,h2,a,b=>by
  have hn:0 < n:=by omega
  by_cases g:l>=r
  ·refine ⟨l,?_,?_,by omega,a,fun i hi hk=>b i (by omega) hk⟩
   ·simp only [kas_place]; rw [if_pos g]; trivial
   ·simp only [kas_place]; rw [if_pos g]; rfl
  ·have hm:(l+r) / 2 < k:=by omega
   cases c:lt (p.getD k 0) (p.getD ((l+r) / 2) 0) with
   | true =>
    obtain ⟨m,q1,q2,q3⟩:=nJ L h hk s f l ((l+r) / 2) (by omega) (by omega) (by omega) a (fun i hi hik=>by
     by_cases e:i=(l+r) / 2
     ·subst e; exact c
     ·exact L.tr _ _ _ (h.lo hn _) (h.lo hn _) (h.lo hn _) c (s _ i (by omega) hik))
    refine ⟨m,?_,?_,q3⟩
    ·simp only [kas_place]; rw [if_neg g]
     exact ⟨h.lo hn _,h.lo hn _,by simp only [c,if_true]; exact q1⟩
    ·simp only [kas_place]; rw [if_neg g]
     simp only [krun,c,if_true]; exact q2
   | false =>
    have c':lt (p.getD ((l+r) / 2) 0) (p.getD k 0)=true:=by
     rw [L.tot _ _ (h.lo hn _) (h.lo hn _) (h.ne hm hk),c]; rfl
    obtain ⟨m,q1,q2,q3⟩:=nJ L h hk s f ((l+r) / 2+1) r (by omega) (by omega) h2 (fun i hi=>by
     by_cases e:i=(l+r) / 2
     ·subst e; exact c'
     ·exact L.tr _ _ _ (h.lo hn _) (h.lo hn _) (h.lo hn _) (s i _ (by omega) hm) c') b
    refine ⟨m,?_,?_,q3⟩
    ·simp only [kas_place]; rw [if_neg g]
     exact ⟨h.lo hn _,h.lo hn _,by simp only [c,Bool.false_eq_true,if_false]; exact q1⟩
    ·simp only [kas_place]; rw [if_neg g]
     simp only [krun,c,Bool.false_eq_true,if_false]; exact q2
theorem aEg (L:Lin lt n):∀ (f:Nat) (p:Array Nat) (k:Nat),PPm n p->k+f=n->SPf lt p k->kok lt n (kas_bin f p k)/\PPm n (krun lt (kas_bin f p k))/\SPf lt (krun lt (kas_bin f p k)) n
 | 0,p,k,h,e,s=>by
  have:k=n:=by omega
  subst this
  exact ⟨trivial,h,s⟩
 | f+1,p,k,h,e,s=>by
  have hk:k < n:=by omega
  have hz:=h.sz
  obtain ⟨m,q1,q2,q3,q4,q5⟩:=nJ L h hk s k 0 k (by omega) (by omega) (Nat.le_refl _) (fun i hi=>by omega) (fun i h1 h2=>by omega)
  have hb:PPm n (bubble p k (k - m)):=h.of (bubble_perm _ _ _) (bubble_size _ _ _)
  have sb:SPf lt (bubble p k (k - m)) (k+1):=by
   intro i j hij hj
   rw [yI (by omega) q3,yI (by omega) q3]
   by_cases ei:i=m
   ·subst ei
    rw [if_pos rfl,if_neg (by omega),if_pos (by omega)]
    exact q5 _ (by omega) (by omega)
   ·rw [if_neg ei]
    by_cases ej:j=m
    ·rw [if_pos ej,if_neg (by omega)]
     exact q4 i (by omega)
    ·rw [if_neg ej]
     by_cases hi:m < i/\i<=k
     ·rw [if_pos hi,if_pos (by omega)]
      exact s _ _ (by omega) (by omega)
     ·rw [if_neg hi]
      by_cases hj2:m < j/\j<=k
      ·rw [if_pos hj2]
       exact s _ _ (by omega) (by omega)
      ·rw [if_neg hj2]
       exact s _ _ hij (by omega)
  obtain ⟨r1,r2,r3⟩:=aEg L f (bubble p k (k - m)) (k+1) hb (by omega) sb
  have er:krun lt (kas_bin (f+1) p k)=krun lt (kas_bin f (bubble p k (k - m)) (k+1)):=by
   show krun lt ((kas_place p k k 0 k).bind _)=_
   rw [fG,q2]
  rw [er]
  refine ⟨fA _ q1 ?_,r2,r3⟩
  rw [q2]
  exact r1
theorem aDb:PPm n (List.toArray (List.range n)):=⟨by simp,by simp⟩
theorem jE (L:Lin lt n) (h2:2<=n):kok lt n (kas_sort n)/\PPm n (krun lt (kas_sort n))/\SPf lt (krun lt (kas_sort n)) n:=by
 have hn:0 < n:=by omega
 obtain ⟨p,hp⟩:∃ p,p=List.toArray (List.range n):=⟨_,rfl⟩
 have h:PPm n p:=by rw [hp]; exact aDb
 have hz:=h.sz
 obtain ⟨a1,a2,a3,a4,a5⟩:=vB L h (n - 1) 1 (by omega) (by omega) SPf.one
 obtain ⟨m,hm⟩:∃ m,m=krun lt (kas_asc p (n - 1) 1):=⟨_,rfl⟩
 rw [<- hm] at a2 a3 a4 a5
 have key:∃ r:Nat×Array Nat,kok lt n (kas_count n p)/\krun lt (kas_count n p)=r/\PPm n r.2/\1<=r.1/\r.1<=n/\SPf lt r.2 r.1:=by
  unfold kas_count
  rw [fG,<- hm]
  by_cases e:(m==n)=true
  ·refine ⟨(m,p),fA _ a1 ?_,?_,h,by omega,by omega,a4⟩
   ·rw [<- hm,if_pos e]; trivial
   ·rw [if_pos e]; rfl
  ·by_cases g:m > 1
   ·have c:lt (p.getD 0 0) (p.getD (m - 1) 0)=true:=a4 0 (m - 1) (by omega) (by omega)
    refine ⟨(m,p),fA _ a1 ?_,?_,h,by omega,by omega,a4⟩
    ·rw [<- hm,if_neg e,if_pos g]
     exact ⟨h.lo hn _,h.lo hn _,by rw [c]; trivial⟩
    ·rw [if_neg e,if_pos g]
     simp only [krun,c,if_true]
   ·have m1:m=1:=by omega
    have nm:m≠n:=by simpa using e
    have c:=a5 (by omega)
    rw [m1] at c
    have d2:DPf lt p 2:=fun i j hij hj=>by
     have:i=0:=by omega
     have:j=1:=by omega
     subst i j
     exact c
    obtain ⟨k,d1,d2,d3,d4,d5⟩:=xE L h (n - 2) 2 (by omega) (by omega) d2
    have hq:PPm n (kas_rev p 0 k):=h.of (mirror_perm _ _ _ _) (mirror_size _ _ _ _)
    have sq:SPf lt (kas_rev p 0 k) k:=fun i j hij hj=>by
     rw [kW (by omega),kW (by omega),if_pos (by omega),if_pos hj]
     exact d5 _ _ (by omega) (by omega)
    obtain ⟨b1,b2,b3,b4,_⟩:=vB L hq (n - k) k (by omega) (by omega) sq
    have et:kas_descPart 1 n p=(kas_desc (n - (1+1)) p (1+1) 0).bind fun r=>if r.2.2 > 0 then kas_tail3 r.2.1 n (kas_rev r.1 (r.2.1 - (r.2.2+1)) r.2.1) else kas_tail3 r.2.1 n r.1:=rfl
    refine ⟨(krun lt (kas_asc (kas_rev p 0 k) (n - k) k),kas_rev p 0 k),fA _ a1 ?_,?_,hq,by omega,by omega,b4⟩
    ·rw [<- hm,if_neg e,if_neg g,m1,et]
     refine fA _ d1 ?_
     rw [d2]
     simp only [gt_iff_lt,Nat.lt_irrefl,if_false]
     exact fA _ b1 trivial
    ·rw [if_neg e,if_neg g,m1,et,fG,d2]
     simp only [gt_iff_lt,Nat.lt_irrefl,if_false]
     unfold kas_tail3
     rw [fG]
     rfl
 obtain ⟨r,k1,k2,k3,k4,k5,k6⟩:=key
 have es:krun lt (kas_sort n)=krun lt (if r.1 < n then kas_bin (n - max r.1 1) r.2 (max r.1 1) else .ret r.2):=by
  unfold kas_sort
  rw [fG,<- hp,k2]
 have eo:kok lt n (if r.1 < n then kas_bin (n - max r.1 1) r.2 (max r.1 1) else .ret r.2)->kok lt n (kas_sort n):=fun z=>by
  unfold kas_sort
  rw [<- hp]
  refine fA _ k1 ?_
  rw [k2]
  exact z
 rw [es]
 by_cases g:r.1 < n
 ·rw [if_pos g] at eo ⊢
  rw [Nat.max_eq_left k4] at eo ⊢
  obtain ⟨r1,r2,r3⟩:=aEg L (n - r.1) r.2 r.1 k3 (by omega) k6
  exact ⟨eo r1,r2,r3⟩
 ·rw [if_neg g] at eo ⊢
  have:r.1=n:=by omega
  rw [this] at k6
  exact ⟨eo trivial,k3,k6⟩
end
end L2
namespace L2
open PySem PySem.Spec PyProof.Rows PySem.W
section
variable {prog:Program} {w:World} {A:Around} {E:Value->Shared->Prop} {s:Shared} {lt:Nat->Nat->Bool}
noncomputable def underway (h:Heap) (a:Addr) (vs:List Value):Heap:=((h.update a (Obj.mapSeq fun _=>#[])).push (seqObj "tuple" vs.toArray 0)).push (seqObj "list" #[] 0)
theorem aEy {a:Addr} {vs:List Value} {n:Nat} {P:PySem.Fin->Shared->Prop} (ho:s.heap.get? a=some (seqObj "list" vs.toArray n)) (h2:2<=vs.length) (h64:vs.length < 64) (L:Lin lt vs.length)
  (hk:∀ Q:SortKind->Shared->Prop,Q (tuples' false) { s with heap:=underway s.heap a vs }->wpAny (model prog w) A (keyKind' vs.toArray) Q (fun _ _=>False) { s with heap:=underway s.heap a vs })
  (hc:∀ (i j:Nat) (C:Bool->Shared->Prop),i < vs.length->j < vs.length->C (lt i j) { s with heap:=underway s.heap a vs }->kas_ask prog w A (tuples' false) vs i j C { s with heap:=underway s.heap a vs })
  (h:P (.done (.ret .none)) { s with heap:=sortedHeap s.heap a vs (List.toArray ((krun lt (kas_sort vs.length)).toList.map fun i=>vs.getD i Value.none)) }) :
  wpAny (model prog w) A (Builtin.«list.sort» ⟨[.ref a],[]⟩) P E s:=by
 obtain ⟨k1,k2,k3⟩:=jE L h2
 have la:a < s.heap.objs.size:=Heap.lt_size ho
 obtain ⟨c,hc1⟩:∃ c,(s.heap.update a (Obj.mapSeq fun _=>(#[]:Array Value))).get? a=some (seqObj "list" #[] c):=⟨_,get?_update_seq ho fun _=>#[]⟩
 have hu:(underway s.heap a vs).get? a=some (seqObj "list" #[] c):=Heap.get?_push_of_some _ (Heap.get?_push_of_some _ hc1)
 have few:vs.toArray.size<=sizeLine:=by rw [List.size_toArray,sizeLine_eq]; omega
 rw [list_sort_plain]
 refine wpAny_bind (listItems_at ho rfl (wpAny_bind (listUpdate_at ho rfl (wpAny_bind (seqEpoch_at hc1 rfl (wpAny_bind (wpAny_newTuple (wpAny_bind (wpAny_newList (wpAny_holding ?_) (Nat.zero_le _))) few)))) few (Nat.zero_le _))))
 show wpAny (model prog w) A _ P E { s with heap:=underway s.heap a vs }
 dsimp only
 have big:¬ vs.toArray.size < 2:=by rw [List.size_toArray]; omega
 rw [if_neg big,if_neg big]
 refine wpAny_bind (wpAny_mono (hk (fun κ s'=>κ=tuples' false/\s'={ s with heap:=underway s.heap a vs }) ⟨rfl,rfl⟩) ?_ fun _ _ x=>x.elim)
 rintro κ s' ⟨rfl,rfl⟩
 have run:=kat_run (prog:=prog) (w:=w) (A:=A) (E:=E) (ks:=vs) (vs:=vs) (κ:=tuples' false) (Q:=fun st' s'=>s'={ s with heap:=underway s.heap a vs }/\failedOf st'=none/\(arrOf st').map (·.2)=List.toArray ((krun lt (kas_sort vs.length)).toList.map fun i=>vs.getD i Value.none)) (G:=fun p s'=>s'={ s with heap:=underway s.heap a vs }/\p=krun lt (kas_sort vs.length)) rfl h2 h64
  (fun p st' s' q1 q2 q3 q4=>⟨q4.1,q3,by rw [kat_snds rfl q2,q4.2]⟩) (kwp hc (kas_sort vs.length) k1 ⟨rfl,rfl⟩)
 refine wpAny_bind (wpAny_mono run ?_ fun _ _ e=>e)
 rintro ⟨⟨⟩,st'⟩ s' ⟨rfl,hf,hout⟩
 dsimp only
 rw [hout]
 have hz:(List.toArray ((krun lt (kas_sort vs.length)).toList.map fun i=>vs.getD i Value.none)).size<=sizeLine:=by rw [List.size_toArray,List.length_map,Array.length_toList,k2.sz,sizeLine_eq]; omega
 refine wpAny_bind (seqEpoch_at hu rfl (wpAny_bind (listUpdate_at hu rfl ?_ (Nat.zero_le _) (Nat.le_succ_of_le hz))))
 rw [hf]
 simp only [bne_self_eq_false,Bool.false_eq_true,if_false]
 exact wpAny_pure h
theorem zV {l:Addr} {vs:List Value} {Q:Value->Shared->Prop} (hl:s.heap.IsList l vs.toArray) (h2:2<=vs.length) (h64:vs.length < 64) (L:Lin lt vs.length)
  (hk:∀ h',(∀ b o,s.heap.get? b=some o->h'.get? b=some o)->∀ Q:SortKind->Shared->Prop,Q (tuples' false) { s with heap:=h' }->wpAny (model prog w) A.in1.in1 (keyKind' vs.toArray) Q (fun _ _=>False) { s with heap:=h' })
  (hc:∀ h',(∀ b o,s.heap.get? b=some o->h'.get? b=some o)->∀ (i j:Nat) (C:Bool->Shared->Prop),i < vs.length->j < vs.length->C (lt i j) { s with heap:=h' }->kas_ask prog w A.in1.in1 (tuples' false) vs i j C { s with heap:=h' })
  (h:Q (.ref (s.heap.objs.size+1)) { s with heap:=sortedAll s.heap vs (List.toArray ((krun lt (kas_sort vs.length)).toList.map fun i=>vs.getD i Value.none)) }) :
  wpAny (model prog w) A (call (.builtin "sorted") [.ref l]) Q E s:=by
 have few:vs.length<=sizeLine:=by rw [sizeLine_eq]; omega
 refine Calls.call_function_entry (id:="sorted") kind_sorted plain_sorted entry_sorted (args_sorted1 (.ref l)) ?_
 unfold Builtin.«sorted»
 refine wpAny_bind (m:=checkCount "sorted" 1 1 _) (wpAny_pure (wpAny_bind (collect_list hl (wpAny_bind (wpAny_newList ?_ few)) few)))
 generalize eg:(s.heap.push (seqObj "list" #[] 0)).update s.heap.objs.size (Obj.mapSeq (·++vs.toArray))=G
 have gz:G.objs.size=s.heap.objs.size+1:=by rw [<- eg,Heap.size_update,size_push']
 have go:(G.push (seqObj "list" vs.toArray 0)).get? G.objs.size=some (seqObj "list" vs.toArray 0):=Heap.get?_push_size _ rfl
 have old:∀ b o,s.heap.get? b=some o->(underway (G.push (seqObj "list" vs.toArray 0)) G.objs.size vs).get? b=some o:=fun b o e=>by
  have hb:=Heap.lt_size e
  have e1:G.get? b=some o:=by rw [<- eg,Heap.get?_update_ne _ _ _ _ (Nat.ne_of_lt hb)]; exact Heap.get?_push_of_some _ e
  have e2:((G.push (seqObj "list" vs.toArray 0)).update G.objs.size (Obj.mapSeq fun _=>(#[]:Array Value))).get? b=some o:=by rw [Heap.get?_update_ne _ _ _ _ (Nat.ne_of_lt (by rw [gz]; exact Nat.lt_succ_of_lt hb))]; exact Heap.get?_push_of_some _ e1
  exact Heap.get?_push_of_some _ (Heap.get?_push_of_some _ e2)
 show wpAny _ _ _ _ _ { s with heap:=G.push (seqObj "list" vs.toArray 0) }
 refine wpAny_bind (wpAny_holding (wpAny_call_entry slot_list_sort ⟨_,go,rfl⟩ entry_list_sort (aEy (s:={ s with heap:=G.push (seqObj "list" vs.toArray 0) }) go h2 h64 L (hk _ old) (hc _ old) ⟨_,rfl,?_⟩) (args_list_sort _)))
 refine wpAny_pure ⟨.ref _,rfl,?_⟩
 have z:=h
 unfold sortedAll at z
 rw [eg] at z
 rw [gz]
 exact z
end
end L2
namespace EV
open PySem PySem.Spec PyProof.Rows L2 PySem.W
section
variable {prog:Program} {w:World} {A:Around} {s:Shared}
theorem aKg {vs ws:List Value} {r:Bool} (h:HT.LtOk A s vs ws r):∀ {i:Nat} {Q:Bool->Shared->Prop},Q r s->KatLex prog w A false (decide (vs.length < ws.length)) Q (vs.zip ws) i s:=by
 induction h with
 | nn=>intro i Q q; exact q
 | nc=>intro i Q q; exact kat_nil (by simpa using q)
 | cn=>intro i Q q; exact kat_nil (by simpa using q)
 | eq he ht ih =>
  intro i Q q
  have:=ih (i:=i+1) q
  simp only [List.length_cons,Nat.add_lt_add_iff_right]
  exact kat_cons (he prog w _ _ (kat_yes this))
 | ne he ht =>
  intro i Q q
  exact kat_cons (he prog w _ _ (kat_no (kat_one _ _ (ht prog w _ _ (show W.BoolBack Q (.bool _) s from q)))))
end
noncomputable def tl:D->List D
 | .tup xs=>xs
 | _=>[]
noncomputable def tLt (xs:List D) (i j:Nat):Bool:=ltT (tl (xs.getD i .non)) (tl (xs.getD j .non))==some true
structure TS (xs:List D):Prop where
 l2:2<=xs.length
 l64:xs.length < 64
 it:∀ x∈xs,∃ ys zs,x=.tup (.tup ys::zs)/\deps (.tup ys::zs)<=50
 so:∀ i j,i < xs.length->j < xs.length->ltT (tl (xs.getD i .non)) (tl (xs.getD j .non))≠none
 lin:Lin (tLt xs) xs.length
noncomputable def srtP (xs:List D):List Nat:=(krun (tLt xs) (kas_sort xs.length)).toList
noncomputable def srtT (xs:List D):List D:=(srtP xs).map fun i=>xs.getD i .non
section
variable {X:Cx} {K:PySem.W.Frag} {Z:Zt} {μ:List Addr} {H:Hp}
theorem yL {pins:List (Addr×Obj)} {σ:St} {s:Shared} (I:L2.Inv X pins σ H s) (hk:X.K=K):∀ {ds:List D} {vs:List V} {us:List Value},Rps K μ H ds vs->Vals vs us->(∀ x∈ds,∃ ys zs,x=D.tup (.tup ys::zs)/\deps (.tup ys::zs)<=50) ->
  ∃ fs,KatTups s.heap us fs/\fs.length=us.length/\∀ f∈fs,∃ a o,f=Value.ref a/\s.heap.get? a=some o/\o.cls=.type "tuple"
 | [],_,_,h,q,_=>by simp only [Rps] at h; subst h; cases q; exact ⟨[],trivial,rfl,by simp⟩
 | x::ds,_,_,h,q,t=>by
  simp only [Rps] at h
  obtain ⟨v,vr,rfl,e1,e2⟩:=h
  cases q with
  | cons q1 q2 =>
   obtain ⟨fs,k1,k2,k3⟩:=yL I hk e2 q2 (fun y hy=>t y (List.mem_cons_of_mem _ hy))
   obtain ⟨ys,zs,rfl,_⟩:=t x (List.mem_cons_self ..)
   simp only [Rp,Rps] at e1
   obtain ⟨a,ws,rfl,h1,v1,wr,rfl,⟨b,vs2,rfl,h2,_⟩,_⟩:=e1
   cases q1
   obtain ⟨its,t1,⟨o,g,gc,n,gd⟩,_⟩:=I.tuple (SqT.of (K:=X.K) h1)
   obtain ⟨its2,t2,⟨o2,g2,gc2,_⟩,_⟩:=I.tuple (SqT.of (K:=X.K) h2)
   cases t1 with
   | cons r1 r2 =>
    cases r1
    refine ⟨.ref b::fs,KatTups.cons g gc gd (by simp) k1,by simp [k2],?_⟩
    intro f hf
    rcases List.mem_cons.mp hf with rfl | hf
    ·exact ⟨b,o2,rfl,g2,gc2⟩
    ·exact k3 f hf
theorem lU {α:Type} {l:List α} {i:Nat} {d x:α} (h:l[i]?=some x):l.getD i d=x:=by simp [List.getD,h]
theorem tM (hu:X.A.units+101 < cLine):CallR X (.builtin "sorted") (fun xs H Q=>∃ p vs μ ds,xs=[.ref p]/\SqL X.K H p vs/\Rps X.K μ H ds vs/\TS ds/\∀ l,H l=none->Q (.ref l) (upd H l (.lst ((srtP ds).map fun i=>vs.getD i V.non)))):=by
 intro pins s σ H xs us Q I r h
 obtain ⟨p,vs,μ,ds,rfl,hq,hr,T,q⟩:=h
 obtain ⟨u,rfl,rx⟩:=vals1 r
 cases rx
 obtain ⟨its,r',pl,hz⟩:=I.list hq
 have l1:ds.length=vs.length:=hr.length
 have l2:vs.length=its.length:=r'.length
 have T2:=T.l2
 have T64:=T.l64
 have hlen:its.length=ds.length:=by omega
 refine zV (lt:=tLt ds) pl.isList (by omega) (by omega) (by rw [hlen]; exact T.lin) ?_ ?_ ?_
 ·intro h' old Q' q'
  have I':=I.kept (t':=s.toks) old
  obtain ⟨fs,k1,k2,k3⟩:=yL I' rfl hr r' T.it
  refine kat_kind (T:=.type "tuple") k1 (by omega) (fun v hv=>?_) (by decide) q'
  obtain ⟨a,o,rfl,g,gc⟩:=k3 v hv
  have this:Looks (model X.prog X.w) h' (typeOf (.ref a)) o.cls:=(Looks.ld g).andThen .now
  rw [gc] at this
  exact this
 ·intro h' old i j C hi hj c
  have I':=I.kept (t':=s.toks) old
  have item:∀ i,i < its.length->∃ x u zs us,ds.getD i .non=.tup zs/\its.getD i Value.none=.ref x/\Rps X.K μ H zs us/\SqT X.K H x us/\deps zs<=50/\u=x:=by
   intro i hi
   obtain ⟨d,hd⟩:∃ d,ds[i]?=some d:=⟨_,List.getElem?_eq_getElem (by omega)⟩
   obtain ⟨v,hv,rv⟩:=hr.get hd
   obtain ⟨u,hu',ru⟩:=r'.get hv
   obtain ⟨ys,zs,rfl,hdep⟩:=T.it d (List.mem_of_getElem? hd)
   simp only [Rp] at rv
   obtain ⟨a,ws,rfl,h1,h2⟩:=rv
   cases ru
   exact ⟨a,a,_,ws,lU hd,lU hu',h2,SqT.of h1,hdep,rfl⟩
  obtain ⟨x,_,zs,us,e1,e2,e3,e4,e5,_⟩:=item i hi
  obtain ⟨y,_,zs',us',f1,f2,f3,f4,f5,_⟩:=item j hj
  obtain ⟨n1,t1,⟨o1,g1,_,m1,d1⟩,_⟩:=I'.tuple e4
  obtain ⟨n2,t2,⟨o2,g2,_,m2,d2⟩,_⟩:=I'.tuple f4
  unfold kas_ask
  rw [e2,f2]
  have hs:=T.so i j (by omega) (by omega)
  rw [e1,f1] at hs
  simp only [tl] at hs
  cases hl:ltT zs zs' with
  | none=>exact (hs hl).elim
  | some b =>
   have hb:tLt ds i j=b:=by
    unfold tLt
    rw [e1,f1]
    simp only [tl,hl]
    cases b <;> rfl
   rw [hb] at c
   refine kat_lt g1 d1 g2 d2 ?_
   have lk:=aCy (A:=X.A.in1.in1) I' rfl (by show X.A.units+1+1+60 < cLine; omega) e3 f3 t1 t2 e5 f5 hl
   have:=aKg (prog:=X.prog) (w:=X.w) lk (i:=0) c
   simpa using this
 ·obtain ⟨c,hc⟩:=sortedAll_at s.heap its (List.toArray ((krun (tLt ds) (kas_sort its.length)).toList.map fun i=>its.getD i Value.none))
  have sz:=(jE T.lin T.l2).2.1
  have vv:Vals ((srtP ds).map fun i=>vs.getD i V.non) ((srtP ds).map fun i=>its.getD i Value.none):=by
   have key:∀ l:List Nat,(∀ i∈l,i < ds.length)->Vals (l.map fun i=>vs.getD i V.non) (l.map fun i=>its.getD i Value.none):=by
    intro l
    induction l with
    | nil=>intro _; exact .nil
    | cons i l ih =>
     intro hl
     have hi:=hl i (List.mem_cons_self ..)
     obtain ⟨v,hv⟩:∃ v,vs[i]?=some v:=⟨_,List.getElem?_eq_getElem (by omega)⟩
     obtain ⟨u,hu',ru⟩:=r'.get hv
     refine .cons ?_ (ih fun j hj=>hl j (List.mem_cons_of_mem _ hj))
     show RelV (vs.getD i V.non) (its.getD i Value.none)
     rw [lU hv,lU hu']
     exact ru
   exact key _ fun i hi=>List.mem_range.mp (sz.pm.mem_iff.mp hi)
  rw [hlen] at hc ⊢
  refine ⟨.ref (s.heap.objs.size+1),_,I.laid (t':=s.toks) (fun b o e=>sortedAll_old e) (Nat.le_succ _) (show ObjOk X.prog X.w _ _ _ (.lst ((srtP ds).map fun i=>vs.getD i V.non)) from ⟨?_,_,c,vv,hc⟩),rfl,q _ (I.hok.fresh (Nat.le_succ _))⟩
  rw [sizeLine_eq,List.length_map]
  have:(srtP ds).length=ds.length:=by unfold srtP; rw [Array.length_toList,sz.sz]
  omega
open Classical in
noncomputable def cSortTT (ws:List W) (M:Mm):Oc W:=match ws with
 | [w]=>match lr M w with
  | some xs=>if TS xs then okD (.lst (srtT xs)) M else .bad
  | none=>.bad
 | _=>.bad
theorem Rps.pick {ds:List D} {vs:List V} (h:Rps K μ H ds vs):∀ l:List Nat,(∀ i∈l,i < ds.length)->Rps K μ H (l.map fun i=>ds.getD i .non) (l.map fun i=>vs.getD i V.non)
 | [],_=>.nil
 | i::l,hl=>by
  obtain ⟨d,hd⟩:∃ d,ds[i]?=some d:=⟨_,List.getElem?_eq_getElem (hl i (List.mem_cons_self ..))⟩
  obtain ⟨v,hv,rv⟩:=h.get hd
  have:=Rps.cons rv (h.pick l fun j hj=>hl j (List.mem_cons_of_mem _ hj))
  rw [List.map_cons,List.map_cons,lU hd,lU hv]
  exact this
theorem qR {ds:List D} (T:TS ds):∀ i∈srtP ds,i < ds.length:=fun i hi=>List.mem_range.mp ((jE T.lin T.l2).2.1.pm.mem_iff.mp hi)
theorem callSortTT (hc:X.calm=true) (hu:X.A.units+101 < cLine):ClG X K Z (.builtin "sorted") cSortTT:=fun hk=>by
 refine ⟨_,hk▸tM hu,?_⟩
 intro μ H M ws vs Q hr rx p
 match ws,rx,p with
 | [],_,p=>exact p.elim
 | [w],⟨v,r,e1,e2,e3⟩,p =>
  cases e3; subst e1
  simp only [cSortTT] at p
  cases q:lr M w with
  | none=>rw [q] at p; exact p.elim
  | some xs =>
   rw [q] at p
   simp only at p
   split at p
   ·rename_i T
    obtain ⟨a,us,rfl,h1,r1⟩:=uA hr e2 q
    exact ⟨a,us,μ,xs,rfl,h1,r1,T,hG hr (r1.pick _ (qR T)) p⟩
   ·exact p.elim
 | _::_::_,_,p=>exact p.elim
variable {EX:D->Mm->Prop} {M:Mm} {Q:W->Mm->Prop} {x:W}
theorem aAh {xs:List D} (h:lr M x=some xs) (T:TS xs) (q:Q (.d (.lst (srtT xs))) M):Okx EX (cSortTT [x] M) Q:=by
 unfold cSortTT
 simp only [h]
 rw [if_pos T]
 exact aJ q
theorem aFl {xs:List D} (T:TS xs):(srtT xs).Pairwise fun a b=>ltT (tl a) (tl b)=some true:=by
 obtain ⟨_,sz,so⟩:=jE T.lin T.l2
 refine List.pairwise_iff_getElem.mpr fun i j hi hj hij=>?_
 have hz:(srtP xs).length=xs.length:=by unfold srtP; rw [Array.length_toList,sz.sz]
 simp only [srtT,List.length_map] at hi hj
 have:=so i j hij (by omega)
 have gi:∀ k,k < (srtP xs).length->(krun (tLt xs) (kas_sort xs.length)).getD k 0=(srtP xs)[k]! := by
  intro k hk
  unfold srtP at hk ⊢
  simp [Array.getD] at hk ⊢
  simp [hk]
 simp only [srtT,List.getElem_map]
 rw [gi i hi,gi j hj] at this
 simp only [tLt,beq_iff_eq] at this
 simpa [hi,hj] using this
end
end EV
namespace EV
open PySem PySem.Spec PyProof.Rows L2
section
variable {X:Cx} {K:PySem.W.Frag} {Z:Zt} {o:Expr} {fo:FE}
theorem aAa:MtR X "int.bit_length" (fun x xs H Q=>∃ i,x=.int i/\xs=[]/\Q (.int (Builtin.Int.intBits i:Nat)) H):=by
 intro pins s σ H x vs v us Q I rx rv h
 obtain ⟨i,rfl,rfl,q⟩:=h
 obtain ⟨t,rfl⟩:=rx
 cases rv
 exact call_int_bit_length ⟨.int _,H,I.tok _,⟨_,rfl⟩,q⟩
noncomputable def pBitlen (x:W) (M:Mm):Oc W:=match x with
 | .d (.int i)=>okD (.int (Builtin.Int.intBits i:Nat)) M
 | _=>.bad
theorem aAf {apos cpos:Pos} (ho:Ev X K Z o fo) (hbase:attributeBase o "bit_length" X.env (eval o X.env)=eval o X.env:=by rfl) (hline:(apos.endLine==cpos.line)=true:=by rfl) :
  Ev X K Z (.Call (.Attribute o "bit_length" apos) [] [] cpos) (e1 pBitlen fo):=by
 have h:=aKq PySem.F.plainAttrs_int slot_int_bit_length type_int_bit_length aAa ho.h hbase hline
 rw [ho.k] at h
 refine ⟨ho.k,cqE h ?_⟩
 rintro σ H Q ⟨μ,M,L,hr,lr,p⟩
 refine ⟨μ,M,L,hr,lr,p.bind.imp fun μ1 H1 M1 x e1 hr1 _ p1 v rx=>?_⟩
 cases x with
 | ref k=>exact p1.elim
 | d x =>
  cases x with
  | int i =>
   simp only [Rw,Rp] at rx
   subst rx
   exact ⟨rfl,i,rfl,rfl,p1 μ1 H1 .refl hr1 _ (by simp [Rw,Rp])⟩
  | _=>exact p1.elim
variable {EX:D->Mm->Prop} {M:Mm} {Q:W->Mm->Prop}
theorem zR {i:Int} (q:Q (.d (.int (Builtin.Int.intBits i:Nat))) M):Okx EX (pBitlen (.d (.int i)) M) Q:=aJ q
end
end EV
set_option maxHeartbeats 1000000
namespace L2
open PySem PySem.Spec PyProof.Rows
open AutoSeq1 (wpAny_loadPart')
theorem aBx (a b:Value):checkTypeCall "enumerate" ⟨[a],[(Str.ofString "start",b)]⟩=pure ():=by kernel_rfl
theorem aCq (a b:Value):checkBuiltinCall "enumerate.__new__" ⟨[.type "enumerate",a],[(Str.ofString "start",b)]⟩=pure ():=by kernel_rfl
theorem aDl (o a b:Value):argsOk "object.__init__" ⟨[o,a],[(Str.ofString "start",b)]⟩:=by
 unfold argsOk; rw [signature?_of (id:="object.__init__") (n:=['_','_','t','i','n','i','_','_']) (o:=['t','c','e','j','b','o']) (by kernel_rfl) F.owner_object]; kernel_rfl
theorem sV (l:Addr) (items:Array Value) (c:Int) (t:Tok) (h0:0<=c) (h1:c < 1000000) :
  Meets (Builtin.«enumerate.__new__» ⟨[.type "enumerate",.ref l],[(Str.ofString "start",.int c t)]⟩) (fun _ R s=>s.heap.IsTuple l items/\R (.ok (.ret (.ref (eH1 false s.heap l).objs.size))) { s with heap:=eH2 false s.heap l c }) :=
 .of_wp fun prog w A R s h=>by
  obtain ⟨hp,g,d,tk,os⟩:=s; obtain ⟨hl,h⟩:=h
  have hsub:=sub_enumerate
  have hL:Heap.IsTuple (Shared.heap ⟨hp,g,d,tk,os⟩) l items:=hl
  have hfit:(!Builtin.SmallTypes.fitsIndex c)=false:=by
   unfold Builtin.SmallTypes.fitsIndex
   simp
   omega
  wp_walk
  refine wpAny_stack_any fun st=>wpAny_pure ?_
  split
  ·rename_i k _ _ _ _ _
   cases (k==Value.type "enumerate") <;> (wp_walk using wpAny_pyIter_tuple hL; exact ⟨_,rfl,h⟩)
  ·wp_walk using wpAny_pyIter_tuple hL
   exact ⟨_,rfl,h⟩
section
variable {prog:Program} {w:World} {A:Around} {E:Value->Shared->Prop} {s:Shared}
theorem initK {self a b:Value}:Meets (Builtin.«object.__init__» ⟨[self,a],[(Str.ofString "start",b)]⟩) (fun _ R s=>s.TypeIs self "enumerate"/\R (.ok (.ret .none)) s):=by
 have hl:=F.called_enumerate.init.lookup
 have hm:=F.called_enumerate.made
 refine Meets.of_wp fun prog w A R s ⟨hT,hq⟩=>?_
 repeat (any_goals (first | assumption | wp_step))
 exact ⟨_,rfl,hq⟩
end
end L2
namespace L2
open PySem PySem.Spec PyProof.Rows
section
variable {prog:Program} {w:World} {A:Around} {E:Value->Shared->Prop} {s:Shared}
theorem uY {l:Addr} {items:Array Value} {c:Int} {t:Tok} {Q:Value->Shared->Prop} (h0:0<=c) (h1:c < 1000000) (hl:s.heap.IsTuple l items)
  (h:∀ h',IsEnum h' (s.heap.objs.size+1) s.heap.objs.size c .none->It0 false h' s.heap.objs.size l 0->(∀ q o,s.heap.get? q=some o->h'.get? q=some o)->Q (.ref (s.heap.objs.size+1)) { s with heap:=h' }) :
  wpAny (model prog w) A (call (.type "enumerate") [.ref l] [(Str.ofString "start",.int c t)]) Q E s:=by
 obtain ⟨z1,f1,f2,f3⟩:=tN false s.heap l c
 have ft:=F.called_enumerate
 obtain ⟨k,tl,hmro⟩:=ft.mro
 have hmade:=ft.made
 have hsub:=ft.sub
 have hct:=aBx (.ref l) (.int c t)
 have g1:=ft.notType
 have g2:=ft.canCreate
 refine wpAny_call (codeAny_of_tree (show wpAny _ _ (callAny (.type "enumerate") _) _ _ _ from wpAny_pure ⟨Code.quiet_builtin _ (by decide +kernel),codeAny_builtin F.entry_type_call ?_⟩))
 rw [Around.under_plain (weight_type_call_type "enumerate" [.ref l] [(Str.ofString "start",.int c t)]) (units_type_call_type "enumerate" [.ref l] [(Str.ofString "start",.int c t)])]
 repeat (any_goals (first | assumption | wp_step))
 have hN:=sV l items c t h0 h1 prog w A.in1 (fun r s'=>r=.ok (.ret (.ref (s.heap.objs.size+1)))/\s'={ s with heap:=eH2 false s.heap l c }) s ⟨hl,by rw [z1],rfl⟩
 refine codeAny_mono (R:=fun r s'=>r=.ok (.ret (.ref (s.heap.objs.size+1)))/\s'={ s with heap:=eH2 false s.heap l c }) (codeAny_call_builtin ft.plain F.entry_enumerate_new (wpAny_of_eq (aCq (.ref l) (.int c t)) hN)) ?_
 rintro _ _ ⟨rfl,rfl⟩
 have hT:Shared.TypeIs { s with heap:=eH2 false s.heap l c } (.ref (s.heap.objs.size+1)) "enumerate":=⟨_,f1,rfl⟩
 have hli:=ft.init.lookup
 have hbi:=ft.init.bind (.ref (s.heap.objs.size+1))
 repeat (any_goals (first | assumption | wp_step))
 have hI:=initK (self:=.ref (s.heap.objs.size+1)) (a:=.ref l) (b:=.int c t) prog w A.in1 (fun r s'=>r=.ok (.ret .none)/\s'={ s with heap:=eH2 false s.heap l c }) { s with heap:=eH2 false s.heap l c } ⟨hT,rfl,rfl⟩
 refine codeAny_mono (R:=fun r s'=>r=.ok (.ret .none)/\s'={ s with heap:=eH2 false s.heap l c }) (codeAny_call_builtin ft.init.plain F.entry_object_init (ft.init.check _ _ _ _ _ _ _ _ hT (aDl (.ref (s.heap.objs.size+1)) (.ref l) (.int c t)) hI)) ?_
 rintro _ _ ⟨rfl,rfl⟩
 have hq:=h _ f1 f2 f3
 repeat (any_goals (first | assumption | wp_step))
end
end L2
set_option maxHeartbeats 400000
namespace L2
open PySem PySem.Spec PyProof.Rows
theorem aEz {M:Model} {A:Around} {E:Value->Shared->Prop} {s:Shared} {pos:Pos} {T:String} {args:List (Bool×Sem Value)} {kws:List (Option Str×Sem Value)} {Q:Value->Shared->Prop} (h1:args.any (·.1)=false) (h2:kws.any (·.1.isNone)=false)
  (h:wpAny M A (evalArgs (.type T) true args kws) (fun a s₁=>wpAny M A (call (.type T) a.pos a.kw) Q E s₁) E s):wpAny M A (callWith pos (.type T) [] args kws) Q E s:=by
 unfold callWith
 refine wpAny_bind (wpAny_holding (wpAny_mono h (fun a s₁ z=>wpAny_bind (wpAny_standAt ?_)) fun _ _ x=>x)); simp only [h1,h2,Bool.or_false]
 exact wpAny_bind (wpAny_pure (wpAny_bind (wpAny_mono z (fun r s₂ hr=>wpAny_bind (wpAny_holding (wpAny_point (wpAny_pure hr)))) fun _ _ x=>x)))
theorem aEv {X:Cx} {elts:List Expr} {x1} {tpos:Pos} {a e:Expr} {ta te:TE} {p pos kp:Pos} (hg:Gl X "enumerate") (hm:X.mg "enumerate"=none) (ha:PE X a ta) (he:PE X e te) (hs:starEach [a] X.env=[(false,eval a X.env)]) :
  PI X (.Tuple elts x1 tpos) (.Call (.Name "enumerate" p) [a] [⟨some "start",e,kp⟩] pos) (fun σ H R=>ta σ H fun x H1=>te σ H1 fun y H2=>∃ l xs c,x=.ref l/\y=.int c/\0<=c/\c < 1000000/\SqB false X.K H2 l xs/\R (Ite false X.K l c xs) H2):=by
 intro pins s σ H R I h
 refine wpAny_Call_Name_kw (iU I hg hm kO (aEz (by rw [hs]; rfl) (by rfl) ?_))
 have hA:=cZ ha fK hs pos pins s σ H (fun vs H1=>match vs with | [x]=>te σ H1 (fun y H2=>∃ l xs c,x=.ref l/\y=.int c/\0<=c/\c < 1000000/\SqB false X.K H2 l xs/\R (Ite false X.K l c xs) H2) | _=>False) I h
 rw [hs] at hA ⊢
 refine evalArgs_kwB (by rfl) (thn hA fun us s1 ⟨vs,H1,I1,r1,hr⟩=>?_)
 match vs,r1,hr with
 | [],_,hr=>exact hr.elim
 | _::_::_,_,hr=>exact hr.elim
 | [x],r1,hr =>
 obtain ⟨u,rfl,rx⟩:=vals1 r1
 refine thn (aEx (nm:=some "start") (kpos:=kp) he aLr pos pins s1 σ H1 (fun ys H2=>match ys with | [y]=>∃ l xs c,x=.ref l/\y=.int c/\0<=c/\c < 1000000/\SqB false X.K H2 l xs/\R (Ite false X.K l c xs) H2 | _=>False) I1 hr) fun ws s2 ⟨ys,H2,I2,r2,hq⟩=>?_
 match ys,r2,hq with
 | [],_,hq=>exact hq.elim
 | _::_::_,_,hq=>exact hq.elim
 | [y],r2,hq =>
 obtain ⟨l,xs,c,rfl,rfl,c0,c1,sx,hq⟩:=hq
 obtain ⟨u2,rfl,⟨t,rfl⟩⟩:=vals1 r2
 cases rx
 obtain ⟨its,q1,p1,z1⟩:=sx.inv I2
 have hl:l < s2.heap.objs.size:=p1.lt
 have hne:s2.heap.objs.size+1≠s2.heap.objs.size:=Nat.succ_ne_self _
 have hes:l≠s2.heap.objs.size+1:=Nat.ne_of_lt (Nat.lt_succ_of_lt hl)
 have his:l≠s2.heap.objs.size:=Nat.ne_of_lt hl
 show wpAny _ _ (call (.type "enumerate") [.ref l] [(Str.ofString "start",.int c t)]) _ _ _
 refine uY c0 c1 p1 fun h' a1 a2 k=>?_
 have tz:tne false (s2.heap.objs.size+1) s2.heap.objs.size l c 0 h':=⟨⟨_,by simpa using a1⟩,a2⟩
 refine (jL (P:=X.prog) (w:=X.w) (K:=X.K) (elts:=elts) (x1:=x1) (pos:=tpos) c hne hes his xs).self _ 0 _ _ _ tz ?_
 refine ⟨s2.heap.objs.size+1,_,_,_,H2,rfl,I2.kept (t':=s2.toks) fun q o e=>k q o e,jL c hne hes his xs,tz,fun q hb=>?_,hq⟩
 refine I2.fpOk ?_ (I2.hok.fresh ?_) <;>
 ·simp only [List.mem_cons,List.not_mem_nil,or_false] at hb
  rcases hb with rfl | rfl <;> (show (_:Nat)<=(_:Nat); omega)
end L2
namespace EV
open PySem PySem.Spec PyProof.Rows L2
section
variable {X:Cx} {K:PySem.W.Frag} {Z:Zt} {a b:Expr} {pos:Pos} {f g:FE}
noncomputable def iEnumK (f g:FE):FI:=fun L M=>(f L M).bind fun x M1=>(g L M1).bind fun y M2=>match x,y with
 | .d (.tup xs),.d (.int c)=>if 0<=c/\c < 1000000 then .ok ⟨enumT c xs,none⟩ M2 else .bad
 | _,_=>.bad
theorem aDd {μ:List Addr} {H:Hp} {p:Addr} {xs:List D} {vs:List V} {c:Int} (h1:H p=some (.tup vs)) (r1:Rps K μ H xs vs):ItOk K μ H ⟨enumT c xs,none⟩ (Ite false K p c vs):=by
 refine ⟨fun μ2 H2=>H2 p=some (.tup vs)/\Rps K μ2 H2 xs vs,⟨h1,r1⟩,fun μ1 H1 μ2 H2 l z e=>⟨e.keep _ _ (fun q=>by obtain ⟨us,q⟩:=l p q; rw [z.1] at q; cases q) z.1,Rps.ext l e _ _ z.2⟩,fun μ3 H3 M3 i hr3 hS hc=>⟨fun d hd=>?_,fun hl=>?_⟩⟩
 ·obtain ⟨x,hx,rfl⟩:=gD hd
  obtain ⟨u,hu,ru⟩:=hS.2.get hx
  refine ⟨⟨SqT.of hS.1,(List.getElem?_eq_some_iff.mp hu).1⟩,fun x' H4 hy4=>?_⟩
  obtain ⟨T,u',hT,rfl,hu',rfl⟩:=hy4
  rw [hu] at hu'; cases hu'
  exact kU hr3 hT (by simp [Rp]) ru
 ·refine ⟨SqT.of hS.1,?_⟩
  simp only [cM] at hl
  rw [<- hS.2.length]
  exact hl
theorem aBs {elts:List Expr} {x1} {tpos p kp:Pos} (hm:X.mg "enumerate"=none) (ha:Ev X K Z a f) (hb:Ev X K Z b g) (hg:Gl X "enumerate":=by rfl) (hs:starEach [a] X.env=[(false,eval a X.env)]:=by rfl) :
  Ei X K Z (.Tuple elts x1 tpos) (.Call (.Name "enumerate" p) [a] [⟨some "start",b,kp⟩] pos) (iEnumK f g):=by
 have h':=aEv (elts:=elts) (x1:=x1) (tpos:=tpos) (p:=p) (pos:=pos) (kp:=kp) hg hm ha.h hb.h hs
 rw [ha.k] at h'
 refine ⟨ha.k,cqI h' ?_⟩
 rintro σ H R ⟨μ,M,L,hr,lr,p⟩
 refine ⟨μ,M,L,hr,lr,p.bind.imp fun μ1 H1 M1 w e1 hr1 _ p1 v rx=>?_⟩
 refine ⟨μ1,M1,L,hr1,lr.ext hr.lsts e1,p1.bind.imp fun μ2 H2 M2 y e2 hr2 _ p2 u ry=>?_⟩
 cases w with
 | ref i=>exact p2.elim
 | d x =>
  cases x with
  | tup xs =>
   cases y with
   | ref i=>exact p2.elim
   | d y =>
    cases y with
    | int c =>
     dsimp only at p2
     split at p2
     ·rename_i hc
      have rx:=rx.ext hr1.lsts e2
      simp only [Rw,Rp] at rx ry
      obtain ⟨q,vs,rfl,h1,r1⟩:=rx
      exact ⟨q,vs,c,rfl,ry,hc.1,hc.2,SqT.of h1,p2 μ2 H2 .refl hr2 _ (aDd h1 r1)⟩
     ·exact p2.elim
    | _=>exact p2.elim
  | _=>exact p2.elim
theorem sR {k:Nat} {fd:FuncData} {fa:Addr} {ps:List Str} {m:Nat} {Fm:Fn} {x:Str} {p:Pos} {i:Int} {tk:Tok} {e:Expr} {es:List Expr} {fs:FA} (Gf:FnOk X.prog X.w X.K X.mg X.base CX0 k fa fd ps (spF K Z0 m Fm)) (hr:Room k X.A) (hm:X.mg x=some (.ref fa)) (hk:PySem.W.keepIn X.K (.ref fa)=true) (hb:Binds X.K fd ps [.int i tk])
  (ha:Ea X K Z0 (e::es) fs) (hg:Gl X x:=by rfl) (hdb:(x==("__debug__":Str))=false:=by decide) (he:starEach (e::es) X.env=(false,eval e X.env)::starEach es X.env:=by rfl) (hpl:(backTo pos (starEach es X.env)).any (·.1)=false:=by rfl)
  (hlen:∀ ws M,ws.length≠m->Fm ws M=.bad:=by intro ws M h; first | exact if_neg h | rfl):Ev X K Z0 (.Call (.Name x p) (e::es) [] pos) (eA Fm (aDef fs [.int i])):=by
 refine ⟨ha.k,cqE (yS (dvs:=[.int i]) Gf hr hg hm hk hb (.cons ⟨tk,rfl⟩ .nil) pass0 ha.h hdb he hpl) ?_⟩
 rintro σ H Q ⟨μ,M,L,hr,lr,p⟩
 refine ⟨μ,M,L,hr,lr,p.bind.bind.imp fun μ1 H1 M1 ws e1 hr1 _ p1 vs rx=>?_⟩
 have rx':=rx.append (us:=[.d (.int i)]) (zs:=[.int i]) ⟨.int i,[],rfl,by simp [Rw,Rp],rfl⟩
 have p2:Pst K Z0 μ1 H1 (Fm (ws++[.d (.int i)]) M1) (Wk K Q):=p1 μ1 H1 .refl hr1
 refine ⟨?_,μ1,M1,ws++[.d (.int i)],hr1,rx',p2⟩
 by_cases hw:(ws++[W.d (.int i)]).length=m
 ·rw [<- rx'.length]; exact hw
 ·rw [hlen _ M1 hw] at p2; exact p2.elim
variable {EX:D->Mm->Prop} {L:Lc} {M:Mm}
theorem zJ {QI:Src->Mm->Prop} (h:Okx EX (f L M) fun x M1=>Okx EX (g L M1) fun y M2=>∃ xs c,x=.d (.tup xs)/\y=.d (.int c)/\(0<=c/\c < 1000000)/\QI ⟨enumT c xs,none⟩ M2):Okx EX (iEnumK f g L M) QI :=
 aF (h.mono fun x M1 z=>aF (z.mono fun y M2 ⟨xs,c,e1,e2,hc,q⟩=>by subst e1 e2; dsimp only; rw [if_pos hc]; exact aJ q))
end
section
variable {K:PySem.W.Frag}
theorem aKw {P:Program} {w:World} {mg:Str->Option Value} {base:Heap} {x qual:Str} {st:Stmt} {fa:Addr} {fd:FuncData} {N ps:List Str} {k:Nat} {F:FS} (hf:FunG K x qual st fa fd) (S:FnScope N ps (defScope st))
  (hb:∀ (cdv:Value) (A:Around) (outer:List Env) (s:Shared) (H:Hp) (E:XK),Room k (A.deeper (envOfC qual (defScope st) s.heap.objs.size fa cdv))->Ess (cxOf CX0 P w K mg base N qual (defScope st) fa cdv A outer s H E).nox K Z0 (defBody st) F) :
  FnOk P w K mg base CX0 (k+1) fa fd ps (spF K Z0 ps.length (fnD ps.length N.length F)):=by
 obtain ⟨oc,od,dV,kV,doc,pm,an,cdv,ct,osl,rfl,lk,hcd⟩:=hf.ex
 refine aId lk hcd S (fun vs H Q E h=>h.1) fun A outer s H vs Q E hr hsp=>⟨_,(hb cdv A outer s H E hr).h.nox,?_⟩
 obtain ⟨hv,μ,M,ws,hr,rx,p⟩:=hsp
 refine ⟨μ,M,_,hr,oI rx,?_⟩
 unfold fnD at p
 rw [if_pos (by rw [rx.length]; exact hv)] at p
 cases q:F (ws.map some++List.replicate (N.length - ws.length) none) M with
 | bad=>rw [q] at p; exact p
 | ex z M'=>rw [q] at p; exact p
 | ok o M' =>
  rw [q] at p
  simp only [fE] at p
  intro μ1 H1 e1 hr1
  have hb:=hr1.back e1
  rw [hr.len] at hb
  cases o with
  | nx L'=>exact fun σ' lr'=>p μ H1 e1.back hb _ (by simp [Rw,Rp])
  | bk L'=>exact p.elim
  | ct L'=>exact p.elim
  | rt w =>
   intro v rv
   have hsub:∀ a,a∈μ->a∈μ1:=fun a ha=>by rw [<- e1.take] at ha; exact List.mem_of_mem_take ha
   cases w with
   | d x=>exact p μ H1 e1.back hb v (Rp.sub hsub x v rv)
   | ref i =>
    simp only [retc] at p
    split at p
    ·rename_i hi
     obtain ⟨a,qa,rfl⟩:=rv
     refine p μ H1 e1.back hb _ ⟨a,?_,rfl⟩
     rw [<- hr.len] at hi
     have:=e1.pre i μ[i] (by simp [hi])
     rw [qa] at this; cases this
     simp [hi]
    ·rename_i hi
     cases q2:M'[i]? with
     | none=>simp only [q2] at p; exact p.elim
     | some ds =>
      simp only [q2] at p
      obtain ⟨a,qa,rfl⟩:=rv
      obtain ⟨a',vs',qa',h1,r1⟩:=hr1.at q2
      rw [qa] at qa'; cases qa'
      refine p μ H1 e1.back hb _ ?_
      simp only [Rw,Rp]
      refine ⟨a,vs',rfl,h1,fun ha=>?_,Rps.sub hsub _ _ r1⟩
      obtain ⟨j,hj,ej⟩:=List.mem_iff_getElem.mp ha
      have h2:=e1.pre j a (by rw [<- ej]; simp [hj])
      have l1:=(List.getElem?_eq_some_iff.mp qa).1
      have l2:=(List.getElem?_eq_some_iff.mp h2).1
      have g1:=(List.getElem?_eq_some_iff.mp qa).2
      have g2:=(List.getElem?_eq_some_iff.mp h2).2
      have pw:=List.pairwise_iff_getElem.mp hr1.nd
      rw [hr.len] at hj
      exact pw j i l2 l1 (by omega) (g2.trans g1.symm)
end
end EV
namespace L2
open PySem PySem.Spec PyProof.Rows
section
variable {prog:Program} {w:World} {A:Around} {E:Value->Shared->Prop} {s:Shared}
theorem aHm:fillsInplaceSlot (.type "list") "add" (Operator.Add==.Add)=pure false:=by
 unfold fillsInplaceSlot
 show (typeLookup (.type "list") (dunderI "add") >>= _)=_
 rw [F.slot_list_iadd.lookup]
 rfl
theorem aHc:seqSlot? (.type "list") (dunderI "add")=pure (some (.builtin "list.__iadd__")):=by
 unfold seqSlot?
 rw [F.slot_list_iadd.lookup]
 rfl
theorem aGw:fillsNumberSlot (.type "list") "add"=pure false:=by
 first | exact noFill_list_add | (unfold fillsNumberSlot; kernel_rfl)
theorem aAb {a b:Value} {Q:Value->Shared->Prop} (ha:s.TypeIs a "list") (hb:s.TypeIs b "list") (hc:wpAny (model prog w) A (call (.builtin "list.__iadd__") [a,b]) Q E s):wpAny (model prog w) A (inplaceOp .Add a b) Q E s:=by
 unfold inplaceOp
 refine wpAny_holding (wpAny_bind (wpAny_typeOf ha (wpAny_bind (wpAny_of_eq aHm ?_))))
 show wpAny (model prog w) A (if false=true then _ else _) Q E s
 rw [if_neg (by decide)]
 exact wpAny_bind (wpAny_binaryOp1_none (nm:="add") ha hb aGw (wpAny_bind (wpAny_of_eq aHc (wpAny_bind (wpAny_rule hc)))))
end
section
variable {X:Cx}
noncomputable def ipL:TIp:=fun x y H Q=>∃ l b xs zs,x=.ref l/\y=.ref b/\H l=some (.lst xs)/\H b=some (.lst zs)/\xs.length+zs.length<=sizeLine/\Q (.ref l) (upd H l (.lst (xs++zs)))
theorem aGt:PIp X .Add ipL:=by
 intro pins s σ H x y v u Q I r1 r2 h
 obtain ⟨l,b,xs,zs,rfl,rfl,hH,hB,hz,q⟩:=h
 cases r1
 cases r2
 obtain ⟨z,its,n,r,hl,e⟩:=I.lstM hH
 obtain ⟨z2,its2,n2,r2,hl2,e2⟩:=I.lstM hB
 have hsz:its.toArray.size+its2.toArray.size<=sizeLine:=by rw [List.size_toArray,List.size_toArray]; omega
 have hno:¬ (!its.toArray.isEmpty&&Builtin.List.listTooLong (its.toArray.size+its2.toArray.size))=true:=by rw [notLongL hsz,Bool.and_false]; decide
 refine aAb ⟨_,e,rfl⟩ ⟨_,e2,rfl⟩ (call_meets F.slot_list_iadd ⟨_,e,rfl⟩ F.entry_list_iadd (F.args_list_iadd_2 _ _) (AutoSeq1.list___iadd___list_list_0 l its.toArray n b its2.toArray n2 hno (by rw [List.size_toArray]; omega) (by omega)) ⟨e,e2,?_⟩)
 refine ⟨.ref l,_,I.lset (its':=its++its2) hH e (by simp) (r.append r2) ?_,rfl,q⟩; rw [List.length_append]; omega
end
end L2
namespace EV
open PySem PySem.Spec PyProof.Rows L2
section
variable {X:Cx} {K:PySem.W.Frag} {Z:Zt} {e:Expr} {f:FE} {pos:Pos}
noncomputable def sAugL (i:Nat) (f:FE):FS:=fun L M=>(eV i L M).bind fun x _=>(f L M).bind fun y M1=>match x with
 | .ref k=>match M1[k]?,lv M1 y with
  | some xs,some ys=>if xs.length+ys.length<=16777216 then .ok (.nx (L.set i (some (.ref k)))) (M1.set k (xs++ys)) else .bad
  | _,_=>.bad
 | _=>.bad
theorem aGy {i:Nat} {x:Str} {pos':Pos} (hN:X.N.Nodup) (he:Ev X K Z e f) (hi:X.N[i]?=some x:=by rfl) (hx:Loc X.env.scope x:=by first | exact Or.inl rfl | exact Or.inr rfl)
  (hf:X.fn x=true\/X.env.scope.names.lookup x=some .local:=by first | exact .inl rfl | exact .inr rfl | assumption):Es X K Z (.AugAssign (.Name x pos') .Add e pos) (sAugL i f):=by
 refine ⟨he.k,cqS (aLh hN hi hx he.h aGt hf) ?_⟩
 rintro E σ H ⟨μ,M,L,hr,lr,p⟩
 unfold sAugL eV at p
 cases q:L[i]? with
 | none=>rw [q] at p; exact p.elim
 | some o =>
  cases o with
  | none=>rw [q] at p; exact p.elim
  | some w =>
   rw [q] at p
   obtain ⟨v,q1,q2⟩:=lr.ent i w q
   refine ⟨v,q1,μ,M,L,hr,lr,(show Pst K Z μ H ((f L M).bind _) _ from p).bind.imp fun μ1 H1 M1 y e1 hr1 _ p1 u ru=>?_⟩
   cases w with
   | d w=>exact p1.elim
   | ref k =>
    cases k1:M1[k]? with
    | none=>simp only [k1] at p1; exact p1.elim
    | some xs =>
     cases k2:lv M1 y with
     | none=>simp only [k1,k2] at p1; exact p1.elim
     | some ys =>
      simp only [k1,k2] at p1
      split at p1
      ·rename_i hz
       obtain ⟨a,qa,rfl⟩:=Rw.ext hr.lsts e1 q2
       obtain ⟨a',vs,qa',h1,r1⟩:=hr1.at k1
       rw [qa] at qa'; cases qa'
       obtain ⟨b,us,rfl,h2,r2⟩:=mC hr1 ru k2
       refine ⟨a,b,vs,us,rfl,rfl,h1,h2,by rw [<- r1.length,<- r2.length,sizeLine_eq]; exact hz,?_⟩
       have x:=dQ (H:=H1) (o:=.lst (vs++us)) qa
       exact p1 μ1 _ x (hr1.set qa (r1.append r2)) _ (LR.set ((lr.ext hr.lsts e1).ext hr1.lsts x) ⟨a,qa,rfl⟩)
      ·exact p1.elim
variable {EX:D->Mm->Prop} {L:Lc} {M:Mm} {QS:Out->Mm->Prop}
theorem aGj {i:Nat} {k:Nat} (h:L[i]?=some (some (.ref k))) (z:Okx EX (f L M) fun y M1=>∃ xs ys,M1[k]?=some xs/\lv M1 y=some ys/\xs.length+ys.length<=16777216/\QS (.nx (L.set i (some (.ref k)))) (M1.set k (xs++ys))):Okx EX (sAugL i f L M) QS:=by
 unfold sAugL eV
 rw [h]
 exact aF (aJ (aF (z.mono fun y M1 ⟨xs,ys,e1,e2,hz,q⟩=>by simp only [e1,e2]; rw [if_pos hz]; exact aJ q)))
end
end EV
set_option maxHeartbeats 4000000
namespace K48
open PySem L2 EV
noncomputable def top (i:Nat):Stmt:=PySem.Challenge.pw_lentshelf_k48_whole_trees_back_and_one_b.main.body.getD i (.Pass ⟨0,0,0,0⟩)
noncomputable abbrev cW:Stmt:=top 5
noncomputable abbrev eM:Stmt:=top 6
noncomputable abbrev bB:Stmt:=top 8
noncomputable abbrev bC:Stmt:=top 9
noncomputable abbrev bU:Stmt:=top 10
noncomputable abbrev dP:Stmt:=top 11
noncomputable abbrev cQ:Stmt:=top 13
noncomputable abbrev gB:Stmt:=top 14
noncomputable abbrev cU:Stmt:=top 16
noncomputable abbrev bH:Stmt:=top 17
noncomputable abbrev fW:Stmt:=top 19
noncomputable abbrev aV:Stmt:=top 20
noncomputable abbrev aZ:Stmt:=top 21
noncomputable abbrev cV:Stmt:=top 22
noncomputable abbrev aU:Stmt:=top 23
noncomputable abbrev bO:Stmt:=top 24
noncomputable abbrev aR:Stmt:=top 26
noncomputable abbrev eQ:Stmt:=top 27
noncomputable abbrev bE:Stmt:=top 28
noncomputable abbrev bW:Stmt:=top 29
noncomputable abbrev aW:Stmt:=top 30
noncomputable abbrev aX:Stmt:=top 31
noncomputable abbrev eS:Stmt:=top 33
noncomputable abbrev dI:Stmt:=top 34
noncomputable abbrev dG:Stmt:=top 35
noncomputable abbrev cG:Stmt:=top 36
noncomputable abbrev eP:Stmt:=top 37
noncomputable abbrev cH:Stmt:=top 38
noncomputable abbrev dA:Stmt:=top 39
noncomputable abbrev dO:Stmt:=top 40
noncomputable abbrev aY:Stmt:=top 41
noncomputable abbrev fV:Stmt:=top 42
noncomputable abbrev cP:Stmt:=top 43
noncomputable abbrev fN:Stmt:=top 44
noncomputable def b_inverse:FS :=
 (sSeq (sPar 2 3 (aCons (eV 0) (aCons (e2 pMod (eV 1) (eV 0)) aNil)))
  (sSeq (sAs (eA mkT (aCons (eC (.int 0)) (aCons (eC (.int 1)) aNil))) (gT 2 (gsCons (gN 4) (gsCons (gN 5) gsNil))))
  (sSeq (whileD (EV.tB (e2 pGt (eV 3) (eC (.int 0))))
  (sSeq (sAs (e2 pDiv (eV 2) (eV 3)) (gN 6))
  (sSeq (sPar 2 3 (aCons (eV 3) (aCons (e2 pSub (eV 2) (e2 pMulA (eV 6) (eV 3))) aNil)))
  (sPar 4 5 (aCons (eV 5) (aCons (e2 pSub (eV 4) (e2 pMulA (eV 6) (eV 5))) aNil))))) NW)
  (sSeq (sIf (EV.tB (e2 pNe (eV 2) (eC (.int 1))))
  (sRt (eC .non))
  sNil)
  (sRt (e2 pMod (eV 4) (eV 0)))))))
noncomputable def dU:Fn:=fnD 2 7 b_inverse
theorem jB {ws:List W} {M:Mm} (h:ws.length≠2):dU ws M=.bad:=if_neg h
noncomputable def b_power:FS :=
 (sSeq (sAs (e2 pMod (eC (.int 1)) (eV 0)) (gN 3))
  (sSeq (sAs (e2 pMod (eV 1) (eV 0)) (gN 4))
  (sSeq (sAs (eV 2) (gN 5))
  (sSeq (whileD (EV.tB (e2 pGt (eV 5) (eC (.int 0))))
  (sSeq (sIf (EV.tB (e2 pEq (e2 pMod (eV 5) (eC (.int 2))) (eC (.int 1))))
  (sAs (e2 pMod (e2 pMulA (eV 3) (eV 4)) (eV 0)) (gN 3))
  sNil)
  (sSeq (sAs (e2 pMod (e2 pMulA (eV 4) (eV 4)) (eV 0)) (gN 4))
  (sAs (e2 pDiv (eV 5) (eC (.int 2))) (gN 5)))) NW)
  (sRt (eV 3))))))
noncomputable def jH:Fn:=fnD 3 6 b_power
theorem qH {ws:List W} {M:Mm} (h:ws.length≠3):jH ws M=.bad:=if_neg h
noncomputable def b_deed_back:FS :=
 (sSeq (sIf (EV.tB (e2 pEq (e2 pIx (eV 1) (eC (.int 0))) (eC (.str "scale"))))
  (sRt (eA mkT (aCons (eC (.str "scale")) (aCons (e2 pIx (eV 1) (eC (.int 1))) (aCons (eA dU (aCons (eV 0) (aCons (e2 pIx (eV 1) (eC (.int 2))) aNil))) aNil)))))
  sNil)
  (sRt (eA mkT (aCons (eC (.str "add")) (aCons (e2 pIx (eV 1) (eC (.int 1))) (aCons (e2 pMod (e1 pNeg (e2 pIx (eV 1) (eC (.int 2)))) (eV 0)) (aCons (e2 pIx (eV 1) (eC (.int 3))) (aCons (e2 pIx (eV 1) (eC (.int 4))) aNil))))))))
noncomputable def dS:Fn:=fnD 2 2 b_deed_back
theorem pK {ws:List W} {M:Mm} (h:ws.length≠2):dS ws M=.bad:=if_neg h
noncomputable def b_deeds_back:FS :=
 (sRt (eA cTup (aCons (eComp [none,some 0] (iRv (eV 1)) (gN 0) EV.tYes (eA dS (aCons (eV 1) (aCons (eV 0) aNil)))) aNil)))
noncomputable def dF:Fn:=fnD 2 2 b_deeds_back
theorem jA {ws:List W} {M:Mm} (h:ws.length≠2):dF ws M=.bad:=if_neg h
noncomputable def b_turned_back:FS :=
 (sSeq (sAs (eV 0) (gT 4 (gsCons (gN 1) (gsCons (gN 2) (gsCons (gN 3) (gsCons (gN 4) gsNil))))))
  (sRt (eA mkT (aCons (eV 1) (aCons (eV 2) (aCons (eV 3) (aCons (eA dF (aCons (eV 1) (aCons (eV 4) aNil))) aNil)))))))
noncomputable def dN:Fn:=fnD 1 5 b_turned_back
theorem mI {ws:List W} {M:Mm} (h:ws.length≠1):dN ws M=.bad:=if_neg h
noncomputable def b_behind:FS :=
 (sRt (eA mkT (aCons (e2 pIx (eV 0) (eC (.int 0))) (aCons (eA cMax2 (aCons (e2 pIx (eV 0) (eC (.int 1))) (aCons (e2 pIx (eV 1) (eC (.int 1))) aNil))) (aCons (eA cMax2 (aCons (e2 pIx (eV 0) (eC (.int 2))) (aCons (e2 pIx (eV 1) (eC (.int 2))) aNil))) (aCons (e2 pAdd (e2 pIx (eV 0) (eC (.int 3))) (e2 pIx (eV 1) (eC (.int 3)))) aNil))))))
noncomputable def iP:Fn:=fnD 2 2 b_behind
theorem vS {ws:List W} {M:Mm} (h:ws.length≠2):iP ws M=.bad:=if_neg h
noncomputable def b_is_root:FS :=
 (sSeq (sIf (EV.tB (e2 pNe (eA jH (aCons (eV 0) (aCons (eV 1) (aCons (eV 2) aNil)))) (eC (.int 1))))
  (sRt (eC (.bl false)))
  sNil)
  (sSeq (sFor (iR2 (eC (.int 1)) (eV 2)) (gN 3)
  (sIf (EV.tB (e2 pIs (eA dU (aCons (eV 0) (aCons (e2 pSub (eA jH (aCons (eV 0) (aCons (eV 1) (aCons (eV 3) aNil)))) (eC (.int 1))) aNil))) (eC .non)))
  (sRt (eC (.bl false)))
  sNil))
  (sRt (eC (.bl true)))))
noncomputable def gC:Fn:=fnD 3 4 b_is_root
theorem sY {ws:List W} {M:Mm} (h:ws.length≠3):gC ws M=.bad:=if_neg h
noncomputable def b_root:FS :=
 (sSeq (sFor (iR1 (eV 0)) (gN 2)
  (sIf (tV (eA gC (aCons (eV 0) (aCons (eV 2) (aCons (eV 1) aNil)))))
  (sRt (eV 2))
  sNil))
  (sRt (eC .non)))
noncomputable def nU:Fn:=fnD 2 3 b_root
theorem aDp {ws:List W} {M:Mm} (h:ws.length≠2):nU ws M=.bad:=if_neg h
noncomputable def b_root_of:FS :=
 (sSeq (sAs (eA nU (aCons (eV 0) (aCons (eV 1) aNil))) (gN 2))
  (sSeq (sIf (EV.tB (e2 pIs (eV 2) (eC .non)))
  sBad
  sNil)
  (sRt (eV 2))))
noncomputable def gH:Fn:=fnD 2 3 b_root_of
theorem tH {ws:List W} {M:Mm} (h:ws.length≠2):gH ws M=.bad:=if_neg h
noncomputable def b_rounds_by:FS :=
 (sSeq (sAs (eA dU (aCons (eV 0) (aCons (eV 1) aNil))) (gN 5))
  (sSeq (sAs (eA mkT aNil) (gN 6))
  (sSeq (sFor (iE (eV 3)) (gT 2 (gsCons (gN 7) (gsCons (gN 8) gsNil)))
  (sAs (e2 pAdd (eV 6) (eV 8)) (gN 6)))
  (sSeq (sAs (eA dF (aCons (eV 0) (aCons (eV 6) aNil))) (gN 9))
  (sSeq (sAs (e2 pAdd (eV 6) (eA cTup (aCons (eComp [none,none,none,none,none,some 0,some 5] (iE (eV 4)) (gT 5 (gsCons (gN 0) (gsCons (gN 1) (gsCons (gN 2) (gsCons (gN 3) (gsCons (gN 4) gsNil)))))) EV.tYes (eA mkT (aCons (eC (.str "add")) (aCons (eV 1) (aCons (e2 pMod (e2 pMulA (eV 6) (eV 2)) (eV 5)) (aCons (eV 3) (aCons (eV 4) aNil))))))) aNil))) (gN 6))
  (sSeq (sAs (e2 pAdd (e2 pAdd (eV 6) (eV 9)) (eA cTup (aCons (eComp [none,none,some 2] (iE (eV 3)) (gT 2 (gsCons (gN 0) (gsCons (gN 1) gsNil))) EV.tYes (eA mkT (aCons (eC (.str "scale")) (aCons (eV 0) (aCons (eV 2) aNil))))) aNil))) (gN 6))
  (sRt (e2 pMulA (eV 6) (eV 1)))))))))
noncomputable def eW:Fn:=fnD 5 10 b_rounds_by
theorem pN {ws:List W} {M:Mm} (h:ws.length≠5):eW ws M=.bad:=if_neg h
noncomputable def b_bits:FS :=
 (sRt (eIf (EV.tB (e2 pEq (eV 0) (eC (.int 2)))) (eC (.int 1)) (eC (.int 2))))
noncomputable def gA:Fn:=fnD 1 1 b_bits
theorem gK {ws:List W} {M:Mm} (h:ws.length≠1):gA ws M=.bad:=if_neg h
noncomputable def b_term_numbers:FS :=
 (sSeq (sAs (eA cListR (aCons (eV 0) aNil)) (gN 1))
  (sSeq (sAs (eA cLen (aCons (eV 0) aNil)) (gN 2))
  (sSeq (sAs (eC (.int 1)) (gN 3))
  (sSeq (whileD (EV.tB (e2 pLt (eV 3) (eV 2)))
  (sSeq (sFor (iR1 (eV 2)) (gN 4)
  (sIf (EV.tB (e2 pGt (e2 pAnd (eV 4) (eV 3)) (eC (.int 0))))
  (sAugS (fun i j=>i - j) (eV 1) (eV 4) (e2 pIx (eV 1) (e2 pSub (eV 4) (eV 3))))
  sNil))
  (sAs (e2 pMulA (eV 3) (eC (.int 2))) (gN 3))) NW)
  (sRt (eV 1))))))
noncomputable def dD:Fn:=fnD 1 5 b_term_numbers
theorem lV {ws:List W} {M:Mm} (h:ws.length≠1):dD ws M=.bad:=if_neg h
noncomputable def b_bit_row:FS :=
 (sSeq (sAs (eIf (EV.tB (e2 pEq (eA gA (aCons (eV 0) aNil)) (eC (.int 1)))) (eC (.int 2)) (eC (.int 4))) (gN 3))
  (sSeq (sAs (eA mkR aNil) (gN 4))
  (sSeq (sFor (iR1 (eV 3)) (gN 5)
  (sFor (iR1 (eV 3)) (gN 6)
  (sSeq (sAs (eIf (EV.tAnd (EV.tB (e2 pLt (eV 6) (eV 0))) (EV.tB (e2 pLt (eV 5) (eV 0)))) (e2 pIx (eV 1) (e2 pAdd (e2 pMulA (eV 6) (eV 0)) (eV 5))) (eC (.int 0))) (gN 7))
  (sEx (eM1 pAppend (eV 4) (e2 pAnd (e2 pShr (eV 7) (eV 2)) (eC (.int 1))))))))
  (sRt (eV 4)))))
noncomputable def gF:Fn:=fnD 3 8 b_bit_row
theorem tY {ws:List W} {M:Mm} (h:ws.length≠3):gF ws M=.bad:=if_neg h
noncomputable def b_places_of:FS :=
 (sRt (eA cTup (aCons (eComp [none,some 0] (iR1 (e1 pBitlen (eV 0))) (gN 0) (EV.tB (e2 pEq (e2 pAnd (e2 pShr (eV 1) (eV 0)) (eC (.int 1))) (eC (.int 1)))) (eV 0)) aNil)))
noncomputable def eY:Fn:=fnD 1 1 b_places_of
theorem pL {ws:List W} {M:Mm} (h:ws.length≠1):eY ws M=.bad:=if_neg h
noncomputable def b_polynomial:FS :=
 (sSeq (sAs (eA dD (aCons (eA gF (aCons (eV 1) (aCons (eV 2) (aCons (eV 3) aNil)))) aNil)) (gN 4))
  (sSeq (sAs (eComp [none,none,some 0] (iEnum (eV 4)) (gT 2 (gsCons (gN 0) (gsCons (gN 1) gsNil))) EV.tYes (eA mkT (aCons (eA eY (aCons (eV 0) aNil)) (aCons (e2 pMod (eV 1) (eV 2)) aNil)))) (gN 5))
  (sRt (eA cTup (aCons (eComp [none,none] (iE (eA cSortTT (aCons (eV 5) aNil))) (gT 2 (gsCons (gN 0) (gsCons (gN 1) gsNil))) (EV.tB (e2 pNe (eV 1) (eC (.int 0)))) (eA mkT (aCons (eV 1) (aCons (eV 0) aNil)))) aNil)))))
noncomputable def dW:Fn:=fnD 4 6 b_polynomial
theorem oO {ws:List W} {M:Mm} (h:ws.length≠4):dW ws M=.bad:=if_neg h
noncomputable def b_polynomials:FS :=
 (sRt (eA cTup (aCons (eComp [none,some 0,some 1,some 2] (iR1 (eA gA (aCons (eV 1) aNil))) (gN 0) EV.tYes (eA dW (aCons (eV 1) (aCons (eV 2) (aCons (eV 3) (aCons (eV 0) aNil)))))) aNil)))
noncomputable def cS:Fn:=fnD 3 3 b_polynomials
theorem iM {ws:List W} {M:Mm} (h:ws.length≠3):cS ws M=.bad:=if_neg h
noncomputable def b_order:FS :=
 (sRt (e2 pAdd (e2 pMulA (eC (.int 2)) (eA gA (aCons (eV 0) aNil))) (eC (.int 1))))
noncomputable def hZ:Fn:=fnD 1 1 b_order
theorem lM {ws:List W} {M:Mm} (h:ws.length≠1):hZ ws M=.bad:=if_neg h
noncomputable def b_tree_deeds (r_tree_deeds:Fn):FS :=
 (sSeq (sAs (eA gA (aCons (eV 1) aNil)) (gN 3))
  (sSeq (sIf (EV.tB (e2 pEq (e2 pIx (eV 2) (eC (.int 0))) (eC (.str "leaf"))))
  (sRt (eV 3))
  sNil)
  (sSeq (sAs (eA cSum (aCons (eComp [none] (iE (eA cS (aCons (eV 0) (aCons (eV 1) (aCons (e2 pIx (eV 2) (eC (.int 1))) aNil))))) (gN 0) EV.tYes (eA cLen (aCons (eV 0) aNil))) aNil)) (gN 4))
  (sSeq (sAs (e2 pAdd (eA r_tree_deeds (aCons (eV 0) (aCons (eV 1) (aCons (e2 pIx (eV 2) (eC (.int 2))) aNil)))) (eA r_tree_deeds (aCons (eV 0) (aCons (eV 1) (aCons (e2 pIx (eV 2) (eC (.int 3))) aNil))))) (gN 5))
  (sRt (e2 pMulA (eA hZ (aCons (eV 1) aNil)) (e2 pAdd (e2 pAdd (e2 pMulA (eC (.int 2)) (eV 5)) (eV 4)) (e2 pMulA (eC (.int 2)) (eV 3)))))))))
noncomputable def bG:Nat->Fn
 | 0=>fun _ _=>.bad
 | d+1=>fnD 3 6 (b_tree_deeds (bG d))
theorem fO:∀ {d:Nat} {ws:List W} {M:Mm},ws.length≠3->bG d ws M=.bad
 | 0,_,_,_=>by simp only [bG]
 | d+1,_,_,h=>by simp only [bG]; exact if_neg h
noncomputable def b_bringers_to:FS :=
 (sRt (e2 pAddR (eA mkL (aCons (eA mkT (aCons (e2 pIx (eV 0) (eC (.int 0))) (aCons (eV 1) aNil))) aNil)) (eComp [none] (iE (eSl (eV 0) (oAt (eC (.int 1))) oNo)) (gN 0) EV.tYes (eA mkT (aCons (eV 0) (aCons (eA mkT aNil) aNil))))))
noncomputable def cR:Fn:=fnR 2 2 b_bringers_to
theorem iL {ws:List W} {M:Mm} (h:ws.length≠2):cR ws M=.bad:=if_neg h
noncomputable def b_table_deeds:FS :=
 (sSeq (sAs (eA mkR aNil) (gN 5))
  (sSeq (sFor (iZip (eV 3) (eA cS (aCons (eV 0) (aCons (eV 1) (aCons (eV 2) aNil))))) (gT 2 (gsCons (gN 6) (gsCons (gN 7) gsNil)))
  (sFor (iE (eV 7)) (gT 2 (gsCons (gN 8) (gsCons (gN 9) gsNil)))
  (sEx (eM1 pAppend (eV 5) (eA mkT (aCons (eC (.str "add")) (aCons (eV 6) (aCons (eV 8) (aCons (eA mkT aNil) (aCons (eA cTup (aCons (eA cSorted (aCons (eComp [none,some 4] (iE (eV 9)) (gN 0) EV.tYes (e2 pIx (eV 1) (eV 0))) aNil)) aNil)) aNil))))))))))
  (sRt (eA cTup (aCons (eV 5) aNil)))))
noncomputable def dM:Fn:=fnD 5 10 b_table_deeds
theorem mK {ws:List W} {M:Mm} (h:ws.length≠5):dM ws M=.bad:=if_neg h
noncomputable def b_tree_row (r_tree_row:Fn):FS :=
 (sSeq (sIf (EV.tB (e2 pEq (e2 pIx (eV 3) (eC (.int 0))) (eC (.str "leaf"))))
  (sSeq (sAs (e2 pMulA (eA gA (aCons (eV 1) aNil)) (e2 pIx (eV 3) (eC (.int 1)))) (gN 7))
  (sRt (eA cTup (aCons (eComp [none,none] (iEnumK (eV 4) (eV 7)) (gT 2 (gsCons (gN 0) (gsCons (gN 1) gsNil))) EV.tYes (eA mkT (aCons (eC (.str "add")) (aCons (eV 1) (aCons (eC (.int 1)) (aCons (eA mkT (aCons (eV 0) aNil)) (aCons (eA mkT aNil) aNil))))))) aNil))))
  sNil)
  (sSeq (sAs (eA cR (aCons (eV 5) (aCons (eA r_tree_row (aCons (eV 0) (aCons (eV 1) (aCons (eV 2) (aCons (e2 pIx (eV 3) (eC (.int 2))) (aCons (eV 5) (aCons (eV 4) (aCons (eV 6) aNil)))))))) aNil))) (gN 8))
  (sSeq (sAugL 8 (eA cR (aCons (eV 6) (aCons (eA r_tree_row (aCons (eV 0) (aCons (eV 1) (aCons (eV 2) (aCons (e2 pIx (eV 3) (eC (.int 3))) (aCons (eV 6) (aCons (eV 4) (aCons (eV 5) aNil)))))))) aNil))))
  (sRt (eA eW (aCons (eV 0) (aCons (eA hZ (aCons (eV 1) aNil)) (aCons (eV 2) (aCons (eV 8) (aCons (eA dM (aCons (eV 0) (aCons (eV 1) (aCons (e2 pIx (eV 3) (eC (.int 1))) (aCons (eV 4) (aCons (e2 pAdd (eV 5) (eV 6)) aNil)))))) aNil))))))))))
noncomputable def bV:Nat->Fn
 | 0=>fun _ _=>.bad
 | d+1=>fnD 7 9 (b_tree_row (bV d))
theorem iJ:∀ {d:Nat} {ws:List W} {M:Mm},ws.length≠7->bV d ws M=.bad
 | 0,_,_,_=>by simp only [bV]
 | d+1,_,_,h=>by simp only [bV]; exact if_neg h
noncomputable def b_tree_program:FS :=
 (sSeq (sAs (eA gA (aCons (eV 1) aNil)) (gN 5))
  (sSeq (sAs (eA gH (aCons (eV 0) (aCons (eA hZ (aCons (eV 1) aNil)) aNil))) (gN 6))
  (sSeq (sIf (EV.tB (e2 pGt (eA (bG 50) (aCons (eV 0) (aCons (eV 1) (aCons (eV 3) aNil)))) (eV 4)))
  sBad
  sNil)
  (sSeq (sAs (eComp [none,some 5] (iE (eA mkT (aCons (eC (.int 0)) (aCons (eV 5) (aCons (e2 pMulA (eC (.int 2)) (eV 5)) aNil))))) (gN 0) EV.tYes (eTupleRange2 (eV 0) (e2 pAdd (eV 0) (eV 1)))) (gTL 3 (gsCons (gN 7) (gsCons (gN 8) (gsCons (gN 9) gsNil)))))
  (sRt (eA mkT (aCons (eV 0) (aCons (eV 2) (aCons (e2 pMulA (eC (.int 3)) (eV 5)) (aCons (eA (bV 50) (aCons (eV 0) (aCons (eV 1) (aCons (eV 6) (aCons (eV 3) (aCons (eV 7) (aCons (eV 8) (aCons (eV 9) aNil)))))))) aNil))))))))))
noncomputable def cI:Fn:=fnD 5 10 b_tree_program
theorem gG {ws:List W} {M:Mm} (h:ws.length≠5):cI ws M=.bad:=if_neg h
noncomputable def b_l_box:FS :=
 (sSeq (sAs (e2 pAdd (e2 pMulA (eC (.int 7919)) (eV 1)) (eC (.int 11))) (gN 2))
  (sSeq (sIf (EV.tB (e2 pLt (eV 1) (eA cLen (aCons (eV 0) aNil))))
  (sAs (e2 pIx (eV 0) (eV 1)) (gN 2))
  (sIf (EV.tB (e2 pGt (eA cLen (aCons (eV 0) aNil)) (eC (.int 0))))
  (sAs (e2 pAdd (eV 2) (e2 pMulA (e2 pMod (e2 pIx (eV 0) (e2 pMod (eV 1) (eA cLen (aCons (eV 0) aNil)))) (eC (.int 2147483629))) (eC (.int 69623)))) (gN 2))
  sNil))
  (sSeq (sAs (e2 pAdd (e2 pMod (e2 pAdd (e2 pMulA (e2 pMod (eV 2) (eC (.int 2147483629))) (eC (.int 48271))) (e2 pMulA (eC (.int 40692)) (eV 1))) (eC (.int 2147483629))) (eC (.int 1))) (gN 3))
  (sRt (eA mkR (aCons (e2 pIx (eA mkL (aCons (eC (.int 0)) (aCons (eV 2) aNil))) (eA cInt (aCons (e2 pGe (eV 2) (e2 pPow (eC (.int 10)) (eC (.int 18)))) aNil))) (aCons (eV 3) (aCons (eC (.int 0)) aNil))))))))
noncomputable def jM:Fn:=fnR 2 4 b_l_box
theorem lZ {ws:List W} {M:Mm} (h:ws.length≠2):jM ws M=.bad:=if_neg h
noncomputable def b_l_take:FS :=
 (sSeq (sIf (EV.tB (e2 pGt (e2 pIx (eV 0) (eC (.int 0))) (eC (.int 0))))
  (sSeq (sAs (e2 pMod (e2 pIx (eV 0) (eC (.int 0))) (eV 1)) (gN 2))
  (sSeq (sAs (e2 pDiv (e2 pIx (eV 0) (eC (.int 0))) (eV 1)) (gS (eV 0) (eC (.int 0))))
  (sRt (eV 2))))
  sNil)
  (sSeq (sAs (e2 pAdd (e2 pIx (eV 0) (eC (.int 2))) (eC (.int 1))) (gS (eV 0) (eC (.int 2))))
  (sSeq (sAs (e2 pMod (e2 pMulA (e2 pAdd (e2 pIx (eV 0) (eC (.int 1))) (e2 pMulA (eC (.int 104729)) (e2 pIx (eV 0) (eC (.int 2))))) (eC (.int 69623))) (eC (.int 2147483647))) (gN 3))
  (sSeq (sAs (e2 pAdd (e2 pMod (e2 pAdd (e2 pMulA (eV 3) (eC (.int 48271))) (eC (.int 30103))) (eC (.int 2147483629))) (eC (.int 1))) (gS (eV 0) (eC (.int 1))))
  (sRt (e2 pMod (e2 pDiv (e2 pAdd (e2 pMulA (eV 3) (eC (.int 2147483647))) (e2 pIx (eV 0) (eC (.int 1)))) (eC (.int 8191))) (eV 1)))))))
noncomputable def bI:Fn:=fnD 2 4 b_l_take
theorem bF {ws:List W} {M:Mm} (h:ws.length≠2):bI ws M=.bad:=if_neg h
noncomputable def b_l_rest:FS :=
 (sSeq (sAs (eA bI (aCons (eV 0) (aCons (eC (.int 4)) aNil))) (gN 2))
  (sSeq (sIf (EV.tB (e2 pEq (eV 2) (eC (.int 0))))
  (sRt (e2 pIx (eA mkL (aCons (eC (.int 0)) (aCons (e2 pMod (eC (.int 1)) (eV 1)) (aCons (e2 pSub (eV 1) (eC (.int 1))) (aCons (e2 pMod (e2 pSub (eV 1) (eC (.int 2))) (eV 1)) aNil))))) (eA bI (aCons (eV 0) (aCons (eC (.int 4)) aNil)))))
  sNil)
  (sRt (eA bI (aCons (eV 0) (aCons (eV 1) aNil))))))
noncomputable def iR:Fn:=fnD 2 3 b_l_rest
theorem vE {ws:List W} {M:Mm} (h:ws.length≠2):iR ws M=.bad:=if_neg h
noncomputable def b_l_rests:FS :=
 (sRt (eA cTup (aCons (eComp [none,some 0,some 1] (iR1 (eV 2)) (gN 0) EV.tYes (eA iR (aCons (eV 1) (aCons (eV 2) aNil)))) aNil)))
noncomputable def fF:Fn:=fnD 3 3 b_l_rests
theorem mD {ws:List W} {M:Mm} (h:ws.length≠3):fF ws M=.bad:=if_neg h
noncomputable def b_l_run:FS :=
 (sSeq (sAs (eA cListR (aCons (eV 2) aNil)) (gN 3))
  (sSeq (sFor (iE (e2 pIx (eV 0) (eC (.int 3)))) (gN 4)
  (sIf (EV.tB (e2 pEq (e2 pIx (eV 4) (eC (.int 0))) (eC (.str "scale"))))
  (sAs (e2 pMod (e2 pMulA (e2 pIx (eV 3) (e2 pIx (eV 4) (eC (.int 1)))) (e2 pIx (eV 4) (eC (.int 2)))) (e2 pIx (eV 0) (eC (.int 0)))) (gS (eV 3) (e2 pIx (eV 4) (eC (.int 1)))))
  (sSeq (sAs (e2 pIx (eV 4) (eC (.int 2))) (gN 5))
  (sSeq (sFor (iE (e2 pIx (eV 4) (eC (.int 3)))) (gN 6)
  (sAs (e2 pMod (e2 pMulA (eV 5) (e2 pIx (eV 1) (eV 6))) (e2 pIx (eV 0) (eC (.int 0)))) (gN 5)))
  (sSeq (sFor (iE (e2 pIx (eV 4) (eC (.int 4)))) (gN 7)
  (sAs (e2 pMod (e2 pMulA (eV 5) (e2 pIx (eV 3) (eV 7))) (e2 pIx (eV 0) (eC (.int 0)))) (gN 5)))
  (sAs (e2 pMod (e2 pAdd (e2 pIx (eV 3) (e2 pIx (eV 4) (eC (.int 1)))) (eV 5)) (e2 pIx (eV 0) (eC (.int 0)))) (gS (eV 3) (e2 pIx (eV 4) (eC (.int 1))))))))))
  (sRt (eA cTup (aCons (eV 3) aNil)))))
noncomputable def iD:Fn:=fnD 3 8 b_l_run
theorem lS {ws:List W} {M:Mm} (h:ws.length≠3):iD ws M=.bad:=if_neg h
noncomputable def b_l_table:FS :=
 (sSeq (sAs (eA bI (aCons (eV 0) (aCons (eC (.int 6)) aNil))) (gN 2))
  (sSeq (sIf (EV.tB (e2 pEq (eV 2) (eC (.int 0))))
  (sSeq (sAs (e2 pMulR (eA mkL (aCons (eA bI (aCons (eV 0) (aCons (eV 1) aNil))) aNil)) (e2 pMulA (eV 1) (eV 1))) (gN 3))
  (sSeq (sAs (eA bI (aCons (eV 0) (aCons (eV 1) aNil))) (gS (eV 3) (eA bI (aCons (eV 0) (aCons (e2 pMulA (eV 1) (eV 1)) aNil)))))
  (sRt (eA cTup (aCons (eV 3) aNil)))))
  sNil)
  (sRt (eA cTup (aCons (eComp [none,some 0,some 1] (iR1 (e2 pMulA (eV 1) (eV 1))) (gN 0) EV.tYes (eA bI (aCons (eV 1) (aCons (eV 2) aNil)))) aNil)))))
noncomputable def gQ:Fn:=fnD 2 4 b_l_table
theorem sL {ws:List W} {M:Mm} (h:ws.length≠2):gQ ws M=.bad:=if_neg h
noncomputable def b_l_bits:FS :=
 (sRt (eA cTup (aCons (eComp [none,some 0] (iR1 (eV 1)) (gN 0) EV.tYes (e2 pMod (e2 pDiv (eV 1) (e2 pIx (eA mkL (aCons (eC (.int 1)) (aCons (eC (.int 2)) aNil))) (eV 0))) (eC (.int 2)))) aNil)))
noncomputable def gI:Fn:=fnD 2 2 b_l_bits
theorem nZ {ws:List W} {M:Mm} (h:ws.length≠2):gI ws M=.bad:=if_neg h
noncomputable def b_l_tree (r_l_tree:Fn):FS :=
 (sSeq (sAs (eA bI (aCons (eV 0) (aCons (eC (.int 6)) aNil))) (gN 4))
  (sSeq (sIf (EV.tOr (EV.tB (e2 pEq (eV 2) (eC (.int 0)))) (EV.tB (e2 pEq (eV 4) (eC (.int 0)))))
  (sRt (eA mkT (aCons (eC (.str "leaf")) (aCons (eA bI (aCons (eV 0) (aCons (eV 3) aNil))) aNil))))
  sNil)
  (sSeq (sAs (eA gQ (aCons (eV 0) (aCons (eV 1) aNil))) (gN 5))
  (sSeq (sAs (eA r_l_tree (aCons (eV 0) (aCons (eV 1) (aCons (e2 pSub (eV 2) (eC (.int 1))) (aCons (eV 3) aNil))))) (gN 6))
  (sSeq (sAs (eA r_l_tree (aCons (eV 0) (aCons (eV 1) (aCons (e2 pSub (eV 2) (eC (.int 1))) (aCons (eV 3) aNil))))) (gN 7))
  (sRt (e2 pAdd (eA mkT (aCons (eC (.str "node")) (aCons (eV 5) aNil))) (e2 pIx (eA mkL (aCons (eA mkT (aCons (eV 6) (aCons (eV 7) aNil))) (aCons (eA mkT (aCons (eV 7) (aCons (eV 6) aNil))) aNil))) (eA bI (aCons (eV 0) (aCons (eC (.int 2)) aNil)))))))))))
noncomputable def dB:Nat->Fn
 | 0=>fun _ _=>.bad
 | d+1=>fnD 4 8 (b_l_tree (dB d))
theorem jX:∀ {d:Nat} {ws:List W} {M:Mm},ws.length≠4->dB d ws M=.bad
 | 0,_,_,_=>by simp only [dB]
 | d+1,_,_,h=>by simp only [dB]; exact if_neg h
noncomputable def b_l_tree_worth (r_l_tree_worth:Fn):FS :=
 (sSeq (sIf (EV.tB (e2 pEq (e2 pIx (eV 1) (eC (.int 0))) (eC (.str "leaf"))))
  (sRt (e2 pIx (eV 2) (e2 pIx (eV 1) (eC (.int 1)))))
  sNil)
  (sRt (e2 pIx (e2 pIx (eV 1) (eC (.int 1))) (e2 pAdd (e2 pMulA (eA r_l_tree_worth (aCons (eV 0) (aCons (e2 pIx (eV 1) (eC (.int 2))) (aCons (eV 2) aNil)))) (eV 0)) (eA r_l_tree_worth (aCons (eV 0) (aCons (e2 pIx (eV 1) (eC (.int 3))) (aCons (eV 2) aNil))))))))
noncomputable def aS:Nat->Fn
 | 0=>fun _ _=>.bad
 | d+1=>fnD 3 3 (b_l_tree_worth (aS d))
theorem eH:∀ {d:Nat} {ws:List W} {M:Mm},ws.length≠3->aS d ws M=.bad
 | 0,_,_,_=>by simp only [aS]
 | d+1,_,_,h=>by simp only [aS]; exact if_neg h
noncomputable def b_l_by:FS :=
 (sRt (e2 pIx (e2 pIx (eA mkL (aCons (eInts [7,13,19,31,49,91,133]) (aCons (eInts [11,31,41,61,121,341,11]) aNil))) (eA cInt (aCons (e2 pGt (eV 1) (eC (.int 2))) aNil))) (eA bI (aCons (eV 0) (aCons (eC (.int 7)) aNil)))))
noncomputable def oK:Fn:=fnD 2 2 b_l_by
theorem aCn {ws:List W} {M:Mm} (h:ws.length≠2):oK ws M=.bad:=if_neg h
noncomputable def b_l_given:FS :=
 (sSeq (sAs (eA mkT aNil) (gN 3))
  (sSeq (sFor (iE (eV 1)) (gN 4)
  (sAs (e2 pAdd (eV 3) (eA gI (aCons (eV 4) (aCons (e2 pIx (eA mkL (aCons (eC (.int 1)) (aCons (eC (.int 2)) aNil))) (eA cInt (aCons (e2 pGt (eV 0) (eC (.int 2))) aNil))) aNil)))) (gN 3)))
  (sRt (eSl (e2 pAdd (eV 3) (e2 pMulA (eA mkT (aCons (eC (.int 0)) aNil)) (eV 2))) oNo (oAt (eV 2))))))
noncomputable def gJ:Fn:=fnD 3 5 b_l_given
theorem uQ {ws:List W} {M:Mm} (h:ws.length≠3):gJ ws M=.bad:=if_neg h
noncomputable def b_law:FS :=
 (sSeq (sAs (eA jM (aCons (eV 0) (aCons (eC (.int 0)) aNil))) (gN 1))
  (sSeq (sAs (e2 pAdd (eC (.int 2)) (eA bI (aCons (eV 1) (aCons (eC (.int 3)) aNil)))) (gN 2))
  (sSeq (sAs (e2 pIx (eA mkL (aCons (eC (.int 1)) (aCons (eC (.int 2)) aNil))) (eA cInt (aCons (e2 pGt (eV 2) (eC (.int 2))) aNil))) (gN 3))
  (sSeq (sAs (eA oK (aCons (eV 1) (aCons (eV 2) aNil))) (gN 4))
  (sSeq (sAs (eComp [none,some 2,some 0,some 3] (iR1 (eC (.int 2))) (gN 0) EV.tYes (eTrim (eA (dB 50) (aCons (eA jM (aCons (eV 2) (aCons (e2 pAdd (eC (.int 1)) (eV 0)) aNil))) (aCons (eV 1) (aCons (e2 pIx (eA mkL (aCons (eC (.int 2)) (aCons (eC (.int 1)) aNil))) (eA cInt (aCons (e2 pGt (eV 1) (eC (.int 2))) aNil))) (aCons (e2 pDiv (eC (.int 8)) (eV 3)) aNil))))))) (gN 5))
  (sSeq (sAs (eA iP (aCons (eA cI (aDef (aCons (eV 4) (aCons (eV 2) (aCons (eC (.int 8)) (aCons (e2 pIx (eV 5) (eC (.int 0))) aNil)))) [.int 5000])) (aCons (eA cI (aDef (aCons (eV 4) (aCons (eV 2) (aCons (eC (.int 8)) (aCons (e2 pIx (eV 5) (eC (.int 1))) aNil)))) [.int 5000])) aNil))) (gN 6))
  (sSeq (sAs (eA jM (aCons (eV 0) (aCons (eC (.int 3)) aNil))) (gN 1))
  (sSeq (sAs (eA cTup (aCons (eComp [none,some 1,some 2] (iR1 (e2 pDiv (eC (.int 8)) (eV 3))) (gN 0) EV.tYes (eA bI (aCons (eV 1) (aCons (eV 2) aNil)))) aNil)) (gN 7))
  (sSeq (sPar 8 9 (aCons (eA fF (aCons (eV 1) (aCons (eV 4) (aCons (e2 pMulA (eC (.int 3)) (eV 3)) aNil)))) (aCons (eA fF (aCons (eV 1) (aCons (eV 4) (aCons (e2 pMulA (eC (.int 3)) (eV 3)) aNil)))) aNil)))
  (sSeq (sAs (eA gJ (aCons (eV 2) (aCons (eV 7) (aCons (eC (.int 8)) aNil)))) (gN 10))
  (sSeq (sAs (e2 pMulR (eA mkL (aCons (eC (.int 0)) aNil)) (e2 pMulA (eC (.int 3)) (eV 3))) (gN 11))
  (sSeq (sFor (iE (eV 5)) (gN 12)
  (sFor (iEnum (eA gI (aCons (eA (aS 50) (aCons (eV 2) (aCons (eV 12) (aCons (eV 7) aNil)))) (aCons (eV 3) aNil)))) (gT 2 (gsCons (gN 13) (gsCons (gN 14) gsNil)))
  (sAs (e2 pAdd (e2 pIx (eV 11) (eV 13)) (eV 14)) (gS (eV 11) (eV 13)))))
  (sSeq (sAs (eA iD (aCons (eV 6) (aCons (eV 10) (aCons (eV 8) aNil)))) (gN 15))
  (sSeq (sIf (EV.tB (e2 pNe (eV 15) (eA cTup (aCons (eComp [none,none,some 4] (iZip (eV 8) (eV 11)) (gT 2 (gsCons (gN 0) (gsCons (gN 1) gsNil))) EV.tYes (e2 pMod (e2 pAdd (eV 0) (eV 1)) (eV 2))) aNil))))
  (sRt (eC (.bl false)))
  sNil)
  (sSeq (sAs (eA dN (aCons (eV 6) aNil)) (gN 16))
  (sSeq (sIf (EV.tB (e2 pNe (eA iD (aCons (eV 16) (aCons (eV 10) (aCons (eV 15) aNil)))) (eV 8)))
  (sRt (eC (.bl false)))
  sNil)
  (sSeq (sAs (eA cTup (aCons (eComp [none,none,some 4] (iZip (eV 15) (eV 9)) (gT 2 (gsCons (gN 0) (gsCons (gN 1) gsNil))) EV.tYes (e2 pMod (e2 pAdd (eV 0) (eV 1)) (eV 2))) aNil)) (gN 17))
  (sRt (e2 pEq (eA iD (aCons (eV 16) (aCons (eV 10) (aCons (eV 17) aNil)))) (eA cTup (aCons (eComp [none,none,some 4] (iZip (eV 17) (eV 11)) (gT 2 (gsCons (gN 0) (gsCons (gN 1) gsNil))) EV.tYes (e2 pMod (e2 pSub (eV 0) (eV 1)) (eV 2))) aNil)))))))))))))))))))))
noncomputable def nO:Fn:=fnD 1 18 b_law
set_option genInjectivity false in
set_option genSizeOf false in
structure Adr where
 a_inverse:Addr
 d_inverse:FuncData
 a_power:Addr
 d_power:FuncData
 a_turned_back:Addr
 d_turned_back:FuncData
 a_deeds_back:Addr
 d_deeds_back:FuncData
 a_deed_back:Addr
 d_deed_back:FuncData
 a_behind:Addr
 d_behind:FuncData
 a_is_root:Addr
 d_is_root:FuncData
 a_root:Addr
 d_root:FuncData
 a_root_of:Addr
 d_root_of:FuncData
 a_rounds_by:Addr
 d_rounds_by:FuncData
 a_bits:Addr
 d_bits:FuncData
 a_polynomials:Addr
 d_polynomials:FuncData
 a_polynomial:Addr
 d_polynomial:FuncData
 a_bit_row:Addr
 d_bit_row:FuncData
 a_term_numbers:Addr
 d_term_numbers:FuncData
 a_places_of:Addr
 d_places_of:FuncData
 a_tree_program:Addr
 d_tree_program:FuncData
 t_tree_program:Tok
 a_order:Addr
 d_order:FuncData
 a_tree_deeds:Addr
 d_tree_deeds:FuncData
 a_tree_row:Addr
 d_tree_row:FuncData
 a_bringers_to:Addr
 d_bringers_to:FuncData
 a_table_deeds:Addr
 d_table_deeds:FuncData
 a_l_box:Addr
 d_l_box:FuncData
 a_l_take:Addr
 d_l_take:FuncData
 a_l_rest:Addr
 d_l_rest:FuncData
 a_l_rests:Addr
 d_l_rests:FuncData
 a_l_run:Addr
 d_l_run:FuncData
 a_l_table:Addr
 d_l_table:FuncData
 a_l_bits:Addr
 d_l_bits:FuncData
 a_l_tree:Addr
 d_l_tree:FuncData
 a_l_tree_worth:Addr
 d_l_tree_worth:FuncData
 a_l_by:Addr
 d_l_by:FuncData
 a_l_given:Addr
 d_l_given:FuncData
 a_law:Addr
 d_law:FuncData
structure Tx (K:PySem.W.Frag) (mg:Str->Option Value) (a:Adr):Prop where
 f_inverse:Fun K "inverse" "inverse" cW a.a_inverse a.d_inverse
 b_inverse:Binds K a.d_inverse ["n","k"] []
 k_inverse:PySem.W.keepIn K (.ref a.a_inverse)=true
 m_inverse:mg "inverse"=some (.ref a.a_inverse)
 f_power:Fun K "power" "power" eM a.a_power a.d_power
 b_power:Binds K a.d_power ["n","k","e"] []
 k_power:PySem.W.keepIn K (.ref a.a_power)=true
 m_power:mg "power"=some (.ref a.a_power)
 f_turned_back:Fun K "turned_back" "turned_back" bB a.a_turned_back a.d_turned_back
 b_turned_back:Binds K a.d_turned_back ["program"] []
 k_turned_back:PySem.W.keepIn K (.ref a.a_turned_back)=true
 m_turned_back:mg "turned_back"=some (.ref a.a_turned_back)
 f_deeds_back:Fun K "deeds_back" "deeds_back" bC a.a_deeds_back a.d_deeds_back
 b_deeds_back:Binds K a.d_deeds_back ["n","deeds"] []
 k_deeds_back:PySem.W.keepIn K (.ref a.a_deeds_back)=true
 m_deeds_back:mg "deeds_back"=some (.ref a.a_deeds_back)
 f_deed_back:Fun K "deed_back" "deed_back" bU a.a_deed_back a.d_deed_back
 b_deed_back:Binds K a.d_deed_back ["n","deed"] []
 k_deed_back:PySem.W.keepIn K (.ref a.a_deed_back)=true
 m_deed_back:mg "deed_back"=some (.ref a.a_deed_back)
 f_behind:Fun K "behind" "behind" dP a.a_behind a.d_behind
 b_behind:Binds K a.d_behind ["one","other"] []
 k_behind:PySem.W.keepIn K (.ref a.a_behind)=true
 m_behind:mg "behind"=some (.ref a.a_behind)
 f_is_root:Fun K "is_root" "is_root" cQ a.a_is_root a.d_is_root
 b_is_root:Binds K a.d_is_root ["n","w","m"] []
 k_is_root:PySem.W.keepIn K (.ref a.a_is_root)=true
 m_is_root:mg "is_root"=some (.ref a.a_is_root)
 f_root:Fun K "root" "root" gB a.a_root a.d_root
 b_root:Binds K a.d_root ["n","m"] []
 k_root:PySem.W.keepIn K (.ref a.a_root)=true
 m_root:mg "root"=some (.ref a.a_root)
 f_root_of:Fun K "root_of" "root_of" cU a.a_root_of a.d_root_of
 b_root_of:Binds K a.d_root_of ["n","m"] []
 k_root_of:PySem.W.keepIn K (.ref a.a_root_of)=true
 m_root_of:mg "root_of"=some (.ref a.a_root_of)
 f_rounds_by:Fun K "rounds_by" "rounds_by" bH a.a_rounds_by a.d_rounds_by
 b_rounds_by:Binds K a.d_rounds_by ["n","m","w","bringers","inner"] []
 k_rounds_by:PySem.W.keepIn K (.ref a.a_rounds_by)=true
 m_rounds_by:mg "rounds_by"=some (.ref a.a_rounds_by)
 f_bits:Fun K "bits" "bits" fW a.a_bits a.d_bits
 b_bits:Binds K a.d_bits ["k"] []
 k_bits:PySem.W.keepIn K (.ref a.a_bits)=true
 m_bits:mg "bits"=some (.ref a.a_bits)
 f_polynomials:Fun K "polynomials" "polynomials" aV a.a_polynomials a.d_polynomials
 b_polynomials:Binds K a.d_polynomials ["n","k","table"] []
 k_polynomials:PySem.W.keepIn K (.ref a.a_polynomials)=true
 m_polynomials:mg "polynomials"=some (.ref a.a_polynomials)
 f_polynomial:Fun K "polynomial" "polynomial" aZ a.a_polynomial a.d_polynomial
 b_polynomial:Binds K a.d_polynomial ["n","k","table","bit"] []
 k_polynomial:PySem.W.keepIn K (.ref a.a_polynomial)=true
 m_polynomial:mg "polynomial"=some (.ref a.a_polynomial)
 f_bit_row:Fun K "bit_row" "bit_row" cV a.a_bit_row a.d_bit_row
 b_bit_row:Binds K a.d_bit_row ["k","table","bit"] []
 k_bit_row:PySem.W.keepIn K (.ref a.a_bit_row)=true
 m_bit_row:mg "bit_row"=some (.ref a.a_bit_row)
 f_term_numbers:Fun K "term_numbers" "term_numbers" aU a.a_term_numbers a.d_term_numbers
 b_term_numbers:Binds K a.d_term_numbers ["row"] []
 k_term_numbers:PySem.W.keepIn K (.ref a.a_term_numbers)=true
 m_term_numbers:mg "term_numbers"=some (.ref a.a_term_numbers)
 f_places_of:Fun K "places_of" "places_of" bO a.a_places_of a.d_places_of
 b_places_of:Binds K a.d_places_of ["chosen"] []
 k_places_of:PySem.W.keepIn K (.ref a.a_places_of)=true
 m_places_of:mg "places_of"=some (.ref a.a_places_of)
 f_tree_program:FunD K "tree_program" "tree_program" aR a.a_tree_program a.d_tree_program (.int 5000 a.t_tree_program)
 b_tree_program:Binds K a.d_tree_program ["n","k","givens","tree","most"] []
 bd_tree_program:Binds K a.d_tree_program ["n","k","givens","tree","most"] [.int 5000 a.t_tree_program]
 k_tree_program:PySem.W.keepIn K (.ref a.a_tree_program)=true
 m_tree_program:mg "tree_program"=some (.ref a.a_tree_program)
 f_order:Fun K "order" "order" eQ a.a_order a.d_order
 b_order:Binds K a.d_order ["k"] []
 k_order:PySem.W.keepIn K (.ref a.a_order)=true
 m_order:mg "order"=some (.ref a.a_order)
 f_tree_deeds:Fun K "tree_deeds" "tree_deeds" bE a.a_tree_deeds a.d_tree_deeds
 b_tree_deeds:Binds K a.d_tree_deeds ["n","k","tree"] []
 k_tree_deeds:PySem.W.keepIn K (.ref a.a_tree_deeds)=true
 m_tree_deeds:mg "tree_deeds"=some (.ref a.a_tree_deeds)
 f_tree_row:Fun K "tree_row" "tree_row" bW a.a_tree_row a.d_tree_row
 b_tree_row:Binds K a.d_tree_row ["n","k","w","tree","O","L","R"] []
 k_tree_row:PySem.W.keepIn K (.ref a.a_tree_row)=true
 m_tree_row:mg "tree_row"=some (.ref a.a_tree_row)
 f_bringers_to:Fun K "bringers_to" "bringers_to" aW a.a_bringers_to a.d_bringers_to
 b_bringers_to:Binds K a.d_bringers_to ["shelves","deeds"] []
 k_bringers_to:PySem.W.keepIn K (.ref a.a_bringers_to)=true
 m_bringers_to:mg "bringers_to"=some (.ref a.a_bringers_to)
 f_table_deeds:Fun K "table_deeds" "table_deeds" aX a.a_table_deeds a.d_table_deeds
 b_table_deeds:Binds K a.d_table_deeds ["n","k","table","O","places"] []
 k_table_deeds:PySem.W.keepIn K (.ref a.a_table_deeds)=true
 m_table_deeds:mg "table_deeds"=some (.ref a.a_table_deeds)
 f_l_box:Fun K "_law_box" "_law_box" eS a.a_l_box a.d_l_box
 b_l_box:Binds K a.d_l_box ["_law_script","_law_k"] []
 k_l_box:PySem.W.keepIn K (.ref a.a_l_box)=true
 m_l_box:mg "_law_box"=some (.ref a.a_l_box)
 f_l_take:Fun K "_law_take" "_law_take" dI a.a_l_take a.d_l_take
 b_l_take:Binds K a.d_l_take ["_law_box_here","_law_many"] []
 k_l_take:PySem.W.keepIn K (.ref a.a_l_take)=true
 m_l_take:mg "_law_take"=some (.ref a.a_l_take)
 f_l_rest:Fun K "_law_rest" "_law_rest" dG a.a_l_rest a.d_l_rest
 b_l_rest:Binds K a.d_l_rest ["_law_box_here","_law_n"] []
 k_l_rest:PySem.W.keepIn K (.ref a.a_l_rest)=true
 m_l_rest:mg "_law_rest"=some (.ref a.a_l_rest)
 f_l_rests:Fun K "_law_rests" "_law_rests" cG a.a_l_rests a.d_l_rests
 b_l_rests:Binds K a.d_l_rests ["_law_box_here","_law_n","_law_many"] []
 k_l_rests:PySem.W.keepIn K (.ref a.a_l_rests)=true
 m_l_rests:mg "_law_rests"=some (.ref a.a_l_rests)
 f_l_run:Fun K "_law_run" "_law_run" eP a.a_l_run a.d_l_run
 b_l_run:Binds K a.d_l_run ["_law_program","_law_given_here","_law_contents"] []
 k_l_run:PySem.W.keepIn K (.ref a.a_l_run)=true
 m_l_run:mg "_law_run"=some (.ref a.a_l_run)
 f_l_table:Fun K "_law_table" "_law_table" cH a.a_l_table a.d_l_table
 b_l_table:Binds K a.d_l_table ["_law_box_here","_law_k"] []
 k_l_table:PySem.W.keepIn K (.ref a.a_l_table)=true
 m_l_table:mg "_law_table"=some (.ref a.a_l_table)
 f_l_bits:Fun K "_law_bits" "_law_bits" dA a.a_l_bits a.d_l_bits
 b_l_bits:Binds K a.d_l_bits ["_law_value","_law_many"] []
 k_l_bits:PySem.W.keepIn K (.ref a.a_l_bits)=true
 m_l_bits:mg "_law_bits"=some (.ref a.a_l_bits)
 f_l_tree:Fun K "_law_tree" "_law_tree" dO a.a_l_tree a.d_l_tree
 b_l_tree:Binds K a.d_l_tree ["_law_box_here","_law_k","_law_high","_law_leaves"] []
 k_l_tree:PySem.W.keepIn K (.ref a.a_l_tree)=true
 m_l_tree:mg "_law_tree"=some (.ref a.a_l_tree)
 f_l_tree_worth:Fun K "_law_tree_worth" "_law_tree_worth" aY a.a_l_tree_worth a.d_l_tree_worth
 b_l_tree_worth:Binds K a.d_l_tree_worth ["_law_k","_law_tree_here","_law_values"] []
 k_l_tree_worth:PySem.W.keepIn K (.ref a.a_l_tree_worth)=true
 m_l_tree_worth:mg "_law_tree_worth"=some (.ref a.a_l_tree_worth)
 f_l_by:Fun K "_law_by" "_law_by" fV a.a_l_by a.d_l_by
 b_l_by:Binds K a.d_l_by ["_law_box_here","_law_k"] []
 k_l_by:PySem.W.keepIn K (.ref a.a_l_by)=true
 m_l_by:mg "_law_by"=some (.ref a.a_l_by)
 f_l_given:Fun K "_law_given" "_law_given" cP a.a_l_given a.d_l_given
 b_l_given:Binds K a.d_l_given ["_law_k","_law_values","_law_givens"] []
 k_l_given:PySem.W.keepIn K (.ref a.a_l_given)=true
 m_l_given:mg "_law_given"=some (.ref a.a_l_given)
 f_law:Fun K "law" "law" fN a.a_law a.d_law
 b_law:Binds K a.d_law ["_law_script"] []
 k_law:PySem.W.keepIn K (.ref a.a_law)=true
 m_law:mg "law"=some (.ref a.a_law)
 z_enumerate:mg "enumerate"=none
 z_int:mg "int"=none
 z_len:mg "len"=none
 z_list:mg "list"=none
 z_max:mg "max"=none
 z_range:mg "range"=none
 z_reversed:mg "reversed"=none
 z_sorted:mg "sorted"=none
 z_sum:mg "sum"=none
 z_tuple:mg "tuple"=none
 z_zip:mg "zip"=none
theorem dR:FnScope ["n","k","high","low","past","now","times"] ["n","k"] (defScope cW):=⟨rfl,rfl,rfl,by decide +kernel,rfl,by decide +kernel,by decide +kernel⟩
theorem fM:FnScope ["n","k","e","told","square","left"] ["n","k","e"] (defScope eM):=⟨rfl,rfl,rfl,by decide +kernel,rfl,by decide +kernel,by decide +kernel⟩
theorem dC:FnScope ["program","n","givens","shelves","deeds"] ["program"] (defScope bB):=⟨rfl,rfl,rfl,by decide +kernel,rfl,by decide +kernel,by decide +kernel⟩
theorem pB:FnScope ["n","deeds"] ["n","deeds"] (defScope bC):=⟨rfl,rfl,rfl,by decide +kernel,rfl,by decide +kernel,by decide +kernel⟩
theorem rT:FnScope ["n","deed"] ["n","deed"] (defScope bU):=⟨rfl,rfl,rfl,by decide +kernel,rfl,by decide +kernel,by decide +kernel⟩
theorem aAu:FnScope ["one","other"] ["one","other"] (defScope dP):=⟨rfl,rfl,rfl,by decide +kernel,rfl,by decide +kernel,by decide +kernel⟩
theorem oG:FnScope ["n","w","m","i"] ["n","w","m"] (defScope cQ):=⟨rfl,rfl,rfl,by decide +kernel,rfl,by decide +kernel,by decide +kernel⟩
theorem wY:FnScope ["n","m","w"] ["n","m"] (defScope gB):=⟨rfl,rfl,rfl,by decide +kernel,rfl,by decide +kernel,by decide +kernel⟩
theorem oD:FnScope ["n","m","w"] ["n","m"] (defScope cU):=⟨rfl,rfl,rfl,by decide +kernel,rfl,by decide +kernel,by decide +kernel⟩
theorem bS:FnScope ["n","m","w","bringers","inner","u","row","shelf","deeds","back"] ["n","m","w","bringers","inner"] (defScope bH):=⟨rfl,rfl,rfl,by decide +kernel,rfl,by decide +kernel,by decide +kernel⟩
theorem aHs:FnScope ["k"] ["k"] (defScope fW):=⟨rfl,rfl,rfl,by decide +kernel,rfl,by decide +kernel,by decide +kernel⟩
theorem nP:FnScope ["n","k","table"] ["n","k","table"] (defScope aV):=⟨rfl,rfl,rfl,by decide +kernel,rfl,by decide +kernel,by decide +kernel⟩
theorem fU:FnScope ["n","k","table","bit","numbers","terms"] ["n","k","table","bit"] (defScope aZ):=⟨rfl,rfl,rfl,by decide +kernel,rfl,by decide +kernel,by decide +kernel⟩
theorem eI:FnScope ["k","table","bit","room","row","b","a","entry"] ["k","table","bit"] (defScope cV):=⟨rfl,rfl,rfl,by decide +kernel,rfl,by decide +kernel,by decide +kernel⟩
theorem cD:FnScope ["row","numbers","many","step","chosen"] ["row"] (defScope aU):=⟨rfl,rfl,rfl,by decide +kernel,rfl,by decide +kernel,by decide +kernel⟩
theorem sF:FnScope ["chosen"] ["chosen"] (defScope bO):=⟨rfl,rfl,rfl,by decide +kernel,rfl,by decide +kernel,by decide +kernel⟩
theorem cC:FnScope ["n","k","givens","tree","most","many","w","O","L","R"] ["n","k","givens","tree","most"] (defScope aR):=⟨rfl,rfl,rfl,by decide +kernel,rfl,by decide +kernel,by decide +kernel⟩
theorem aEk:FnScope ["k"] ["k"] (defScope eQ):=⟨rfl,rfl,rfl,by decide +kernel,rfl,by decide +kernel,by decide +kernel⟩
theorem eO:FnScope ["n","k","tree","many","inner","brought"] ["n","k","tree"] (defScope bE):=⟨rfl,rfl,rfl,by decide +kernel,rfl,by decide +kernel,by decide +kernel⟩
theorem fR:FnScope ["n","k","w","tree","O","L","R","first","bringers"] ["n","k","w","tree","O","L","R"] (defScope bW):=⟨rfl,rfl,rfl,by decide +kernel,rfl,by decide +kernel,by decide +kernel⟩
theorem nX:FnScope ["shelves","deeds"] ["shelves","deeds"] (defScope aW):=⟨rfl,rfl,rfl,by decide +kernel,rfl,by decide +kernel,by decide +kernel⟩
theorem cJ:FnScope ["n","k","table","O","places","deeds","shelf","terms","number","chosen"] ["n","k","table","O","places"] (defScope aX):=⟨rfl,rfl,rfl,by decide +kernel,rfl,by decide +kernel,by decide +kernel⟩
theorem iS:FnScope ["_law_script","_law_k","_law_cell","_law_seed"] ["_law_script","_law_k"] (defScope eS):=⟨rfl,rfl,rfl,by decide +kernel,rfl,by decide +kernel,by decide +kernel⟩
theorem lC:FnScope ["_law_box_here","_law_many","_law_digit","_law_one"] ["_law_box_here","_law_many"] (defScope dI):=⟨rfl,rfl,rfl,by decide +kernel,rfl,by decide +kernel,by decide +kernel⟩
theorem qG:FnScope ["_law_box_here","_law_n","_law_shape"] ["_law_box_here","_law_n"] (defScope dG):=⟨rfl,rfl,rfl,by decide +kernel,rfl,by decide +kernel,by decide +kernel⟩
theorem vH:FnScope ["_law_box_here","_law_n","_law_many"] ["_law_box_here","_law_n","_law_many"] (defScope cG):=⟨rfl,rfl,rfl,by decide +kernel,rfl,by decide +kernel,by decide +kernel⟩
theorem eU:FnScope ["_law_program","_law_given_here","_law_contents","_law_lying","_law_deed","_law_more","_law_i","_law_kt"] ["_law_program","_law_given_here","_law_contents"] (defScope eP):=⟨rfl,rfl,rfl,by decide +kernel,rfl,by decide +kernel,by decide +kernel⟩
theorem kC:FnScope ["_law_box_here","_law_k","_law_shape","_law_found"] ["_law_box_here","_law_k"] (defScope cH):=⟨rfl,rfl,rfl,by decide +kernel,rfl,by decide +kernel,by decide +kernel⟩
theorem zZ:FnScope ["_law_value","_law_many"] ["_law_value","_law_many"] (defScope dA):=⟨rfl,rfl,rfl,by decide +kernel,rfl,by decide +kernel,by decide +kernel⟩
theorem gW:FnScope ["_law_box_here","_law_k","_law_high","_law_leaves","_law_shape","_law_table_here","_law_one","_law_other"] ["_law_box_here","_law_k","_law_high","_law_leaves"] (defScope dO):=⟨rfl,rfl,rfl,by decide +kernel,rfl,by decide +kernel,by decide +kernel⟩
theorem mL:FnScope ["_law_k","_law_tree_here","_law_values"] ["_law_k","_law_tree_here","_law_values"] (defScope aY):=⟨rfl,rfl,rfl,by decide +kernel,rfl,by decide +kernel,by decide +kernel⟩
theorem aGx:FnScope ["_law_box_here","_law_k"] ["_law_box_here","_law_k"] (defScope fV):=⟨rfl,rfl,rfl,by decide +kernel,rfl,by decide +kernel,by decide +kernel⟩
theorem iI:FnScope ["_law_k","_law_values","_law_givens","_law_found","_law_one"] ["_law_k","_law_values","_law_givens"] (defScope cP):=⟨rfl,rfl,rfl,by decide +kernel,rfl,by decide +kernel,by decide +kernel⟩
theorem cY:FnScope ["_law_script","_law_box_here","_law_k","_law_each","_law_n","_law_trees","_law_both","_law_values","_law_lying","_law_more","_law_given_here","_law_got","_law_tree_here","_law_i","_law_one","_law_found","_law_back","_law_changed"] ["_law_script"] (defScope fN):=⟨rfl,rfl,rfl,by decide +kernel,rfl,by decide +kernel,by decide +kernel⟩
section
variable {P:Program} {w:World} {K:PySem.W.Frag} {mg:Str->Option Value} {base:Heap} {a:Adr}
theorem jZ (T:Tx K mg a):FnOk P w K mg base CX0 1 a.a_inverse a.d_inverse ["n","k"] (spF K Z0 2 dU) :=
 bY (k:=0) T.f_inverse dR fun cdv A outer s H E hr=>show Ess _ K Z0 (defBody cW) b_inverse from
  (aE (qP (i:=2) (j:=3) rfl dR.nd (aB (aA 0) (aB (aI opMod (aA 1) (aA 0)) aD)))
  (aE (fY (bN (aB aC (aB aC aD))) (dY rfl (aO (aK (i:=4) dR.nd) (aO (aK (i:=5) dR.nd) cL))))
  (aE (oW NW PassesOwn.never (bA opGt (aA 3) aC (nomark _))
  (aE (aM (i:=6) dR.nd (aI opDiv (aA 2) (aA 3)))
  (aE (qP (i:=2) (j:=3) rfl dR.nd (aB (aA 3) (aB (aI opSub (aA 2) (aI opMulA (aA 6) (aA 3))) aD)))
  (aG (qP (i:=4) (j:=5) rfl dR.nd (aB (aA 5) (aB (aI opSub (aA 4) (aI opMulA (aA 6) (aA 5))) aD)))))))
  (aE (dH (bA (opNe (bQ hr)) (aA 2) aC (nomark _))
  (aG (aP rJ))
  bT)
  (aG (aP (aI opMod (aA 4) (aA 0))))))))
theorem uF (T:Tx K mg a):FnOk P w K mg base CX0 1 a.a_power a.d_power ["n","k","e"] (spF K Z0 3 jH) :=
 bY (k:=0) T.f_power fM fun cdv A outer s H E hr=>show Ess _ K Z0 (defBody eM) b_power from
  (aE (aM (i:=3) fM.nd (aI opMod aC (aA 0)))
  (aE (aM (i:=4) fM.nd (aI opMod (aA 1) (aA 0)))
  (aE (aM (i:=5) fM.nd (aA 2))
  (aE (oW NW PassesOwn.never (bA opGt (aA 5) aC (nomark _))
  (aE (dH (bA (opEq (bQ hr)) (aI opMod (aA 5) aC) aC (nomark _))
  (aG (aM (i:=3) fM.nd (aI opMod (aI opMulA (aA 3) (aA 4)) (aA 0))))
  bT)
  (aE (aM (i:=4) fM.nd (aI opMod (aI opMulA (aA 4) (aA 4)) (aA 0)))
  (aG (aM (i:=5) fM.nd (aI opDiv (aA 5) aC))))))
  (aG (aP (aA 3)))))))
theorem qU (T:Tx K mg a):FnOk P w K mg base CX0 2 a.a_deed_back a.d_deed_back ["n","deed"] (spF K Z0 2 dS) :=
 bY (k:=1) T.f_deed_back rT fun cdv A outer s H E hr=>show Ess _ K Z0 (defBody bU) b_deed_back from
  (aE (dH (bA (opEq (bQ hr)) (aN (aA 1) aC) eE (nomark _))
  (aG (aP (bN (aB eE (aB (aN (aA 1) aC) (aB (aH ((jZ T).mono (by omega)) hr T.m_inverse T.k_inverse T.b_inverse (aB (aA 0) (aB (aN (aA 1) aC) aD)) (hlen:=fun _ _ h=>jB h)) aD))))))
  bT)
  (aG (aP (bN (aB eE (aB (aN (aA 1) aC) (aB (aI opMod (aKa (aN (aA 1) aC)) (aA 0)) (aB (aN (aA 1) aC) (aB (aN (aA 1) aC) aD)))))))))
theorem jQ (T:Tx K mg a):FnOk P w K mg base CX0 3 a.a_deeds_back a.d_deeds_back ["n","deeds"] (spF K Z0 2 dF) :=
 bY (k:=2) T.f_deeds_back pB fun cdv A outer s H E hr=>show Ess _ K Z0 (defBody bC) b_deeds_back from
  (aG (aP (aQ callTup rfl T.z_tuple bJ (aB (cA rfl (CompOk.of (N0:=["n","deeds"]) (sc0:=defScope bC) (Nc:=["deed","n"]) (js:=[none,some 0]) (by decide +kernel)) (aKj T.z_reversed (aA 1)) (fun _ _ _ _ _ _=>(aK (i:=0) (show (["deed","n"]:List Str).Nodup by decide +kernel))) (fun _ _ _ _ _ _=>bZ) (fun _ _ _ _ _ _=>(aH ((qU T).mono (by omega)) hr T.m_deed_back T.k_deed_back T.b_deed_back (aB (aA 1) (aB (aA 0) aD)) (hlen:=fun _ _ h=>pK h)))) aD))))
theorem nK (T:Tx K mg a):FnOk P w K mg base CX0 4 a.a_turned_back a.d_turned_back ["program"] (spF K Z0 1 dN) :=
 bY (k:=3) T.f_turned_back dC fun cdv A outer s H E hr=>show Ess _ K Z0 (defBody bB) b_turned_back from
  (aE (fY (aA 0) (dY rfl (aO (aK (i:=1) dC.nd) (aO (aK (i:=2) dC.nd) (aO (aK (i:=3) dC.nd) (aO (aK (i:=4) dC.nd) cL))))))
  (aG (aP (bN (aB (aA 1) (aB (aA 2) (aB (aA 3) (aB (aH ((jQ T).mono (by omega)) hr T.m_deeds_back T.k_deeds_back T.b_deeds_back (aB (aA 1) (aB (aA 4) aD)) (hlen:=fun _ _ h=>jA h)) aD))))))))
theorem zT (T:Tx K mg a):FnOk P w K mg base CX0 1 a.a_behind a.d_behind ["one","other"] (spF K Z0 2 iP) :=
 bY (k:=0) T.f_behind aAu fun cdv A outer s H E hr=>show Ess _ K Z0 (defBody dP) b_behind from
  (aG (aP (bN (aB (aN (aA 0) aC) (aB (dJ (callMax2 rfl) rfl T.z_max aCw (aB (aN (aA 0) aC) (aB (aN (aA 1) aC) aD))) (aB (dJ (callMax2 rfl) rfl T.z_max aCw (aB (aN (aA 0) aC) (aB (aN (aA 1) aC) aD))) (aB (aI opAdd (aN (aA 0) aC) (aN (aA 1) aC)) aD)))))))
theorem wE (T:Tx K mg a):FnOk P w K mg base CX0 2 a.a_is_root a.d_is_root ["n","w","m"] (spF K Z0 3 gC) :=
 bY (k:=1) T.f_is_root oG fun cdv A outer s H E hr=>show Ess _ K Z0 (defBody cQ) b_is_root from
  (aE (dH (bA (opNe (bQ hr)) (aH ((uF T).mono (by omega)) hr T.m_power T.k_power T.b_power (aB (aA 0) (aB (aA 1) (aB (aA 2) aD))) (hlen:=fun _ _ h=>qH h)) aC (nomark _))
  (aG (aP tU))
  bT)
  (aE (dX PassesOwn.never rfl (aAl T.z_range aC (aA 2)) (aK (i:=3) oG.nd)
  (aG (dH (bA opIs (aH ((jZ T).mono (by omega)) hr T.m_inverse T.k_inverse T.b_inverse (aB (aA 0) (aB (aI opSub (aH ((uF T).mono (by omega)) hr T.m_power T.k_power T.b_power (aB (aA 0) (aB (aA 1) (aB (aA 3) aD))) (hlen:=fun _ _ h=>qH h)) aC) aD)) (hlen:=fun _ _ h=>jB h)) rJ (nomark _))
  (aG (aP tU))
  bT)))
  (aG (aP tU))))
theorem aFv (T:Tx K mg a):FnOk P w K mg base CX0 3 a.a_root a.d_root ["n","m"] (spF K Z0 2 nU) :=
 bY (k:=2) T.f_root wY fun cdv A outer s H E hr=>show Ess _ K Z0 (defBody gB) b_root from
  (aE (dX PassesOwn.never rfl (cK T.z_range (aA 0)) (aK (i:=2) wY.nd)
  (aG (dH (aKn (aH ((wE T).mono (by omega)) hr T.m_is_root T.k_is_root T.b_is_root (aB (aA 0) (aB (aA 2) (aB (aA 1) aD))) (hlen:=fun _ _ h=>sY h)))
  (aG (aP (aA 2)))
  bT)))
  (aG (aP rJ)))
theorem wQ (T:Tx K mg a):FnOk P w K mg base CX0 4 a.a_root_of a.d_root_of ["n","m"] (spF K Z0 2 gH) :=
 bY (k:=3) T.f_root_of oD fun cdv A outer s H E hr=>show Ess _ K Z0 (defBody cU) b_root_of from
  (aE (aM (i:=2) oD.nd (aH ((aFv T).mono (by omega)) hr T.m_root T.k_root T.b_root (aB (aA 0) (aB (aA 1) aD)) (hlen:=fun _ _ h=>aDp h)))
  (aE (dH (bA opIs (aA 2) rJ (nomark _))
  (aG aCt)
  bT)
  (aG (aP (aA 2)))))
theorem rA (T:Tx K mg a):FnOk P w K mg base CX0 4 a.a_rounds_by a.d_rounds_by ["n","m","w","bringers","inner"] (spF K Z0 5 eW) :=
 bY (k:=3) T.f_rounds_by bS fun cdv A outer s H E hr=>show Ess _ K Z0 (defBody bH) b_rounds_by from
  (aE (aM (i:=5) bS.nd (aH ((jZ T).mono (by omega)) hr T.m_inverse T.k_inverse T.b_inverse (aB (aA 0) (aB (aA 1) aD)) (hlen:=fun _ _ h=>jB h)))
  (aE (aM (i:=6) bS.nd (bN aD))
  (aE (dX PassesOwn.never rfl (kZ (aA 3)) (dY rfl (aO (aK (i:=7) bS.nd) (aO (aK (i:=8) bS.nd) cL)))
  (aG (aM (i:=6) bS.nd (aI opAdd (aA 6) (aA 8)))))
  (aE (aM (i:=9) bS.nd (aH ((jQ T).mono (by omega)) hr T.m_deeds_back T.k_deeds_back T.b_deeds_back (aB (aA 0) (aB (aA 6) aD)) (hlen:=fun _ _ h=>jA h)))
  (aE (aM (i:=6) bS.nd (aI opAdd (aA 6) (aQ callTup rfl T.z_tuple bJ (aB (cA rfl (CompOk.of (N0:=["n","m","w","bringers","inner","u","row","shelf","deeds","back"]) (sc0:=defScope bH) (Nc:=["word","S","c","gs","ts","n","u"]) (js:=[none,none,none,none,none,some 0,some 5]) (by decide +kernel)) (kZ (aA 4)) (fun _ _ _ _ _ _=>(dY rfl (aO (aK (i:=0) (show (["word","S","c","gs","ts","n","u"]:List Str).Nodup by decide +kernel)) (aO (aK (i:=1) (show (["word","S","c","gs","ts","n","u"]:List Str).Nodup by decide +kernel)) (aO (aK (i:=2) (show (["word","S","c","gs","ts","n","u"]:List Str).Nodup by decide +kernel)) (aO (aK (i:=3) (show (["word","S","c","gs","ts","n","u"]:List Str).Nodup by decide +kernel)) (aO (aK (i:=4) (show (["word","S","c","gs","ts","n","u"]:List Str).Nodup by decide +kernel)) cL))))))) (fun _ _ _ _ _ _=>bZ) (fun _ _ _ _ _ _=>(bN (aB eE (aB (aA 1) (aB (aI opMod (aI opMulA (aA 6) (aA 2)) (aA 5)) (aB (aA 3) (aB (aA 4) aD)))))))) aD))))
  (aE (aM (i:=6) bS.nd (aI opAdd (aI opAdd (aA 6) (aA 9)) (aQ callTup rfl T.z_tuple bJ (aB (cA rfl (CompOk.of (N0:=["n","m","w","bringers","inner","u","row","shelf","deeds","back"]) (sc0:=defScope bH) (Nc:=["shelf","deeds","w"]) (js:=[none,none,some 2]) (by decide +kernel)) (kZ (aA 3)) (fun _ _ _ _ _ _=>(dY rfl (aO (aK (i:=0) (show (["shelf","deeds","w"]:List Str).Nodup by decide +kernel)) (aO (aK (i:=1) (show (["shelf","deeds","w"]:List Str).Nodup by decide +kernel)) cL)))) (fun _ _ _ _ _ _=>bZ) (fun _ _ _ _ _ _=>(bN (aB eE (aB (aA 0) (aB (aA 2) aD)))))) aD))))
  (aG (aP (aI opMulA (aA 6) (aA 1))))))))))
theorem jF (T:Tx K mg a):FnOk P w K mg base CX0 1 a.a_bits a.d_bits ["k"] (spF K Z0 1 gA) :=
 bY (k:=0) T.f_bits aHs fun cdv A outer s H E hr=>show Ess _ K Z0 (defBody fW) b_bits from
  (aG (aP (aCp (bA (opEq (bQ hr)) (aA 0) aC (nomark _)) aC aC)))
theorem mJ (T:Tx K mg a):FnOk P w K mg base CX0 1 a.a_term_numbers a.d_term_numbers ["row"] (spF K Z0 1 dD) :=
 bY (k:=0) T.f_term_numbers cD fun cdv A outer s H E hr=>show Ess _ K Z0 (defBody aU) b_term_numbers from
  (aE (aM (i:=1) cD.nd (aQ callListR rfl T.z_list yX (aB (aA 0) aD)))
  (aE (aM (i:=2) cD.nd (dJ callLen rfl T.z_len PySem.boot_len (aB (aA 0) aD)))
  (aE (aM (i:=3) cD.nd aC)
  (aE (oW NW PassesOwn.never (bA opLt (aA 3) (aA 2) (nomark _))
  (aE (dX PassesOwn.never rfl (cK T.z_range (aA 2)) (aK (i:=4) cD.nd)
  (aG (dH (bA opGt (aI opAnd (aA 4) (aA 3)) aC (nomark _))
  (aG (aFs aJa (aA 1) (aA 4) (aN (aA 1) (aI opSub (aA 4) (aA 3)))))
  bT)))
  (aG (aM (i:=3) cD.nd (aI opMulA (aA 3) aC)))))
  (aG (aP (aA 1)))))))
theorem vP (T:Tx K mg a):FnOk P w K mg base CX0 2 a.a_bit_row a.d_bit_row ["k","table","bit"] (spF K Z0 3 gF) :=
 bY (k:=1) T.f_bit_row eI fun cdv A outer s H E hr=>show Ess _ K Z0 (defBody cV) b_bit_row from
  (aE (aM (i:=3) eI.nd (aCp (bA (opEq (bQ hr)) (aH ((jF T).mono (by omega)) hr T.m_bits T.k_bits T.b_bits (aB (aA 0) aD) (hlen:=fun _ _ h=>gK h)) aC (nomark _)) aC aC))
  (aE (aM (i:=4) eI.nd (rG aD))
  (aE (dX PassesOwn.never rfl (cK T.z_range (aA 3)) (aK (i:=5) eI.nd)
  (aG (dX PassesOwn.never rfl (cK T.z_range (aA 3)) (aK (i:=6) eI.nd)
  (aE (aM (i:=7) eI.nd (aCp (aMu (aKy (bA opLt (aA 6) (aA 0) (nomark _)) (aGs (bA opLt (aA 5) (aA 0) (nomark _))))) (aN (aA 1) (aI opAdd (aI opMulA (aA 6) (aA 0)) (aA 5))) aC))
  (aG (yP (pV (aA 4) (aI opAnd (aI opShr (aA 7) (aA 2)) aC))))))))
  (aG (aP (aA 4))))))
theorem rW (T:Tx K mg a):FnOk P w K mg base CX0 1 a.a_places_of a.d_places_of ["chosen"] (spF K Z0 1 eY) :=
 bY (k:=0) T.f_places_of sF fun cdv A outer s H E hr=>show Ess _ K Z0 (defBody bO) b_places_of from
  (aG (aP (aQ callTup rfl T.z_tuple bJ (aB (cA rfl (CompOk.of (N0:=["chosen"]) (sc0:=defScope bO) (Nc:=["place","chosen"]) (js:=[none,some 0]) (by decide +kernel)) (cK T.z_range (aAf (aA 0))) (fun _ _ _ _ _ _=>(aK (i:=0) (show (["place","chosen"]:List Str).Nodup by decide +kernel))) (fun _ _ _ _ _ _=>(wT (bA (opEq (bQ hr)) (aI opAnd (aI opShr (aA 1) (aA 0)) aC) aC (nomark _)))) (fun _ _ _ _ _ _=>(aA 0))) aD))))
theorem pE (T:Tx K mg a):FnOk P w K mg base CX0 3 a.a_polynomial a.d_polynomial ["n","k","table","bit"] (spF K Z0 4 dW) :=
 bY (k:=2) T.f_polynomial fU fun cdv A outer s H E hr=>show Ess _ K Z0 (defBody aZ) b_polynomial from
  (aE (aM (i:=4) fU.nd (aH ((mJ T).mono (by omega)) hr T.m_term_numbers T.k_term_numbers T.b_term_numbers (aB (aH ((vP T).mono (by omega)) hr T.m_bit_row T.k_bit_row T.b_bit_row (aB (aA 1) (aB (aA 2) (aB (aA 3) aD))) (hlen:=fun _ _ h=>tY h)) aD) (hlen:=fun _ _ h=>lV h)))
  (aE (xU (i:=5) fU.nd rfl (CompOk.of (N0:=["n","k","table","bit","numbers","terms"]) (sc0:=defScope aZ) (Nc:=["chosen","number","n"]) (js:=[none,none,some 0]) (by decide +kernel)) (xX T.z_enumerate (aA 4)) (fun _ _ _ _ _ _=>(dY rfl (aO (aK (i:=0) (show (["chosen","number","n"]:List Str).Nodup by decide +kernel)) (aO (aK (i:=1) (show (["chosen","number","n"]:List Str).Nodup by decide +kernel)) cL)))) (fun _ _ _ _ _ _=>bZ) (fun _ _ _ _ _ _=>(bN (aB (aH ((rW T).mono (by omega)) hr T.m_places_of T.k_places_of T.b_places_of (aB (aA 0) aD) (hlen:=fun _ _ h=>pL h)) (aB (aI opMod (aA 1) (aA 2)) aD)))))
  (aG (aP (aQ callTup rfl T.z_tuple bJ (aB (cA rfl (CompOk.of (N0:=["n","k","table","bit","numbers","terms"]) (sc0:=defScope aZ) (Nc:=["places","number"]) (js:=[none,none]) (by decide +kernel)) (kZ (dJ (callSortTT rfl (bQ hr)) rfl T.z_sorted pT (aB (aA 5) aD))) (fun _ _ _ _ _ _=>(dY rfl (aO (aK (i:=0) (show (["places","number"]:List Str).Nodup by decide +kernel)) (aO (aK (i:=1) (show (["places","number"]:List Str).Nodup by decide +kernel)) cL)))) (fun _ _ _ _ _ _=>(wT (bA (opNe (bQ hr)) (aA 1) aC (nomark _)))) (fun _ _ _ _ _ _=>(bN (aB (aA 1) (aB (aA 0) aD))))) aD))))))
theorem iZ (T:Tx K mg a):FnOk P w K mg base CX0 4 a.a_polynomials a.d_polynomials ["n","k","table"] (spF K Z0 3 cS) :=
 bY (k:=3) T.f_polynomials nP fun cdv A outer s H E hr=>show Ess _ K Z0 (defBody aV) b_polynomials from
  (aG (aP (aQ callTup rfl T.z_tuple bJ (aB (cA rfl (CompOk.of (N0:=["n","k","table"]) (sc0:=defScope aV) (Nc:=["bit","n","k","table"]) (js:=[none,some 0,some 1,some 2]) (by decide +kernel)) (cK T.z_range (aH ((jF T).mono (by omega)) hr T.m_bits T.k_bits T.b_bits (aB (aA 1) aD) (hlen:=fun _ _ h=>gK h))) (fun _ _ _ _ _ _=>(aK (i:=0) (show (["bit","n","k","table"]:List Str).Nodup by decide +kernel))) (fun _ _ _ _ _ _=>bZ) (fun _ _ _ _ _ _=>(aH ((pE T).mono (by omega)) hr T.m_polynomial T.k_polynomial T.b_polynomial (aB (aA 1) (aB (aA 2) (aB (aA 3) (aB (aA 0) aD)))) (hlen:=fun _ _ h=>oO h)))) aD))))
theorem oU (T:Tx K mg a):FnOk P w K mg base CX0 2 a.a_order a.d_order ["k"] (spF K Z0 1 hZ) :=
 bY (k:=1) T.f_order aEk fun cdv A outer s H E hr=>show Ess _ K Z0 (defBody eQ) b_order from
  (aG (aP (aI opAdd (aI opMulA aC (aH ((jF T).mono (by omega)) hr T.m_bits T.k_bits T.b_bits (aB (aA 0) aD) (hlen:=fun _ _ h=>gK h))) aC)))
theorem fP (T:Tx K mg a):∀ d:Nat,FnOk P w K mg base CX0 (d+4) a.a_tree_deeds a.d_tree_deeds ["n","k","tree"] (spF K Z0 3 (bG (d)))
 | 0=>rO rfl
 | d+1=>by
  have ih:=fP T d
  have ih_tree_deeds:=ih
  rw [show d+1+4=(d+4)+1 by omega]
  exact bY (k:=d+4) T.f_tree_deeds eO fun cdv A outer s H E hr=>show Ess _ K Z0 (defBody bE) (b_tree_deeds (bG d)) from
  (aE (aM (i:=3) eO.nd (aH ((jF T).mono (by omega)) hr T.m_bits T.k_bits T.b_bits (aB (aA 1) aD) (hlen:=fun _ _ h=>gK h)))
  (aE (dH (bA (opEq (bQ hr)) (aN (aA 2) aC) eE (nomark _))
  (aG (aP (aA 3)))
  bT)
  (aE (aM (i:=4) eO.nd (dJ (callSum rfl) rfl T.z_sum aKz (aB (cA rfl (CompOk.of (N0:=["n","k","tree","many","inner","brought"]) (sc0:=defScope bE) (Nc:=["terms"]) (js:=[none]) (by decide +kernel)) (kZ (aH ((iZ T).mono (by omega)) hr T.m_polynomials T.k_polynomials T.b_polynomials (aB (aA 0) (aB (aA 1) (aB (aN (aA 2) aC) aD))) (hlen:=fun _ _ h=>iM h))) (fun _ _ _ _ _ _=>(aK (i:=0) (show (["terms"]:List Str).Nodup by decide +kernel))) (fun _ _ _ _ _ _=>bZ) (fun _ _ _ _ _ _=>(dJ callLen rfl T.z_len PySem.boot_len (aB (aA 0) aD)))) aD)))
  (aE (aM (i:=5) eO.nd (aI opAdd (aH ih_tree_deeds hr T.m_tree_deeds T.k_tree_deeds T.b_tree_deeds (aB (aA 0) (aB (aA 1) (aB (aN (aA 2) aC) aD))) (hlen:=fun _ _ h=>fO h)) (aH ih_tree_deeds hr T.m_tree_deeds T.k_tree_deeds T.b_tree_deeds (aB (aA 0) (aB (aA 1) (aB (aN (aA 2) aC) aD))) (hlen:=fun _ _ h=>fO h))))
  (aG (aP (aI opMulA (aH ((oU T).mono (by omega)) hr T.m_order T.k_order T.b_order (aB (aA 1) aD) (hlen:=fun _ _ h=>lM h)) (aI opAdd (aI opAdd (aI opMulA aC (aA 5)) (aA 4)) (aI opMulA aC (aA 3))))))))))
theorem pD (d:Nat) (T:Tx K mg a):FnOk P w K mg base CX0 (d+4) a.a_tree_deeds a.d_tree_deeds ["n","k","tree"] (spF K Z0 3 (bG d)):=(fP T d)
theorem jC (T:Tx K mg a):FnOk P w K mg base CX0 1 a.a_bringers_to a.d_bringers_to ["shelves","deeds"] (spF K Z0 2 cR) :=
 aCu (k:=0) T.f_bringers_to nX fun cdv A outer s H E hr=>show Ess _ K Z0 (defBody aW) b_bringers_to from
  (aG (aP (aI opAddR (fL (aB (bN (aB (aN (aA 0) aC) (aB (aA 1) aD))) aD)) (cA rfl (CompOk.of (N0:=["shelves","deeds"]) (sc0:=defScope aW) (Nc:=["shelf"]) (js:=[none]) (by decide +kernel)) (kZ (tF (aA 0) (aHt aC) aHz)) (fun _ _ _ _ _ _=>(aK (i:=0) (show (["shelf"]:List Str).Nodup by decide +kernel))) (fun _ _ _ _ _ _=>bZ) (fun _ _ _ _ _ _=>(bN (aB (aA 0) (aB (bN aD) aD))))))))
theorem oH (T:Tx K mg a):FnOk P w K mg base CX0 5 a.a_table_deeds a.d_table_deeds ["n","k","table","O","places"] (spF K Z0 5 dM) :=
 bY (k:=4) T.f_table_deeds cJ fun cdv A outer s H E hr=>show Ess _ K Z0 (defBody aX) b_table_deeds from
  (aE (aM (i:=5) cJ.nd (rG aD))
  (aE (dX PassesOwn.never rfl (rY T.z_zip (aA 3) (aH ((iZ T).mono (by omega)) hr T.m_polynomials T.k_polynomials T.b_polynomials (aB (aA 0) (aB (aA 1) (aB (aA 2) aD))) (hlen:=fun _ _ h=>iM h))) (dY rfl (aO (aK (i:=6) cJ.nd) (aO (aK (i:=7) cJ.nd) cL)))
  (aG (dX PassesOwn.never rfl (kZ (aA 7)) (dY rfl (aO (aK (i:=8) cJ.nd) (aO (aK (i:=9) cJ.nd) cL)))
  (aG (yP (pV (aA 5) (bN (aB eE (aB (aA 6) (aB (aA 8) (aB (bN aD) (aB (aQ callTup rfl T.z_tuple bJ (aB (dJ (callSorted rfl) rfl T.z_sorted pT (aB (cA rfl (CompOk.of (N0:=["n","k","table","O","places","deeds","shelf","terms","number","chosen"]) (sc0:=defScope aX) (Nc:=["place","places"]) (js:=[none,some 4]) (by decide +kernel)) (kZ (aA 9)) (fun _ _ _ _ _ _=>(aK (i:=0) (show (["place","places"]:List Str).Nodup by decide +kernel))) (fun _ _ _ _ _ _=>bZ) (fun _ _ _ _ _ _=>(aN (aA 1) (aA 0)))) aD)) aD)) aD))))))))))))
  (aG (aP (aQ callTup rfl T.z_tuple bJ (aB (aA 5) aD))))))
theorem iN (T:Tx K mg a):∀ d:Nat,FnOk P w K mg base CX0 (d+5) a.a_tree_row a.d_tree_row ["n","k","w","tree","O","L","R"] (spF K Z0 7 (bV (d)))
 | 0=>rO rfl
 | d+1=>by
  have ih:=iN T d
  have ih_tree_row:=ih
  rw [show d+1+5=(d+5)+1 by omega]
  exact bY (k:=d+5) T.f_tree_row fR fun cdv A outer s H E hr=>show Ess _ K Z0 (defBody bW) (b_tree_row (bV d)) from
  (aE (dH (bA (opEq (bQ hr)) (aN (aA 3) aC) eE (nomark _))
  (aE (aM (i:=7) fR.nd (aI opMulA (aH ((jF T).mono (by omega)) hr T.m_bits T.k_bits T.b_bits (aB (aA 1) aD) (hlen:=fun _ _ h=>gK h)) (aN (aA 3) aC)))
  (aG (aP (aQ callTup rfl T.z_tuple bJ (aB (cA rfl (CompOk.of (N0:=["n","k","w","tree","O","L","R","first","bringers"]) (sc0:=defScope bW) (Nc:=["given","shelf"]) (js:=[none,none]) (by decide +kernel)) (aBs T.z_enumerate (aA 4) (aA 7)) (fun _ _ _ _ _ _=>(dY rfl (aO (aK (i:=0) (show (["given","shelf"]:List Str).Nodup by decide +kernel)) (aO (aK (i:=1) (show (["given","shelf"]:List Str).Nodup by decide +kernel)) cL)))) (fun _ _ _ _ _ _=>bZ) (fun _ _ _ _ _ _=>(bN (aB eE (aB (aA 1) (aB aC (aB (bN (aB (aA 0) aD)) (aB (bN aD) aD)))))))) aD)))))
  bT)
  (aE (aM (i:=8) fR.nd (aH ((jC T).mono (by omega)) hr T.m_bringers_to T.k_bringers_to T.b_bringers_to (aB (aA 5) (aB (aH ih_tree_row hr T.m_tree_row T.k_tree_row T.b_tree_row (aB (aA 0) (aB (aA 1) (aB (aA 2) (aB (aN (aA 3) aC) (aB (aA 5) (aB (aA 4) (aB (aA 6) aD))))))) (hlen:=fun _ _ h=>iJ h)) aD)) (hlen:=fun _ _ h=>iL h)))
  (aE (aGy (i:=8) fR.nd (aH ((jC T).mono (by omega)) hr T.m_bringers_to T.k_bringers_to T.b_bringers_to (aB (aA 6) (aB (aH ih_tree_row hr T.m_tree_row T.k_tree_row T.b_tree_row (aB (aA 0) (aB (aA 1) (aB (aA 2) (aB (aN (aA 3) aC) (aB (aA 6) (aB (aA 4) (aB (aA 5) aD))))))) (hlen:=fun _ _ h=>iJ h)) aD)) (hlen:=fun _ _ h=>iL h)))
  (aG (aP (aH ((rA T).mono (by omega)) hr T.m_rounds_by T.k_rounds_by T.b_rounds_by (aB (aA 0) (aB (aH ((oU T).mono (by omega)) hr T.m_order T.k_order T.b_order (aB (aA 1) aD) (hlen:=fun _ _ h=>lM h)) (aB (aA 2) (aB (aA 8) (aB (aH ((oH T).mono (by omega)) hr T.m_table_deeds T.k_table_deeds T.b_table_deeds (aB (aA 0) (aB (aA 1) (aB (aN (aA 3) aC) (aB (aA 4) (aB (aI opAdd (aA 5) (aA 6)) aD))))) (hlen:=fun _ _ h=>mK h)) aD))))) (hlen:=fun _ _ h=>pN h)))))))
theorem uB (d:Nat) (T:Tx K mg a):FnOk P w K mg base CX0 (d+5) a.a_tree_row a.d_tree_row ["n","k","w","tree","O","L","R"] (spF K Z0 7 (bV d)):=(iN T d)
theorem iO (T:Tx K mg a):FnOk P w K mg base CX0 56 a.a_tree_program a.d_tree_program ["n","k","givens","tree","most"] (spF K Z0 5 cI) :=
 aKw (k:=55) T.f_tree_program.g cC fun cdv A outer s H E hr=>show Ess _ K Z0 (defBody aR) b_tree_program from
  (aE (aM (i:=5) cC.nd (aH ((jF T).mono (by omega)) hr T.m_bits T.k_bits T.b_bits (aB (aA 1) aD) (hlen:=fun _ _ h=>gK h)))
  (aE (aM (i:=6) cC.nd (aH ((wQ T).mono (by omega)) hr T.m_root_of T.k_root_of T.b_root_of (aB (aA 0) (aB (aH ((oU T).mono (by omega)) hr T.m_order T.k_order T.b_order (aB (aA 1) aD) (hlen:=fun _ _ h=>lM h)) aD)) (hlen:=fun _ _ h=>tH h)))
  (aE (dH (bA opGt (aH ((pD 50 T).mono (by omega)) hr T.m_tree_deeds T.k_tree_deeds T.b_tree_deeds (aB (aA 0) (aB (aA 1) (aB (aA 3) aD))) (hlen:=fun _ _ h=>fO h)) (aA 4) (nomark _))
  (aG aCt)
  bT)
  (aE (fY (cA rfl (CompOk.of (N0:=["n","k","givens","tree","most","many","w","O","L","R"]) (sc0:=defScope aR) (Nc:=["at","many"]) (js:=[none,some 5]) (by decide +kernel)) (kZ (bN (aB aC (aB (aA 5) (aB (aI opMulA aC (aA 5)) aD))))) (fun _ _ _ _ _ _=>(aK (i:=0) (show (["at","many"]:List Str).Nodup by decide +kernel))) (fun _ _ _ _ _ _=>bZ) (fun _ _ _ _ _ _=>(oV rfl T.z_tuple T.z_range (aA 0) (aI opAdd (aA 0) (aA 1))))) (aFu rfl (aO (aK (i:=7) cC.nd) (aO (aK (i:=8) cC.nd) (aO (aK (i:=9) cC.nd) cL)))))
  (aG (aP (bN (aB (aA 0) (aB (aA 2) (aB (aI opMulA aC (aA 5)) (aB (aH ((uB 50 T).mono (by omega)) hr T.m_tree_row T.k_tree_row T.b_tree_row (aB (aA 0) (aB (aA 1) (aB (aA 6) (aB (aA 3) (aB (aA 7) (aB (aA 8) (aB (aA 9) aD))))))) (hlen:=fun _ _ h=>iJ h)) aD)))))))))))
theorem nW (T:Tx K mg a):FnOk P w K mg base CX0 1 a.a_l_box a.d_l_box ["_law_script","_law_k"] (spF K Z0 2 jM) :=
 aCu (k:=0) T.f_l_box iS fun cdv A outer s H E hr=>show Ess _ K Z0 (defBody eS) b_l_box from
  (aE (aM (i:=2) iS.nd (aI opAdd (aI opMulA aC (aA 1)) aC))
  (aE (dH (bA opLt (aA 1) (dJ callLen rfl T.z_len PySem.boot_len (aB (aA 0) aD)) (nomark _))
  (aG (aM (i:=2) iS.nd (aN (aA 0) (aA 1))))
  (aG (dH (bA opGt (dJ callLen rfl T.z_len PySem.boot_len (aB (aA 0) aD)) aC (nomark _))
  (aG (aM (i:=2) iS.nd (aI opAdd (aA 2) (aI opMulA (aI opMod (aN (aA 0) (aI opMod (aA 1) (dJ callLen rfl T.z_len PySem.boot_len (aB (aA 0) aD)))) aC) aC))))
  bT)))
  (aE (aM (i:=3) iS.nd (aI opAdd (aI opMod (aI opAdd (aI opMulA (aI opMod (aA 2) aC) aC) (aI opMulA aC (aA 1))) aC) aC))
  (aG (aP (rG (aB (aN (fL (aB aC (aB (aA 2) aD))) (aQ callInt rfl T.z_int oZ (aB (lH opGe (aA 2) (aI opPow aC aC) (nomark _)) aD))) (aB (aA 3) (aB aC aD)))))))))
theorem bP (T:Tx K mg a):FnOk P w K mg base CX0 1 a.a_l_take a.d_l_take ["_law_box_here","_law_many"] (spF K Z0 2 bI) :=
 bY (k:=0) T.f_l_take lC fun cdv A outer s H E hr=>show Ess _ K Z0 (defBody dI) b_l_take from
  (aE (dH (bA opGt (aN (aA 0) aC) aC (nomark _))
  (aE (aM (i:=2) lC.nd (aI opMod (aN (aA 0) aC) (aA 1)))
  (aE (fY (aI opDiv (aN (aA 0) aC) (aA 1)) (kB (aA 0) aC))
  (aG (aP (aA 2)))))
  bT)
  (aE (fY (aI opAdd (aN (aA 0) aC) aC) (kB (aA 0) aC))
  (aE (aM (i:=3) lC.nd (aI opMod (aI opMulA (aI opAdd (aN (aA 0) aC) (aI opMulA aC (aN (aA 0) aC))) aC) aC))
  (aE (fY (aI opAdd (aI opMod (aI opAdd (aI opMulA (aA 3) aC) aC) aC) aC) (kB (aA 0) aC))
  (aG (aP (aI opMod (aI opDiv (aI opAdd (aI opMulA (aA 3) aC) (aN (aA 0) aC)) aC) (aA 1))))))))
theorem zQ (T:Tx K mg a):FnOk P w K mg base CX0 2 a.a_l_rest a.d_l_rest ["_law_box_here","_law_n"] (spF K Z0 2 iR) :=
 bY (k:=1) T.f_l_rest qG fun cdv A outer s H E hr=>show Ess _ K Z0 (defBody dG) b_l_rest from
  (aE (aM (i:=2) qG.nd (aH ((bP T).mono (by omega)) hr T.m_l_take T.k_l_take T.b_l_take (aB (aA 0) (aB aC aD)) (hlen:=fun _ _ h=>bF h)))
  (aE (dH (bA (opEq (bQ hr)) (aA 2) aC (nomark _))
  (aG (aP (aN (fL (aB aC (aB (aI opMod aC (aA 1)) (aB (aI opSub (aA 1) aC) (aB (aI opMod (aI opSub (aA 1) aC) (aA 1)) aD))))) (aH ((bP T).mono (by omega)) hr T.m_l_take T.k_l_take T.b_l_take (aB (aA 0) (aB aC aD)) (hlen:=fun _ _ h=>bF h)))))
  bT)
  (aG (aP (aH ((bP T).mono (by omega)) hr T.m_l_take T.k_l_take T.b_l_take (aB (aA 0) (aB (aA 1) aD)) (hlen:=fun _ _ h=>bF h))))))
theorem nF (T:Tx K mg a):FnOk P w K mg base CX0 3 a.a_l_rests a.d_l_rests ["_law_box_here","_law_n","_law_many"] (spF K Z0 3 fF) :=
 bY (k:=2) T.f_l_rests vH fun cdv A outer s H E hr=>show Ess _ K Z0 (defBody cG) b_l_rests from
  (aG (aP (aQ callTup rfl T.z_tuple bJ (aB (cA rfl (CompOk.of (N0:=["_law_box_here","_law_n","_law_many"]) (sc0:=defScope cG) (Nc:=["_law_k","_law_box_here","_law_n"]) (js:=[none,some 0,some 1]) (by decide +kernel)) (cK T.z_range (aA 2)) (fun _ _ _ _ _ _=>(aK (i:=0) (show (["_law_k","_law_box_here","_law_n"]:List Str).Nodup by decide +kernel))) (fun _ _ _ _ _ _=>bZ) (fun _ _ _ _ _ _=>(aH ((zQ T).mono (by omega)) hr T.m_l_rest T.k_l_rest T.b_l_rest (aB (aA 1) (aB (aA 2) aD)) (hlen:=fun _ _ h=>vE h)))) aD))))
theorem nS (T:Tx K mg a):FnOk P w K mg base CX0 1 a.a_l_run a.d_l_run ["_law_program","_law_given_here","_law_contents"] (spF K Z0 3 iD) :=
 bY (k:=0) T.f_l_run eU fun cdv A outer s H E hr=>show Ess _ K Z0 (defBody eP) b_l_run from
  (aE (aM (i:=3) eU.nd (aQ callListR rfl T.z_list yX (aB (aA 2) aD)))
  (aE (dX PassesOwn.never rfl (kZ (aN (aA 0) aC)) (aK (i:=4) eU.nd)
  (aG (dH (bA (opEq (bQ hr)) (aN (aA 4) aC) eE (nomark _))
  (aG (fY (aI opMod (aI opMulA (aN (aA 3) (aN (aA 4) aC)) (aN (aA 4) aC)) (aN (aA 0) aC)) (kB (aA 3) (aN (aA 4) aC))))
  (aE (aM (i:=5) eU.nd (aN (aA 4) aC))
  (aE (dX PassesOwn.never rfl (kZ (aN (aA 4) aC)) (aK (i:=6) eU.nd)
  (aG (aM (i:=5) eU.nd (aI opMod (aI opMulA (aA 5) (aN (aA 1) (aA 6))) (aN (aA 0) aC)))))
  (aE (dX PassesOwn.never rfl (kZ (aN (aA 4) aC)) (aK (i:=7) eU.nd)
  (aG (aM (i:=5) eU.nd (aI opMod (aI opMulA (aA 5) (aN (aA 3) (aA 7))) (aN (aA 0) aC)))))
  (aG (fY (aI opMod (aI opAdd (aN (aA 3) (aN (aA 4) aC)) (aA 5)) (aN (aA 0) aC)) (kB (aA 3) (aN (aA 4) aC))))))))))
  (aG (aP (aQ callTup rfl T.z_tuple bJ (aB (aA 3) aD))))))
theorem vF (T:Tx K mg a):FnOk P w K mg base CX0 2 a.a_l_table a.d_l_table ["_law_box_here","_law_k"] (spF K Z0 2 gQ) :=
 bY (k:=1) T.f_l_table kC fun cdv A outer s H E hr=>show Ess _ K Z0 (defBody cH) b_l_table from
  (aE (aM (i:=2) kC.nd (aH ((bP T).mono (by omega)) hr T.m_l_take T.k_l_take T.b_l_take (aB (aA 0) (aB aC aD)) (hlen:=fun _ _ h=>bF h)))
  (aE (dH (bA (opEq (bQ hr)) (aA 2) aC (nomark _))
  (aE (aM (i:=3) kC.nd (aI opMulR (fL (aB (aH ((bP T).mono (by omega)) hr T.m_l_take T.k_l_take T.b_l_take (aB (aA 0) (aB (aA 1) aD)) (hlen:=fun _ _ h=>bF h)) aD)) (aI opMulA (aA 1) (aA 1))))
  (aE (fY (aH ((bP T).mono (by omega)) hr T.m_l_take T.k_l_take T.b_l_take (aB (aA 0) (aB (aA 1) aD)) (hlen:=fun _ _ h=>bF h)) (kB (aA 3) (aH ((bP T).mono (by omega)) hr T.m_l_take T.k_l_take T.b_l_take (aB (aA 0) (aB (aI opMulA (aA 1) (aA 1)) aD)) (hlen:=fun _ _ h=>bF h))))
  (aG (aP (aQ callTup rfl T.z_tuple bJ (aB (aA 3) aD))))))
  bT)
  (aG (aP (aQ callTup rfl T.z_tuple bJ (aB (cA rfl (CompOk.of (N0:=["_law_box_here","_law_k","_law_shape","_law_found"]) (sc0:=defScope cH) (Nc:=["_law_j","_law_box_here","_law_k"]) (js:=[none,some 0,some 1]) (by decide +kernel)) (cK T.z_range (aI opMulA (aA 1) (aA 1))) (fun _ _ _ _ _ _=>(aK (i:=0) (show (["_law_j","_law_box_here","_law_k"]:List Str).Nodup by decide +kernel))) (fun _ _ _ _ _ _=>bZ) (fun _ _ _ _ _ _=>(aH ((bP T).mono (by omega)) hr T.m_l_take T.k_l_take T.b_l_take (aB (aA 1) (aB (aA 2) aD)) (hlen:=fun _ _ h=>bF h)))) aD))))))
theorem pW (T:Tx K mg a):FnOk P w K mg base CX0 1 a.a_l_bits a.d_l_bits ["_law_value","_law_many"] (spF K Z0 2 gI) :=
 bY (k:=0) T.f_l_bits zZ fun cdv A outer s H E hr=>show Ess _ K Z0 (defBody dA) b_l_bits from
  (aG (aP (aQ callTup rfl T.z_tuple bJ (aB (cA rfl (CompOk.of (N0:=["_law_value","_law_many"]) (sc0:=defScope dA) (Nc:=["_law_j","_law_value"]) (js:=[none,some 0]) (by decide +kernel)) (cK T.z_range (aA 1)) (fun _ _ _ _ _ _=>(aK (i:=0) (show (["_law_j","_law_value"]:List Str).Nodup by decide +kernel))) (fun _ _ _ _ _ _=>bZ) (fun _ _ _ _ _ _=>(aI opMod (aI opDiv (aA 1) (aN (fL (aB aC (aB aC aD))) (aA 0))) aC))) aD))))
theorem jR (T:Tx K mg a):∀ d:Nat,FnOk P w K mg base CX0 (d+2) a.a_l_tree a.d_l_tree ["_law_box_here","_law_k","_law_high","_law_leaves"] (spF K Z0 4 (dB (d)))
 | 0=>rO rfl
 | d+1=>by
  have ih:=jR T d
  have ih_l_tree:=ih
  rw [show d+1+2=(d+2)+1 by omega]
  exact bY (k:=d+2) T.f_l_tree gW fun cdv A outer s H E hr=>show Ess _ K Z0 (defBody dO) (b_l_tree (dB d)) from
  (aE (aM (i:=4) gW.nd (aH ((bP T).mono (by omega)) hr T.m_l_take T.k_l_take T.b_l_take (aB (aA 0) (aB aC aD)) (hlen:=fun _ _ h=>bF h)))
  (aE (dH (aMu (aMq (bA (opEq (bQ hr)) (aA 2) aC (nomark _)) (aJd (bA (opEq (bQ hr)) (aA 4) aC (nomark _)))))
  (aG (aP (bN (aB eE (aB (aH ((bP T).mono (by omega)) hr T.m_l_take T.k_l_take T.b_l_take (aB (aA 0) (aB (aA 3) aD)) (hlen:=fun _ _ h=>bF h)) aD)))))
  bT)
  (aE (aM (i:=5) gW.nd (aH ((vF T).mono (by omega)) hr T.m_l_table T.k_l_table T.b_l_table (aB (aA 0) (aB (aA 1) aD)) (hlen:=fun _ _ h=>sL h)))
  (aE (aM (i:=6) gW.nd (aH ih_l_tree hr T.m_l_tree T.k_l_tree T.b_l_tree (aB (aA 0) (aB (aA 1) (aB (aI opSub (aA 2) aC) (aB (aA 3) aD)))) (hlen:=fun _ _ h=>jX h)))
  (aE (aM (i:=7) gW.nd (aH ih_l_tree hr T.m_l_tree T.k_l_tree T.b_l_tree (aB (aA 0) (aB (aA 1) (aB (aI opSub (aA 2) aC) (aB (aA 3) aD)))) (hlen:=fun _ _ h=>jX h)))
  (aG (aP (aI opAdd (bN (aB eE (aB (aA 5) aD))) (aN (fL (aB (bN (aB (aA 6) (aB (aA 7) aD))) (aB (bN (aB (aA 7) (aB (aA 6) aD))) aD))) (aH ((bP T).mono (by omega)) hr T.m_l_take T.k_l_take T.b_l_take (aB (aA 0) (aB aC aD)) (hlen:=fun _ _ h=>bF h)))))))))))
theorem zE (d:Nat) (T:Tx K mg a):FnOk P w K mg base CX0 (d+2) a.a_l_tree a.d_l_tree ["_law_box_here","_law_k","_law_high","_law_leaves"] (spF K Z0 4 (dB d)):=(jR T d)
theorem fC (T:Tx K mg a):∀ d:Nat,FnOk P w K mg base CX0 (d+0) a.a_l_tree_worth a.d_l_tree_worth ["_law_k","_law_tree_here","_law_values"] (spF K Z0 3 (aS (d)))
 | 0=>rO rfl
 | d+1=>by
  have ih:=fC T d
  have ih_l_tree_worth:=ih
  rw [show d+1+0=(d+0)+1 by omega]
  exact bY (k:=d+0) T.f_l_tree_worth mL fun cdv A outer s H E hr=>show Ess _ K Z0 (defBody aY) (b_l_tree_worth (aS d)) from
  (aE (dH (bA (opEq (bQ hr)) (aN (aA 1) aC) eE (nomark _))
  (aG (aP (aN (aA 2) (aN (aA 1) aC))))
  bT)
  (aG (aP (aN (aN (aA 1) aC) (aI opAdd (aI opMulA (aH ih_l_tree_worth hr T.m_l_tree_worth T.k_l_tree_worth T.b_l_tree_worth (aB (aA 0) (aB (aN (aA 1) aC) (aB (aA 2) aD))) (hlen:=fun _ _ h=>eH h)) (aA 0)) (aH ih_l_tree_worth hr T.m_l_tree_worth T.k_l_tree_worth T.b_l_tree_worth (aB (aA 0) (aB (aN (aA 1) aC) (aB (aA 2) aD))) (hlen:=fun _ _ h=>eH h)))))))
theorem mP (d:Nat) (T:Tx K mg a):FnOk P w K mg base CX0 (d+0) a.a_l_tree_worth a.d_l_tree_worth ["_law_k","_law_tree_here","_law_values"] (spF K Z0 3 (aS d)):=(fC T d)
theorem aFo (T:Tx K mg a):FnOk P w K mg base CX0 2 a.a_l_by a.d_l_by ["_law_box_here","_law_k"] (spF K Z0 2 oK) :=
 bY (k:=1) T.f_l_by aGx fun cdv A outer s H E hr=>show Ess _ K Z0 (defBody fV) b_l_by from
  (aG (aP (aN (aN (fL (aB (wV (ns:=[7,13,19,31,49,91,133]) (by repeat constructor)) (aB (wV (ns:=[11,31,41,61,121,341,11]) (by repeat constructor)) aD))) (aQ callInt rfl T.z_int oZ (aB (lH opGt (aA 1) aC (nomark _)) aD))) (aH ((bP T).mono (by omega)) hr T.m_l_take T.k_l_take T.b_l_take (aB (aA 0) (aB aC aD)) (hlen:=fun _ _ h=>bF h)))))
theorem vI (T:Tx K mg a):FnOk P w K mg base CX0 2 a.a_l_given a.d_l_given ["_law_k","_law_values","_law_givens"] (spF K Z0 3 gJ) :=
 bY (k:=1) T.f_l_given iI fun cdv A outer s H E hr=>show Ess _ K Z0 (defBody cP) b_l_given from
  (aE (aM (i:=3) iI.nd (bN aD))
  (aE (dX PassesOwn.never rfl (kZ (aA 1)) (aK (i:=4) iI.nd)
  (aG (aM (i:=3) iI.nd (aI opAdd (aA 3) (aH ((pW T).mono (by omega)) hr T.m_l_bits T.k_l_bits T.b_l_bits (aB (aA 4) (aB (aN (fL (aB aC (aB aC aD))) (aQ callInt rfl T.z_int oZ (aB (lH opGt (aA 0) aC (nomark _)) aD))) aD)) (hlen:=fun _ _ h=>nZ h))))))
  (aG (aP (tF (aI opAdd (aA 3) (aI opMulA (bN (aB aC aD)) (aA 2))) aHz (aHt (aA 2)))))))
theorem aKk (T:Tx K mg a):FnOk P w K mg base CX0 57 a.a_law a.d_law ["_law_script"] (spF K Z0 1 nO) :=
 bY (k:=56) T.f_law cY fun cdv A outer s H E hr=>show Ess _ K Z0 (defBody fN) b_law from
  (aE (aM (i:=1) cY.nd (aH ((nW T).mono (by omega)) hr T.m_l_box T.k_l_box T.b_l_box (aB (aA 0) (aB aC aD)) (hlen:=fun _ _ h=>lZ h)))
  (aE (aM (i:=2) cY.nd (aI opAdd aC (aH ((bP T).mono (by omega)) hr T.m_l_take T.k_l_take T.b_l_take (aB (aA 1) (aB aC aD)) (hlen:=fun _ _ h=>bF h))))
  (aE (aM (i:=3) cY.nd (aN (fL (aB aC (aB aC aD))) (aQ callInt rfl T.z_int oZ (aB (lH opGt (aA 2) aC (nomark _)) aD))))
  (aE (aM (i:=4) cY.nd (aH ((aFo T).mono (by omega)) hr T.m_l_by T.k_l_by T.b_l_by (aB (aA 1) (aB (aA 2) aD)) (hlen:=fun _ _ h=>aCn h)))
  (aE (xU (i:=5) cY.nd rfl (CompOk.of (N0:=["_law_script","_law_box_here","_law_k","_law_each","_law_n","_law_trees","_law_both","_law_values","_law_lying","_law_more","_law_given_here","_law_got","_law_tree_here","_law_i","_law_one","_law_found","_law_back","_law_changed"]) (sc0:=defScope fN) (Nc:=["_law_j","_law_k","_law_script","_law_each"]) (js:=[none,some 2,some 0,some 3]) (by decide +kernel)) (cK T.z_range aC) (fun _ _ _ _ _ _=>(aK (i:=0) (show (["_law_j","_law_k","_law_script","_law_each"]:List Str).Nodup by decide +kernel))) (fun _ _ _ _ _ _=>bZ) (fun _ _ _ _ _ _=>(aFq (aH ((zE 50 T).mono (by omega)) hr T.m_l_tree T.k_l_tree T.b_l_tree (aB (aH ((nW T).mono (by omega)) hr T.m_l_box T.k_l_box T.b_l_box (aB (aA 2) (aB (aI opAdd aC (aA 0)) aD)) (hlen:=fun _ _ h=>lZ h)) (aB (aA 1) (aB (aN (fL (aB aC (aB aC aD))) (aQ callInt rfl T.z_int oZ (aB (lH opGt (aA 1) aC (nomark _)) aD))) (aB (aI opDiv aC (aA 3)) aD)))) (hlen:=fun _ _ h=>jX h)))))
  (aE (aM (i:=6) cY.nd (aH ((zT T).mono (by omega)) hr T.m_behind T.k_behind T.b_behind (aB (sR ((iO T).mono (by omega)) hr T.m_tree_program T.k_tree_program T.bd_tree_program (aB (aA 4) (aB (aA 2) (aB aC (aB (aN (aA 5) aC) aD)))) (hlen:=fun _ _ h=>gG h)) (aB (sR ((iO T).mono (by omega)) hr T.m_tree_program T.k_tree_program T.bd_tree_program (aB (aA 4) (aB (aA 2) (aB aC (aB (aN (aA 5) aC) aD)))) (hlen:=fun _ _ h=>gG h)) aD)) (hlen:=fun _ _ h=>vS h)))
  (aE (aM (i:=1) cY.nd (aH ((nW T).mono (by omega)) hr T.m_l_box T.k_l_box T.b_l_box (aB (aA 0) (aB aC aD)) (hlen:=fun _ _ h=>lZ h)))
  (aE (aM (i:=7) cY.nd (aQ callTup rfl T.z_tuple bJ (aB (cA rfl (CompOk.of (N0:=["_law_script","_law_box_here","_law_k","_law_each","_law_n","_law_trees","_law_both","_law_values","_law_lying","_law_more","_law_given_here","_law_got","_law_tree_here","_law_i","_law_one","_law_found","_law_back","_law_changed"]) (sc0:=defScope fN) (Nc:=["_law_i","_law_box_here","_law_k"]) (js:=[none,some 1,some 2]) (by decide +kernel)) (cK T.z_range (aI opDiv aC (aA 3))) (fun _ _ _ _ _ _=>(aK (i:=0) (show (["_law_i","_law_box_here","_law_k"]:List Str).Nodup by decide +kernel))) (fun _ _ _ _ _ _=>bZ) (fun _ _ _ _ _ _=>(aH ((bP T).mono (by omega)) hr T.m_l_take T.k_l_take T.b_l_take (aB (aA 1) (aB (aA 2) aD)) (hlen:=fun _ _ h=>bF h)))) aD)))
  (aE (qP (i:=8) (j:=9) rfl cY.nd (aB (aH ((nF T).mono (by omega)) hr T.m_l_rests T.k_l_rests T.b_l_rests (aB (aA 1) (aB (aA 4) (aB (aI opMulA aC (aA 3)) aD))) (hlen:=fun _ _ h=>mD h)) (aB (aH ((nF T).mono (by omega)) hr T.m_l_rests T.k_l_rests T.b_l_rests (aB (aA 1) (aB (aA 4) (aB (aI opMulA aC (aA 3)) aD))) (hlen:=fun _ _ h=>mD h)) aD)))
  (aE (aM (i:=10) cY.nd (aH ((vI T).mono (by omega)) hr T.m_l_given T.k_l_given T.b_l_given (aB (aA 2) (aB (aA 7) (aB aC aD))) (hlen:=fun _ _ h=>uQ h)))
  (aE (aM (i:=11) cY.nd (aI opMulR (fL (aB aC aD)) (aI opMulA aC (aA 3))))
  (aE (dX PassesOwn.never rfl (kZ (aA 5)) (aK (i:=12) cY.nd)
  (aG (dX PassesOwn.never rfl (xX T.z_enumerate (aH ((pW T).mono (by omega)) hr T.m_l_bits T.k_l_bits T.b_l_bits (aB (aH ((mP 50 T).mono (by omega)) hr T.m_l_tree_worth T.k_l_tree_worth T.b_l_tree_worth (aB (aA 2) (aB (aA 12) (aB (aA 7) aD))) (hlen:=fun _ _ h=>eH h)) (aB (aA 3) aD)) (hlen:=fun _ _ h=>nZ h))) (dY rfl (aO (aK (i:=13) cY.nd) (aO (aK (i:=14) cY.nd) cL)))
  (aG (fY (aI opAdd (aN (aA 11) (aA 13)) (aA 14)) (kB (aA 11) (aA 13)))))))
  (aE (aM (i:=15) cY.nd (aH ((nS T).mono (by omega)) hr T.m_l_run T.k_l_run T.b_l_run (aB (aA 6) (aB (aA 10) (aB (aA 8) aD))) (hlen:=fun _ _ h=>lS h)))
  (aE (dH (bA (opNe (bQ hr)) (aA 15) (aQ callTup rfl T.z_tuple bJ (aB (cA rfl (CompOk.of (N0:=["_law_script","_law_box_here","_law_k","_law_each","_law_n","_law_trees","_law_both","_law_values","_law_lying","_law_more","_law_given_here","_law_got","_law_tree_here","_law_i","_law_one","_law_found","_law_back","_law_changed"]) (sc0:=defScope fN) (Nc:=["_law_one","_law_other","_law_n"]) (js:=[none,none,some 4]) (by decide +kernel)) (rY T.z_zip (aA 8) (aA 11)) (fun _ _ _ _ _ _=>(dY rfl (aO (aK (i:=0) (show (["_law_one","_law_other","_law_n"]:List Str).Nodup by decide +kernel)) (aO (aK (i:=1) (show (["_law_one","_law_other","_law_n"]:List Str).Nodup by decide +kernel)) cL)))) (fun _ _ _ _ _ _=>bZ) (fun _ _ _ _ _ _=>(aI opMod (aI opAdd (aA 0) (aA 1)) (aA 2)))) aD)) (nomark _))
  (aG (aP tU))
  bT)
  (aE (aM (i:=16) cY.nd (aH ((nK T).mono (by omega)) hr T.m_turned_back T.k_turned_back T.b_turned_back (aB (aA 6) aD) (hlen:=fun _ _ h=>mI h)))
  (aE (dH (bA (opNe (bQ hr)) (aH ((nS T).mono (by omega)) hr T.m_l_run T.k_l_run T.b_l_run (aB (aA 16) (aB (aA 10) (aB (aA 15) aD))) (hlen:=fun _ _ h=>lS h)) (aA 8) (nomark _))
  (aG (aP tU))
  bT)
  (aE (aM (i:=17) cY.nd (aQ callTup rfl T.z_tuple bJ (aB (cA rfl (CompOk.of (N0:=["_law_script","_law_box_here","_law_k","_law_each","_law_n","_law_trees","_law_both","_law_values","_law_lying","_law_more","_law_given_here","_law_got","_law_tree_here","_law_i","_law_one","_law_found","_law_back","_law_changed"]) (sc0:=defScope fN) (Nc:=["_law_one","_law_other","_law_n"]) (js:=[none,none,some 4]) (by decide +kernel)) (rY T.z_zip (aA 15) (aA 9)) (fun _ _ _ _ _ _=>(dY rfl (aO (aK (i:=0) (show (["_law_one","_law_other","_law_n"]:List Str).Nodup by decide +kernel)) (aO (aK (i:=1) (show (["_law_one","_law_other","_law_n"]:List Str).Nodup by decide +kernel)) cL)))) (fun _ _ _ _ _ _=>bZ) (fun _ _ _ _ _ _=>(aI opMod (aI opAdd (aA 0) (aA 1)) (aA 2)))) aD)))
  (aG (aP (lH (opEq (bQ hr)) (aH ((nS T).mono (by omega)) hr T.m_l_run T.k_l_run T.b_l_run (aB (aA 16) (aB (aA 10) (aB (aA 17) aD))) (hlen:=fun _ _ h=>lS h)) (aQ callTup rfl T.z_tuple bJ (aB (cA rfl (CompOk.of (N0:=["_law_script","_law_box_here","_law_k","_law_each","_law_n","_law_trees","_law_both","_law_values","_law_lying","_law_more","_law_given_here","_law_got","_law_tree_here","_law_i","_law_one","_law_found","_law_back","_law_changed"]) (sc0:=defScope fN) (Nc:=["_law_one","_law_other","_law_n"]) (js:=[none,none,some 4]) (by decide +kernel)) (rY T.z_zip (aA 17) (aA 11)) (fun _ _ _ _ _ _=>(dY rfl (aO (aK (i:=0) (show (["_law_one","_law_other","_law_n"]:List Str).Nodup by decide +kernel)) (aO (aK (i:=1) (show (["_law_one","_law_other","_law_n"]:List Str).Nodup by decide +kernel)) cL)))) (fun _ _ _ _ _ _=>bZ) (fun _ _ _ _ _ _=>(aI opMod (aI opSub (aA 0) (aA 1)) (aA 2)))) aD)) (nomark _)))))))))))))))))))))
end
open PySem L2 EV LS
local macro_rules | `(tactic| clean_wf) => `(tactic| repeat decreasing_trivial_pre_omega)
local macro_rules | `(tactic| decreasing_trivial_pre_omega) => `(tactic| with_reducible first
 | apply rB
 | apply wO
 | apply tI
 | apply aIl
 | refine aMl (by with_unfolding_all exact rfl) ?_
 | apply aNg
 | apply aMr
 | apply aIg
 | apply aHw
 | apply aIb
 | apply uT
 | apply aIf
 | apply aDv
 | apply aIn
 | apply aIa
 | apply wR
 | apply aDw
 | apply aBc
 | apply aBk
 | (refine aIk ?hz ?_; case hz=>(with_unfolding_all first | exact rfl | decide | ((try simp only [decide_eq_true_eq,true_and,and_true,List.length_map,List.length_cons,List.length_nil,List.length_append,List.length_replicate]) <;> omega)))
 | (refine vK ?hz ?_; case hz=>(with_unfolding_all first | decide | ((try simp only [mulOk,decide_eq_true_eq,List.length_map,List.length_cons,List.length_nil,List.length_append,List.length_replicate]) <;> omega)))
 | apply aCs
 | apply aIj
 | apply aEn
 | refine iW (by with_unfolding_all exact rfl) ?_
 | refine dZ (by with_unfolding_all exact rfl) ?_
 | refine sI (by with_unfolding_all exact rfl) ?_
 | refine iC (by assumption) (by with_unfolding_all exact rfl) ?_
 | refine iC (List.getElem?_set_self (by simpa only [List.length_set])) (by with_unfolding_all exact rfl) ?_
 | apply yM
 | apply aBn
 | apply aIp
 | apply wS
 | apply aBu
 | refine aBi (by with_unfolding_all exact rfl) (by with_unfolding_all simp) ?_
 | refine aBa (by with_unfolding_all exact rfl) (by with_unfolding_all simp) ?_
 | refine aDs (by with_unfolding_all exact rfl) (by with_unfolding_all simp) ?_
 | apply yR
 | apply yN
 | apply yG
 | apply xF
 | apply yO
 | apply aEd
 | apply aHy
 | apply aIr
 | apply aDu
 | apply aDh
 | apply aBo
 | apply aEo
 | apply aDn
 | apply aEl
 | refine aHv (s:=⟨[],none⟩) ?_
 | apply aBg
 | apply sA
 | apply tQ
 | apply rK
 | apply yH
 | apply yK
 | apply aIi
 | apply aBv
 | apply aCo
 | apply xS
 | refine aIe (by with_unfolding_all exact rfl) ?_
 | refine aEf (by with_unfolding_all exact rfl) ?_
 | refine ⟨_,rfl,?_⟩
 | refine ⟨_,_,_,_,rfl,rfl,by assumption,by with_unfolding_all exact rfl,?_⟩
 | refine ⟨_,_,_,_,rfl,rfl,List.getElem?_set_self (by simpa only [List.length_set]),by with_unfolding_all exact rfl,?_⟩
 | refine vZ (by with_unfolding_all decide) ?_
 | refine nI (by with_unfolding_all decide) ?_
 | refine ⟨fun h=>absurd h (by with_unfolding_all decide),fun _=>?_⟩
 | refine ⟨fun _=>?_,fun h=>absurd h (by with_unfolding_all decide)⟩
 | refine ⟨_,_,rfl,?_⟩
 | refine ⟨_,_,_,rfl,?_⟩)
theorem bM {M:Mm} {b:Nat} {m:Int} (h:Bx M b) (h0:0 < m) (h1:m < 18446744073709551616):Ok (bI [.ref b,.d (.int m)] M) fun w M'=>∃ d:Int,w=.d (.int d)/\0<=d/\d < m/\Nx b M M':=by
 have hb:=h.lt
 obtain ⟨x,y,z,e⟩:=h
 refine bK rfl ?_
 unfold b_l_take
 clean_wf
 refine jY (fun hx=>?_) (fun hx=>?_)
 ·clean_wf
  refine ⟨Int.emod_nonneg _ (by omega),Int.emod_lt_of_pos _ h0,x / m,y,z,?_⟩
  rw [List.take_of_length_le (by simp)]; rfl
 ·clean_wf
  refine ⟨Int.emod_nonneg _ (by omega),Int.emod_lt_of_pos _ h0,?_⟩
  rw [List.take_of_length_le (by simp)]
  exact ⟨_,_,_,by rw [List.set_set]; rfl⟩
theorem nG {M:Mm} {ns:List Int} {k:Int} (h0:0<=k) (hl:ns.length<=63):Ok (jM [.d (.fz (ns.map D.int)),.d (.int k)] M) fun w M'=>∃ x y z,w=.ref M.length/\M'=M++[[.int x,.int y,.int z]]:=by
 refine aCe rfl ?_
 have at_:∀ i:Int,0<=i->i < (ns.length:Int)->∃ n,atI (ns.map D.int) i=some (.int n):=fun i a b=>by
  have hi:i.toNat < ns.length:=by omega
  refine ⟨ns[i.toNat],?_⟩
  simp only [atI,ixN,List.length_map]
  rw [if_pos a,if_pos b]
  simp [hi]
 unfold b_l_box
 clean_wf
 refine jY (fun hx=>?_) (fun hx=>?_)
 ·rw [List.length_map] at hx
  obtain ⟨n,e⟩:=at_ k h0 hx
  clean_wf
  refine sI e ?_
  clean_wf
  refine dZ (atBox _) ?_
  clean_wf
  exact ⟨M.length,[.int _,.int _,.int _],rfl,Nat.le_refl _,List.getElem?_concat_length,_,_,_,rfl,by rw [List.take_left]⟩
 ·clean_wf
  refine jY (fun hy=>?_) (fun hy=>?_)
  ·rw [List.length_map] at hy
   obtain ⟨n,e⟩:=at_ (k % ns.length) (Int.emod_nonneg _ (by omega)) (Int.emod_lt_of_pos _ hy)
   clean_wf
   rw [List.length_map]
   refine sI e ?_
   clean_wf
   refine dZ (atBox _) ?_
   clean_wf
   exact ⟨M.length,[.int _,.int _,.int _],rfl,Nat.le_refl _,List.getElem?_concat_length,_,_,_,rfl,by rw [List.take_left]⟩
  ·clean_wf
   refine dZ (atBox _) ?_
   clean_wf
   exact ⟨M.length,[.int _,.int _,.int _],rfl,Nat.le_refl _,List.getElem?_concat_length,_,_,_,rfl,by rw [List.take_left]⟩
theorem zY {M:Mm} {b:Nat} {m:Int} (hb:Bx M b) (h2:2<=m) (hn:m<=1000000):Ok (iR [.ref b,.d (.int m)] M) fun w M'=>∃ r:Int,w=.d (.int r)/\0<=r/\r < m/\Nx b M M':=by
 have n:=Nx.refl hb
 unfold iR
 refine bK rfl ?_
 unfold b_l_rest
 clean_wf
 (refine (bM hb (by omega) (by omega)).mono ?_; rintro _ _ ⟨d1,rfl,l_d1,u_d1,n'⟩; replace n:=n.trans n'; replace hb:=n'.bx hb; clear n')
 clean_wf
 refine jY (fun _=>?_) (fun _=>?_)
 ·clean_wf
  (refine (bM hb (by omega) (by omega)).mono ?_; rintro _ _ ⟨d2,rfl,l_d2,u_d2,n'⟩; replace n:=n.trans n'; replace hb:=n'.bx hb; clear n')
  have e1:(1:Int) % m=1:=Int.emod_eq_of_lt (by omega) (by omega)
  obtain ⟨w,ew,hw⟩:=at4 l_d2 u_d2 (.int 0) (.int (1 % m)) (.int (m - 1)) (.int ((m - 2) % m))
  refine dZ ew ?_
  rcases hw with rfl | rfl | rfl | rfl
  ·clean_wf
   rw [n.take]
   exact ⟨by omega,by omega,n⟩
  ·clean_wf
   rw [n.take]
   exact ⟨by omega,by omega,n⟩
  ·clean_wf
   rw [n.take]
   exact ⟨by omega,by omega,n⟩
  ·clean_wf
   rw [n.take]
   exact ⟨Int.emod_nonneg _ (by omega),Int.emod_lt_of_pos _ (by omega),n⟩
 ·clean_wf
  (refine (bM hb (by omega) (by omega)).mono ?_; rintro _ _ ⟨d2,rfl,l_d2,u_d2,n'⟩; replace n:=n.trans n'; replace hb:=n'.bx hb; clear n')
  clean_wf
  rw [n.take]
  exact ⟨l_d2,u_d2,n⟩
theorem oF {M:Mm} {b:Nat} {n m:Int} (hb:Bx M b) (h2:2<=n) (hn:n<=1000000) (m0:0<=m) (m1:m < 1000):Ok (fF [.ref b,.d (.int n),.d (.int m)] M) fun w M'=>∃ cs:List Int,w=.d (intsD cs)/\(cs.length:Int)=m/\Rs n cs/\Nx b M M':=by
 unfold fF
 refine bK rfl ?_
 unfold b_l_rests
 clean_wf
 refine bX (fun i acc L' M'=>∃ cs:List Int,acc=cs.map D.int/\cs.length=i/\Rs n cs/\Nx b M M'/\Bx M' b/\∃ a,L'=[a,some (.ref b),some (.d (.int n))]) ?_
 clean_wf
 refine ⟨by simp only [in62,decide_eq_true_eq]; omega,⟨[],rfl,rfl,(fun c h=>by cases h),Nx.refl hb,hb,none,rfl⟩,?_,by simp only [rngD,List.length_map,List.length_range]; omega,?_,?_⟩
 ·rintro i acc L' M' hi ⟨cs,rfl,hl,_,n',_⟩
  exact ⟨n'.len,(fun t e=>by cases e),by simp [hl]⟩
 ·rintro i d acc _ M1 hx ⟨cs,rfl,hl,hr,n',hb',a,rfl⟩
  obtain ⟨hi,rfl⟩:=cO hx
  clean_wf
  refine (zY (hb'.app (J:=[cs.map D.int])) h2 hn).mono ?_
  rintro _ _ ⟨r,rfl,l,u,n2⟩
  obtain ⟨M2,rfl,n3⟩:=n2.unapp hb'.lt
  refine ⟨_,M2,rfl,rfl,cs++[r],by simp,by simp [hl],?_,n'.trans n3,n3.bx hb',_,rfl⟩
  intro c hc
  rcases List.mem_append.mp hc with hc | hc
  ·exact hr c hc
  ·rw [List.mem_singleton.mp hc]; exact ⟨l,u⟩
 ·rintro acc _ M1 ⟨cs,rfl,hl,hr,n',hb',a,rfl⟩
  clean_wf
  refine cX (xs:=cs.map D.int) rfl ?_
  clean_wf
  rw [n'.take]
  simp only [rngD,List.length_map,List.length_range] at hl
  exact ⟨by omega,hr,n'⟩
local macro_rules | `(tactic| clean_wf) => `(tactic| repeat decreasing_trivial_pre_omega)
local macro_rules | `(tactic| decreasing_trivial_pre_omega) => `(tactic| with_reducible first
 | refine rB ?_ | refine wO ?_ | refine tI ?_ | refine aIl ?_ | refine aMl (by with_unfolding_all exact rfl) ?_ | refine aNg ?_ | refine aMr ?_ | refine aIg ?_ | refine aHw ?_ | refine aIb ?_ | refine uT ?_ | refine aIf ?_ | refine aDv ?_ | refine aIn ?_ | refine aIa ?_
 | refine aMy ?_ | refine aMe ?_ | refine wR ?_ | refine aIw ?_ | refine aKp ?_ | refine zX ?_ | refine aDw ?_ | refine aLg ?_ | refine aBc ?_ | refine aBk ?_ | (refine aIk ?hz ?_; case hz=>(with_unfolding_all first | exact rfl | decide | ((try simp only [decide_eq_true_eq,true_and,and_true,List.length_map,List.length_cons,List.length_nil,List.length_append,List.length_replicate]) <;> omega))) | (refine vK ?hz ?_; case hz=>(with_unfolding_all first | decide | ((try simp only [mulOk,decide_eq_true_eq,List.length_map,List.length_cons,List.length_nil,List.length_append,List.length_replicate]) <;> omega))) | refine aCs ?_ | refine aMa ?_ | refine aLb ?_ | refine aJx ?_ | refine aIj ?_ | refine aEi ?_ | refine aAs ?_ | refine aEn ?_ | refine aIz ?_
 | refine iW (by with_unfolding_all exact rfl) ?_ | refine dZ (by with_unfolding_all exact rfl) ?_ | refine sI (by with_unfolding_all exact rfl) ?_ | refine iC (by assumption) (by with_unfolding_all exact rfl) ?_ | refine iC (List.getElem?_set_self (by simpa only [List.length_set])) (by with_unfolding_all exact rfl) ?_
 | refine aEw ?_ | refine yM ?_ | refine aBn ?_ | refine aIp ?_ | refine wS ?_ | refine aBu ?_ | refine aKf ?_ | refine aNf ?_
 | refine aBi (by with_unfolding_all exact rfl) (by with_unfolding_all simp) ?_ | refine aBa (by with_unfolding_all exact rfl) (by with_unfolding_all simp) ?_ | refine aDs (by with_unfolding_all exact rfl) (by with_unfolding_all simp) ?_ | refine yR ?_
 | refine yN ?_ | refine yG ?_ | refine xF ?_ | refine aHn (by assumption) ?_ | refine yO ?_ | refine aFk ?_ | refine aEd ?_ | refine aKb ?_
 | refine aHy ?_ | refine aIr ?_ | refine aMc ?_ | refine aDu ?_ | refine aDh ?_ | refine aBo ?_ | refine aEo ?_ | refine aDn ?_ | refine aEl ?_ | refine aHv (s:=⟨[],none⟩) ?_ | refine aBg ?_ | refine sA ?_ | refine aDm ?_ | refine zL (by with_unfolding_all (simp <;> omega)) ?_ | refine aEc ?_ | refine aAn ?_ | refine aFi ?_ | refine aHe ?_ | refine aJe ?_ | refine aGg ?_ | refine aFj ?_ | refine tQ ?_ | refine rK ?_ | refine aGc ?_ | refine yH ?_ | refine aHd ?_ | refine yK ?_ | refine aHh ?_ | refine aIi ?_ | refine aBv ?_ | refine aCo ?_ | refine aNb ?_ | refine aMj ?_
 | refine aJt (by with_unfolding_all exact rfl) ?_ | refine xS ?_ | refine aIe (by with_unfolding_all exact rfl) ?_ | refine aEf (by with_unfolding_all exact rfl) ?_ | refine ⟨_,rfl,?_⟩ | refine ⟨_,_,_,_,rfl,rfl,by assumption,by with_unfolding_all exact rfl,?_⟩ | refine ⟨_,_,_,_,rfl,rfl,List.getElem?_set_self (by simpa only [List.length_set]),by with_unfolding_all exact rfl,?_⟩
 | refine vZ (by with_unfolding_all decide) ?_ | refine nI (by with_unfolding_all decide) ?_ | refine ⟨fun h=>absurd h (by with_unfolding_all decide),fun _=>?_⟩ | refine ⟨fun _=>?_,fun h=>absurd h (by with_unfolding_all decide)⟩ | refine ⟨_,_,rfl,?_⟩ | refine ⟨_,_,_,rfl,?_⟩)
theorem qB {M:Mm} {b:Nat} {m k:Int} (hb:Bx M b) (hk:0<=k) (hk2:k < 60) (hm:0 < k->0 < m) (hm2:m < 1000) {js:List (Option Nat)} {fi:FI} {L:Lc} {Q:W->Mm->Prop} (e:outL js L=[none,some (.ref b),some (.d (.int m))]) (hi:Ok (fi L M) fun s M1=>s=⟨rngD 0 k.toNat,none⟩/\M1=M)
  (q:∀ (ns:List Nat) M',(ns.length:Int)=k->(∀ x∈ns,(x:Int) < m)->Nx b M M'->Bx M' b->Q (.d (.lst (ns.map fun x=>.int (x:Nat)))) M'):Ok (eComp js fi (gN 0) EV.tYes (eA bI (aCons (eV 1) (aCons (eV 2) aNil))) L M) Q:=by
 refine bX (fun i acc L' M'=>∃ ns:List Nat,acc=ns.map (fun x=>.int (x:Nat))/\ns.length=i/\(∀ x∈ns,(x:Int) < m)/\Nx b M M'/\Bx M' b/\∃ a,L'=[a,some (.ref b),some (.d (.int m))]) ?_
 refine hi.mono ?_
 rintro _ _ ⟨rfl,rfl⟩
 refine ⟨⟨[],rfl,rfl,(fun _ h=>by cases h),Nx.refl hb,hb,none,e⟩,?_,by simp only [rngD,List.length_map,List.length_range]; omega,?_,?_⟩
 ·rintro i acc L' M' hi ⟨ns,rfl,hl,_,n',_⟩
  exact ⟨n'.len,(fun t e=>by cases e),by simp [hl]⟩
 ·rintro i d acc _ M1 hx ⟨ns,rfl,hl,hr,n',hb',a,rfl⟩
  obtain ⟨hi,rfl⟩:=cO hx
  clean_wf
  have q1:=bM (hb'.app (J:=[ns.map fun x=>D.int (x:Nat)])) (hm (by omega)) (by omega)
  refine q1.mono ?_
  rintro _ _ ⟨r,rfl,l,u,n2⟩
  obtain ⟨M2,rfl,n3⟩:=n2.unapp hb'.lt
  obtain ⟨r,rfl⟩:∃ k:Nat,r=k:=⟨r.toNat,by omega⟩
  refine ⟨_,M2,rfl,rfl,ns++[r],by simp,by simp [hl],?_,n'.trans n3,n3.bx hb',_,rfl⟩
  intro c hc
  rcases List.mem_append.mp hc with hc | hc
  ·exact hr c hc
  ·rw [List.mem_singleton.mp hc]; exact u
 ·rintro acc _ M1 ⟨ns,rfl,hl,hr,n',hb',a,rfl⟩
  simp only [rngD,List.length_map,List.length_range] at hl
  exact q ns M1 (by omega) hr n' hb'
theorem vV {M:Mm} {b k:Nat} (hb:Bx M b) (k2:2<=k) (k4:k<=4):Ok (gQ [.ref b,.d (.int k)] M) fun w M'=>∃ t:List Nat,w=.d (natsD t)/\t.length=k*k/\(∀ x∈t,x < k)/\Nx b M M':=by
 have hkk:4<=k*k/\k*k<=16:=by
  have:k=2\/k=3\/k=4:=by omega
  rcases this with rfl | rfl | rfl <;> omega
 have ek:(k:Int)*k=((k*k:Nat):Int):=by simp
 have n:=Nx.refl hb
 unfold gQ
 refine bK rfl ?_
 unfold b_l_table
 clean_wf
 (refine (bM hb (by omega) (by omega)).mono ?_; rintro _ _ ⟨d1,rfl,l_d1,u_d1,n'⟩; replace n:=n.trans n'; replace hb:=n'.bx hb; clear n')
 clean_wf
 refine jY (fun h=>?_) (fun h=>?_)
 ·clean_wf
  (refine (bM hb (by omega) (by omega)).mono ?_; rintro _ _ ⟨d2,rfl,l_d2,u_d2,n'⟩; replace n:=n.trans n'; replace hb:=n'.bx hb; clear n')
  clean_wf
  rw [ek]
  obtain ⟨v,rfl⟩:∃ v:Nat,d2=v:=⟨d2.toNat,by omega⟩
  refine xJ (xs:=[.int v]) rfl ⟨by simp; omega,by omega,by omega⟩ ?_
  rename_i M1 M2
  have e1:(List.replicate ((k*k:Nat):Int).toNat [D.int v]).flatten=(List.replicate (k*k) v).map fun x=>D.int (x:Nat):=by rw [Int.toNat_natCast,List.flatten_replicate_singleton,List.map_replicate]
  rw [e1]
  clean_wf
  refine (bM (hb.app (J:=[(List.replicate (k*k) v).map fun x=>D.int (x:Nat)])) (by omega) (by omega)).mono ?_
  rintro _ _ ⟨d3,rfl,l3,u3,n'⟩
  obtain ⟨M3,rfl,n3⟩:=n'.unapp hb.lt
  replace n:=n.trans n3
  have el:M2.length=M3.length:=n3.len.symm
  replace hb:=n3.bx hb
  clear n' n3
  obtain ⟨v3,rfl⟩:∃ v:Nat,d3=v:=⟨d3.toNat,by omega⟩
  clean_wf
  rw [ek]
  refine (bM (hb.app (J:=[(List.replicate (k*k) v).map fun x=>D.int (x:Nat)])) (by omega) (by omega)).mono ?_
  rintro _ _ ⟨d4,rfl,l4,u4,n'⟩
  obtain ⟨M4,rfl,n4⟩:=n'.unapp hb.lt
  replace n:=n.trans n4
  have el4:M2.length=M4.length:=by rw [n4.len]; exact el
  obtain ⟨v4,rfl⟩:∃ v:Nat,d4=v:=⟨d4.toNat,by omega⟩
  refine ⟨_,_,(List.replicate (k*k) v).map fun x=>D.int (x:Nat),v4,rfl,rfl,by rw [el4]; simp,?_,?_⟩
  ·rw [List.length_map,List.length_replicate]; exact mR (by omega)
  clean_wf
  refine cX (xs:=((List.replicate (k*k) v).set v4 v3).map fun x=>D.int (x:Nat)) (by rw [el4]; simp [sv,lr,lv]) ?_
  clean_wf
  refine ⟨by simp,?_,?_⟩
  ·intro x hx
   rcases List.mem_or_eq_of_mem_set hx with hx | rfl
   ·rw [(List.mem_replicate.mp hx).2]; omega
   ·omega
  ·have:M.length=M4.length:=n.len.symm
   rw [el4,List.set_append_right _ _ (Nat.le_refl _),this]
   simpa using n
 ·rename_i M1
  clean_wf
  refine qB hb (k:=((k*k:Nat):Int)) (by omega) (by omega) (by omega) (by omega) rfl ?_ ?_
  ·clean_wf
   rw [ek]
   exact ⟨by simp only [in62,decide_eq_true_eq]; omega,rfl,rfl⟩
  intro ns M' nl nr n' hb'
  clean_wf
  refine cX (xs:=ns.map fun x=>.int (x:Nat)) rfl ?_
  clean_wf
  have n2:=n.trans n'
  exact ⟨by omega,(fun x hx=>by have:=nr x hx; omega),by rw [n2.take]; exact n2⟩
noncomputable def rm (k:Nat):Nat:=if k=2 then 2 else 4
noncomputable def bt (k:Nat):Nat:=if k=2 then 1 else 2
noncomputable def ent (k:Nat) (t:List Nat) (a b:Nat):Nat:=if a < k/\b < k then pl t (a*k+b) else 0
noncomputable def bv (e bit:Nat):Nat:=e / 2 ^ bit % 2
noncomputable def rowOf (k:Nat) (t:List Nat) (bit:Nat):List Nat:=(List.range (rm k*rm k)).map fun c=>bv (ent k t (c % rm k) (c / rm k)) bit
noncomputable def plc (c:Nat):List Nat:=(List.range 4).filter fun p=>c / 2 ^ p % 2=1
theorem oA (x y:Nat):Builtin.bitAnd (x:Int) (y:Int)=((x &&& y:Nat):Int):=by
 unfold Builtin.bitAnd
 rw [decide_eq_true (Int.natCast_nonneg x),decide_eq_true (Int.natCast_nonneg y)]
 simp
theorem nY (x:Nat):Builtin.bitAnd (x:Int) 1=((x % 2:Nat):Int):=by
 have:=oA x 1
 rw [Nat.and_one_is_mod] at this
 exact this
theorem xN (x p:Nat):(x:Int) / 2 ^ p=((x / 2 ^ p:Nat):Int):=by simp
theorem eK {k:Nat} {M:Mm}:Ok (gA [.d (.int k)] M) fun w M'=>w=.d (.int (bt k:Nat))/\M'=M:=by
 unfold gA
 refine bK rfl ?_
 unfold b_bits
 unfold bt
 clean_wf
 refine xO (fun h=>?_) (fun h=>?_)
 ·have h:k=2:=by simp at h; omega
  clean_wf
  exact ⟨by rw [if_pos h]; rfl,by simp⟩
 ·have h:¬ k=2:=by simp at h; omega
  clean_wf
  exact ⟨by rw [if_neg h]; rfl,by simp⟩
theorem wF:∀ c,c < 16->(List.range (Builtin.Int.intBits (c:Nat))).filter (fun p=>c / 2 ^ p % 2=1)=plc c:=by decide
theorem aAe:∀ c,c < 16->Builtin.Int.intBits (c:Nat)<=4:=by decide
theorem sW {c:Nat} {M:Mm} (hc:c < 16):Ok (eY [.d (.int c)] M) fun w M'=>w=.d (natsD (plc c))/\M'=M:=by
 have hb:=aAe c hc
 unfold eY
 refine bK rfl ?_
 unfold b_places_of
 clean_wf
 refine bX (fun i acc L' M'=>acc=((List.range i).filter fun p=>c / 2 ^ p % 2=1).map (fun p=>D.int (p:Nat))/\M'=M/\∃ a,L'=[a,some (.d (.int c))]) ?_
 clean_wf
 refine zR ?_
 clean_wf
 refine ⟨by simp only [in62,decide_eq_true_eq]; omega,⟨rfl,rfl,none,rfl⟩,?_,by simp [rngD]; omega,?_,?_⟩
 ·rintro i acc L' M' hi ⟨rfl,rfl,a,rfl⟩
  refine ⟨rfl,(fun t e=>by cases e),?_⟩
  have:=List.length_filter_le (fun p=>decide (c / 2 ^ p % 2=1)) (List.range i)
  simpa using this
 ·rintro i d acc _ M' hx ⟨rfl,rfl,a,rfl⟩
  obtain ⟨hi,rfl⟩:=cO hx
  clean_wf
  have e1:decide (Builtin.bitAnd ((c:Int) / 2 ^ (0+(i:Nat):Int).toNat) 1=1)=decide (c / 2 ^ i % 2=1):=by
   rw [show (0+(i:Nat):Int).toNat=i by omega,xN,nY]
   congr 1
   apply propext
   omega
  rw [e1]
  refine ⟨fun h=>?_,fun h=>?_⟩
  ·clean_wf
   refine ⟨_,_,rfl,rfl,?_,rfl,_,rfl⟩
   rw [List.range_succ,List.filter_append,List.map_append]
   simp [of_decide_eq_true h]
  ·refine ⟨_,rfl,?_,rfl,_,rfl⟩
   rw [List.range_succ,List.filter_append,List.map_append]
   simp [of_decide_eq_false h]
 ·rintro acc _ M' ⟨rfl,rfl,a,rfl⟩
  clean_wf
  rw [show (rngD 0 ((Builtin.Int.intBits (c:Nat):Nat):Int).toNat).length=Builtin.Int.intBits (c:Nat) by simp [rngD],wF c hc]
  refine cX (xs:=(plc c).map fun p=>D.int (p:Nat)) rfl ?_
  clean_wf
  exact ⟨rfl,by simp⟩
theorem mW {t:List Nat} {i:Nat} (h:i < t.length):atI (t.map fun k=>D.int (k:Nat)) (i:Nat)=some (.int (pl t i:Nat)):=by
 simp only [atI,ixN]
 rw [if_pos (by omega),if_pos (by simp; omega),Option.bind_some,Int.toNat_natCast,List.getElem?_map,List.getElem?_eq_getElem h]
 simp [pl,h]
theorem vC {k x y:Nat} (hx:x < k) (hy:y < k):x*k+y < k*k:=by
 have:(x+1)*k<=k*k:=Nat.mul_le_mul_right k hx
 rw [Nat.add_mul] at this
 omega
theorem rP {k bit:Nat} {t:List Nat} {M:Mm} (hl:t.length=k*k):Ok (gF [.d (.int k),.d (natsD t),.d (.int bit)] M) fun w M'=>w=.d (.lst ((rowOf k t bit).map fun x=>D.int (x:Nat)))/\M'=M:=by
 have hr:rm k=2\/rm k=4:=by unfold rm; split <;> simp
 unfold gF
 refine bK rfl ?_
 unfold b_bit_row
 clean_wf
 refine eK.mono ?_
 rintro _ M ⟨rfl,rfl⟩
 clean_wf
 refine Ok.mono (Q:=fun w M1=>w=.d (.int (rm k:Nat))/\M1=M) ?_ ?_
 ·refine xO (fun h=>?_) (fun h=>?_)
  ·have:k=2:=by simp [bt] at h; split at h <;> simp_all
   subst this
   clean_wf
   exact ⟨rfl,rfl⟩
  ·have:¬ k=2:=by intro e; subst e; simp [bt] at h
   clean_wf
   exact ⟨by simp [rm,this],rfl⟩
 rintro _ M ⟨rfl,rfl⟩
 obtain ⟨r,er⟩:∃ r,r=rm k:=⟨_,rfl⟩
 obtain ⟨f,hf⟩:∃ f:Nat->D,f=fun c=>D.int ((bv (ent k t (c % r) (c / r)) bit:Nat):Int):=⟨_,rfl⟩
 rw [<- er] at hr ⊢
 clean_wf
 refine ⟨by simp only [in62,decide_eq_true_eq]; omega,?_⟩
 refine cE (fun b L M'=>M'=M++[(List.range (b*r)).map f]/\∃ o5 o6 o7,L=[some (.d (.int k)),some (.d (natsD t)),some (.d (.int bit)),some (.d (.int r)),some (.ref M.length),o5,o6,o7]) ⟨by simp,none,none,none,rfl⟩ (fun i L M _ _ t e=>by cases e) ?_ ?_
 ·rintro b _ _ _ hb ⟨rfl,o5,o6,o7,rfl⟩
  obtain ⟨hb,rfl⟩:=cO hb
  have hb:b < r:=by omega
  rw [show (0:Int)+(b:Nat)=(b:Nat) by omega]
  clean_wf
  refine ⟨by simp only [in62,decide_eq_true_eq]; omega,?_⟩
  refine cE (fun a L M'=>M'=M++[(List.range (b*r+a)).map f]/\∃ o6 o7,L=[some (.d (.int k)),some (.d (natsD t)),some (.d (.int bit)),some (.d (.int r)),some (.ref M.length),some (.d (.int b)),o6,o7]) ⟨by simp,_,_,rfl⟩ (fun i L M _ _ t e=>by cases e) ?_ ?_
  ·rintro a _ _ _ ha ⟨rfl,o6,o7,rfl⟩
   obtain ⟨ha,rfl⟩:=cO ha
   have ha:a < r:=by omega
   have em:(b*r+a) % r=a:=by rw [Nat.mul_comm,Nat.mul_add_mod,Nat.mod_eq_of_lt ha]
   have ed:(b*r+a) / r=b:=by rw [Nat.mul_comm,Nat.mul_add_div (by omega),Nat.div_eq_of_lt ha,Nat.add_zero]
   rw [show (0:Int)+(a:Nat)=(a:Nat) by omega]
   have g0:(M++[(List.range (b*r+a)).map f])[M.length]?=some ((List.range (b*r+a)).map f):=by simp
   have hbr:b*r+a<=16:=by
    rcases hr with h | h <;> rw [h] at hb ha ⊢ <;> omega
   refine tI (rB (Ok.mono (Q:=fun o M1=>M1=M++[(List.range (b*r+a)).map f]/\o=.nx [some (.d (.int k)),some (.d (natsD t)),some (.d (.int bit)),some (.d (.int r)),some (.ref M.length),some (.d (.int b)),some (.d (.int a)),some (.d (.int (ent k t a b:Nat)))]) ?_ ?_))
   ·refine wO (aBu (Ok.mono (Q:=fun c M1=>c=decide (a < k/\b < k)/\M1=M++[(List.range (b*r+a)).map f]) ?_ ?_))
    ·clean_wf
     refine ⟨fun h=>?_,fun h=>?_⟩
     ·clean_wf
      refine ⟨?_,rfl⟩
      simp at h ⊢
      omega
     ·refine ⟨?_,rfl⟩
      simp at h ⊢
      omega
    rintro _ _ ⟨rfl,rfl⟩
    refine xO (fun h=>?_) (fun h=>?_)
    ·have h:=of_decide_eq_true h
     unfold natsD
     clean_wf
     rw [show (a:Int)*(k:Int)+(b:Int)=((a*k+b:Nat):Int) by simp]
     refine iW (mW (by rw [hl]; exact vC h.1 h.2)) ?_
     clean_wf
     exact ⟨rfl,by simp [ent,h,natsD]⟩
    ·have h:=of_decide_eq_false h
     clean_wf
     exact ⟨rfl,by simp [ent,h]⟩
   rintro _ _ ⟨rfl,rfl⟩
   clean_wf
   rw [show (bit:Int).toNat=bit by omega,xN,nY]
   refine qM g0 (by simp; omega) ?_
   refine ⟨?_,_,_,rfl⟩
   rw [<- Nat.add_assoc,List.range_succ,List.map_append]
   simp [hf,em,ed,bv]
  ·rintro _ _ ⟨rfl,o6,o7,rfl⟩
   refine ⟨?_,_,_,_,rfl⟩
   simp only [rngD,List.length_map,List.length_range,Int.toNat_natCast]
   rw [Nat.add_mul,Nat.one_mul]
 ·rintro _ _ ⟨rfl,o5,o6,o7,rfl⟩
  clean_wf
  refine wW (xs:=(rowOf k t bit).map fun x=>D.int (x:Nat)) (by omega) ?_ ?_
  ·simp only [rngD,List.length_map,List.length_range,Int.toNat_natCast]
   rw [er,rowOf,List.map_map,<- er]
   simp [hf,Function.comp_def]
  ·exact ⟨rfl,by simp⟩
noncomputable def stp (s:Nat) (l:List Int) (c:Nat):List Int:=if 0 < c &&& s then l.set c (l.getD c 0 - l.getD (c - s) 0) else l
noncomputable def stm (s:Nat) (l:List Int):List Int:=(List.range l.length).foldl (stp s) l
noncomputable def mbj (l:List Int):Nat->List Int
 | 0=>l
 | j+1=>stm (2 ^ j) (mbj l j)
theorem aFx {s:Nat} {l:List Int} {c:Nat}:(stp s l c).length=l.length:=by unfold stp; split <;> simp
theorem oS {s:Nat}:∀ (cs:List Nat) (l:List Int),(cs.foldl (stp s) l).length=l.length
 | [],_=>rfl
 | c::cs,l=>by rw [List.foldl_cons,oS cs,aFx]
theorem mS {l:List Int}:∀ j,(mbj l j).length=l.length
 | 0=>rfl
 | j+1=>by show (stm _ _).length=_; unfold stm; rw [oS,mS j]
theorem aJr:∀ j,j < 4->∀ c,c < 16->0 < c &&& 2 ^ j->2 ^ j<=c:=by decide
theorem aCx {l:List Int} {i:Nat} (h:i < l.length):atI (l.map D.int) (i:Nat)=some (.int (l.getD i 0)):=by
 simp only [atI,ixN]
 rw [if_pos (by omega),if_pos (by simp; omega),Option.bind_some,Int.toNat_natCast,List.getElem?_map,List.getElem?_eq_getElem h]
 simp [h]
theorem aAk {l:List Int} {q:Nat} {M:Mm} (hl:l.length=2 ^ q) (hq:q<=4):Ok (dD [.d (.lst (l.map D.int))] M) fun w M'=>w=.d (.lst ((mbj l q).map D.int))/\M'=M:=by
 have h16:2 ^ q<=2 ^ 4:=Nat.pow_le_pow_right (by omega) hq
 have h16:l.length<=16:=by omega
 unfold dD
 refine bK rfl ?_
 unfold b_term_numbers
 clean_wf
 refine xA (xs:=l.map D.int) rfl ?_
 clean_wf
 refine (lG (QS:=fun o M'=>M'=M++[(mbj l q).map D.int]/\∃ o3 o4,o=.nx [some (.d (.lst (l.map D.int))),some (.ref M.length),some (.d (.int (l.length:Nat))),o3,o4]) (I:=fun m L M'=>∃ j,j<=q/\m=q - j/\M'=M++[(mbj l j).map D.int]/\∃ o4,L=[some (.d (.lst (l.map D.int))),some (.ref M.length),some (.d (.int (l.length:Nat))),some (.d (.int (2 ^ j:Nat))),o4]) ?_ NW q _ _ ⟨0,by omega,by omega,rfl,none,by simp⟩ (by rw [aDz]; omega)).mono ?_
 ·rintro m L M' ⟨j,hj,rfl,rfl,o4,rfl⟩
  clean_wf
  refine ⟨fun h=>?_,fun h=>?_⟩
  ·have hjq:j < q:=by
    refine Classical.byContradiction fun c=>?_
    have:j=q:=by omega
    subst this
    rw [hl] at h
    simp at h
   clean_wf
   refine ⟨by simp only [in62,decide_eq_true_eq]; omega,?_⟩
   refine cE (fun c L M'=>M'=M++[((List.range c).foldl (stp (2 ^ j)) (mbj l j)).map D.int]/\∃ o4,L=[some (.d (.lst (l.map D.int))),some (.ref M.length),some (.d (.int (l.length:Nat))),some (.d (.int (2 ^ j:Nat))),o4]) ⟨rfl,o4,rfl⟩ (fun i L M _ _ t e=>by cases e) ?_ ?_
   ·rintro c _ _ _ hc ⟨rfl,o4,rfl⟩
    obtain ⟨hc,rfl⟩:=cO hc
    have hc:c < l.length:=by omega
    rw [show (0:Int)+(c:Nat)=(c:Nat) by omega]
    obtain ⟨g,hg⟩:∃ g,g=(List.range c).foldl (stp (2 ^ j)) (mbj l j):=⟨_,rfl⟩
    have gl:g.length=l.length:=by rw [hg,oS,mS]
    have es:(List.range (c+1)).foldl (stp (2 ^ j)) (mbj l j)=stp (2 ^ j) g c:=by rw [List.range_succ,List.foldl_append,<- hg]; rfl
    rw [es,<- hg]
    have g0:(M++[g.map D.int])[M.length]?=some (g.map D.int):=by simp
    clean_wf
    rw [oA]
    refine jY (fun h=>?_) (fun h=>?_)
    ·have h:0 < c &&& 2 ^ j:=by omega
     have hle:=aJr j (by omega) c (by omega) h
     refine rK ?_
     clean_wf
     refine ⟨M.length,c,g.map D.int,g.getD c 0,rfl,rfl,g0,by omega,by simp [gl,hc],?_⟩
     clean_wf
     rw [show (c:Int) - ((2 ^ j:Nat):Int)=((c - 2 ^ j:Nat):Int) by omega]
     refine iC g0 (aCx (Nat.lt_of_le_of_lt (Nat.sub_le _ _) (by omega))) ?_
     refine ⟨_,g.map D.int,rfl,g0,by simp; omega,?_⟩
     refine ⟨?_,_,rfl⟩
     unfold stp
     rw [if_pos h]
     simp
    ·clean_wf
     refine ⟨?_,_,rfl⟩
     unfold stp
     rw [if_neg (by omega)]
   ·rintro _ _ ⟨rfl,o4,rfl⟩
    clean_wf
    refine ⟨q - (j+1),by omega,j+1,by omega,rfl,?_,o4,?_⟩
    ·simp only [rngD,List.length_map,List.length_range,Int.toNat_natCast]
     show _=M++[(stm (2 ^ j) (mbj l j)).map D.int]
     unfold stm
     rw [mS]
    ·rw [Nat.pow_succ]
     simp
  ·have:j=q:=by
    refine Classical.byContradiction fun c=>?_
    have h2:2 ^ j < 2 ^ q:=Nat.pow_lt_pow_right (by omega) (by omega)
    rw [hl] at h
    exact of_decide_eq_false h (Int.ofNat_lt.mpr h2)
   subst this
   exact ⟨rfl,_,_,rfl⟩
 ·rintro _ _ ⟨rfl,o3,o4,rfl⟩
  clean_wf
  refine wW (xs:=(mbj l q).map D.int) (by omega) (by simp) ?_
  exact ⟨rfl,by simp⟩
noncomputable def sub (l:List Int) (c:Nat):Int:=((List.range l.length).map fun c'=>if c' &&& c=c' then l.getD c' 0 else 0).sum
theorem mob4 (a b c d:Int):∀ i,i < 4->sub (mbj [a,b,c,d] 2) i=[a,b,c,d].getD i 0:=by
 intro i hi
 have:mbj [a,b,c,d] 2=[a,b - a,c - a,d - c - (b - a)]:=by simp [mbj,stm,stp,List.range,List.range.loop]
 rw [this]
 have:i=0\/i=1\/i=2\/i=3:=by omega
 rcases this with rfl | rfl | rfl | rfl <;> simp [sub,List.range,List.range.loop] <;> omega
theorem mob16 (a0 a1 a2 a3 a4 a5 a6 a7 a8 a9 b0 b1 b2 b3 b4 b5:Int):∀ i,i < 16->sub (mbj [a0,a1,a2,a3,a4,a5,a6,a7,a8,a9,b0,b1,b2,b3,b4,b5] 4) i=[a0,a1,a2,a3,a4,a5,a6,a7,a8,a9,b0,b1,b2,b3,b4,b5].getD i 0:=by
 intro i hi
 generalize h:mbj [a0,a1,a2,a3,a4,a5,a6,a7,a8,a9,b0,b1,b2,b3,b4,b5] 4=m
 simp [mbj,stm,stp,List.range,List.range.loop] at h
 subst h
 have:i=0\/i=1\/i=2\/i=3\/i=4\/i=5\/i=6\/i=7\/i=8\/i=9\/i=10\/i=11\/i=12\/i=13\/i=14\/i=15:=by omega
 rcases this with rfl | rfl | rfl | rfl | rfl | rfl | rfl | rfl | rfl | rfl | rfl | rfl | rfl | rfl | rfl | rfl <;> simp [sub,List.range,List.range.loop] <;> omega
theorem mob {l:List Int} {q:Nat} (hl:l.length=2 ^ q) (hq:q=2\/q=4) {i:Nat} (hi:i < 2 ^ q):sub (mbj l q) i=l.getD i 0:=by
 rcases hq with rfl | rfl
 ·match l,hl with
  | [a,b,c,d],_=>exact mob4 a b c d i hi
 ·match l,hl with
  | [a0,a1,a2,a3,a4,a5,a6,a7,a8,a9,b0,b1,b2,b3,b4,b5],_=>exact mob16 a0 a1 a2 a3 a4 a5 a6 a7 a8 a9 b0 b1 b2 b3 b4 b5 i hi
theorem pX:∀ xs ys:List Nat,HT.lexLt (xs.map fun k:Nat=>(k:Int)) (ys.map fun k:Nat=>(k:Int))=lexN xs ys
 | [],[]=>rfl
 | [],_::_=>rfl
 | _::_,[]=>rfl
 | x::xs,y::ys=>by
  simp only [List.map_cons,HT.lexLt,lexN,pX xs ys]
  by_cases h:x=y
  ·subst h; simp
  ·have:¬ ((x:Int)=(y:Int)):=by omega
   rw [if_neg h,if_neg this]
   simp
theorem uJ:∀ xs ys:List Nat,eqDs (xs.map fun k=>D.int (k:Nat)) (ys.map fun k=>D.int (k:Nat))=decide (xs=ys)
 | [],[]=>rfl
 | [],_::_=>by simp [eqDs]
 | _::_,[]=>by simp [eqDs]
 | x::xs,y::ys=>by
  simp only [List.map_cons,eqDs,eqD,uJ xs ys]
  by_cases h:x=y
  ·subst h; simp
  ·have:¬ ((x:Int)=(y:Int)):=by omega
   simp [h,this]
theorem zF (xs:List Nat):deps (xs.map fun k=>D.int (k:Nat))=0:=by induction xs with | nil=>rfl | cons x r ih=>simp [deps,dep,ih]
theorem vG (xs:List Nat):intsOf (xs.map fun k=>D.int (k:Nat))=some (xs.map fun k:Nat=>(k:Int)):=by
 have:=iH (xs.map fun k:Nat=>(k:Int))
 rw [List.map_map] at this
 exact this
theorem aHf (xs ys:List Nat):ltE (natsD xs) (natsD ys)=some (lexN xs ys):=by
 simp only [ltE,natsD,vG,pX]
theorem aGl (xs ys:List Nat):eqD (natsD xs) (natsD ys)=decide (xs=ys):=by
 simp only [natsD,eqD,uJ]
noncomputable def itm (n:Int) (m:List Int) (c:Nat):D:=.tup [natsD (plc c),.int (m.getD c 0 % n)]
noncomputable def itms (n:Int) (m:List Int):List D:=(List.range m.length).map (itm n m)
theorem jN {n:Int} {m:List Int} {i:Nat} (h:i < m.length):(itms n m).getD i .non=itm n m i:=by simp [itms,h]
theorem qX (a b:List Nat) (x y:Int):ltT [natsD a,.int x] [natsD b,.int y]=some (if a=b then decide (x < y) else lexN a b):=by
 simp only [ltT,aGl,decide_eq_true_eq,aHf]
 by_cases h:a=b
 ·rw [if_pos h,if_pos h]
  by_cases e:x=y
  ·subst e; simp [eqD]
  ·simp [eqD,e,ltE]
 ·rw [if_neg h,if_neg h]
theorem rZ:∀ i,i < 16->∀ j,j < 16->plc i=plc j->i=j:=by decide
theorem iX {n:Int} {m:List Int} (h16:m.length<=16) {i j:Nat} (hi:i < m.length) (hj:j < m.length) (ne:i≠j):EV.tLt (itms n m) i j=lexN (plc i) (plc j):=by
 unfold EV.tLt
 rw [jN hi,jN hj]
 simp only [itm,tl,qX]
 rw [if_neg (fun e=>ne (rZ i (by omega) j (by omega) e))]
 cases lexN (plc i) (plc j) <;> rfl
theorem aGn {a b:List Nat} (h:a≠b):lexN a b=!lexN b a:=by
 cases h1:lexN a b with
 | true =>
  cases h2:lexN b a with
  | false=>rfl
  | true=>have:=fJ h1 h2; rw [eZ] at this; cases this
 | false =>
  cases h2:lexN b a with
  | true=>rfl
  | false=>exact (h (nV h1 h2)).elim
theorem nB {n:Int} {m:List Int} (h2:2<=m.length) (h16:m.length<=16):TS (itms n m):=by
 have hl:(itms n m).length=m.length:=by simp [itms]
 refine ⟨by omega,by omega,?_,?_,?_⟩
 ·intro x hx
  obtain ⟨c,_,rfl⟩:=List.mem_map.mp hx
  exact ⟨_,_,rfl,by simp [dep,deps,zF]⟩
 ·intro i j hi hj
  rw [jN (by omega),jN (by omega)]
  simp only [itm,tl,qX]
  simp
 ·rw [hl]
  have irr:∀ i,i < m.length->EV.tLt (itms n m) i i=false:=by
   intro i hi
   unfold EV.tLt
   rw [jN hi]
   simp [itm,tl,qX]
  refine ⟨?_,?_⟩
  ·intro i j hi hj ne
   rw [iX h16 hi hj ne,iX h16 hj hi (Ne.symm ne)]
   exact aGn fun e=>ne (rZ i (by omega) j (by omega) e)
  ·intro i j k hi hj hk h1 h2
   have n1:i≠j:=by rintro rfl; rw [irr i hi] at h1; cases h1
   have n2:j≠k:=by rintro rfl; rw [irr j hj] at h2; cases h2
   rw [iX h16 hi hj n1] at h1
   rw [iX h16 hj hk n2] at h2
   have h3:=fJ h1 h2
   have n3:i≠k:=by rintro rfl; rw [eZ] at h3; cases h3
   rw [iX h16 hi hk n3]
   exact h3
noncomputable def encJ (x:Int×Nat):D:=.tup [.int x.1,natsD (plc x.2)]
noncomputable def rowJ (n:Int) (m:List Int):List (Int×Nat):=(srtP (itms n m)).map fun i=>(m.getD i 0 % n,i)
theorem tS {n:Int} {m:List Int} (h2:2<=m.length) (h16:m.length<=16):srtT (itms n m)=(rowJ n m).map fun x=>.tup [natsD (plc x.2),.int x.1]:=by
 have T:=nB (n:=n) h2 h16
 have hl:(itms n m).length=m.length:=by simp [itms]
 unfold srtT rowJ
 rw [List.map_map]
 refine List.map_congr_left fun i hi=>?_
 have:=qR T i hi
 rw [jN (by omega)]
 rfl
theorem jG {n:Int} {m:List Int} (h2:2<=m.length) (h16:m.length<=16):(rowJ n m).Perm ((List.range m.length).map fun i=>(m.getD i 0 % n,i)):=by
 have T:=nB (n:=n) h2 h16
 have hl:(itms n m).length=m.length:=by simp [itms]
 have:=(jE T.lin T.l2).2.1.pm
 rw [hl] at this
 unfold rowJ srtP
 rw [hl]
 exact this.map _
theorem aGv {n:Int} {m:List Int} (h2:2<=m.length) (h16:m.length<=16):(rowJ n m).Pairwise fun x y=>lexN (plc x.2) (plc y.2)=true:=by
 have T:=nB (n:=n) h2 h16
 have hl:(itms n m).length=m.length:=by simp [itms]
 have h:=aFl T
 rw [tS h2 h16,List.pairwise_map] at h
 have nd:(rowJ n m).Pairwise fun x y=>x.2≠y.2:=by
  have np:=(jE T.lin T.l2).2.1.pm.nodup_iff.mpr List.nodup_range
  unfold rowJ
  rw [List.pairwise_map]
  exact np
 have rg:∀ x∈rowJ n m,x.2 < 16:=by
  intro x hx
  obtain ⟨i,hi,rfl⟩:=List.mem_map.mp hx
  have:=qR T i hi
  show i < 16
  omega
 have hh:=List.pairwise_iff_getElem.mp h
 have nn:=List.pairwise_iff_getElem.mp nd
 refine List.pairwise_iff_getElem.mpr fun i j hi hj hij=>?_
 have h1:=hh i j hi hj hij
 have h3:=nn i j hi hj hij
 simp only [tl,qX] at h1
 rw [if_neg (fun e=>h3 (rZ _ (rg _ (List.getElem_mem hi)) _ (rg _ (List.getElem_mem hj)) e))] at h1
 exact Option.some.inj h1
noncomputable def gS (c:Nat) (x:Int×Nat):Int:=if x.2 &&& c=x.2 then x.1 else 0
theorem aEq {l l':List Int} (h:l.Perm l'):l.sum=l'.sum:=by
 induction h with
 | nil=>rfl
 | cons x _ ih=>simp [ih]
 | swap x y l=>simp; omega
 | trans _ _ h1 h2=>exact h1.trans h2
theorem uZ {c:Nat}:∀ l:List (Int×Nat),((l.filter fun x=>!decide (x.1=0)).map (gS c)).sum=(l.map (gS c)).sum
 | []=>rfl
 | x::l=>by
  rw [List.filter_cons]
  by_cases h:x.1=0
  ·have:gS c x=0:=by unfold gS; rw [h]; split <;> rfl
   simp [h,this]
   exact uZ l
  ·simp [h]
   exact uZ l
theorem aDq {n:Int} {m:List Int} {c:Nat}:∀ l:List Nat,Cg n ((l.map fun i=>gS c (m.getD i 0 % n,i)).sum) ((l.map fun i=>if i &&& c=i then m.getD i 0 else 0).sum)
 | []=>Cg.rfl
 | i::l=>by
  rw [List.map_cons,List.map_cons,List.sum_cons,List.sum_cons]
  refine Cg.add ?_ (aDq l)
  unfold gS
  dsimp only
  split
  ·exact Cg.mod
  ·exact Cg.rfl
theorem aDj {n:Int} {m:List Int} (h2:2<=m.length) (h16:m.length<=16) {c:Nat}:Cg n ((((rowJ n m).filter fun x=>!decide (x.1=0)).map (gS c)).sum) (sub m c):=by
 rw [uZ,aEq ((jG h2 h16).map (gS c)),List.map_map]
 exact aDq _
noncomputable def qOf (k:Nat):Nat:=if k=2 then 2 else 4
theorem aLo {k:Nat}:rm k*rm k=2 ^ qOf k:=by unfold rm qOf; split <;> rfl
theorem pC {k:Nat}:qOf k=2\/qOf k=4:=by unfold qOf; split <;> simp
structure Pol (n:Int) (k:Nat) (t:List Nat) (bit:Nat) (ts:List (Int×Nat)):Prop where
 rng:∀ x∈ts,1<=x.1/\x.1 < n/\x.2 < 2 ^ qOf k
 srt:ts.Pairwise fun x y=>lexN (plc x.2) (plc y.2)=true
 sm:∀ c,c < 2 ^ qOf k->Cg n ((ts.map (gS c)).sum) (bv (ent k t (c % rm k) (c / rm k)) bit:Nat)
 len:ts.length<=2 ^ qOf k
theorem mH {n:Int} {k bit:Nat} {t:List Nat} {M:Mm} (hn:2<=n) (hl:t.length=k*k) :
  Ok (dW [.d (.int n),.d (.int k),.d (natsD t),.d (.int bit)] M) fun w M'=>∃ ts,w=.d (.tup (ts.map encJ))/\Pol n k t bit ts/\M'=M:=by
 obtain ⟨l,el⟩:∃ l:List Int,l=(rowOf k t bit).map fun x:Nat=>(x:Int):=⟨_,rfl⟩
 have ll:l.length=2 ^ qOf k:=by rw [el,List.length_map,rowOf,List.length_map,List.length_range,aLo]
 obtain ⟨m,em⟩:∃ m,m=mbj l (qOf k):=⟨_,rfl⟩
 have lm:m.length=2 ^ qOf k:=by rw [em,mS,ll]
 have h2:2<=m.length:=by rw [lm]; rcases pC (k:=k) with h | h <;> rw [h] <;> decide
 have h16:m.length<=16:=by rw [lm]; rcases pC (k:=k) with h | h <;> rw [h] <;> decide
 unfold dW
 refine bK rfl ?_
 unfold b_polynomial
 clean_wf
 refine (rP hl).mono ?_
 rintro _ M ⟨rfl,rfl⟩
 rw [show (rowOf k t bit).map (fun x=>D.int (x:Nat))=l.map D.int by rw [el,List.map_map]; rfl]
 clean_wf
 refine (aAk ll (by rcases pC (k:=k) with h | h <;> omega)).mono ?_
 rintro _ M ⟨rfl,rfl⟩
 rw [<- em]
 clean_wf
 refine bX (fun i acc L' M'=>acc=(List.range i).map (itm n m)/\M'=M/\∃ a b,L'=[a,b,some (.d (.int n))]) ?_
 clean_wf
 refine ⟨⟨rfl,rfl,none,none,rfl⟩,?_,by simp [cM]; omega,?_,?_⟩
 ·rintro i acc L' M' hi ⟨rfl,rfl,a,b,rfl⟩
  exact ⟨rfl,(fun t e=>by cases e),by simp⟩
 ·rintro i d acc _ M' hx ⟨rfl,rfl,a,b,rfl⟩
  obtain ⟨x,hx1,rfl⟩:=gD hx
  rw [List.getElem?_map,Option.map_eq_some_iff] at hx1
  obtain ⟨v,hv,rfl⟩:=hx1
  have hi:=(List.getElem?_eq_some_iff.mp hv).1
  rw [show (0:Int)+(i:Nat)=(i:Nat) by omega]
  clean_wf
  refine (sW (by omega)).mono ?_
  rintro _ _ ⟨rfl,rfl⟩
  clean_wf
  refine ⟨_,_,rfl,rfl,?_,rfl,_,_,rfl⟩
  rw [List.range_succ,List.map_append]
  simp [itm,hv]
 rintro acc _ M' ⟨rfl,rfl,a,b,rfl⟩
 rw [show (enumT 0 (m.map D.int)).length=m.length by simp [cM]]
 clean_wf
 obtain ⟨J,eJ⟩:∃ J,J=rowJ n m:=⟨_,rfl⟩
 have lJ:J.length<=16:=by rw [eJ,(jG h2 h16).length_eq]; simpa using h16
 refine bX (fun i acc L' M1=>acc=((J.take i).filter fun x=>!decide (x.1=0)).map encJ/\M1=M'/\∃ a b,L'=[a,b]) ?_
 clean_wf
 refine aAh (xs:=itms n m) rfl (nB h2 h16) ?_
 rw [tS h2 h16,<- eJ]
 refine ⟨_,rfl,⟨rfl,rfl,none,none,rfl⟩,?_,by simp; omega,?_,?_⟩
 ·rintro i acc L' M1 hi ⟨rfl,rfl,a,b,rfl⟩
  refine ⟨rfl,(fun t e=>by cases e),?_⟩
  have:=List.length_filter_le (fun x:Int×Nat=>!decide (x.1=0)) (J.take i)
  simp at this ⊢
  omega
 ·rintro i d acc _ M1 hx ⟨rfl,rfl,a,b,rfl⟩
  rw [List.getElem?_map,Option.map_eq_some_iff] at hx
  obtain ⟨x,hx,rfl⟩:=hx
  clean_wf
  refine ⟨fun h=>?_,fun h=>?_⟩
  ·clean_wf
   refine ⟨_,_,rfl,rfl,?_,rfl,_,_,rfl⟩
   rw [List.take_add_one,hx,List.filter_append,List.map_append]
   simp at h
   simp [encJ,h]
  ·refine ⟨_,rfl,?_,rfl,_,_,rfl⟩
   rw [List.take_add_one,hx,List.filter_append,List.map_append]
   simp at h
   simp [h]
 rintro acc _ M1 ⟨rfl,rfl,a,b,rfl⟩
 clean_wf
 rw [show J.take (J.map fun x=>D.tup [natsD (plc x.2),.int x.1]).length=J by rw [List.length_map,List.take_length]]
 refine cX (xs:=(J.filter fun x=>!decide (x.1=0)).map encJ) rfl ?_
 clean_wf
 refine ⟨⟨?_,?_,?_,?_⟩,by simp⟩
 ·intro x hx
  obtain ⟨h1,h3⟩:=List.mem_filter.mp hx
  rw [eJ] at h1
  obtain ⟨i,hi,rfl⟩:=List.mem_map.mp ((jG h2 h16).mem_iff.mp h1)
  have hi:=List.mem_range.mp hi
  have e0:=Int.emod_nonneg (m.getD i 0) (show n≠0 by omega)
  have e1:=Int.emod_lt_of_pos (m.getD i 0) (show 0 < n by omega)
  simp at h3
  refine ⟨?_,?_,by rw [<- lm]; exact hi⟩
  ·show 1<=m.getD i 0 % n
   have:m.getD i 0 % n≠0:=by simpa using h3
   omega
  ·exact e1
 ·rw [eJ]; exact (aGv h2 h16).filter _
 ·intro c hc
  rw [eJ]
  refine (aDj h2 h16).trans (Cg.of_eq ?_)
  rw [em,mob ll (pC) hc,el]
  have hc':c < rm k*rm k:=by rw [aLo]; exact hc
  simp [rowOf,hc']
 ·refine Nat.le_trans (List.length_filter_le _ _) ?_
  rw [eJ,(jG h2 h16).length_eq,<- lm]
  simp
noncomputable def encPs (ps:List (List (Int×Nat))):List D:=ps.map fun ts=>.tup (ts.map encJ)
theorem gO {n:Int} {k:Nat} {t:List Nat} {M:Mm} (hn:2<=n) (hl:t.length=k*k) :
  Ok (cS [.d (.int n),.d (.int k),.d (natsD t)] M) fun w M'=>∃ ps,w=.d (.tup (encPs ps))/\ps.length=bt k/\(∀ bit,bit < bt k->Pol n k t bit (ps.getD bit []))/\M'=M:=by
 have hb:bt k<=2:=by unfold bt; split <;> omega
 unfold cS
 refine bK rfl ?_
 unfold b_polynomials
 clean_wf
 refine bX (fun i acc L' M'=>∃ ps,acc=encPs ps/\ps.length=i/\(∀ bit,bit < i->Pol n k t bit (ps.getD bit []))/\M'=M/\∃ a,L'=[a,some (.d (.int n)),some (.d (.int k)),some (.d (natsD t))]) ?_
 clean_wf
 refine eK.mono ?_
 rintro _ M1 ⟨rfl,rfl⟩
 clean_wf
 refine ⟨by simp only [in62,decide_eq_true_eq]; omega,⟨[],rfl,rfl,by simp,rfl,none,rfl⟩,?_,by simp [rngD]; omega,?_,?_⟩
 ·rintro i acc L' M' hi ⟨ps,rfl,hp,hP,rfl,a,rfl⟩
  exact ⟨rfl,(fun t e=>by cases e),by simp [encPs,hp]⟩
 ·rintro i d acc _ M' hx ⟨ps,rfl,hp,hP,rfl,a,rfl⟩
  obtain ⟨hi,rfl⟩:=cO hx
  rw [show (0:Int)+(i:Nat)=(i:Nat) by omega]
  clean_wf
  refine (mH hn hl).mono ?_
  rintro _ _ ⟨ts,rfl,hts,rfl⟩
  refine ⟨_,_,rfl,rfl,ps++[ts],by simp [encPs],by simp [hp],?_,rfl,_,rfl⟩
  intro bit hbit
  by_cases e:bit < i
  ·have:=hP bit e
   simpa [List.getD,List.getElem?_append_left (show bit < ps.length by omega)] using this
  ·have:bit=ps.length:=by omega
   subst this
   rw [hp]
   simpa [<- hp] using hts
 rintro acc _ M' ⟨ps,rfl,hp,hP,rfl,a,rfl⟩
 rw [show (rngD 0 ((bt k:Nat):Int).toNat).length=bt k by simp [rngD]] at hp hP
 clean_wf
 refine cX (xs:=encPs ps) rfl ?_
 clean_wf
 exact ⟨hp,hP,by simp⟩
inductive T
 | leaf (i:Nat)
 | node (t:List Nat) (a b:T)
noncomputable def encT:T->D
 | .leaf i=>.tup [.str "leaf",.int i]
 | .node t a b=>.tup [.str "node",natsD t,encT a,encT b]
noncomputable def okT (k S:Nat):T->Prop
 | .leaf i=>i < S
 | .node t a b=>t.length=k*k/\(∀ x∈t,x < k)/\okT k S a/\okT k S b
noncomputable def valT (k:Nat) (vs:List Nat):T->Nat
 | .leaf i=>pl vs i
 | .node t a b=>pl t (valT k vs a*k+valT k vs b)
noncomputable def hT:T->Nat
 | .leaf _=>0
 | .node _ a b=>max (hT a) (hT b)+1
noncomputable def cT:T->Nat
 | .leaf _=>1
 | .node _ a b=>cT a+cT b+2
theorem jO {k S:Nat} {vs:List Nat} (hl:vs.length=S) (hv:∀ v∈vs,v < k):∀ {t:T},okT k S t->valT k vs t < k
 | .leaf i,h=>hv _ (eG (by rw [hl]; exact h))
 | .node t a b,h=>by
  obtain ⟨h1,h2,h3,h4⟩:=h
  exact h2 _ (eG (by rw [h1]; exact vC (jO hl hv h3) (jO hl hv h4)))
noncomputable def bitAt (O:List Nat) (v s:Nat):Int:=((List.range O.length).map fun j=>if pl O j=s then ((v / 2 ^ j % 2:Nat):Int) else 0).sum
theorem oX {f:Nat->Int}:∀ {l:List Nat},(∀ j∈l,f j=0)->(l.map f).sum=0
 | [],_=>rfl
 | j::l,h=>by rw [List.map_cons,List.sum_cons,h j (by simp),oX fun x hx=>h x (by simp [hx])]; rfl
theorem jJ {O:List Nat} {v s:Nat} (h:s∉O):bitAt O v s=0:=by
 refine oX fun j hj=>?_
 have hj:=List.mem_range.mp hj
 rw [if_neg (fun e:pl O j=s=>h (e▸eG hj))]
theorem wZ {f:Nat->Int} {x:Int} {j:Nat}:∀ {l:List Nat},l.Nodup->j∈l->f j=x->(∀ i∈l,i≠j->f i=0)->(l.map f).sum=x
 | [],_,h,_,_=>by cases h
 | i::l,nd,h,e,z=>by
  obtain ⟨n1,n2⟩:=List.nodup_cons.mp nd
  rw [List.map_cons,List.sum_cons]
  by_cases hij:i=j
  ·subst hij
   rw [e,oX fun x hx=>z x (by simp [hx]) (fun e=>n1 (e▸hx))]
   omega
  ·rw [z i (by simp) hij,wZ n2 (by rcases List.mem_cons.mp h with h | h; exact (hij h.symm).elim; exact h) e fun a ha=>z a (by simp [ha])]
   omega
theorem pA {O:List Nat} {v j:Nat} (nd:O.Nodup) (hj:j < O.length):bitAt O v (pl O j)=((v / 2 ^ j % 2:Nat):Int):=by
 refine wZ List.nodup_range (List.mem_range.mpr hj) (if_pos rfl) fun i hi ne=>?_
 exact if_neg fun e=>ne (aLy nd (List.mem_range.mp hi) hj e)
noncomputable def mkG (d:Nat×Nat):Dd:=.add d.1 1 [d.2] []
theorem sN {n:Int} {gs:List Int}:∀ {l:List (Nat×Nat)} {cs:List Int},(∀ d∈l,d.1 < cs.length)->∀ s,Cg n ((rn n gs (l.map mkG) cs).getD s 0) (cs.getD s 0+(l.map fun d=>if d.1=s then gs.getD d.2 0 else 0).sum)
 | [],cs,_,s=>Cg.of_eq (by simp [rn])
 | d::l,cs,h,s=>by
  have h2:=h d (by simp)
  have hl:(dn n gs cs (mkG d)).length=cs.length:=gL
  have at':(dn n gs cs (mkG d)).getD s 0=if s=d.1 then (cs.getD d.1 0+gs.getD d.2 0) % n else cs.getD s 0:=by
   simp only [mkG,dn,vJ,aLs,Int.mul_one,Int.one_mul]
   by_cases e:s=d.1
   ·subst e; rw [if_pos rfl]; simp [List.getD,h2]
   ·rw [if_neg e]; simp [List.getD,List.getElem?_set_ne (Ne.symm e)]
  rw [List.map_cons,gX]
  refine (sN (l:=l) (fun x hx=>by rw [hl]; exact h x (by simp [hx])) s).trans ?_
  rw [at',List.map_cons,List.sum_cons]
  by_cases e:s=d.1
  ·rw [if_pos e,if_pos e.symm,e]
   exact (Cg.add Cg.mod Cg.rfl).trans (Cg.of_eq (by omega))
  ·rw [if_neg e,if_neg (Ne.symm e)]
   exact Cg.of_eq (by omega)
noncomputable def leafR (O:List Nat) (g0:Nat):List Dd:=(List.range O.length).map fun j=>.add (pl O j) 1 [g0+j] []
theorem aDo {n:Int} {gs:List Int} {S g0 v:Nat} {O:List Nat} (hO:∀ o∈O,o < S) (hg:∀ j,j < O.length->gs.getD (g0+j) 0=((v / 2 ^ j % 2:Nat):Int)):Brg n gs S (leafR O g0) (bitAt O v):=by
 intro cs hc hl s hs
 have:=sN (n:=n) (gs:=gs) (l:=(List.range O.length).map fun j=>(pl O j,g0+j)) (cs:=cs) (fun d hd=>by
  obtain ⟨j,hj,rfl⟩:=List.mem_map.mp hd
  rw [hl]
  exact hO _ (eG (List.mem_range.mp hj))) s
 rw [List.map_map,List.map_map] at this
 refine this.trans (Cg.of_eq ?_)
 congr 1
 unfold bitAt
 congr 1
 refine List.map_congr_left fun j hj=>?_
 show (if pl O j=s then gs.getD (g0+j) 0 else 0)=_
 rw [hg j (List.mem_range.mp hj)]
theorem aGq {g:Nat->Int} {a b:List Nat} (h:a.Perm b):pf g a=pf g b:=by
 induction h with
 | nil=>rfl
 | cons x _ ih=>simp only [pf,ih]
 | swap x y l=>simp only [pf]; grind
 | trans _ _ h1 h2=>exact h1.trans h2
theorem aDy {g:Nat->Int} {h:Nat->Nat}:∀ l:List Nat,pf g (l.map h)=pf (fun i=>g (h i)) l
 | []=>rfl
 | i::l=>by simp only [List.map_cons,pf,aDy l]
theorem xI {c:Nat}:∀ l:List Nat,pf (fun p=>((c / 2 ^ p % 2:Nat):Int)) l=if (l.all fun p=>decide (c / 2 ^ p % 2=1))=true then 1 else 0
 | []=>rfl
 | p::l=>by
  simp only [pf,xI l,List.all_cons]
  have:c / 2 ^ p % 2=0\/c / 2 ^ p % 2=1:=by omega
  rcases this with h | h
  ·simp [h]
  ·simp [h]
theorem xY {g h:Nat->Int}:∀ {t:List Nat},(∀ i∈t,g i=h i)->pf g t=pf h t
 | [],_=>rfl
 | t::r,e=>by simp only [pf]; rw [e t (by simp),xY fun i hi=>e i (by simp [hi])]
theorem within:∀ c',c' < 16->∀ c,c < 16->((plc c').all fun p=>decide (c / 2 ^ p % 2=1))=decide (c' &&& c=c'):=by decide
theorem mQ:∀ c,c < 4->∀ p∈plc c,p < 2:=by decide
theorem mV:∀ c,c < 16->∀ p∈plc c,p < 4:=by decide
theorem rQ:∀ c,c < 16->(plc c).length<=4:=by decide
theorem aBm:∀ c,c < 4->(plc c).length<=2:=by decide
noncomputable def srN (ns:List Nat):List Nat:=(srt (ns.map fun k:Nat=>(k:Int))).map Int.toNat
theorem gU (ns:List Nat):(srN ns).Perm ns/\(srN ns).map (fun k:Nat=>(k:Int))=srt (ns.map fun k:Nat=>(k:Int)):=by
 obtain ⟨ks,e,hp,_⟩:=aCb ns
 unfold srN
 rw [e]
 have:(ks.map fun k:Nat=>(k:Int)).map Int.toNat=ks:=by rw [List.map_map]; simp [Function.comp_def]
 rw [this]
 exact ⟨hp,rfl⟩
noncomputable def inn (ps:List (List (Int×Nat))) (O P:List Nat):List (Nat×Int×List Nat):=((List.range ps.length).map fun b=>(ps.getD b []).map fun x=>(pl O b,x.1,srN ((plc x.2).map (pl P)))).flatten
noncomputable def innU (n u:Int) (ps:List (List (Int×Nat))) (O P:List Nat):List (Nat×Int×List Nat):=(inn ps O P).map fun d=>(d.1,u*d.2.1 % n,d.2.2)
noncomputable def ord (k:Nat):Nat:=2*bt k+1
theorem qb {k:Nat}:qOf k=2*bt k/\rm k=2 ^ bt k/\(bt k=1\/bt k=2):=by
 unfold qOf bt rm
 by_cases e:k=2
 ·simp [e]
 ·simp [e]
theorem xM {ps:List (List (Int×Nat))} {O P:List Nat} {d:Nat×Int×List Nat} (h:d∈inn ps O P):∃ b x,b < ps.length/\x∈ps.getD b []/\d=(pl O b,x.1,srN ((plc x.2).map (pl P))):=by
 obtain ⟨l,hl,hd⟩:=List.mem_flatten.mp h
 obtain ⟨b,hb,rfl⟩:=List.mem_map.mp hl
 obtain ⟨x,hx,rfl⟩:=List.mem_map.mp hd
 exact ⟨b,x,List.mem_range.mp hb,hx,rfl⟩
structure Shv (k S:Nat) (O L R:List Nat):Prop where
 lO:O.length=bt k
 lL:L.length=bt k
 lR:R.length=bt k
 nd:(O++(L++R)).Nodup
 lt:∀ s∈O++(L++R),s < S
theorem Shv.swL {k S:Nat} {O L R:List Nat} (h:Shv k S O L R):Shv k S L O R:=by
 have p:(L++(O++R)).Perm (O++(L++R)):=by rw [<- List.append_assoc,<- List.append_assoc]; exact List.Perm.append_right R List.perm_append_comm
 exact ⟨h.lL,h.lO,h.lR,p.nodup_iff.mpr h.nd,fun s hs=>h.lt s (p.mem_iff.mp hs)⟩
theorem Shv.swR {k S:Nat} {O L R:List Nat} (h:Shv k S O L R):Shv k S R O L:=by
 have p:(R++(O++L)).Perm (O++(L++R)):=by
  rw [<- List.append_assoc O L R]
  exact List.perm_append_comm
 exact ⟨h.lR,h.lO,h.lL,p.nodup_iff.mpr h.nd,fun s hs=>h.lt s (p.mem_iff.mp hs)⟩
theorem oC {k S:Nat} {O L R:List Nat} (h:Shv k S O L R):(L++R).Nodup/\O.Nodup/\∀ s∈O,s∉L++R:=by
 obtain ⟨a,b,c⟩:=List.nodup_append.mp h.nd
 exact ⟨b,a,fun s hs hs'=>c s hs s hs' rfl⟩
theorem plP {L R:List Nat} {p:Nat}:(p < L.length->pl (L++R) p=pl L p)/\(L.length<=p->pl (L++R) p=pl R (p - L.length)):=by
 refine ⟨fun h=>?_,fun h=>?_⟩
 ·simp [pl,List.getD,List.getElem?_append_left h]
 ·simp [pl,List.getD,List.getElem?_append_right h]
theorem zS {k S:Nat} {O L R:List Nat} (h:Shv k S O L R) {a b p:Nat} (ha:a < rm k) (hp:p < qOf k):bitAt L a (pl (L++R) p)+bitAt R b (pl (L++R) p)=(((a+rm k*b) / 2 ^ p % 2:Nat):Int):=by
 obtain ⟨q1,q2,q3⟩:=qb (k:=k)
 obtain ⟨n1,n2,n3⟩:=oC h
 obtain ⟨nL,nR,nLR⟩:=List.nodup_append.mp n1
 have lL:=h.lL
 have lR:=h.lR
 rw [q2] at ha ⊢
 by_cases e:p < L.length
 ·rw [plP.1 e,pA nL e,jJ (fun z=>nLR _ (eG e) _ z rfl),Int.add_zero]
  congr 1
  have hpb:p < bt k:=by omega
  rcases q3 with q | q <;> rw [q] at hpb ha ⊢
  ·have:p=0:=by omega
   subst this
   omega
  ·have:p=0\/p=1:=by omega
   rcases this with rfl | rfl <;> omega
 ·have e':p - L.length < R.length:=by omega
  rw [plP.2 (by omega),pA nR e',jJ (fun z=>nLR _ z _ (eG e') rfl),Int.zero_add]
  congr 1
  rw [lL]
  rcases q3 with q | q <;> rw [q] at ha ⊢
  ·have:p=1:=by omega
   subst this
   omega
  ·have:p=2\/p=3:=by omega
   rcases this with rfl | rfl <;> omega
theorem aAz {k S:Nat} {O L R:List Nat} (h:Shv k S O L R) {a b c':Nat} (ha:a < rm k) (hc:a+rm k*b < 2 ^ qOf k) (hc':c' < 2 ^ qOf k):pf (fun s=>bitAt L a s+bitAt R b s) (srN ((plc c').map (pl (L++R))))=if c' &&& (a+rm k*b)=c' then 1 else 0:=by
 have hq:qOf k=2\/qOf k=4:=pC
 have h16:2 ^ qOf k<=16:=by rcases hq with q | q <;> rw [q] <;> decide
 rw [aGq (gU _).1,aDy,xY (h:=fun p=>(((a+rm k*b) / 2 ^ p % 2:Nat):Int)),xI,within c' (by omega) _ (by omega)]
 ·simp
 ·intro p hp
  refine zS h ha ?_
  rcases hq with q | q <;> rw [q] at hc' ⊢
  ·exact mQ _ hc' p hp
  ·exact mV _ hc' p hp
theorem tD {f:Nat×Int×List Nat->Int}:∀ {ls:List (List (Nat×Int×List Nat))},(ls.flatten.map f).sum=(ls.map fun l=>(l.map f).sum).sum
 | []=>rfl
 | l::ls=>by rw [List.flatten_cons,List.map_append,List.sum_append,tD,List.map_cons,List.sum_cons]
theorem sB {n:Int} {α:Type} {f g:α->Int}:∀ {l:List α},(∀ x∈l,Cg n (f x) (g x))->Cg n ((l.map f).sum) ((l.map g).sum)
 | [],_=>Cg.rfl
 | x::l,e=>by rw [List.map_cons,List.map_cons,List.sum_cons,List.sum_cons]; exact Cg.add (e x (by simp)) (sB fun y hy=>e y (by simp [hy]))
noncomputable def nodeR (n w u:Int) (k:Nat) (rL rR:List Dd) (ps:List (List (Int×Nat))) (O L R:List Nat):List Dd:=(List.replicate (ord k) (rnd n w (rL++rR) (innU n u ps O (L++R)) (L++R))).flatten
theorem aBb {n w u:Int} {gs:List Int} {G S k a b:Nat} {t O L R:List Nat} {rL rR:List Dd} {ps:List (List (Int×Nat))} (hn:2<=n) (hw:Rt n w (ord k)) (hu:Cg n (u*(ord k:Nat)) 1) (h:Shv k S O L R) (okL:∀ d∈rL,OkD n G S d) (okR:∀ d∈rR,OkD n G S d)
  (bL:Brg n gs S rL (bitAt L a)) (bR:Brg n gs S rR (bitAt R b)) (ha:a < k) (hb:b < k) (hk:k<=rm k) (hp:ps.length=bt k) (hP:∀ bit,bit < bt k->Pol n k t bit (ps.getD bit [])) :
  Brg n gs S (nodeR n w u k rL rR ps O L R) (bitAt O (pl t (a*k+b))):=by
 obtain ⟨q1,q2,q3⟩:=qb (k:=k)
 obtain ⟨n1,n2,n3⟩:=oC h
 have har:a < rm k:=by omega
 have hbr:b < rm k:=by omega
 have hcq:a+rm k*b < 2 ^ qOf k:=by
  rw [<- aLo]
  have:rm k*(b+1)<=rm k*rm k:=Nat.mul_le_mul_left _ hbr
  rw [Nat.mul_add] at this
  omega
 have em:(a+rm k*b) % rm k=a:=by rw [Nat.add_mul_mod_self_left,Nat.mod_eq_of_lt har]
 have ed:(a+rm k*b) / rm k=b:=by rw [Nat.add_mul_div_left _ _ (by omega),Nat.div_eq_of_lt har,Nat.zero_add]
 have lP:(L++R).length=qOf k:=by rw [List.length_append,h.lL,h.lR,q1]; omega
 have hinn:∀ d∈innU n u ps O (L++R),d.1∉L++R/\d.1 < S/\(∀ t∈d.2.2,t∈L++R)/\d.2.2.length < ord k:=by
  intro d hd
  obtain ⟨d0,hd0,rfl⟩:=List.mem_map.mp hd
  obtain ⟨bit,x,hbit,hx,rfl⟩:=xM hd0
  have hbO:bit < O.length:=by rw [h.lO]; omega
  have P:=hP bit (by omega)
  have hx2:=(P.rng x hx).2.2
  have hpq:∀ p∈plc x.2,p < qOf k:=by
   rcases pC (k:=k) with q | q <;> rw [q] at hx2 ⊢
   ·exact mQ _ hx2
   ·exact mV _ hx2
  refine ⟨n3 _ (eG hbO),h.lt _ (List.mem_append_left _ (eG hbO)),?_,?_⟩
  ·intro t ht
   obtain ⟨p,hp',rfl⟩:=List.mem_map.mp ((gU _).1.mem_iff.mp ht)
   exact eG (by rw [lP]; exact hpq p hp')
  ·show (srN _).length < _
   rw [(gU _).1.length_eq,List.length_map]
   unfold ord
   rcases q3 with q | q
   ·have q':qOf k=2:=by omega
    rw [q'] at hx2
    have:=aBm _ hx2
    omega
   ·have q':qOf k=4:=by omega
    rw [q'] at hx2
    have:=rQ _ hx2
    omega
 have main:=wP (u:=u) hn hw (eF okL okR) (bL.app (by omega) bR) n1 (fun s hs=>h.lt s (List.mem_append_right _ hs)) hinn
 refine main.cg fun s hs=>?_
 by_cases hp':s∈L++R
 ·rw [if_pos hp',jJ (fun z=>n3 s z hp')]
  exact Cg.rfl
 ·rw [if_neg hp']
  show Cg n _ (((List.range O.length).map fun j=>if pl O j=s then ((pl t (a*k+b) / 2 ^ j % 2:Nat):Int) else 0).sum)
  unfold innU inn
  rw [List.map_map,tD,List.map_map,hp,h.lO]
  refine sB fun bit hbit=>?_
  have hbit:=List.mem_range.mp hbit
  have P:=hP bit hbit
  have S1:=P.sm _ hcq
  rw [em,ed] at S1
  simp only [Function.comp_def,List.map_map]
  by_cases e:pl O bit=s
  ·simp only [if_pos e]
   refine Cg.trans ?_ (S1.trans (Cg.of_eq ?_))
   ·refine sB fun x hx=>?_
    rw [aAz h har hcq (P.rng x hx).2.2]
    unfold gS
    by_cases e2:x.2 &&& (a+rm k*b)=x.2
    ·rw [if_pos e2,if_pos e2,Int.mul_one]
     refine (Cg.mul Cg.mod Cg.rfl).trans ?_
     refine Cg.trans (Cg.of_eq (show u*x.1*((ord k:Nat):Int)=x.1*(u*(ord k:Nat)) by grind)) ?_
     exact (Cg.mul Cg.rfl hu).trans (Cg.of_eq (by omega))
    ·rw [if_neg e2,if_neg e2]
     exact Cg.of_eq (by simp)
   ·unfold bv ent
    rw [if_pos ⟨ha,hb⟩]
  ·simp only [if_neg e]
   exact Cg.of_eq (by induction ps.getD bit [] with | nil=>rfl | cons x l ih=>simpa using ih)
theorem aAy {n w u:Int} {G S k:Nat} {t O L R:List Nat} {rL rR:List Dd} {ps:List (List (Int×Nat))} (hn:2<=n) (hw:Un n w) (h:Shv k S O L R) (okL:∀ d∈rL,OkD n G S d) (okR:∀ d∈rR,OkD n G S d)
  (hp:ps.length=bt k) (hP:∀ bit,bit < bt k->Pol n k t bit (ps.getD bit [])):∀ d∈nodeR n w u k rL rR ps O L R,OkD n G S d:=by
 obtain ⟨q1,q2,q3⟩:=qb (k:=k)
 obtain ⟨n1,n2,n3⟩:=oC h
 have lP:(L++R).length=qOf k:=by rw [List.length_append,h.lL,h.lR,q1]; omega
 have ok1:=eF okL okR
 have okr:∀ d∈rnd n w (rL++rR) (innU n u ps O (L++R)) (L++R),OkD n G S d:=by
  unfold rnd
  refine eF (eF (eF ok1 ?_) (OkD.backs (by omega) ok1)) ?_
  ·intro d hd
   obtain ⟨d1,hd1,rfl⟩:=List.mem_map.mp hd
   obtain ⟨d0,hd0,rfl⟩:=List.mem_map.mp hd1
   obtain ⟨bit,x,hbit,hx,rfl⟩:=xM hd0
   have hbO:bit < O.length:=by rw [h.lO]; omega
   have P:=hP bit (by omega)
   have hx2:=(P.rng x hx).2.2
   have hx16:x.2 < 16:=by rcases pC (k:=k) with q | q <;> rw [q] at hx2 <;> omega
   have hpq:∀ p∈plc x.2,p < qOf k:=by
    rcases pC (k:=k) with q | q <;> rw [q] at hx2 ⊢
    ·exact mQ _ hx2
    ·exact mV _ hx2
   have ht:∀ t∈srN ((plc x.2).map (pl (L++R))),t∈L++R:=fun t ht=>by
    obtain ⟨p,hp',rfl⟩:=List.mem_map.mp ((gU _).1.mem_iff.mp ht)
    exact eG (by rw [lP]; exact hpq p hp')
   refine ⟨h.lt _ (List.mem_append_left _ (eG hbO)),Int.emod_nonneg _ (by omega),Int.emod_lt_of_pos _ (by omega),by simp,fun t h'=>h.lt t (List.mem_append_right _ (ht t h')),fun z=>n3 _ (eG hbO) (ht _ z),by simp,?_⟩
   show (srN _).length<=4
   rw [(gU _).1.length_eq,List.length_map]
   exact rQ _ hx16
  ·intro d hd
   obtain ⟨s,hs,rfl⟩:=List.mem_map.mp hd
   exact ⟨h.lt s (List.mem_append_right _ hs),hw⟩
 intro d hd
 obtain ⟨l,hl,hd⟩:=List.mem_flatten.mp hd
 rw [(List.mem_replicate.mp hl).2] at hd
 exact okr d hd
theorem hW {n k:Int} {M:Mm} (hn:2<=n) (hn2:n<=1000000):Ok (dU [.d (.int n),.d (.int k)] M) fun w M'=>M'=M/\((∃ v,IsIv n k v/\w=.d (.int v))\/((¬ ∃ v,IsIv n k v)/\w=.d .non)):=by
 unfold dU
 refine bK rfl ?_
 unfold b_inverse
 clean_wf
 refine (lG (QS:=fun o M'=>M'=M/\∃ h p q t,o=.nx [some (.d (.int n)),some (.d (.int k)),some (.d (.int h)),some (.d (.int 0)),some (.d (.int p)),some (.d (.int q)),t]/\0 < h/\h<=n/\Cg n (p*k) h/\h ∣ n/\h ∣ k)
  (I:=fun m L M'=>M'=M/\∃ (h l p q:Int) (t:Option W),L=[some (.d (.int n)),some (.d (.int k)),some (.d (.int h)),some (.d (.int l)),some (.d (.int p)),some (.d (.int q)),t]/\m=l.toNat/\0 < h/\h<=n/\0<=l/\l<=n/\Cg n (p*k) h/\Cg n (q*k) l/\∀ c:Int,c ∣ h->c ∣ l->c ∣ n/\c ∣ k) ?_ NW (k % n).toNat _ _
  ⟨rfl,n,k % n,0,1,none,rfl,rfl,by omega,by omega,Int.emod_nonneg _ (by omega),Int.le_of_lt (Int.emod_lt_of_pos _ (by omega)),⟨-1,by grind⟩,?_,?_⟩ ?_).mono ?_
 ·rintro m L _ ⟨rfl,h,l,p,q,t,rfl,rfl,h0,h1,l0,l1,c1,c2,hd⟩
  clean_wf
  refine ⟨fun hl=>?_,fun hl=>?_⟩
  ·have hl:0 < l:=by simpa using hl
   have e:h - h / l*l=h % l:=by rw [Int.emod_def,Int.mul_comm]
   have ht0:0<=h / l:=Int.ediv_nonneg (by omega) (by omega)
   have ht1:h / l<=h:=Int.ediv_le_self _ (by omega)
   clean_wf
   rw [e]
   have em1:=Int.emod_nonneg h (by omega:l≠0)
   have em2:=Int.emod_lt_of_pos h hl
   refine ⟨(h % l).toNat,by omega,rfl,l,h % l,q,p - h / l*q,_,rfl,rfl,hl,by omega,em1,by omega,c2,?_,?_⟩
   ·rw [<- e]
    exact (Cg.of_eq (by grind)).trans (Cg.sub c1 (Cg.mul (Cg.rfl (a:=h / l)) c2))
   ·intro c g1 g2
    refine hd c ?_ g1
    have:=Int.dvd_add g2 (Int.dvd_trans g1 (Int.dvd_mul_left (h / l) l))
    rwa [<- e,show h - h / l*l+h / l*l=h by omega] at this
  ·have hl:l=0:=by simp at hl; omega
   subst hl
   have:=hd h (Int.dvd_refl h) (Int.dvd_zero h)
   exact ⟨rfl,h,p,q,t,rfl,h0,h1,c1,this.1,this.2⟩
 ·exact (Cg.of_eq (by grind)).trans (Cg.mod (a:=k)).symm
 ·intro c g1 g2
  refine ⟨g1,?_⟩
  have:=Int.dvd_add g2 (Int.dvd_trans g1 (Int.dvd_mul_right n (k / n)))
  rwa [Int.emod_add_mul_ediv] at this
 ·rw [aDz]; have:=Int.emod_lt_of_pos k (by omega:0 < n); omega
 ·rintro _ _ ⟨rfl,h,p,q,t,rfl,h0,h1,c1,d1,d2⟩
  have pn:=Int.emod_nonneg p (by omega:n≠0)
  have pl:=Int.emod_lt_of_pos p (by omega:0 < n)
  clean_wf
  refine aEr (fun hh=>?_) (fun hh=>?_)
  ·subst hh
   clean_wf
   refine ⟨by simp,.inl ⟨p % n,⟨pn,pl,?_⟩,rfl⟩⟩
   exact Cg.emod ((Cg.mul Cg.rfl Cg.mod).trans ((Cg.of_eq (Int.mul_comm _ _)).trans c1))
  ·clean_wf
   refine ⟨by simp,.inr ⟨?_,rfl⟩⟩
   rintro ⟨v,v0,v1,e⟩
   obtain ⟨z,hz⟩:=Cg.of e
   have:h ∣ 1:=by
    have g1:h ∣ k*v:=Int.dvd_mul_of_dvd_left d2
    rw [hz] at g1
    exact (Int.dvd_add_left (Int.dvd_mul_of_dvd_left d1)).mp g1
   have:=Int.le_of_dvd (by omega) this
   omega
theorem wM {n u:Int} {M:Mm} (hn:2<=n) (hn2:n<=1000000) (hu:Un n u):Ok (dU [.d (.int n),.d (.int u)] M) fun w M'=>w=.d (.int (iv n u))/\M'=M:=by
 refine (hW hn hn2).mono ?_
 rintro w M' ⟨rfl,⟨v,h,rfl⟩ | ⟨h,_⟩⟩
 ·rw [aHx h]; exact ⟨rfl,rfl⟩
 ·exact (h hu.2.2).elim
theorem oM {n:Int} {G S:Nat} {d:Dd} {M:Mm} (hn:2<=n) (hn2:n<=1000000) (h:OkD n G S d):Ok (dS [.d (.int n),.d (encD d)] M) fun w M'=>w=.d (encD (bD n d))/\M'=M:=by
 cases d with
 | add s c g t =>
  unfold dS
  refine bK rfl ?_
  unfold b_deed_back
  simp only [encD,bD]
  clean_wf
  exact ⟨rfl,by simp⟩
 | scale s u =>
  unfold dS
  refine bK rfl ?_
  unfold b_deed_back
  simp only [encD,bD]
  clean_wf
  refine (wM hn hn2 h.2).mono ?_
  rintro _ _ ⟨rfl,rfl⟩
  clean_wf
  exact ⟨rfl,by simp⟩
theorem iK {n:Int} {G S:Nat} {ds:List Dd} {M:Mm} (hn:2<=n) (hn2:n<=1000000) (hd:∀ d∈ds,OkD n G S d) (hl:ds.length<=16777216):Ok (dF [.d (.int n),.d (.tup (ds.map encD))] M) fun w M'=>w=.d (.tup ((bDs n ds).map encD))/\M'=M:=by
 unfold dF
 refine bK rfl ?_
 unfold b_deeds_back
 clean_wf
 refine bX (fun i acc L' M'=>acc=((ds.reverse.take i).map (bD n)).map encD/\M'=M/\∃ a,L'=[a,some (.d (.int n))]) ?_
 clean_wf
 refine ⟨ds.map encD,.inl rfl,⟨rfl,rfl,none,rfl⟩,?_,by simpa using hl,?_,?_⟩
 ·rintro i acc L' M' hi ⟨rfl,rfl,_⟩
  exact ⟨rfl,(fun t e=>by cases e),by simp; omega⟩
 ·rintro i d acc _ _ hx ⟨rfl,rfl,a,rfl⟩
  rw [<- List.map_reverse] at hx
  simp only [List.getElem?_map,Option.map_eq_some_iff] at hx
  obtain ⟨k,hk,rfl⟩:=hx
  have hm:k∈ds:=List.mem_reverse.mp (List.mem_of_getElem? hk)
  clean_wf
  refine (oM hn hn2 (hd k hm)).mono ?_
  rintro _ _ ⟨rfl,rfl⟩
  exact ⟨_,_,rfl,rfl,by rw [List.take_add_one,hk]; simp,rfl,_,rfl⟩
 ·rintro acc L' M' ⟨rfl,rfl,_⟩
  clean_wf
  refine cX rfl ?_
  clean_wf
  exact ⟨by rw [List.take_of_length_le (by simp)]; rfl,by simp⟩
theorem lY {n:Int} {G S:Int} {G' S':Nat} {ds:List Dd} {M:Mm} (hn:2<=n) (hn2:n<=1000000) (hd:∀ d∈ds,OkD n G' S' d) (hl:ds.length<=16777216):Ok (dN [.d (encP n G S ds)] M) fun w M'=>w=.d (encP n G S (bDs n ds))/\M'=M:=by
 unfold dN
 refine bK rfl ?_
 unfold b_turned_back encP
 clean_wf
 refine (iK hn hn2 hd hl).mono ?_
 rintro _ _ ⟨rfl,rfl⟩
 clean_wf
 exact ⟨rfl,by simp⟩
theorem nN {n k:Int} {e:Nat} {M:Mm} (hn:2<=n) (hn2:n<=1000000) (he:e<=1000):Ok (jH [.d (.int n),.d (.int k),.d (.int e)] M) fun w M'=>w=.d (.int (k ^ e % n))/\M'=M:=by
 unfold jH
 refine bK rfl ?_
 unfold b_power
 clean_wf
 refine (lG (QS:=fun o M'=>M'=M/\∃ t s l,o=.nx [some (.d (.int n)),some (.d (.int k)),some (.d (.int e)),some (.d (.int t)),some (.d (.int s)),some (.d (.int l))]/\0<=t/\t < n/\Cg n t (k ^ e))
  (I:=fun m L M'=>M'=M/\∃ (t s:Int) (l:Nat),L=[some (.d (.int n)),some (.d (.int k)),some (.d (.int e)),some (.d (.int t)),some (.d (.int s)),some (.d (.int l))]/\m=l/\l<=1000/\0<=t/\t < n/\0<=s/\s < n/\Cg n (t*s ^ l) (k ^ e)) ?_ NW e _ _
  ⟨rfl,1 % n,k % n,e,rfl,rfl,he,Int.emod_nonneg _ (by omega),Int.emod_lt_of_pos _ (by omega),Int.emod_nonneg _ (by omega),Int.emod_lt_of_pos _ (by omega),?_⟩ ?_).mono ?_
 ·rintro l L _ ⟨rfl,t,s,_,rfl,rfl,l1,t0,t1,s0,s1,hc⟩
  have hts:0<=t*s/\t*s<=1000000*1000000:=⟨Int.mul_nonneg t0 s0,Int.mul_le_mul (by omega) (by omega) s0 (by omega)⟩
  have hss:0<=s*s/\s*s<=1000000*1000000:=⟨Int.mul_nonneg s0 s0,Int.mul_le_mul (by omega) (by omega) s0 (by omega)⟩
  have m1:=Int.emod_nonneg (t*s) (by omega:n≠0)
  have m2:=Int.emod_lt_of_pos (t*s) (by omega:0 < n)
  have m3:=Int.emod_nonneg (s*s) (by omega:n≠0)
  have m4:=Int.emod_lt_of_pos (s*s) (by omega:0 < n)
  have cp:∀ j:Nat,Cg n ((s*s % n) ^ j) (s ^ (2*j)):=fun j=>by
   induction j with
   | zero=>exact Cg.of_eq (by simp)
   | succ j ih =>
    rw [Int.pow_succ,show 2*(j+1)=2*j+1+1 by omega,Int.pow_succ,Int.pow_succ,Int.mul_assoc]
    exact Cg.mul ih Cg.mod
  clean_wf
  refine ⟨fun h=>?_,fun h=>?_⟩
  ·have hl:0 < l:=by simpa using h
   clean_wf
   refine jY (fun h1=>?_) (fun h1=>?_)
   ·have h1:l % 2=1:=by omega
    clean_wf
    refine ⟨l / 2,by omega,rfl,t*s % n,s*s % n,l / 2,by simp,rfl,by omega,m1,m2,m3,m4,?_⟩
    refine Cg.trans (Cg.mul Cg.mod (cp (l / 2))) (Cg.trans (Cg.of_eq ?_) hc)
    rw [Int.mul_assoc,<- Int.pow_succ',show 2*(l / 2)+1=l by omega]
   ·have h1:l % 2=0:=by omega
    clean_wf
    refine ⟨l / 2,by omega,rfl,t,s*s % n,l / 2,by simp,rfl,by omega,t0,t1,m3,m4,?_⟩
    refine Cg.trans (Cg.mul Cg.rfl (cp (l / 2))) (Cg.trans (Cg.of_eq ?_) hc)
    rw [show 2*(l / 2)=l by omega]
  ·have hl:l=0:=by simp at h; omega
   subst hl
   exact ⟨rfl,t,s,_,rfl,t0,t1,by simpa using hc⟩
 ·have h1:∀ j:Nat,Cg n ((k % n) ^ j) (k ^ j):=fun j=>by
   induction j with
   | zero=>exact Cg.of_eq (by simp)
   | succ j ih=>rw [Int.pow_succ,Int.pow_succ]; exact Cg.mul ih Cg.mod
  exact (Cg.mul Cg.mod (h1 e)).trans (Cg.of_eq (by omega))
 ·rw [aDz]; omega
 ·rintro _ _ ⟨rfl,t,s,l,rfl,t0,t1,hc⟩
  clean_wf
  refine ⟨?_,by simp⟩
  rw [hc.symm.emod,Int.emod_eq_of_lt t0 t1]
noncomputable def RootOk (n w:Int) (m:Nat):Prop:=w ^ m % n=1/\∀ i:Nat,1<=i->i < m->∃ v,IsIv n (w ^ i % n - 1) v
theorem qV {n w:Int} {m:Nat} {M:Mm} (hn:2<=n) (hn2:n<=1000000) (hm:m<=1000):Ok (gC [.d (.int n),.d (.int w),.d (.int m)] M) fun r M'=>M'=M/\((r=.d (.bl true)/\RootOk n w m)\/(r=.d (.bl false)/\¬ RootOk n w m)):=by
 unfold gC
 refine bK rfl ?_
 unfold b_is_root
 clean_wf
 refine (nN hn hn2 hm).mono ?_
 rintro _ M ⟨rfl,rfl⟩
 clean_wf
 refine aEr (fun h=>?_) (fun h=>?_)
 ·clean_wf
  refine ⟨1,(m:Int),rfl,rfl,⟨by decide,by simp only [in62,decide_eq_true_eq]; omega⟩,?_⟩
  refine cE (fun j L M'=>M'=M/\(∀ i:Nat,1<=i->i < j+1->∃ v,IsIv n (w ^ i % n - 1) v)/\∃ o,L=[some (.d (.int n)),some (.d (.int w)),some (.d (.int m)),o]) ⟨rfl,fun i h1 h2=>by omega,none,rfl⟩ (fun i L M _ _ t e=>by cases e) ?_ ?_
  ·rintro j d _ _ hx ⟨rfl,hv,o,rfl⟩
   obtain ⟨hj,rfl⟩:=cO hx
   rw [show (1:Int)+(j:Nat)=((j+1:Nat):Int) by omega]
   clean_wf
   refine (nN (e:=j+1) hn hn2 (by omega)).mono ?_
   rintro _ M ⟨rfl,rfl⟩
   clean_wf
   refine (hW hn hn2).mono ?_
   rintro _ M ⟨rfl,⟨v,hv',rfl⟩ | ⟨hv',rfl⟩⟩
   ·clean_wf
    refine nI rfl ?_
    clean_wf
    refine ⟨rfl,fun i h1 h2=>?_,_,rfl⟩
    by_cases e:i=j+1
    ·exact e▸⟨v,hv'⟩
    ·exact hv i h1 (by omega)
   ·clean_wf
    try refine vZ rfl ?_
    clean_wf
    exact ⟨by simp,.inr ⟨rfl,fun hr=>hv' (hr.2 (j+1) (by omega) (by omega))⟩⟩
  ·rintro _ _ ⟨rfl,hv,o,rfl⟩
   clean_wf
   refine ⟨by simp,.inl ⟨rfl,h,fun i h1 h2=>hv i h1 ?_⟩⟩
   simp [rngD]
   omega
 ·clean_wf
  exact ⟨by simp,.inr ⟨rfl,fun hr=>h hr.1⟩⟩
theorem aAd {n:Int} {m:Nat} {M:Mm} (hn:2<=n) (hn2:n<=1000000) (hm:m<=1000):Ok (nU [.d (.int n),.d (.int m)] M) fun r M'=>M'=M/\((∃ w:Int,r=.d (.int w)/\0<=w/\w < n/\RootOk n w m/\∀ v:Int,0<=v->v < w->¬ RootOk n v m)\/(r=.d .non/\∀ w:Int,0<=w->w < n->¬ RootOk n w m)):=by
 unfold nU
 refine bK rfl ?_
 unfold b_root
 clean_wf
 refine ⟨by simp only [in62,decide_eq_true_eq]; omega,?_⟩
 refine cE (fun j L M'=>M'=M/\(∀ w:Int,0<=w->w < j->¬ RootOk n w m)/\∃ o,L=[some (.d (.int n)),some (.d (.int m)),o]) ⟨rfl,fun i h1 h2=>by omega,none,rfl⟩ (fun i L M _ _ t e=>by cases e) ?_ ?_
 ·rintro j d _ _ hx ⟨rfl,hv,o,rfl⟩
  obtain ⟨hj,rfl⟩:=cO hx
  clean_wf
  refine (qV (w:=0+(j:Nat)) hn hn2 hm).mono ?_
  rintro _ M ⟨rfl,⟨rfl,hr⟩ | ⟨rfl,hr⟩⟩
  ·clean_wf
   exact ⟨by simp,.inl ⟨_,rfl,by omega,by omega,hr,fun v v0 v1=>hv v v0 (by omega)⟩⟩
  ·clean_wf
   refine ⟨rfl,fun i h1 h2=>?_,_,rfl⟩
   by_cases e:i=0+(j:Nat)
   ·exact e▸hr
   ·exact hv i h1 (by omega)
 ·rintro _ _ ⟨rfl,hv,o,rfl⟩
  clean_wf
  refine ⟨by simp,.inr ⟨rfl,fun i h1 h2=>hv i h1 ?_⟩⟩
  simp [rngD]
  omega
theorem jV {k:Nat} {M:Mm}:Ok (hZ [.d (.int k)] M) fun w M'=>w=.d (.int (ord k:Nat))/\M'=M:=by
 unfold hZ
 refine bK rfl ?_
 unfold b_order
 clean_wf
 refine eK.mono ?_
 rintro _ M ⟨rfl,rfl⟩
 clean_wf
 exact ⟨by simp [ord],by simp⟩
theorem rE {n:Int} {m:Nat} {M:Mm} (hn:2<=n) (hn2:n<=1000000) (hm:m<=1000) (hex:∃ w:Int,0<=w/\w < n/\Rt n w m):Ok (gH [.d (.int n),.d (.int m)] M) fun r M'=>(∃ w:Int,r=.d (.int w)/\0<=w/\w < n/\Rt n w m)/\M'=M:=by
 unfold gH
 refine bK rfl ?_
 unfold b_root_of
 clean_wf
 refine (aAd hn hn2 hm).mono ?_
 rintro _ M ⟨rfl,⟨w,rfl,w0,w1,hw,_⟩ | ⟨_,hno⟩⟩
 ·clean_wf
  refine nI (by simp [isN]) ?_
  clean_wf
  exact ⟨⟨w,rfl,w0,w1,hw⟩,by simp⟩
 ·obtain ⟨w,w0,w1,hw⟩:=hex
  exact (hno w w0 w1 hw).elim
noncomputable def encB (x:Nat×List Dd):D:=.tup [.int x.1,.tup (x.2.map encD)]
noncomputable def brs (L:List Nat) (r:List Dd):List (Nat×List Dd):=(pl L 0,r)::(L.drop 1).map fun s=>(s,[])
theorem xT {L:List Nat} {r:List Dd} (h:L≠[]):(brs L r).map (·.1)=L:=by
 cases L with
 | nil=>exact (h rfl).elim
 | cons a l=>simp [brs,pl,Function.comp_def]
theorem xR {L:List Nat} {r:List Dd}:((brs L r).map (·.2)).flatten=r:=by
 have:∀ l:List Nat,((l.map fun s=>((s,[]):Nat×List Dd)).map (·.2)).flatten=[]:=by
  intro l
  induction l with
  | nil=>rfl
  | cons a l ih=>simpa using ih
 simp only [brs,List.map_cons,List.flatten_cons,this,List.append_nil]
theorem jP {L:List Nat} {r:List Dd} {M:Mm} (h:L≠[]) (hl:L.length<=2):Ok (cR [.d (natsD L),.d (.tup (r.map encD))] M) fun w M'=>w=.ref M.length/\M'=M++[(brs L r).map encB]:=by
 have h0:0 < L.length:=List.length_pos_iff.mpr h
 unfold cR
 refine aCe rfl ?_
 unfold b_bringers_to natsD
 clean_wf
 refine iW (mW (i:=0) h0) ?_
 clean_wf
 refine kT ?_
 clean_wf
 refine ⟨fun d=>.tup [d,.tup []],by simp [cut,HT.sIx]; omega,(fun t e=>by cases e),?_,?_⟩
 ·intro d hd acc
  clean_wf
  exact ⟨rfl,rfl⟩
 rw [show cut (L.map fun k=>D.int (k:Nat)) (some 1) none=(L.drop 1).map fun k=>D.int (k:Nat) by rw [List.map_drop]; exact aJm (s:=1) (by simp; omega)]
 refine aHb rfl rfl (by simp; omega) ?_
 clean_wf
 refine ⟨M.length,(brs L r).map encB,rfl,Nat.le_refl _,?_,rfl,by simp⟩
 simp [brs,encB,Function.comp_def]
theorem nC {n w u:Int} {m b G S:Nat} {bs:List (Nat×List Dd)} {ad:List (Nat×Int×List Nat)} {M:Mm} (hn:2<=n) (hn2:n<=1000000) (hm:m<=5) (hu:IsIv n m u) (hb:M[b]?=some (bs.map encB)) (ok:∀ x∈bs,∀ d∈x.2,OkD n G S d) (hz:((bs.map (·.2)).flatten).length<=100000) (hz2:bs.length<=100) (hz3:ad.length<=1000) :
  Ok (eW [.d (.int n),.d (.int m),.d (.int w),.ref b,.d (.tup (ad.map fun d=>encD (mkA d)))] M) fun r M'=>r=.d (.tup (((List.replicate m (rnd n w ((bs.map (·.2)).flatten) (ad.map fun d=>(d.1,u*d.2.1 % n,d.2.2)) (bs.map (·.1)))).flatten).map encD))/\M'=M:=by
 unfold eW
 refine bK rfl ?_
 unfold b_rounds_by
 clean_wf
 refine (hW hn hn2).mono ?_
 rintro w0 M ⟨rfl,hh⟩
 obtain rfl:w0=.d (.int u):=by
  rcases hh with ⟨v,hv,e⟩ | ⟨hv,_⟩
  ·rw [e,hv.uniq hu]
  ·exact (hv ⟨u,hu⟩).elim
 obtain ⟨u0,u1,_⟩:=hu
 clean_wf
 refine ⟨⟨bs.map encB,some b⟩,by simp [srcOf,hb],?_⟩
 refine cE (fun i L M'=>M'=M/\∃ o7 o8,L=[some (.d (.int n)),some (.d (.int m)),some (.d (.int w)),some (.ref b),some (.d (.tup (ad.map fun d=>encD (mkA d)))),some (.d (.int u)),some (.d (.tup ((((bs.take i).map (·.2)).flatten).map encD))),o7,o8,none]) ⟨rfl,none,none,by simp⟩ ?_ ?_ ?_
 ·rintro i L M' _ ⟨rfl,_⟩ t e
  cases e
  exact hb
 ·rintro i d _ M hd ⟨rfl,o7,o8,rfl⟩
  rw [List.getElem?_map,Option.map_eq_some_iff] at hd
  obtain ⟨x,hx,rfl⟩:=hd
  have et:((bs.take (i+1)).map (·.2)).flatten=((bs.take i).map (·.2)).flatten++x.2:=by rw [List.take_add_one,hx]; simp
  have hle:((bs.take (i+1)).map (·.2)).flatten.length<=100000:=by
   have e2:(bs.map (·.2)).flatten=((bs.take (i+1)).map (·.2)).flatten++((bs.drop (i+1)).map (·.2)).flatten:=by rw [<- List.flatten_append,<- List.map_append,List.take_append_drop]
   have:=hz
   rw [e2,List.length_append] at this
   omega
  rw [et,List.length_append] at hle
  rw [show encB x=.tup [.int x.1,.tup (x.2.map encD)] from rfl]
  clean_wf
  refine eR (by simp only [List.length_map]; omega) ?_
  clean_wf
  exact ⟨rfl,_,_,by rw [et,List.map_append]; rfl⟩
 rintro _ M ⟨rfl,o7,o8,rfl⟩
 obtain ⟨row,erow⟩:∃ row,row=(bs.map (·.2)).flatten:=⟨_,rfl⟩
 rw [show bs.take (bs.map encB).length=bs by rw [List.length_map,List.take_length],<- erow]
 rw [<- erow] at hz
 have okr:∀ d∈row,OkD n G S d:=by
  intro d hd
  rw [erow] at hd
  obtain ⟨l,hl,hd⟩:=List.mem_flatten.mp hd
  obtain ⟨x,hx,rfl⟩:=List.mem_map.mp hl
  exact ok x hx d hd
 have lb:(bDs n row).length=row.length:=oJ
 clean_wf
 refine (iK hn hn2 okr (by omega)).mono ?_
 rintro _ M ⟨rfl,rfl⟩
 clean_wf
 refine bX (fun i acc L' M'=>acc=(ad.take i).map (fun d=>encD (mkA (d.1,u*d.2.1 % n,d.2.2)))/\M'=M/\∃ a1 a2 a3 a4 a5,L'=[a1,a2,a3,a4,a5,some (.d (.int n)),some (.d (.int u))]) ?_
 clean_wf
 refine ⟨⟨by simp,rfl,none,none,none,none,none,rfl⟩,?_,by simp; omega,?_,?_⟩
 ·rintro i acc L' M' hi ⟨rfl,rfl,_⟩
  exact ⟨rfl,(fun t e=>by cases e),by simp; omega⟩
 ·rintro i d acc _ M' hx ⟨rfl,rfl,a1,a2,a3,a4,a5,rfl⟩
  rw [List.getElem?_map,Option.map_eq_some_iff] at hx
  obtain ⟨x,hx,rfl⟩:=hx
  rw [show encD (mkA x)=.tup [.str "add",.int x.1,.int x.2.1,natsD [],natsD x.2.2] from rfl]
  clean_wf
  refine ⟨_,_,rfl,rfl,?_,rfl,_,_,_,_,_,rfl⟩
  rw [List.take_add_one,hx,List.map_append]
  rfl
 rintro acc _ M ⟨rfl,rfl,_⟩
 rw [show ad.take (ad.map fun d=>encD (mkA d)).length=ad by rw [List.length_map,List.take_length]]
 clean_wf
 refine cX (xs:=ad.map fun d=>encD (mkA (d.1,u*d.2.1 % n,d.2.2))) rfl ?_
 clean_wf
 refine eR (by simp; omega) ?_
 clean_wf
 refine eR (by simp; omega) ?_
 clean_wf
 refine bX (fun i acc L' M'=>acc=(bs.take i).map (fun x=>encD (.scale x.1 w))/\M'=M/\∃ a1 a2,L'=[a1,a2,some (.d (.int w))]) ?_
 clean_wf
 refine ⟨⟨bs.map encB,some b⟩,by simp [srcOf,hb],⟨by simp,rfl,none,none,rfl⟩,?_,by simp; omega,?_,?_⟩
 ·rintro i acc L' M' hi ⟨rfl,rfl,_⟩
  refine ⟨rfl,?_,by simp; omega⟩
  intro t e
  cases e
  show (_++_)[b]?=_
  rw [List.getElem?_append_left (List.getElem?_eq_some_iff.mp hb).1]
  exact hb
 ·rintro i d acc _ M' hx ⟨rfl,rfl,a1,a2,rfl⟩
  rw [List.getElem?_map,Option.map_eq_some_iff] at hx
  obtain ⟨x,hx,rfl⟩:=hx
  rw [show encB x=.tup [.int x.1,.tup (x.2.map encD)] from rfl]
  clean_wf
  refine ⟨_,_,rfl,rfl,?_,rfl,_,_,rfl⟩
  rw [List.take_add_one,hx,List.map_append]
  rfl
 rintro acc _ M ⟨rfl,rfl,_⟩
 rw [show bs.take (bs.map encB).length=bs by rw [List.length_map,List.take_length]]
 clean_wf
 refine cX (xs:=bs.map fun x=>encD (.scale x.1 w)) rfl ?_
 clean_wf
 refine eR (by simp; omega) ?_
 clean_wf
 have hlen:(row.map encD++(ad.map fun d=>encD (mkA (d.1,u*d.2.1 % n,d.2.2)))++(bDs n row).map encD++bs.map fun x=>encD (.scale x.1 w)).length<=201100:=by simp; omega
 refine xZ ⟨?_,by omega,by omega⟩ ?_
 ·rw [Int.toNat_natCast]
  exact Nat.le_trans (Nat.mul_le_mul hlen hm) (by decide)
 clean_wf
 refine ⟨?_,by simp⟩
 rw [Int.toNat_natCast,List.map_flatten,List.map_replicate]
 unfold rnd
 simp [Function.comp_def]
noncomputable def innR (O P:List Nat) (b:Nat) (ts:List (Int×Nat)):List (Nat×Int×List Nat):=ts.map fun x=>(pl O b,x.1,srN ((plc x.2).map (pl P)))
noncomputable def innB (ps:List (List (Int×Nat))) (O P:List Nat) (b:Nat):List (Nat×Int×List Nat):=((List.range b).map fun b=>innR O P b (ps.getD b [])).flatten
theorem pR {ps:List (List (Int×Nat))} {O P:List Nat} {b:Nat}:innB ps O P (b+1)=innB ps O P b++innR O P b (ps.getD b []):=by simp [innB,List.range_succ]
theorem kD {ps:List (List (Int×Nat))} {O P:List Nat} {c:Nat}:∀ {b:Nat},(∀ i,i < b->(ps.getD i []).length<=c)->(innB ps O P b).length<=b*c
 | 0,_=>by simp [innB]
 | b+1,h=>by
  have:=kD (ps:=ps) (O:=O) (P:=P) (c:=c) (b:=b) fun i hi=>h i (by omega)
  have h2:=h b (by omega)
  rw [pR,List.length_append,Nat.add_mul,Nat.one_mul]
  simp only [innR,List.length_map]
  omega
theorem lW {n:Int} {k:Nat} {t O P:List Nat} {M:Mm} (hn:2<=n) (hl:t.length=k*k) (hO:O.length=bt k) (hP:P.length=qOf k) :
  Ok (dM [.d (.int n),.d (.int k),.d (natsD t),.d (natsD O),.d (natsD P)] M) fun w M'=>(∃ ps,ps.length=bt k/\(∀ bit,bit < bt k->Pol n k t bit (ps.getD bit []))/\w=.d (.tup ((inn ps O P).map fun d=>encD (mkA d))))/\M'=M:=by
 obtain ⟨q1,q2,q3⟩:=qb (k:=k)
 have h16:2 ^ qOf k<=16:=by rcases pC (k:=k) with q | q <;> rw [q] <;> decide
 unfold dM
 refine bK rfl ?_
 unfold b_table_deeds
 clean_wf
 refine (gO hn hl).mono ?_
 rintro _ _ ⟨ps,rfl,hp,hPs,rfl⟩
 have hll:∀ i,i < bt k->(ps.getD i []).length<=16:=fun i hi=>Nat.le_trans (hPs i hi).len h16
 refine ⟨_,_,rfl,rfl,?_⟩
 refine cE (fun b L M'=>M'=M++[(innB ps O P b).map fun d=>encD (mkA d)]/\∃ o6 o7 o8 o9,L=[some (.d (.int n)),some (.d (.int k)),some (.d (natsD t)),some (.d (natsD O)),some (.d (natsD P)),some (.ref M.length),o6,o7,o8,o9]) ⟨rfl,none,none,none,none,rfl⟩ (fun i L M _ _ t e=>by cases e) ?_ ?_
 ·rintro b d _ _ hd ⟨rfl,o6,o7,o8,o9,rfl⟩
  obtain ⟨x,y,hx,hy,rfl⟩:=iY hd
  unfold encPs at hy
  rw [List.getElem?_map,Option.map_eq_some_iff] at hx hy
  obtain ⟨o,ho,rfl⟩:=hx
  obtain ⟨ts,hts,rfl⟩:=hy
  have hb:b < bt k:=by have:=(List.getElem?_eq_some_iff.mp hts).1; omega
  have eo:pl O b=o:=by simp [pl,List.getD,ho]
  have ets:ps.getD b []=ts:=by simp [List.getD,hts]
  have P1:=hPs b hb
  rw [ets] at P1
  have lb:(innB ps O P b).length<=b*16:=kD fun i hi=>hll i (by omega)
  have lts:ts.length<=16:=by rw [<- ets]; exact hll b hb
  clean_wf
  refine cE (fun i L M'=>M'=M++[(innB ps O P b++innR O P b (ts.take i)).map fun d=>encD (mkA d)]/\∃ o8 o9,L=[some (.d (.int n)),some (.d (.int k)),some (.d (natsD t)),some (.d (natsD O)),some (.d (natsD P)),some (.ref M.length),some (.d (.int o)),some (.d (.tup (ts.map encJ))),o8,o9]) ⟨by simp [innR],_,_,rfl⟩ (fun i L M _ _ t e=>by cases e) ?_ ?_
  ·rintro i d _ _ hd ⟨rfl,o8,o9,rfl⟩
   rw [List.getElem?_map,Option.map_eq_some_iff] at hd
   obtain ⟨x,hx,rfl⟩:=hd
   have hxm:=List.mem_of_getElem? hx
   have hx2:=(P1.rng x hxm).2.2
   have hx16:x.2 < 16:=by omega
   have hpl:=rQ _ hx16
   have hpq:∀ p∈plc x.2,p < qOf k:=by
    rcases pC (k:=k) with q | q <;> rw [q] at hx2 ⊢
    ·exact mQ _ hx2
    ·exact mV _ hx2
   have g0:(M++[(innB ps O P b++innR O P b (ts.take i)).map fun d=>encD (mkA d)])[M.length]?=some ((innB ps O P b++innR O P b (ts.take i)).map fun d=>encD (mkA d)):=by simp
   rw [show encJ x=.tup [.int x.1,.tup ((plc x.2).map fun p=>D.int (p:Nat))] from rfl]
   clean_wf
   refine kT ?_
   rw [show natsD P=.tup (P.map fun k=>D.int (k:Nat)) from rfl]
   clean_wf
   refine ⟨fun d=>match d with
    | .int p=>.int (pl P p.toNat:Nat)
    | _=>.non,by simp; omega,(fun t e=>by cases e),?_,?_⟩
   ·intro d hd acc
    obtain ⟨p,hp',rfl⟩:=List.mem_map.mp hd
    clean_wf
    refine iW (mW (by rw [hP]; exact hpq p hp')) ?_
    exact ⟨by simp,rfl⟩
   clean_wf
   refine zC (ns:=((plc x.2).map (pl P)).map fun k:Nat=>(k:Int)) rfl (by simp) (by simp; omega) ?_
   rw [<- (gU _).2]
   clean_wf
   refine cX (xs:=(srN ((plc x.2).map (pl P))).map fun k=>D.int (k:Nat)) (by simp [sv,lr,lv,Function.comp_def]) ?_
   clean_wf
   refine qM g0 (by simp [innR]; omega) ?_
   refine ⟨?_,_,_,rfl⟩
   rw [List.take_add_one,hx]
   simp [innR,encD,mkA,natsD,eo]
  ·rintro _ _ ⟨rfl,o8,o9,rfl⟩
   refine ⟨?_,_,_,_,_,rfl⟩
   rw [show ts.take (ts.map encJ).length=ts by rw [List.length_map,List.take_length],pR,ets]
 ·rintro _ _ ⟨rfl,o6,o7,o8,o9,rfl⟩
  clean_wf
  rw [show (zipT (O.map fun k=>D.int (k:Nat)) (encPs ps)).length=ps.length by simp [zipT,encPs,hO,hp]]
  refine cX (xs:=(innB ps O P ps.length).map fun d=>encD (mkA d)) (by simp [sv,lr,lv]) ?_
  clean_wf
  exact ⟨⟨ps,hp,hPs,rfl⟩,by simp⟩
noncomputable def LB (k:Nat):Nat->Nat
 | 0=>bt k
 | h+1=>ord k*(4*LB k h+bt k*2 ^ qOf k+2*bt k)
theorem wU {k h:Nat}:LB k h<=LB k (h+1):=by
 show LB k h<=ord k*_
 have:1<=ord k:=by unfold ord; omega
 calc LB k h<=1*(4*LB k h+bt k*2 ^ qOf k+2*bt k):=by omega
  _<=_:=Nat.mul_le_mul_right _ this
theorem xL {k h:Nat}:∀ d,LB k h<=LB k (h+d)
 | 0=>Nat.le_refl _
 | d+1=>Nat.le_trans (xL d) wU
theorem qE {k a b:Nat} (h:a<=b):LB k a<=LB k b:=by
 have:=xL (k:=k) (h:=a) (b - a)
 rwa [show a+(b - a)=b by omega] at this
noncomputable def Giv (k:Nat) (vs:List Nat) (gs:List Int):Prop:=∀ i j,i < vs.length->j < bt k->gs.getD (bt k*i+j) 0=((pl vs i / 2 ^ j % 2:Nat):Int)
noncomputable def TB (n:Int) (k S lv:Nat) (t:T) (O:List Nat) (ds:List Dd):Prop:=∀ (vs:List Nat) (gs:List Int),vs.length=lv->(∀ v∈vs,v < k)->Giv k vs gs->Brg n gs S ds (bitAt O (valT k vs t))
theorem aHu {ps:List (List (Int×Nat))} {O P:List Nat}:inn ps O P=innB ps O P ps.length:=rfl
theorem aAm {n w u:Int} {k h:Nat} {t O L R:List Nat} {rL rR:List Dd} {ps:List (List (Int×Nat))} {S:Nat} (sh:Shv k S O L R) (hp:ps.length=bt k) (hP:∀ bit,bit < bt k->Pol n k t bit (ps.getD bit [])) (h1:rL.length<=LB k h) (h2:rR.length<=LB k h):(nodeR n w u k rL rR ps O L R).length<=LB k (h+1):=by
 have li:(inn ps O (L++R)).length<=bt k*2 ^ qOf k:=by rw [aHu,hp]; exact kD fun i hi=>(hP i hi).len
 unfold nodeR
 rw [List.length_flatten,List.map_replicate,List.sum_replicate_nat]
 show _<=ord k*_
 refine Nat.mul_le_mul_left _ ?_
 have lb:(bDs n (rL++rR)).length=(rL++rR).length:=oJ
 have lL:=sh.lL
 have lR:=sh.lR
 simp only [rnd,List.length_append,List.length_map,lb,innU]
 omega
theorem unw {n w:Int} {m:Nat} (hn:2<=n) (hm:1<=m) (w0:0<=w) (w1:w < n) (h:Rt n w m):Un n w:=by
 refine ⟨w0,w1,w ^ (m - 1) % n,Int.emod_nonneg _ (by omega),Int.emod_lt_of_pos _ (by omega),?_⟩
 refine Cg.emod ((Cg.mul Cg.rfl Cg.mod).trans (Cg.trans (Cg.of_eq ?_) h.one))
 rw [Int.mul_comm,<- Int.pow_succ,Nat.succ_eq_add_one,show m - 1+1=m by omega]
theorem fX {n w u:Int} {k S lv:Nat} (hn:2<=n) (hn2:n<=1000000) (hw:Rt n w (ord k)) (w0:0<=w) (w1:w < n) (hu:IsIv n (ord k:Nat) u) (hk:k<=rm k) (hlv:bt k*lv<=8) :
  ∀ (t:T) (d:Nat) (O L R:List Nat) (M:Mm),okT k lv t->hT t < d->LB k (hT t)<=5000->Shv k S O L R->Ok (bV d [.d (.int n),.d (.int k),.d (.int w),.d (encT t),.d (natsD O),.d (natsD L),.d (natsD R)] M) fun r M'=>(∃ ds,r=.d (.tup (ds.map encD))/\(∀ d∈ds,OkD n 8 S d)/\ds.length<=LB k (hT t)/\TB n k S lv t O ds)/\M'=M
 | t,0,_,_,_,_,_,h,_,_=>absurd h (by omega)
 | .leaf i,d+1,O,L,R,M,ht,_,hlb,sh=>by
  have hi:i < lv:=ht
  obtain ⟨q1,q2,q3⟩:=qb (k:=k)
  have lO:=sh.lO
  have hbi:bt k*i+bt k<=8:=by
   have:bt k*(i+1)<=bt k*lv:=Nat.mul_le_mul_left _ hi
   rw [Nat.mul_add] at this
   omega
  unfold bV
  refine bK rfl ?_
  unfold b_tree_row encT
  clean_wf
  refine eK.mono ?_
  rintro _ M ⟨rfl,rfl⟩
  clean_wf
  refine bX (fun j acc L' M'=>acc=((leafR O (bt k*i)).take j).map encD/\M'=M/\∃ a1 a2,L'=[a1,a2]) ?_
  refine zJ ?_
  rw [show natsD O=.tup (O.map fun k=>D.int (k:Nat)) from rfl]
  clean_wf
  rw [show (bt k:Int)*(i:Int)=((bt k*i:Nat):Int) by simp]
  refine ⟨_,_,rfl,rfl,⟨by omega,by omega⟩,⟨rfl,rfl,none,none,rfl⟩,?_,by simp [cM]; omega,?_,?_⟩
  ·rintro j acc L' M' hj ⟨rfl,rfl,_⟩
   exact ⟨rfl,(fun t e=>by cases e),by simp; omega⟩
  ·rintro j d acc _ M' hx ⟨rfl,rfl,a1,a2,rfl⟩
   obtain ⟨x,hx1,rfl⟩:=gD hx
   rw [List.getElem?_map,Option.map_eq_some_iff] at hx1
   obtain ⟨o,ho,rfl⟩:=hx1
   have hj:=(List.getElem?_eq_some_iff.mp ho).1
   clean_wf
   refine ⟨_,_,rfl,rfl,?_,rfl,_,_,rfl⟩
   have el:(leafR O (bt k*i))[j]?=some (.add (pl O j) 1 [bt k*i+j] []):=by simp [leafR,hj]
   rw [List.take_add_one,el,List.map_append]
   simp [encD,natsD,pl,List.getD,ho]
  rintro acc _ M ⟨rfl,rfl,_⟩
  rw [show (leafR O (bt k*i)).take (enumT ((bt k*i:Nat):Int) (O.map fun k=>D.int (k:Nat))).length=leafR O (bt k*i) by rw [cM]; exact List.take_of_length_le (by simp [leafR])]
  clean_wf
  refine cX (xs:=(leafR O (bt k*i)).map encD) rfl ?_
  clean_wf
  refine ⟨⟨leafR O (bt k*i),rfl,?_,by simp [leafR,LB,hT,lO],?_⟩,by simp⟩
  ·intro d hd
   obtain ⟨j,hj,rfl⟩:=List.mem_map.mp hd
   have hj:=List.mem_range.mp hj
   exact ⟨sh.lt _ (List.mem_append_left _ (eG hj)),by omega,by omega,by intro x hx; simp at hx; omega,by simp,by simp,by simp,by simp⟩
  ·intro vs gs hvl hv hg
   refine aDo (fun o ho=>sh.lt o (List.mem_append_left _ ho)) fun j hj=>?_
   exact hg i j (by omega) (by omega)
 | .node t a b,d+1,O,L,R,M,ht,hd,hlb,sh=>by
  obtain ⟨h1,h2,h3,h4⟩:=ht
  obtain ⟨q1,q2,q3⟩:=qb (k:=k)
  have hda:hT a < d:=by simp only [hT] at hd; omega
  have hdb:hT b < d:=by simp only [hT] at hd; omega
  have lba:LB k (hT a)<=LB k (max (hT a) (hT b)):=qE (by omega)
  have lbb:LB k (hT b)<=LB k (max (hT a) (hT b)):=qE (by omega)
  have lbm:LB k (max (hT a) (hT b))<=5000:=Nat.le_trans wU hlb
  have hLn:L≠[]:=fun e=>by have:=sh.lL; rw [e] at this; simp at this; omega
  have hRn:R≠[]:=fun e=>by have:=sh.lR; rw [e] at this; simp at this; omega
  have lP:(L++R).length=qOf k:=by rw [List.length_append,sh.lL,sh.lR,q1]; omega
  unfold bV
  refine bK rfl ?_
  unfold b_tree_row
  rw [show encT (.node t a b)=.tup [.str "node",natsD t,encT a,encT b] from rfl]
  clean_wf
  refine (fX hn hn2 hw w0 w1 hu hk hlv a d L O R M h3 hda (by omega) sh.swL).mono ?_
  rintro _ M ⟨⟨rL,rfl,okL,lL,tL⟩,rfl⟩
  clean_wf
  refine (jP hLn (by rw [sh.lL]; omega)).mono ?_
  rintro _ _ ⟨rfl,rfl⟩
  clean_wf
  refine aGj rfl ?_
  clean_wf
  refine (fX hn hn2 hw w0 w1 hu hk hlv b d R O L _ h4 hdb (by omega) sh.swR).mono ?_
  rintro _ _ ⟨⟨rR,rfl,okR,lR,tR⟩,rfl⟩
  clean_wf
  refine (jP hRn (by rw [sh.lR]; omega)).mono ?_
  rintro _ _ ⟨rfl,rfl⟩
  refine ⟨(brs L rL).map encB,(brs R rR).map encB,by simp,by simp [EV.lv],by simp [brs,sh.lL,sh.lR]; omega,?_⟩
  rw [show (M++[(brs L rL).map encB]++[(brs R rR).map encB]).set M.length ((brs L rL).map encB++(brs R rR).map encB)=M++[(brs L rL++brs R rR).map encB,(brs R rR).map encB] by simp]
  have hcell:(M++[(brs L rL++brs R rR).map encB,(brs R rR).map encB])[M.length]?=some ((brs L rL++brs R rR).map encB):=by simp
  clean_wf
  refine jV.mono ?_
  rintro _ _ ⟨rfl,rfl⟩
  rw [show natsD L=.tup (L.map fun k=>D.int (k:Nat)) from rfl,show natsD R=.tup (R.map fun k=>D.int (k:Nat)) from rfl]
  clean_wf
  refine eR (by simp [sh.lL,sh.lR]; omega) ?_
  rw [<- List.map_append]
  clean_wf
  refine (lW (O:=O) (P:=L++R) hn h1 sh.lO lP).mono ?_
  rintro _ _ ⟨⟨ps,hp,hP,rfl⟩,rfl⟩
  have fst:(brs L rL++brs R rR).map (·.1)=L++R:=by rw [List.map_append,xT hLn,xT hRn]
  have snd:((brs L rL++brs R rR).map (·.2)).flatten=rL++rR:=by rw [List.map_append,List.flatten_append,xR,xR]
  have li:(inn ps O (L++R)).length<=bt k*2 ^ qOf k:=by rw [aHu,hp]; exact kD fun i hi=>(hP i hi).len
  have h16:bt k*2 ^ qOf k<=32:=by rcases q3 with q | q <;> rw [q1,q] <;> decide
  have okb:∀ x∈brs L rL++brs R rR,∀ d∈x.2,OkD n 8 S d:=by
   intro x hx d hd
   have:d∈rL++rR:=by rw [<- snd]; exact List.mem_flatten.mpr ⟨x.2,List.mem_map.mpr ⟨x,hx,rfl⟩,hd⟩
   exact eF okL okR d this
  clean_wf
  refine (nC (m:=ord k) (u:=u) (w:=w) (ad:=inn ps O (L++R)) hn hn2 (by unfold ord; omega) hu hcell okb (by rw [snd,List.length_append]; omega) (by simp [brs,sh.lL,sh.lR]; omega) (by omega)).mono ?_
  rintro _ _ ⟨rfl,rfl⟩
  rw [fst,snd]
  clean_wf
  refine ⟨⟨nodeR n w u k rL rR ps O L R,rfl,aAy hn (unw hn (by unfold ord; omega) w0 w1 hw) sh okL okR hp hP,aAm sh hp hP (by omega) (by omega),?_⟩,by simp⟩
  intro vs gs hvl hv hg
  have va:=jO hvl hv h3
  have vb:=jO hvl hv h4
  have hu':Cg n (u*(ord k:Nat)) 1:=by rw [Int.mul_comm]; exact Cg.of hu.2.2
  exact aBb hn hw hu' sh okL okR (tL vs gs hvl hv hg) (tR vs gs hvl hv hg) va vb hk hp hP
theorem fB {n:Int} {k lv:Nat} (hn:2<=n):∀ (t:T) (d:Nat) (M:Mm),okT k lv t->hT t < d->Ok (bG d [.d (.int n),.d (.int k),.d (encT t)] M) fun r M'=>(∃ v:Nat,r=.d (.int v)/\v<=LB k (hT t))/\M'=M
 | t,0,_,_,h=>absurd h (by omega)
 | .leaf i,d+1,M,ht,_=>by
  unfold bG
  refine bK rfl ?_
  unfold b_tree_deeds encT
  clean_wf
  refine eK.mono ?_
  rintro _ M ⟨rfl,rfl⟩
  clean_wf
  exact ⟨⟨bt k,rfl,by simp [LB,hT]⟩,by simp⟩
 | .node t a b,d+1,M,ht,hd=>by
  obtain ⟨h1,h2,h3,h4⟩:=ht
  have hda:hT a < d:=by simp only [hT] at hd; omega
  have hdb:hT b < d:=by simp only [hT] at hd; omega
  have lba:LB k (hT a)<=LB k (max (hT a) (hT b)):=qE (by omega)
  have lbb:LB k (hT b)<=LB k (max (hT a) (hT b)):=qE (by omega)
  have hbt:bt k<=2:=by unfold bt; split <;> omega
  unfold bG
  refine bK rfl ?_
  unfold b_tree_deeds
  rw [show encT (.node t a b)=.tup [.str "node",natsD t,encT a,encT b] from rfl]
  clean_wf
  refine eK.mono ?_
  rintro _ M ⟨rfl,rfl⟩
  clean_wf
  refine kT ?_
  clean_wf
  refine (gO hn h1).mono ?_
  rintro _ M ⟨ps,rfl,hp,hP,rfl⟩
  refine ⟨_,rfl,fun d=>match d with
   | .tup xs=>.int xs.length
   | _=>.non,by simp [encPs]; omega,(fun t e=>by cases e),?_,?_⟩
  ·intro d hd acc
   obtain ⟨ts,hts,rfl⟩:=List.mem_map.mp hd
   clean_wf
   exact ⟨rfl,rfl⟩
  clean_wf
  refine aJw (ns:=ps.map fun ts=>(ts.length:Int)) rfl (by simp [encPs,Function.comp_def]) ?_
  obtain ⟨s,hs,hs2⟩:∃ s:Nat,(ps.map fun ts=>(ts.length:Int)).sum=(s:Nat)/\s<=bt k*2 ^ qOf k:=by
   have key:∀ l:List (List (Int×Nat)),(∀ ts∈l,ts.length<=2 ^ qOf k)->∃ s:Nat,(l.map fun ts=>(ts.length:Int)).sum=(s:Nat)/\s<=l.length*2 ^ qOf k:=by
    intro l
    induction l with
    | nil=>intro _; exact ⟨0,rfl,by simp⟩
    | cons ts l ih =>
     intro h
     obtain ⟨s,e,hle⟩:=ih fun x hx=>h x (by simp [hx])
     have:=h ts (by simp)
     refine ⟨ts.length+s,by rw [List.map_cons,List.sum_cons,e]; omega,?_⟩
     rw [List.length_cons,Nat.add_mul,Nat.one_mul]
     omega
   rw [<- hp]
   refine key ps fun ts hts=>?_
   obtain ⟨bit,hb,hb2⟩:=List.mem_iff_getElem.mp hts
   have P:=hP bit (by omega)
   rw [show ps.getD bit []=ts by simp [List.getD,hb,hb2]] at P
   exact P.len
  rw [hs]
  clean_wf
  refine (fB hn a d M h3 hda).mono ?_
  rintro _ M ⟨⟨va,rfl,la⟩,rfl⟩
  clean_wf
  refine (fB hn b d M h4 hdb).mono ?_
  rintro _ M ⟨⟨vb,rfl,lb⟩,rfl⟩
  clean_wf
  refine jV.mono ?_
  rintro _ M ⟨rfl,rfl⟩
  clean_wf
  refine vK (by simp only [mulOk,decide_eq_true_eq]; left; unfold ord; omega) ?_
  clean_wf
  refine ⟨⟨ord k*(2*(va+vb)+s+2*bt k),by simp,?_⟩,by simp⟩
  show _<=ord k*_
  refine Nat.mul_le_mul_left _ ?_
  omega
theorem zP {k S:Nat} (k2:2<=k) (k4:k<=4) (S1:1<=S) (S2:S<=8):∀ (h fuel:Nat) (M:Mm) (b:Nat),Bx M b->h < fuel->h<=10->Ok (dB fuel [.ref b,.d (.int k),.d (.int h),.d (.int S)] M) fun w M'=>∃ t:T,w=.d (encT t)/\hT t<=h/\okT k S t/\Nx b M M':=by
 intro h
 induction h with
 | zero =>
  intro fuel M b hb hf _
  obtain ⟨f,rfl⟩:∃ f,fuel=f+1:=⟨fuel - 1,by omega⟩
  have n:=Nx.refl hb
  unfold dB
  refine bK rfl ?_
  unfold b_l_tree
  clean_wf
  (refine (bM hb (by omega) (by omega)).mono ?_; rintro _ _ ⟨d1,rfl,l_d1,u_d1,n'⟩; replace n:=n.trans n'; replace hb:=n'.bx hb; clear n')
  clean_wf
  (refine (bM hb (by omega) (by omega)).mono ?_; rintro _ _ ⟨d2,rfl,l_d2,u_d2,n'⟩; replace n:=n.trans n'; replace hb:=n'.bx hb; clear n')
  clean_wf
  obtain ⟨i,rfl⟩:∃ i:Nat,d2=i:=⟨d2.toNat,by omega⟩
  exact ⟨.leaf i,rfl,by simp [hT],by simp only [okT]; omega,by rw [n.take]; exact n⟩
 | succ h ih =>
  intro fuel M b hb hf h10
  obtain ⟨f,rfl⟩:∃ f,fuel=f+1:=⟨fuel - 1,by omega⟩
  have n:=Nx.refl hb
  unfold dB
  refine bK rfl ?_
  unfold b_l_tree
  clean_wf
  (refine (bM hb (by omega) (by omega)).mono ?_; rintro _ _ ⟨d1,rfl,l_d1,u_d1,n'⟩; replace n:=n.trans n'; replace hb:=n'.bx hb; clear n')
  rename_i M1
  refine tI (rB (uT (Ok.mono (Q:=fun (c:Bool) M2=>M2=M1) ?_ ?_)))
  ·clean_wf
   refine ⟨fun _=>rfl,fun _=>?_⟩
   clean_wf
   rfl
  rintro c _ rfl
  refine xO (fun _=>?_) (fun _=>?_)
  ·clean_wf
   (refine (bM hb (by omega) (by omega)).mono ?_; rintro _ _ ⟨d2,rfl,l_d2,u_d2,n'⟩; replace n:=n.trans n'; replace hb:=n'.bx hb; clear n')
   clean_wf
   obtain ⟨i,rfl⟩:∃ i:Nat,d2=i:=⟨d2.toNat,by omega⟩
   exact ⟨.leaf i,rfl,by simp [hT],by simp only [okT]; omega,by rw [n.take]; exact n⟩
  ·clean_wf
   refine (vV hb k2 k4).mono ?_
   rintro _ _ ⟨t,rfl,tl,tr,n'⟩
   replace n:=n.trans n'
   replace hb:=n'.bx hb
   clear n'
   clean_wf
   rw [show (((h+1:Nat):Int) - 1)=(h:Nat) by omega]
   refine (ih f _ b hb (by omega) (by omega)).mono ?_
   rintro _ _ ⟨a,rfl,ah,aok,n'⟩
   replace n:=n.trans n'
   replace hb:=n'.bx hb
   clear n'
   clean_wf
   rw [show (((h+1:Nat):Int) - 1)=(h:Nat) by omega]
   refine (ih f _ b hb (by omega) (by omega)).mono ?_
   rintro _ _ ⟨c,rfl,ch,cok,n'⟩
   replace n:=n.trans n'
   replace hb:=n'.bx hb
   clear n'
   clean_wf
   (refine (bM hb (by omega) (by omega)).mono ?_; rintro _ _ ⟨d3,rfl,l_d3,u_d3,n'⟩; replace n:=n.trans n'; replace hb:=n'.bx hb; clear n')
   obtain ⟨w,ew,hw⟩:=at2 l_d3 u_d3 (.tup [encT a,encT c]) (.tup [encT c,encT a])
   refine dZ ew ?_
   rcases hw with rfl | rfl
   ·refine eR (by simp) ?_
    clean_wf
    exact ⟨.node t a c,rfl,by simp only [hT]; omega,⟨tl,tr,aok,cok⟩,by rw [n.take]; exact n⟩
   ·refine eR (by simp) ?_
    clean_wf
    exact ⟨.node t c a,rfl,by simp only [hT]; omega,⟨tl,tr,cok,aok⟩,by rw [n.take]; exact n⟩
noncomputable def btsOf (v e:Nat):List Nat:=(List.range e).map fun j=>v / 2 ^ j % 2
theorem mG {v e:Nat} {M:Mm} (he:e<=2):Ok (gI [.d (.int v),.d (.int e)] M) fun w M'=>w=.d (.tup ((btsOf v e).map fun x=>D.int (x:Nat)))/\M'=M:=by
 unfold gI
 refine bK rfl ?_
 unfold b_l_bits
 clean_wf
 refine bX (fun i acc L' M'=>acc=(btsOf v i).map (fun x=>D.int (x:Nat))/\M'=M/\∃ a,L'=[a,some (.d (.int v))]) ?_
 clean_wf
 refine ⟨by simp only [in62,decide_eq_true_eq]; omega,⟨rfl,rfl,none,rfl⟩,?_,by simp [rngD]; omega,?_,?_⟩
 ·rintro i acc L' M' hi ⟨rfl,rfl,a,rfl⟩
  exact ⟨rfl,(fun t e=>by cases e),by simp [btsOf]⟩
 ·rintro i d acc _ M' hx ⟨rfl,rfl,a,rfl⟩
  obtain ⟨hi,rfl⟩:=cO hx
  have hi:i=0\/i=1:=by omega
  rw [show (0:Int)+(i:Nat)=(i:Nat) by omega]
  obtain ⟨w,hw,ew⟩:∃ w:Int,atI [D.int 1,D.int 2] (i:Nat)=some (.int w)/\w=((2 ^ i:Nat):Int):=by
   rcases hi with rfl | rfl
   ·exact ⟨1,rfl,rfl⟩
   ·exact ⟨2,rfl,rfl⟩
  have hw1:0 < w/\w < 18446744073709551616:=by rcases hi with rfl | rfl <;> rw [ew] <;> decide
  clean_wf
  refine dZ hw ?_
  clean_wf
  refine ⟨_,_,rfl,rfl,?_,rfl,_,rfl⟩
  rw [show btsOf v (i+1)=btsOf v i++[v / 2 ^ i % 2] by simp [btsOf,List.range_succ],List.map_append,ew]
  simp
 rintro acc _ M' ⟨rfl,rfl,a,rfl⟩
 rw [show (rngD 0 ((e:Nat):Int).toNat).length=e by simp [rngD]]
 clean_wf
 refine cX (xs:=(btsOf v e).map fun x=>D.int (x:Nat)) rfl ?_
 clean_wf
 exact ⟨rfl,by simp⟩
theorem kM {k S:Nat} {vs:List Nat} (k2:2<=k) (k4:k<=4) (hl:vs.length=S) (hv:∀ v∈vs,v < k):∀ (t:T) (fuel:Nat) (M:Mm),okT k S t->hT t < fuel->Ok (aS fuel [.d (.int k),.d (encT t),.d (natsD vs)] M) fun w M'=>w=.d (.int (valT k vs t:Nat))/\M'=M:=by
 intro t
 induction t with
 | leaf i =>
  intro fuel M ok hf
  obtain ⟨f,rfl⟩:∃ f,fuel=f+1:=⟨fuel - 1,by omega⟩
  unfold aS
  refine bK rfl ?_
  unfold b_l_tree_worth natsD
  simp only [encT]
  clean_wf
  refine iW (yA (by rw [hl]; exact ok)) ?_
  clean_wf
  exact ⟨rfl,by simp⟩
 | node t a b iha ihb =>
  intro fuel M ok hf
  obtain ⟨f,rfl⟩:∃ f,fuel=f+1:=⟨fuel - 1,by omega⟩
  obtain ⟨tl,tr,oka,okb⟩:=ok
  simp only [hT] at hf
  unfold aS
  refine bK rfl ?_
  unfold b_l_tree_worth
  simp only [encT]
  clean_wf
  refine (iha f _ oka (by omega)).mono ?_
  rintro _ _ ⟨rfl,rfl⟩
  clean_wf
  refine (ihb f _ okb (by omega)).mono ?_
  rintro _ _ ⟨rfl,rfl⟩
  have va:=jO hl hv oka
  have vb:=jO hl hv okb
  clean_wf
  rw [show ((valT k vs a:Nat):Int)*(k:Nat)+(valT k vs b:Nat)=((valT k vs a*k+valT k vs b:Nat):Int) by simp]
  unfold natsD
  refine iW (yA (by rw [tl]; exact vC va vb)) ?_
  clean_wf
  exact ⟨rfl,by simp⟩
structure Good (n:Int) (k:Nat):Prop where
 n2:2<=n
 n1:n<=341
 rt:∃ w:Int,0<=w/\w < n/\Rt n w (ord k)
 iv:∃ u,IsIv n (ord k:Nat) u
theorem rt3 {n w v1 v2:Int} (h:w ^ 3 % n=1) (h1:IsIv n (w ^ 1 % n - 1) v1) (h2:IsIv n (w ^ 2 % n - 1) v2):Rt n w 3:=⟨h,fun i i1 i3=>by
 have:i=1\/i=2:=by omega
 rcases this with rfl | rfl
 ·exact ⟨_,h1⟩
 ·exact ⟨_,h2⟩⟩
theorem rt5 {n w v1 v2 v3 v4:Int} (h:w ^ 5 % n=1) (h1:IsIv n (w ^ 1 % n - 1) v1) (h2:IsIv n (w ^ 2 % n - 1) v2) (h3:IsIv n (w ^ 3 % n - 1) v3) (h4:IsIv n (w ^ 4 % n - 1) v4):Rt n w 5:=⟨h,fun i i1 i5=>by
 have:i=1\/i=2\/i=3\/i=4:=by omega
 rcases this with rfl | rfl | rfl | rfl
 ·exact ⟨_,h1⟩
 ·exact ⟨_,h2⟩
 ·exact ⟨_,h3⟩
 ·exact ⟨_,h4⟩⟩
theorem good2 {n:Int} (h:n∈[7,13,19,31,49,91,133]):Good n 2:=by
 simp only [List.mem_cons,List.not_mem_nil,or_false] at h
 rcases h with rfl | rfl | rfl | rfl | rfl | rfl | rfl
 ·exact ⟨by decide,by decide,⟨2,by decide,by decide,rt3 (v1:=1) (v2:=5) (by decide) ⟨by decide,by decide,by decide⟩ ⟨by decide,by decide,by decide⟩⟩,⟨5,by decide,by decide,by decide⟩⟩
 ·exact ⟨by decide,by decide,⟨3,by decide,by decide,rt3 (v1:=7) (v2:=5) (by decide) ⟨by decide,by decide,by decide⟩ ⟨by decide,by decide,by decide⟩⟩,⟨9,by decide,by decide,by decide⟩⟩
 ·exact ⟨by decide,by decide,⟨7,by decide,by decide,rt3 (v1:=16) (v2:=2) (by decide) ⟨by decide,by decide,by decide⟩ ⟨by decide,by decide,by decide⟩⟩,⟨13,by decide,by decide,by decide⟩⟩
 ·exact ⟨by decide,by decide,⟨5,by decide,by decide,rt3 (v1:=8) (v2:=22) (by decide) ⟨by decide,by decide,by decide⟩ ⟨by decide,by decide,by decide⟩⟩,⟨21,by decide,by decide,by decide⟩⟩
 ·exact ⟨by decide,by decide,⟨18,by decide,by decide,rt3 (v1:=26) (v2:=22) (by decide) ⟨by decide,by decide,by decide⟩ ⟨by decide,by decide,by decide⟩⟩,⟨33,by decide,by decide,by decide⟩⟩
 ·exact ⟨by decide,by decide,⟨9,by decide,by decide,rt3 (v1:=57) (v2:=33) (by decide) ⟨by decide,by decide,by decide⟩ ⟨by decide,by decide,by decide⟩⟩,⟨61,by decide,by decide,by decide⟩⟩
 ·exact ⟨by decide,by decide,⟨11,by decide,by decide,rt3 (v1:=40) (v2:=92) (by decide) ⟨by decide,by decide,by decide⟩ ⟨by decide,by decide,by decide⟩⟩,⟨89,by decide,by decide,by decide⟩⟩
theorem good5 {n:Int} {k:Nat} (k3:k≠2) (h:n∈[11,31,41,61,121,341,11]):Good n k:=by
 have eo:ord k=5:=by unfold ord bt; rw [if_neg k3]
 simp only [List.mem_cons,List.not_mem_nil,or_false] at h
 rcases h with rfl | rfl | rfl | rfl | rfl | rfl | rfl
 ·exact ⟨by decide,by decide,⟨3,by decide,by decide,by rw [eo]; exact rt5 (v1:=6) (v2:=7) (v3:=3) (v4:=4) (by decide) ⟨by decide,by decide,by decide⟩ ⟨by decide,by decide,by decide⟩ ⟨by decide,by decide,by decide⟩ ⟨by decide,by decide,by decide⟩⟩,⟨9,by rw [eo]; exact ⟨by decide,by decide,by decide⟩⟩⟩
 ·exact ⟨by decide,by decide,⟨2,by decide,by decide,by rw [eo]; exact rt5 (v1:=1) (v2:=21) (v3:=9) (v4:=29) (by decide) ⟨by decide,by decide,by decide⟩ ⟨by decide,by decide,by decide⟩ ⟨by decide,by decide,by decide⟩ ⟨by decide,by decide,by decide⟩⟩,⟨25,by rw [eo]; exact ⟨by decide,by decide,by decide⟩⟩⟩
 ·exact ⟨by decide,by decide,⟨10,by decide,by decide,by rw [eo]; exact rt5 (v1:=32) (v2:=29) (v3:=11) (v4:=8) (by decide) ⟨by decide,by decide,by decide⟩ ⟨by decide,by decide,by decide⟩ ⟨by decide,by decide,by decide⟩ ⟨by decide,by decide,by decide⟩⟩,⟨33,by rw [eo]; exact ⟨by decide,by decide,by decide⟩⟩⟩
 ·exact ⟨by decide,by decide,⟨9,by decide,by decide,by rw [eo]; exact rt5 (v1:=23) (v2:=45) (v3:=15) (v4:=37) (by decide) ⟨by decide,by decide,by decide⟩ ⟨by decide,by decide,by decide⟩ ⟨by decide,by decide,by decide⟩ ⟨by decide,by decide,by decide⟩⟩,⟨49,by rw [eo]; exact ⟨by decide,by decide,by decide⟩⟩⟩
 ·exact ⟨by decide,by decide,⟨3,by decide,by decide,by rw [eo]; exact rt5 (v1:=61) (v2:=106) (v3:=14) (v4:=59) (by decide) ⟨by decide,by decide,by decide⟩ ⟨by decide,by decide,by decide⟩ ⟨by decide,by decide,by decide⟩ ⟨by decide,by decide,by decide⟩⟩,⟨97,by rw [eo]; exact ⟨by decide,by decide,by decide⟩⟩⟩
 ·exact ⟨by decide,by decide,⟨4,by decide,by decide,by rw [eo]; exact rt5 (v1:=114) (v2:=91) (v3:=249) (v4:=226) (by decide) ⟨by decide,by decide,by decide⟩ ⟨by decide,by decide,by decide⟩ ⟨by decide,by decide,by decide⟩ ⟨by decide,by decide,by decide⟩⟩,⟨273,by rw [eo]; exact ⟨by decide,by decide,by decide⟩⟩⟩
 ·exact ⟨by decide,by decide,⟨3,by decide,by decide,by rw [eo]; exact rt5 (v1:=6) (v2:=7) (v3:=3) (v4:=4) (by decide) ⟨by decide,by decide,by decide⟩ ⟨by decide,by decide,by decide⟩ ⟨by decide,by decide,by decide⟩ ⟨by decide,by decide,by decide⟩⟩,⟨9,by rw [eo]; exact ⟨by decide,by decide,by decide⟩⟩⟩
theorem aCc {l:List Int} {i:Nat} (h:i < l.length):l.getD i 0∈l:=by
 simp [List.getD,h]
theorem zB {b k:Nat} {M:Mm} (hb:Bx M b) (k2:2<=k):Ok (oK [.ref b,.d (.int k)] M) fun w M'=>(∃ n,w=.d (.int n)/\Good n k)/\Nx b M M':=by
 have n:=Nx.refl hb
 unfold oK
 refine bK rfl ?_
 unfold b_l_by
 clean_wf
 have e1:atI [D.lst ([7,13,19,31,49,91,133].map D.int),D.lst ([11,31,41,61,121,341,11].map D.int)] (if decide ((k:Int) > 2)=true then 1 else 0)=some (.lst ((if decide ((k:Int) > 2)=true then [11,31,41,61,121,341,11] else [7,13,19,31,49,91,133]).map D.int)):=by split <;> rfl
 refine dZ e1 ?_
 clean_wf
 (refine (bM hb (by omega) (by omega)).mono ?_; rintro _ _ ⟨d1,rfl,l_d1,u_d1,n'⟩; replace n:=n.trans n'; replace hb:=n'.bx hb; clear n')
 obtain ⟨i,rfl⟩:∃ i:Nat,d1=i:=⟨d1.toNat,by omega⟩
 by_cases hk:k=2
 ·subst hk
  refine dZ (gY (cs:=[7,13,19,31,49,91,133]) (by simp; omega)) ?_
  clean_wf
  refine ⟨⟨_,rfl,good2 ?_⟩,by rw [n.take]; exact n⟩
  exact aCc (by simp; omega)
 ·rw [if_pos (by simp; omega)]
  refine dZ (gY (cs:=[11,31,41,61,121,341,11]) (by simp; omega)) ?_
  clean_wf
  refine ⟨⟨_,rfl,good5 hk ?_⟩,by rw [n.take]; exact n⟩
  exact aCc (by simp; omega)
theorem aBq (a b:Nat):(if (b:Int) > (a:Int) then (b:Int) else (a:Int))=((max a b:Nat):Int):=by split <;> omega
theorem uE {n:Int} {G S G' S':Nat} {ds es:List Dd} {M:Mm} (hz:ds.length+es.length<=16777216):Ok (iP [.d (encP n G S ds),.d (encP n G' S' es)] M) fun w M'=>w=.d (encP n (max G G':Nat) (max S S':Nat) (ds++es))/\M'=M:=by
 unfold iP
 refine bK rfl ?_
 unfold b_behind encP
 clean_wf
 refine eR (by simpa using hz) ?_
 clean_wf
 rw [aBq,aBq]
 exact ⟨by simp,by simp⟩
theorem jW {n G S:Int} {ds:List Dd} {gs cs:List Int} {M:Mm} (hn:2<=n) (hn2:n<=1000000) (hg:Rs n gs) (hc:Rs n cs) (h:∀ d∈ds,OkD n gs.length cs.length d) (hz:cs.length<=1000):Ok (iD [.d (encP n G S ds),.d (intsD gs),.d (intsD cs)] M) fun w M'=>w=.d (intsD (rn n gs ds cs))/\M'=M:=by
 unfold iD
 refine bK rfl ?_
 unfold b_l_run
 clean_wf
 refine xA (xs:=cs.map D.int) rfl ?_
 clean_wf
 unfold encP
 clean_wf
 refine cE (fun i L M'=>M'=M++[(rn n gs (ds.take i) cs).map D.int]/\∃ a b c d,L=[some (.d (encP n G S ds)),some (.d (intsD gs)),some (.d (intsD cs)),some (.ref M.length),a,b,c,d]) ⟨rfl,none,none,none,none,rfl⟩ (fun i L M _ _ t e=>by cases e) ?_ ?_
 ·rintro i d _ _ hd ⟨rfl,a,b,c,d',rfl⟩
  simp only [List.getElem?_map,Option.map_eq_some_iff] at hd
  obtain ⟨k,hk,rfl⟩:=hd
  have hm:=h k (List.mem_of_getElem? hk)
  have hc':Rs n (rn n gs (ds.take i) cs):=hc.rn (by omega)
  have hl':(rn n gs (ds.take i) cs).length=cs.length:=cB
  have fin:rn n gs (ds.take (i+1)) cs=dn n gs (rn n gs (ds.take i) cs) k:=by
   rw [List.take_add_one,hk]
   simp only [Option.toList_some,eL,gX,aJq]
  rw [fin]
  generalize rn n gs (ds.take i) cs=xs at hc' hl'
  rw [<- hl'] at hm
  have gM:(M++[xs.map D.int])[M.length]?=some (xs.map D.int):=by simp
  unfold encP
  cases k with
  | scale s u =>
   obtain ⟨hs,hu⟩:=hm
   have hr:=hc'.getD hs
   simp only [encD]
   clean_wf
   refine iC gM (gY hs) ?_
   clean_wf
   refine ⟨_,_,_,s,rfl,rfl,gM,by rw [List.length_map]; exact mR hs,?_⟩
   refine ⟨?_,_,_,_,_,rfl⟩
   rw [qT]
   simp [dn]
  | add s c g t =>
   obtain ⟨hs,c0,c1,hgi,hti,_,hgl,htl⟩:=hm
   simp only [encD]
   clean_wf
   unfold natsD
   refine cE (fun i L M'=>M'=M++[xs.map D.int]/\∃ b,L=[some (.d (encP n G S ds)),some (.d (intsD gs)),some (.d (intsD cs)),some (.ref M.length),some (.d (encD (.add s c g t))),some (.d (.int ((g.take i).foldl (fun a i=>a*gs.getD i 0 % n) c))),b,d']) ⟨rfl,_,rfl⟩ (fun i L M _ _ t e=>by cases e) ?_ ?_
   ·rintro i d _ _ hd ⟨rfl,b,rfl⟩
    simp only [List.getElem?_map,Option.map_eq_some_iff] at hd
    obtain ⟨k,hk,rfl⟩:=hd
    have hm:=hgi k (List.mem_of_getElem? hk)
    have hr:=hg.getD hm
    unfold encP intsD
    clean_wf
    refine iW (gY hm) ?_
    clean_wf
    refine ⟨rfl,some (.d (.int k)),?_⟩
    rw [List.take_add_one,hk]
    simp only [Option.toList_some,List.foldl_append,List.foldl_cons,List.foldl_nil]
    rfl
   ·rintro _ _ ⟨rfl,b,rfl⟩
    simp only [List.length_map,List.take_length]
    have r1:=mF (by omega:0 < n) (xs:=gs) g c0 c1
    have q1:=foldm (n:=n) (xs:=gs) g c
    generalize g.foldl (fun a i=>a*gs.getD i 0 % n) c=v at r1 q1
    simp only [encD]
    clean_wf
    unfold natsD
    refine cE (fun i L M'=>M'=M++[xs.map D.int]/\∃ b d,L=[some (.d (encP n G S ds)),some (.d (intsD gs)),some (.d (intsD cs)),some (.ref M.length),some (.d (encD (.add s c g t))),some (.d (.int ((t.take i).foldl (fun a i=>a*xs.getD i 0 % n) v))),b,d]) ⟨rfl,_,_,rfl⟩ (fun i L M _ _ t e=>by cases e) ?_ ?_
    ·rintro i d _ _ hd ⟨rfl,b,d2,rfl⟩
     simp only [List.getElem?_map,Option.map_eq_some_iff] at hd
     obtain ⟨k,hk,rfl⟩:=hd
     have hm:=hti k (List.mem_of_getElem? hk)
     have hr:=hc'.getD hm
     unfold encP
     clean_wf
     refine iC gM (gY hm) ?_
     clean_wf
     refine ⟨rfl,b,some (.d (.int k)),?_⟩
     rw [List.take_add_one,hk]
     simp only [Option.toList_some,List.foldl_append,List.foldl_cons,List.foldl_nil]
     rfl
    ·rintro _ _ ⟨rfl,b,d2,rfl⟩
     simp only [List.length_map,List.take_length]
     have r2:=mF (by omega:0 < n) (xs:=xs) t r1.1 r1.2
     have q2:=foldm (n:=n) (xs:=xs) t v
     generalize t.foldl (fun a i=>a*xs.getD i 0 % n) v=z at r2 q2
     simp only [encD]; unfold encP
     clean_wf
     refine iC gM (gY hs) ?_
     clean_wf
     refine ⟨_,_,_,s,rfl,rfl,gM,by rw [List.length_map]; exact mR hs,?_⟩
     refine ⟨?_,_,_,_,_,rfl⟩
     rw [qT]
     have:(xs.getD s 0+z) % n=(xs.getD s 0+c*pr gs g*pr xs t) % n:=Cg.emod (Cg.add Cg.rfl (q2.trans (Cg.mul q1 Cg.rfl)))
     simp only [dn,<- this]
     simp
 ·rintro _ _ ⟨rfl,a,b,c,d',rfl⟩
  rw [show List.take (List.map encD ds).length ds=ds from List.take_of_length_le (by simp)]
  clean_wf
  refine cX (xs:=(rn n gs ds cs).map D.int) ?_ ?_
  ·simp [sv,lr,lv]
  clean_wf
  exact ⟨rfl,by simp⟩
noncomputable def row (a b:Nat):List Nat:=(List.range b).map fun j=>a+j
theorem mX {a b:Nat}:(row a b).length=b:=by simp [row]
theorem aCj {a b:Nat}:natsD (row a b)=.tup (rngD (a:Nat) b):=by
 unfold natsD row rngD
 rw [List.map_map]
 congr 1
theorem wX {k:Nat}:Shv k (3*bt k) (row 0 (bt k)) (row (bt k) (bt k)) (row (2*bt k) (bt k)):=by
 obtain ⟨_,_,q3⟩:=qb (k:=k)
 refine ⟨mX,mX,mX,?_,?_⟩ <;> rcases q3 with h | h <;> rw [h] <;> decide
noncomputable def Tp (n:Int) (k lv:Nat) (t:T) (w:W):Prop:=∃ ds,w=.d (encP n 8 (3*bt k:Nat) ds)/\(∀ d∈ds,OkD n 8 (3*bt k) d)/\ds.length<=5000/\TB n k (3*bt k) lv t (row 0 (bt k)) ds
theorem fT {n:Int} {k lv:Nat} {t:T} {M:Mm} (g:Good n k) (hk:k<=rm k) (hlv:bt k*lv<=8) (ht:okT k lv t) (hd:hT t<=3) (hb:LB k (hT t)<=5000):Ok (cI [.d (.int n),.d (.int k),.d (.int 8),.d (encT t),.d (.int 5000)] M) fun r M'=>Tp n k lv t r/\M'=M:=by
 obtain ⟨hn,hn1,hrt,u,hu⟩:=g
 obtain ⟨q1,q2,q3⟩:=qb (k:=k)
 have hn2:n<=1000000:=by omega
 unfold cI
 refine bK rfl ?_
 unfold b_tree_program
 clean_wf
 refine eK.mono ?_
 rintro _ M ⟨rfl,rfl⟩
 clean_wf
 refine jV.mono ?_
 rintro _ M ⟨rfl,rfl⟩
 clean_wf
 refine (rE hn hn2 (by unfold ord; omega) hrt).mono ?_
 rintro _ M ⟨⟨w,rfl,w0,w1,hw⟩,rfl⟩
 clean_wf
 refine (fB hn t 50 _ ht (by omega)).mono ?_
 rintro _ M ⟨⟨v,rfl,hv⟩,rfl⟩
 clean_wf
 refine nI (by simp; omega) ?_
 clean_wf
 refine kT ?_
 clean_wf
 refine ⟨fun d=>match d with
  | .int i=>.tup (rngD i (bt k))
  | _=>.non,by simp,(fun t e=>by cases e),?_,?_⟩
 ·intro d hd acc
  obtain ⟨i,rfl,i0,i1⟩:∃ i:Int,d=.int i/\0<=i/\i<=4:=by
   simp only [List.mem_cons,List.not_mem_nil,or_false] at hd
   rcases hd with rfl | rfl | rfl
   ·exact ⟨_,rfl,by omega,by omega⟩
   ·exact ⟨_,rfl,by omega,by omega⟩
   ·exact ⟨_,rfl,by omega,by omega⟩
  clean_wf
  refine aNa ⟨by omega,by omega,by omega,by omega⟩ ?_
  rw [show (i+((bt k:Nat):Int) - i).toNat=bt k by omega]
  exact ⟨rfl,rfl⟩
 clean_wf
 simp only [List.map_cons,List.map_nil]
 rw [show D.tup (rngD 0 (bt k))=natsD (row 0 (bt k)) from aCj.symm,show D.tup (rngD ((bt k:Nat):Int) (bt k))=natsD (row (bt k) (bt k)) from aCj.symm,show D.tup (rngD (2*((bt k:Nat):Int)) (bt k))=natsD (row (2*bt k) (bt k)) by rw [aCj]; simp]
 clean_wf
 refine (fX hn hn2 hw w0 w1 hu hk hlv t 50 _ _ _ _ ht (by omega) hb wX).mono ?_
 rintro _ M ⟨⟨ds,rfl,okd,ld,tb⟩,rfl⟩
 clean_wf
 exact ⟨⟨ds,by simp [encP],okd,by omega,tb⟩,by simp⟩
noncomputable def gvs (k:Nat) (vs:List Nat):List Nat:=(vs.map fun v=>btsOf v (bt k)).flatten
theorem kQ {k:Nat}:∀ {vs:List Nat},(gvs k vs).length=bt k*vs.length
 | []=>by simp [gvs]
 | v::vs=>by
  have ih:=kQ (k:=k) (vs:=vs)
  simp only [gvs,List.map_cons,List.flatten_cons,List.length_append,List.length_cons] at ih ⊢
  rw [ih,Nat.mul_add]
  simp [btsOf]
  omega
theorem aLl {k:Nat} {vs:List Nat}:∀ x∈gvs k vs,x < 2:=by
 intro x hx
 obtain ⟨l,hl,hx⟩:=List.mem_flatten.mp hx
 obtain ⟨v,hv,rfl⟩:=List.mem_map.mp hl
 obtain ⟨j,hj,rfl⟩:=List.mem_map.mp hx
 exact Nat.mod_lt _ (by omega)
theorem aDg {k j:Nat} (hj:j < bt k):∀ {vs:List Nat} {i:Nat},i < vs.length->pl (gvs k vs) (bt k*i+j)=pl vs i / 2 ^ j % 2
 | v::vs,0,_=>by
  simp only [gvs,List.map_cons,List.flatten_cons,pl,List.getD]
  rw [List.getElem?_append_left (by simp [btsOf]; omega)]
  simp [btsOf,hj]
 | v::vs,i+1,h=>by
  have ih:=aDg hj (vs:=vs) (i:=i) (by simpa using h)
  simp only [gvs,List.map_cons,List.flatten_cons,pl,List.getD] at ih ⊢
  rw [List.getElem?_append_right (by simp [btsOf,Nat.mul_add]; omega),show bt k*(i+1)+j - (btsOf v (bt k)).length=bt k*i+j by simp [btsOf,Nat.mul_add]; omega,ih]
  simp
noncomputable def gInt (l:List Nat):List Int:=l.map fun x:Nat=>(x:Int)
theorem aLj {l:List Nat}:intsD (gInt l)=.tup (l.map fun x=>D.int (x:Nat)):=by
 unfold intsD gInt
 rw [List.map_map]
 rfl
theorem xP {k:Nat} {vs:List Nat}:Giv k vs (gInt (gvs k vs)):=by
 intro i j hi hj
 have:=aDg hj hi
 have hl:bt k*i+j < (gvs k vs).length:=by
  rw [kQ]
  have:bt k*(i+1)<=bt k*vs.length:=Nat.mul_le_mul_left _ hi
  rw [Nat.mul_add] at this
  omega
 rw [<- this]
 simp [gInt,pl,List.getD,hl]
theorem aMd {n:Int} {k:Nat} {vs:List Nat} (hn:2<=n):Rs n (gInt (gvs k vs)):=by
 intro c hc
 obtain ⟨x,hx,rfl⟩:=List.mem_map.mp hc
 have:=aLl x hx
 omega
theorem aMm {k:Nat} (k2:2<=k):(if decide ((k:Int) > 2)=true then (2:Int) else 1)=((bt k:Nat):Int):=by
 unfold bt
 by_cases e:k=2
 ·subst e; rfl
 ·rw [if_neg e,if_pos (by simp; omega)]; rfl
theorem qW {k:Nat} {vs:List Nat} {M:Mm} (k2:2<=k) (hl:bt k*vs.length=8):Ok (gJ [.d (.int k),.d (natsD vs),.d (.int 8)] M) fun w M'=>w=.d (intsD (gInt (gvs k vs)))/\M'=M:=by
 obtain ⟨q1,q2,q3⟩:=qb (k:=k)
 have hbt:bt k<=2:=by omega
 have hvl:vs.length<=8:=by rcases q3 with h | h <;> rw [h] at hl <;> omega
 unfold gJ
 refine bK rfl ?_
 unfold b_l_given natsD
 clean_wf
 refine cE (fun i L M'=>M'=M/\∃ a,L=[some (.d (.int k)),some (.d (.tup (vs.map fun k=>.int (k:Nat)))),some (.d (.int 8)),some (.d (.tup ((gvs k (vs.take i)).map fun x=>D.int (x:Nat)))),a]) ⟨rfl,none,rfl⟩ (fun i L M _ _ t e=>by cases e) ?_ ?_
 ·rintro i d _ _ hd ⟨rfl,a,rfl⟩
  simp only [List.getElem?_map,Option.map_eq_some_iff] at hd
  obtain ⟨v,hv,rfl⟩:=hd
  clean_wf
  refine dZ (at2I _ _ _) ?_
  rw [aMm k2]
  clean_wf
  refine (mG hbt).mono ?_
  rintro _ _ ⟨rfl,rfl⟩
  refine eR (by
   have:=kQ (k:=k) (vs:=vs.take i)
   have h2:bt k*(vs.take i).length<=2*8:=Nat.mul_le_mul hbt (by simp; omega)
   simp only [List.length_map,this,btsOf,List.length_range]
   omega) ?_
  clean_wf
  refine ⟨rfl,some (.d (.int v)),?_⟩
  rw [List.take_add_one,hv]
  simp [gvs]
 ·rintro _ _ ⟨rfl,a,rfl⟩
  have l8:(gvs k vs).length=8:=by rw [kQ,hl]
  rw [List.length_map,List.take_length]
  clean_wf
  refine xZ ⟨by simp,by omega,by omega⟩ ?_
  refine eR (by simp; omega) ?_
  clean_wf
  rw [show (8:Int)=((8:Nat):Int) from rfl,aKo (by simp),List.take_append_of_le_length (by simp; omega),List.take_of_length_le (by simp; omega)]
  rw [aLj]
  exact ⟨rfl,by simp⟩
theorem zG {A M':Mm} {x:List D} (n:Nx A.length (A++[x]) M'):M'.take A.length=A:=by
 obtain ⟨a,b,c,rfl⟩:=n
 simp
noncomputable def gt2 (e:Nat) (vals:List Nat) (v i s:Nat):Int:=(if s < e then (vals.map fun v=>((v / 2 ^ s % 2:Nat):Int)).sum else 0)+if s < i then ((v / 2 ^ s % 2:Nat):Int) else 0
noncomputable def mp (n:Nat) (f:Nat->Int):List Int:=(List.range n).map f
theorem fZ {n:Nat} {f:Nat->Int}:(mp n f).length=n:=by simp [mp]
theorem pP {n s:Nat} {f:Nat->Int} (h:s < n):(mp n f).getD s 0=f s:=by simp [mp,List.getD,h]
theorem aMb {n i:Nat} {f:Nat->Int} {x:Int}:(mp n f).set i x=mp n fun s=>if s=i then x else f s:=by
 unfold mp
 refine List.ext_getElem? fun s=>?_
 rw [List.getElem?_set]
 by_cases h:i=s
 ·subst h
  by_cases h2:i < n <;> simp [h2]
 ·rw [if_neg h]
  by_cases h2:s < n <;> simp [h2,Ne.symm h]
theorem sE {n:Nat} {f g:Nat->Int} (h:∀ s,s < n->f s=g s):mp n f=mp n g:=List.map_congr_left fun s hs=>h s (List.mem_range.mp hs)
theorem aCd {e i v:Nat} {vals:List Nat}:(mp (3*e) (gt2 e vals v i)).set i (gt2 e vals v i i+((v / 2 ^ i % 2:Nat):Int))=mp (3*e) (gt2 e vals v (i+1)):=by
 rw [aMb]
 refine sE fun s _=>?_
 unfold gt2
 by_cases h:s=i
 ·subst h
  rw [if_pos rfl,if_neg (by omega:¬ s < s),if_pos (by omega:s < s+1)]
  omega
 ·rw [if_neg h]
  by_cases h2:s < i
  ·rw [if_pos h2,if_pos (by omega:s < i+1)]
  ·rw [if_neg h2,if_neg (by omega:¬ s < i+1)]
theorem aGe {e v u:Nat} {vals:List Nat}:mp (3*e) (gt2 e vals v e)=mp (3*e) (gt2 e (vals++[v]) u 0):=by
 refine sE fun s _=>?_
 unfold gt2
 by_cases h:s < e
 ·simp [h]
 ·simp [h]
theorem aGa {l:List Int}:l=mp l.length fun s=>l.getD s 0:=by
 refine List.ext_getElem? fun s=>?_
 unfold mp
 by_cases h:s < l.length
 ·simp [h]
 ·simp [h]
theorem aBz {e v u n:Nat} {vals:List Nat}:mp n (gt2 e vals v 0)=mp n (gt2 e vals u 0):=sE fun s _=>by simp [gt2]
theorem yU {k v s:Nat}:bitAt (row 0 (bt k)) v s=if s < bt k then ((v / 2 ^ s % 2:Nat):Int) else 0:=by
 by_cases h:s < bt k
 ·rw [if_pos h]
  have:=pA (O:=row 0 (bt k)) (v:=v) (j:=s) (by
   have:=wX (k:=k) |>.nd
   exact (List.nodup_append.mp this).1) (by rw [mX]; exact h)
  rwa [show pl (row 0 (bt k)) s=s by simp [pl,row,List.getD,h]] at this
 ·rw [if_neg h]
  exact jJ (by simp [row]; omega)
theorem Brg.back {n:Int} {gs:List Int} {G S:Nat} {ds:List Dd} {f:Nat->Int} (hn:0 < n) (ok:∀ d∈ds,OkD n G S d) (h:Brg n gs S ds f):Brg n gs S (bDs n ds) fun s => -f s:=by
 intro cs hc hl s hs
 obtain ⟨c',hc'⟩:∃ c',c'=mp S fun s=>(cs.getD s 0 - f s) % n:=⟨_,rfl⟩
 have r':Rs n c':=by
  intro c h
  rw [hc'] at h
  obtain ⟨s,_,rfl⟩:=List.mem_map.mp h
  exact ⟨Int.emod_nonneg _ (by omega),Int.emod_lt_of_pos _ hn⟩
 have l':c'.length=S:=by rw [hc',fZ]
 have e:rn n gs ds c'=cs:=by
  refine vL (Rs.rn hn r') hc (by rw [cB,l',hl]) fun s hs=>?_
  rw [cB,l'] at hs
  refine (h c' r' l' s hs).trans ?_
  rw [hc',pP hs]
  exact (Cg.add Cg.mod Cg.rfl).trans (Cg.of_eq (by omega))
 have:=sJ (gs:=gs) (ds:=ds) hn r' (by rw [l']; exact ok)
 rw [e] at this
 rw [this,hc',pP hs]
 refine Cg.mod.trans (Cg.of_eq ?_)
 show _=_ + -f s
 omega
theorem vW {n:Int} {gs:List Int} {S:Nat} {ds:List Dd} {f:Nat->Int} {cs:List Int} (hn:0 < n) (h:Brg n gs S ds f) (cr:Rs n cs) (cl:cs.length=S):rn n gs ds cs=mp S fun s=>(cs.getD s 0+f s) % n:=by
 refine vL (Rs.rn hn cr) ?_ (by rw [cB,fZ,cl]) fun s hs=>?_
 ·intro c h
  obtain ⟨s,_,rfl⟩:=List.mem_map.mp h
  exact ⟨Int.emod_nonneg _ (by omega),Int.emod_lt_of_pos _ hn⟩
 rw [cB,cl] at hs
 rw [pP hs]
 exact (h cs cr cl s hs).trans Cg.mod.symm
theorem aIc {n:Int} {S:Nat} {f:Nat->Int} (hn:0 < n):Rs n (mp S fun s=>f s % n):=by
 intro c h
 obtain ⟨s,_,rfl⟩:=List.mem_map.mp h
 exact ⟨Int.emod_nonneg _ (by omega),Int.emod_lt_of_pos _ hn⟩
theorem brg2 {n:Int} {k lv:Nat} {t1 t2:T} {ds es:List Dd} {vs:List Nat} (hn:2<=n) (tb:TB n k (3*bt k) lv t1 (row 0 (bt k)) ds) (tc:TB n k (3*bt k) lv t2 (row 0 (bt k)) es) (vl:vs.length=lv) (hv:∀ v∈vs,v < k):Brg n (gInt (gvs k vs)) (3*bt k) (ds++es) (gt2 (bt k) [valT k vs t1,valT k vs t2] 0 0):=by
 refine Brg.cg (Brg.app (by omega) (tb vs _ vl hv xP) (tc vs _ vl hv xP)) fun s hs=>Cg.of_eq ?_
 rw [yU,yU]
 unfold gt2
 by_cases h:s < bt k
 ·simp [h]
 ·simp [h]
theorem yJ {n:Int} {S:Nat} {cs:List Int} {f:Nat->Int} {M:Mm} (hS:S<=9) {js:List (Option Nat)} {fi:FI} {L:Lc} {Q:W->Mm->Prop} (cl:cs.length=S) (k:Option Ck) (hk:∀ acc,Chk ⟨zipT (cs.map D.int) ((mp S f).map D.int),k⟩ (M++[acc]))
  (e:outL js L=[none,none,some (.d (.int n))]) (hi:Ok (fi L M) fun s M1=>s=⟨zipT (cs.map D.int) ((mp S f).map D.int),k⟩/\M1=M) (hn:2<=n)
  (q:Q (.d (.lst ((mp S fun s=>(cs.getD s 0+f s) % n).map D.int))) M):Ok (eComp js fi (gT 2 (gsCons (gN 0) (gsCons (gN 1) gsNil))) EV.tYes (e2 pMod (e2 pAdd (eV 0) (eV 1)) (eV 2)) L M) Q:=by
 refine bX (fun i acc L' M'=>acc=(mp i fun s=>(cs.getD s 0+f s) % n).map D.int/\M'=M/\∃ a1 a2,L'=[a1,a2,some (.d (.int n))]) ?_
 refine hi.mono ?_
 rintro _ _ ⟨rfl,rfl⟩
 have zl:(zipT (cs.map D.int) ((mp S f).map D.int)).length=S:=by simp [fQ,fZ,cl]
 refine ⟨⟨rfl,rfl,none,none,e⟩,?_,by rw [zl]; omega,?_,?_⟩
 ·rintro i acc L' M' hi ⟨rfl,rfl,_⟩
  exact ⟨rfl,hk _,by simp [fZ]⟩
 ·rintro i d acc _ M' hx ⟨rfl,rfl,a1,a2,rfl⟩
  obtain ⟨x,y,hx1,hx2,rfl⟩:=iY hx
  rw [List.getElem?_map,Option.map_eq_some_iff] at hx1 hx2
  obtain ⟨u,hu,rfl⟩:=hx1
  obtain ⟨v,hv,rfl⟩:=hx2
  have hi:i < S:=by rw [<- cl]; exact (List.getElem?_eq_some_iff.mp hu).1
  have eu:cs.getD i 0=u:=by simp [List.getD,hu]
  have ev:f i=v:=by rw [<- pP (f:=f) hi]; simp [List.getD,hv]
  clean_wf
  refine ⟨_,_,rfl,rfl,?_,rfl,_,_,rfl⟩
  rw [<- eu,<- ev]
  simp [mp,List.range_succ]
 rintro acc _ M' ⟨rfl,rfl,_⟩
 rw [zl]
 exact q
theorem aHr {n:Int} {S:Nat} {cs:List Int} {f:Nat->Int} {M:Mm} (hS:S<=9) {js:List (Option Nat)} {fi:FI} {L:Lc} {Q:W->Mm->Prop} (cl:cs.length=S) (k:Option Ck) (hk:∀ acc,Chk ⟨zipT (cs.map D.int) ((mp S f).map D.int),k⟩ (M++[acc]))
  (e:outL js L=[none,none,some (.d (.int n))]) (hi:Ok (fi L M) fun s M1=>s=⟨zipT (cs.map D.int) ((mp S f).map D.int),k⟩/\M1=M) (hn:2<=n)
  (q:Q (.d (.lst ((mp S fun s=>(cs.getD s 0 - f s) % n).map D.int))) M):Ok (eComp js fi (gT 2 (gsCons (gN 0) (gsCons (gN 1) gsNil))) EV.tYes (e2 pMod (e2 pSub (eV 0) (eV 1)) (eV 2)) L M) Q:=by
 refine bX (fun i acc L' M'=>acc=(mp i fun s=>(cs.getD s 0 - f s) % n).map D.int/\M'=M/\∃ a1 a2,L'=[a1,a2,some (.d (.int n))]) ?_
 refine hi.mono ?_
 rintro _ _ ⟨rfl,rfl⟩
 have zl:(zipT (cs.map D.int) ((mp S f).map D.int)).length=S:=by simp [fQ,fZ,cl]
 refine ⟨⟨rfl,rfl,none,none,e⟩,?_,by rw [zl]; omega,?_,?_⟩
 ·rintro i acc L' M' hi ⟨rfl,rfl,_⟩
  exact ⟨rfl,hk _,by simp [fZ]⟩
 ·rintro i d acc _ M' hx ⟨rfl,rfl,a1,a2,rfl⟩
  obtain ⟨x,y,hx1,hx2,rfl⟩:=iY hx
  rw [List.getElem?_map,Option.map_eq_some_iff] at hx1 hx2
  obtain ⟨u,hu,rfl⟩:=hx1
  obtain ⟨v,hv,rfl⟩:=hx2
  have hi:i < S:=by rw [<- cl]; exact (List.getElem?_eq_some_iff.mp hu).1
  have eu:cs.getD i 0=u:=by simp [List.getD,hu]
  have ev:f i=v:=by rw [<- pP (f:=f) hi]; simp [List.getD,hv]
  clean_wf
  refine ⟨_,_,rfl,rfl,?_,rfl,_,_,rfl⟩
  rw [<- eu,<- ev]
  simp [mp,List.range_succ]
 rintro acc _ M' ⟨rfl,rfl,_⟩
 rw [zl]
 exact q
theorem aLe (ns:List Int) (hn:ns.length<=63):Ok (nO [.d (.fz (ns.map D.int))] []) fun w _=>w=.d (.bl true):=by
 unfold nO
 refine bK rfl ?_
 unfold b_law
 clean_wf
 refine (nG (by omega) hn).mono ?_
 rintro _ _ ⟨x,y,z,rfl,rfl⟩
 have hb:Bx ([]++[[.int x,.int y,.int z]]) 0:=⟨x,y,z,by simp⟩
 have n:=Nx.refl hb
 clean_wf
 (refine (bM hb (by omega) (by omega)).mono ?_; rintro _ _ ⟨d1,rfl,l_d1,u_d1,n'⟩; replace n:=n.trans n'; replace hb:=n'.bx hb; clear n')
 clean_wf
 obtain ⟨k,hk⟩:∃ k:Nat,2+d1=k:=⟨(2+d1).toNat,by omega⟩
 rw [hk]
 have k2:2<=k:=by omega
 have k4:k<=4:=by omega
 have krm:k<=rm k:=by unfold rm; split <;> omega
 obtain ⟨q1,q2,q3⟩:=qb (k:=k)
 obtain ⟨lv,hlv,hlv2⟩:∃ lv:Nat,(8:Int) / ((bt k:Nat):Int)=lv/\bt k*lv=8:=by
  rcases q3 with h | h <;> rw [h]
  ·exact ⟨8,rfl,rfl⟩
  ·exact ⟨4,rfl,rfl⟩
 have lv1:1<=lv/\lv<=8:=by rcases q3 with h | h <;> rw [h] at hlv2 <;> omega
 clean_wf
 refine dZ (at2I _ _ _) ?_
 rw [aMm k2]
 clean_wf
 refine (zB hb k2).mono ?_
 rintro _ M1 ⟨⟨m,rfl,gd⟩,n'⟩
 clear n' n hb
 obtain ⟨h,hh,h3,hLB⟩:∃ h:Nat,(if decide ((k:Int) > 2)=true then (1:Int) else 2)=h/\h<=2/\LB k h<=5000:=by
  by_cases e:k=2
  ·subst e
   exact ⟨2,rfl,by omega,by decide⟩
  ·refine ⟨1,by rw [if_pos (by simp; omega)]; rfl,by omega,?_⟩
   simp only [LB,ord,bt,qOf,if_neg e]
   decide
 clean_wf
 refine bX (fun i acc L' M'=>∃ ts:List T,acc=ts.map encT/\ts.length=i/\(∀ t∈ts,okT k lv t/\hT t<=h)/\M'=M1/\∃ a,L'=[a,some (.d (.int k)),some (.d (.fz (ns.map D.int))),some (.d (.int (bt k:Nat)))]) ?_
 clean_wf
 refine ⟨by decide,⟨[],rfl,rfl,(fun _ h=>by cases h),rfl,none,rfl⟩,?_,by simp [rngD],?_,?_⟩
 ·rintro i acc L' M' hi ⟨ts,rfl,hl,_,rfl,_⟩
  exact ⟨rfl,(fun t e=>by cases e),by simp [hl]⟩
 ·rintro i d acc _ M' hx ⟨ts,rfl,hl,ok,rfl,a,rfl⟩
  obtain ⟨hi,rfl⟩:=cO hx
  have hi:i < 2:=by simpa using hi
  clean_wf
  refine (nG (by omega) hn).mono ?_
  rintro _ _ ⟨x,y,z,rfl,rfl⟩
  have hb:Bx (M'++[ts.map encT]++[[.int x,.int y,.int z]]) (M'++[ts.map encT]).length:=⟨x,y,z,by simp⟩
  clean_wf
  refine dZ (at2I _ _ _) ?_
  rw [hh]
  clean_wf
  rw [hlv]
  refine (zP k2 k4 lv1.1 lv1.2 h 50 _ _ hb (by omega) (by omega)).mono ?_
  rintro _ M2 ⟨t,rfl,th,tok,n'⟩
  clean_wf
  rw [zG n']
  refine ⟨_,_,rfl,rfl,ts++[t],by simp,by simp [hl],?_,rfl,_,rfl⟩
  intro u hu
  rcases List.mem_append.mp hu with hu | hu
  ·exact ok u hu
  ·rw [List.mem_singleton.mp hu]; exact ⟨tok,th⟩
 rintro acc _ M2 ⟨ts,rfl,hl,ok,rfl,_⟩
 have hl:ts.length=2:=by simpa [rngD] using hl
 match ts,hl with
 | [t1,t2],_ =>
 obtain ⟨ok1,h1⟩:=ok t1 (by simp)
 obtain ⟨ok2,h2⟩:=ok t2 (by simp)
 have m2:=gd.n2
 have m1:m<=1000000:=by have:=gd.n1; omega
 simp only [List.map_cons,List.map_nil]
 clean_wf
 refine (fT gd krm (by omega) ok1 (by omega) (Nat.le_trans (qE h1) hLB)).mono ?_
 rintro _ M2 ⟨⟨ds,rfl,okd,ld,tb⟩,rfl⟩
 clean_wf
 refine (fT gd krm (by omega) ok2 (by omega) (Nat.le_trans (qE h2) hLB)).mono ?_
 rintro _ M2 ⟨⟨es,rfl,oke,le,tc⟩,rfl⟩
 clean_wf
 refine (uE (G:=8) (G':=8) (by omega)).mono ?_
 rintro _ M2 ⟨rfl,rfl⟩
 rw [Nat.max_self,Nat.max_self]
 have okb:=eF okd oke
 clean_wf
 refine (nG (by omega) hn).mono ?_
 rintro _ _ ⟨x',y',z',rfl,rfl⟩
 have hb:Bx (M2++[[.int x',.int y',.int z']]) M2.length:=⟨x',y',z',by simp⟩
 clean_wf
 refine qB hb (k:=(lv:Int)) (m:=(k:Int)) (by omega) (by omega) (by omega) (by omega) rfl ?_ ?_
 ·clean_wf
  rw [hlv]
  exact ⟨by simp only [in62,decide_eq_true_eq]; omega,rfl,rfl⟩
 intro vs M3 vl vr n2 hb2
 have vl:vs.length=lv:=by omega
 have vr:∀ v∈vs,v < k:=fun v hv=>by have:=vr v hv; omega
 clean_wf
 refine cX (xs:=vs.map fun x=>.int (x:Nat)) rfl ?_
 rw [show D.tup (vs.map fun x=>.int (x:Nat))=natsD vs from rfl]
 clean_wf
 rw [show (3:Int)*((bt k:Nat):Int)=((3*bt k:Nat):Int) by simp]
 refine (oF hb2 m2 m1 (by omega) (by omega)).mono ?_
 rintro _ M4 ⟨cs,rfl,cl,cr,n3⟩
 have hb3:=n3.bx hb2
 have cl:cs.length=3*bt k:=by omega
 clean_wf
 rw [show (3:Int)*((bt k:Nat):Int)=((3*bt k:Nat):Int) by simp]
 refine (oF hb3 m2 m1 (by omega) (by omega)).mono ?_
 rintro _ M5 ⟨ms,rfl,ml,mr,_⟩
 have ml:ms.length=3*bt k:=by omega
 clean_wf
 refine (qW k2 (by rw [vl,hlv2])).mono ?_
 rintro _ M5 ⟨rfl,rfl⟩
 have gl:(gInt (gvs k vs)).length=8:=by rw [gInt,List.length_map,kQ,vl,hlv2]
 have gr:Rs m (gInt (gvs k vs)):=aMd m2
 have hbt:bt k<=2:=by omega
 clean_wf
 rw [show (3:Int)*((bt k:Nat):Int)=((3*bt k:Nat):Int) by simp]
 refine xJ (xs:=[.int 0]) rfl ⟨by simp; omega,by omega,by omega⟩ ?_
 have e0:(List.replicate ((3*bt k:Nat):Int).toNat [D.int 0]).flatten=(mp (3*bt k) (gt2 (bt k) [] 0 0)).map D.int:=by
  rw [Int.toNat_natCast,List.flatten_replicate_singleton]
  refine List.ext_getElem? fun s=>?_
  by_cases h:s < 3*bt k
  ·simp [mp,gt2,h]
  ·simp [mp,h]
 rw [e0]
 clean_wf
 refine cE (fun j L M'=>M'=M5++[(mp (3*bt k) (gt2 (bt k) (([t1,t2].take j).map (valT k vs)) 0 0)).map D.int]/\∃ o12 o13 o14,L=[some (.d (.fz (ns.map D.int))),some (.ref M2.length),some (.d (.int k)),some (.d (.int (bt k:Nat))),some (.d (.int m)),some (.d (.lst [encT t1,encT t2])),some (.d (encP m (8:Nat) (3*bt k:Nat) (ds++es))),some (.d (natsD vs)),some (.d (intsD cs)),some (.d (intsD ms)),some (.d (intsD (gInt (gvs k vs)))),some (.ref M5.length),o12,o13,o14,none,none,none]) ⟨rfl,none,none,none,rfl⟩ (fun i L M _ _ t e=>by cases e) ?_ ?_
 ·rintro j d _ _ hd ⟨rfl,o12,o13,o14,rfl⟩
  obtain ⟨t,et,okt,rfl⟩:∃ t,[t1,t2][j]?=some t/\(okT k lv t/\hT t<=h)/\d=encT t:=by
   match j,hd with
   | 0,hd=>exact ⟨t1,rfl,⟨ok1,h1⟩,by simpa using hd.symm⟩
   | 1,hd=>exact ⟨t2,rfl,⟨ok2,h2⟩,by simpa using hd.symm⟩
  obtain ⟨vals,hvals⟩:∃ vals,vals=([t1,t2].take j).map (valT k vs):=⟨_,rfl⟩
  have hnext:([t1,t2].take (j+1)).map (valT k vs)=vals++[valT k vs t]:=by rw [List.take_add_one,et,hvals]; simp
  rw [<- hvals,hnext]
  clean_wf
  refine (kM k2 k4 vl vr t 50 _ okt.1 (by omega)).mono ?_
  rintro _ _ ⟨rfl,rfl⟩
  clean_wf
  refine (mG hbt).mono ?_
  rintro _ _ ⟨rfl,rfl⟩
  refine ⟨_,rfl,?_⟩
  refine cE (fun i L M'=>M'=M5++[(mp (3*bt k) (gt2 (bt k) vals (valT k vs t) i)).map D.int]/\∃ o13 o14,L=[some (.d (.fz (ns.map D.int))),some (.ref M2.length),some (.d (.int k)),some (.d (.int (bt k:Nat))),some (.d (.int m)),some (.d (.lst [encT t1,encT t2])),some (.d (encP m (8:Nat) (3*bt k:Nat) (ds++es))),some (.d (natsD vs)),some (.d (intsD cs)),some (.d (intsD ms)),some (.d (intsD (gInt (gvs k vs)))),some (.ref M5.length),some (.d (encT t)),o13,o14,none,none,none]) ⟨by rw [aBz],_,_,rfl⟩ (fun i L M _ _ t e=>by cases e) ?_ ?_
  ·rintro i d _ _ hx ⟨rfl,o13,o14,rfl⟩
   obtain ⟨x,hx1,rfl⟩:=gD hx
   have hi:i < bt k:=by
    have:=(List.getElem?_eq_some_iff.mp hx1).1
    simpa [btsOf] using this
   have ex:x=.int ((valT k vs t / 2 ^ i % 2:Nat):Int):=by
    simpa [btsOf,hi] using hx1.symm
   subst ex
   have gM:(M5++[(mp (3*bt k) (gt2 (bt k) vals (valT k vs t) i)).map D.int])[M5.length]?=some ((mp (3*bt k) (gt2 (bt k) vals (valT k vs t) i)).map D.int):=by simp
   rw [show (0:Int)+(i:Nat)=(i:Nat) by omega]
   clean_wf
   refine iC gM (gY (by rw [fZ]; omega)) ?_
   rw [pP (by omega)]
   clean_wf
   refine ⟨_,_,_,i,rfl,rfl,gM,by rw [List.length_map,fZ]; exact mR (by omega),?_⟩
   refine ⟨?_,_,_,rfl⟩
   rw [qT,aCd]
   simp
  ·rintro _ _ ⟨rfl,o13',o14',rfl⟩
   rw [show (enumT 0 ((btsOf (valT k vs t) (bt k)).map fun x=>D.int (x:Nat))).length=bt k by simp [cM,btsOf],aGe (u:=0)]
   exact ⟨rfl,_,_,_,rfl⟩
 rintro _ _ ⟨rfl,o12,o13,o14,rfl⟩
 rw [show ([t1,t2].take ([encT t1,encT t2].length)).map (valT k vs)=[valT k vs t1,valT k vs t2] from rfl]
 have B:=brg2 m2 tb tc vl vr
 have BB:=Brg.back (by omega) okb B
 generalize gt2 (bt k) [valT k vs t1,valT k vs t2] 0 0=f at B BB
 generalize hMM:M5++[(mp (3*bt k) f).map D.int]=MM
 have gM:∀ acc:List (List D),(MM++acc)[M5.length]?=some ((mp (3*bt k) f).map D.int):=by intro acc; rw [<- hMM]; simp
 have gM0:MM[M5.length]?=some ((mp (3*bt k) f).map D.int):=by simpa using gM []
 have okc:∀ d∈bDs m (ds++es),OkD m 8 (3*bt k) d:=OkD.backs (by omega) okb
 clean_wf
 refine (jW (G:=(8:Nat)) (S:=(3*bt k:Nat)) (ds:=ds++es) m2 m1 gr cr (by rw [gl,cl]; exact okb) (by omega)).mono ?_
 rintro _ _ ⟨rfl,rfl⟩
 rw [vW (by omega) B cr cl]
 clean_wf
 refine yJ (S:=3*bt k) (cs:=cs) (f:=f) (by omega) cl (some (.two M5.length ((mp (3*bt k) f).map D.int))) (fun acc t e=>by cases e; exact gM _) rfl ?_ m2 ?_
 ·refine uM ?_
  clean_wf
  exact ⟨cs.map D.int,M5.length,mp (3*bt k) f,rfl,rfl,gM0,rfl,rfl⟩
 clean_wf
 refine cX (xs:=(mp (3*bt k) fun s=>(cs.getD s 0+f s) % m).map D.int) rfl ?_
 refine aCz (a:=intsD _) rfl rfl rfl (iV _) ?_
 clean_wf
 refine (lY m2 m1 okb (by simp; omega)).mono ?_
 rintro _ _ ⟨rfl,rfl⟩
 obtain ⟨fs,hfs⟩:∃ fs,fs=mp (3*bt k) fun s=>(cs.getD s 0+f s) % m:=⟨_,rfl⟩
 have fr:Rs m fs:=by rw [hfs]; exact aIc (by omega)
 have fl:fs.length=3*bt k:=by rw [hfs,fZ]
 have fe:rn m (gInt (gvs k vs)) (ds++es) cs=fs:=by rw [hfs]; exact vW (by omega) B cr cl
 have fb:rn m (gInt (gvs k vs)) (bDs m (ds++es)) fs=cs:=by rw [<- fe]; exact sJ (G:=8) (by omega) cr (by rw [cl]; exact okb)
 rw [<- hfs]
 clean_wf
 refine (jW (G:=(8:Nat)) (S:=(3*bt k:Nat)) (ds:=bDs m (ds++es)) m2 m1 gr fr (by rw [gl,fl]; exact okc) (by omega)).mono ?_
 rintro _ _ ⟨rfl,rfl⟩
 rw [fb]
 clean_wf
 refine aCz (a:=intsD _) rfl rfl rfl (iV _) ?_
 clean_wf
 obtain ⟨mf,hmf⟩:∃ mf:Nat->Int,ms=mp (3*bt k) mf:=⟨fun s=>ms.getD s 0,by rw [<- ml]; exact aGa⟩
 refine yJ (S:=3*bt k) (cs:=fs) (f:=mf) (by omega) fl none (fun acc t e=>by cases e) rfl ?_ m2 ?_
 ·refine sA ?_
  clean_wf
  exact ⟨fs.map D.int,ms.map D.int,rfl,rfl,by rw [hmf],rfl⟩
 clean_wf
 refine cX (xs:=(mp (3*bt k) fun s=>(fs.getD s 0+mf s) % m).map D.int) rfl ?_
 obtain ⟨ch,hch⟩:∃ ch,ch=mp (3*bt k) fun s=>(fs.getD s 0+mf s) % m:=⟨_,rfl⟩
 have cr':Rs m ch:=by rw [hch]; exact aIc (by omega)
 have cl':ch.length=3*bt k:=by rw [hch,fZ]
 rw [<- hch,show D.tup (ch.map D.int)=intsD ch from rfl]
 clean_wf
 refine (jW (G:=(8:Nat)) (S:=(3*bt k:Nat)) (ds:=bDs m (ds++es)) m2 m1 gr cr' (by rw [gl,cl']; exact okc) (by omega)).mono ?_
 rintro _ _ ⟨rfl,rfl⟩
 rw [vW (by omega) BB cr' cl']
 clean_wf
 refine aHr (S:=3*bt k) (cs:=ch) (f:=f) (by omega) cl' (some (.two M5.length ((mp (3*bt k) f).map D.int))) (fun acc t e=>by cases e; exact gM _) rfl ?_ m2 ?_
 ·refine uM ?_
  clean_wf
  exact ⟨ch.map D.int,M5.length,mp (3*bt k) f,rfl,rfl,gM0,rfl,rfl⟩
 clean_wf
 refine cX (xs:=(mp (3*bt k) fun s=>(ch.getD s 0 - f s) % m).map D.int) rfl ?_
 refine aKe (a:=intsD _) rfl rfl ?_ (iV _) ?_
 ·show intsD _=intsD _
  congr 1
 clean_wf
 rfl
theorem aBr (ns:List Int) (hn:ns.length<=63):∃ M',nO [.d (.fz (ns.map D.int))] []=.ok (.d (.bl true)) M':=by
 obtain ⟨_,M,e,rfl⟩:=lD.mp (aLe ns hn)
 exact ⟨M,e⟩
theorem aLf {l:PySem.W.OpenLaw} {w:World} {K:PySem.W.Frag} {h:Heap} {mg:Str->Option Value} {fa:Addr} {f1 f2 f3 f4 f5 f6 f7 f8 f9 f10 f11 f12 f13 f14 f15 f16 f17 dt17 f18 f19 f20 f21 f22 f23 f24 f25 f26 f27 f28 f29 f30 f31 f32 f33 f34:Addr} {od1 an1 od2 an2 od3 an3 od4 an4 od5 an5 od6 an6 od7 an7 od8 an8 od9 an9 od10 an10 od11 an11 od12 an12 od13 an13 od14 an14 od15 an15 od16 an16 od17 an17 dd17 od18 an18 od19 an19 od20 an20 od21 an21 od22 an22 od23 an23 od24 an24 od25 an25 od26 an26 od27 an27 od28 an28 od29 an29 od30 an30 od31 an31 od32 an32 od33 an33 od34 an34:Option Addr} {sl1 sl2 sl3 sl4 sl5 sl6 sl7 sl8 sl9 sl10 sl11 sl12 sl13 sl14 sl15 sl16 sl17 ds17 sl18 sl19 sl20 sl21 sl22 sl23 sl24 sl25 sl26 sl27 sl28 sl29 sl30 sl31 sl32 sl33 sl34:Array (Option Value)} {oc1 kV1 dc1 pm1 cd1 ct1 oc2 kV2 dc2 pm2 cd2 ct2 oc3 kV3 dc3 pm3 cd3 ct3 oc4 kV4 dc4 pm4 cd4 ct4 oc5 kV5 dc5 pm5 cd5 ct5 oc6 kV6 dc6 pm6 cd6 ct6 oc7 kV7 dc7 pm7 cd7 ct7 oc8 kV8 dc8 pm8 cd8 ct8 oc9 kV9 dc9 pm9 cd9 ct9 oc10 kV10 dc10 pm10 cd10 ct10 oc11 kV11 dc11 pm11 cd11 ct11 oc12 kV12 dc12 pm12 cd12 ct12 oc13 kV13 dc13 pm13 cd13 ct13 oc14 kV14 dc14 pm14 cd14 ct14 oc15 kV15 dc15 pm15 cd15 ct15 oc16 kV16 dc16 pm16 cd16 ct16 oc17 kV17 dc17 pm17 cd17 ct17 dc017 oc18 kV18 dc18 pm18 cd18 ct18 oc19 kV19 dc19 pm19 cd19 ct19 oc20 kV20 dc20 pm20 cd20 ct20 oc21 kV21 dc21 pm21 cd21 ct21 oc22 kV22 dc22 pm22 cd22 ct22 oc23 kV23 dc23 pm23 cd23 ct23 oc24 kV24 dc24 pm24 cd24 ct24 oc25 kV25 dc25 pm25 cd25 ct25 oc26 kV26 dc26 pm26 cd26 ct26 oc27 kV27 dc27 pm27 cd27 ct27 oc28 kV28 dc28 pm28 cd28 ct28 oc29 kV29 dc29 pm29 cd29 ct29 oc30 kV30 dc30 pm30 cd30 ct30 oc31 kV31 dc31 pm31 cd31 ct31 oc32 kV32 dc32 pm32 cd32 ct32 oc33 kV33 dc33 pm33 cd33 ct33 oc34 kV34 dc34 pm34 cd34 ct34:Value} {dk17:Tok} {dn17:Nat} (X:K.In h) (G:h.Ns mainGlobals mg) (hfa:mg "law"=some (.ref fa))
  (a1:PySem.W.nsIn K mainGlobals "inverse"=some (some (.ref f1)))
  (l1:K.lookup f1=some ⟨oc1,od1,.func (PySem.W.fnOf "inverse" "inverse" (defArgs cW) (defBody cW) (defScope cW) .none kV1 dc1 pm1 an1 cd1 ct1),sl1⟩)
  (c1:PySem.W.codeIn K cd1 "inverse"=true)
  (k1:PySem.W.keepIn K (.ref f1)=true)
  (a2:PySem.W.nsIn K mainGlobals "power"=some (some (.ref f2)))
  (l2:K.lookup f2=some ⟨oc2,od2,.func (PySem.W.fnOf "power" "power" (defArgs eM) (defBody eM) (defScope eM) .none kV2 dc2 pm2 an2 cd2 ct2),sl2⟩)
  (c2:PySem.W.codeIn K cd2 "power"=true)
  (k2:PySem.W.keepIn K (.ref f2)=true)
  (a3:PySem.W.nsIn K mainGlobals "turned_back"=some (some (.ref f3)))
  (l3:K.lookup f3=some ⟨oc3,od3,.func (PySem.W.fnOf "turned_back" "turned_back" (defArgs bB) (defBody bB) (defScope bB) .none kV3 dc3 pm3 an3 cd3 ct3),sl3⟩)
  (c3:PySem.W.codeIn K cd3 "turned_back"=true)
  (k3:PySem.W.keepIn K (.ref f3)=true)
  (a4:PySem.W.nsIn K mainGlobals "deeds_back"=some (some (.ref f4)))
  (l4:K.lookup f4=some ⟨oc4,od4,.func (PySem.W.fnOf "deeds_back" "deeds_back" (defArgs bC) (defBody bC) (defScope bC) .none kV4 dc4 pm4 an4 cd4 ct4),sl4⟩)
  (c4:PySem.W.codeIn K cd4 "deeds_back"=true)
  (k4:PySem.W.keepIn K (.ref f4)=true)
  (a5:PySem.W.nsIn K mainGlobals "deed_back"=some (some (.ref f5)))
  (l5:K.lookup f5=some ⟨oc5,od5,.func (PySem.W.fnOf "deed_back" "deed_back" (defArgs bU) (defBody bU) (defScope bU) .none kV5 dc5 pm5 an5 cd5 ct5),sl5⟩)
  (c5:PySem.W.codeIn K cd5 "deed_back"=true)
  (k5:PySem.W.keepIn K (.ref f5)=true)
  (a6:PySem.W.nsIn K mainGlobals "behind"=some (some (.ref f6)))
  (l6:K.lookup f6=some ⟨oc6,od6,.func (PySem.W.fnOf "behind" "behind" (defArgs dP) (defBody dP) (defScope dP) .none kV6 dc6 pm6 an6 cd6 ct6),sl6⟩)
  (c6:PySem.W.codeIn K cd6 "behind"=true)
  (k6:PySem.W.keepIn K (.ref f6)=true)
  (a7:PySem.W.nsIn K mainGlobals "is_root"=some (some (.ref f7)))
  (l7:K.lookup f7=some ⟨oc7,od7,.func (PySem.W.fnOf "is_root" "is_root" (defArgs cQ) (defBody cQ) (defScope cQ) .none kV7 dc7 pm7 an7 cd7 ct7),sl7⟩)
  (c7:PySem.W.codeIn K cd7 "is_root"=true)
  (k7:PySem.W.keepIn K (.ref f7)=true)
  (a8:PySem.W.nsIn K mainGlobals "root"=some (some (.ref f8)))
  (l8:K.lookup f8=some ⟨oc8,od8,.func (PySem.W.fnOf "root" "root" (defArgs gB) (defBody gB) (defScope gB) .none kV8 dc8 pm8 an8 cd8 ct8),sl8⟩)
  (c8:PySem.W.codeIn K cd8 "root"=true)
  (k8:PySem.W.keepIn K (.ref f8)=true)
  (a9:PySem.W.nsIn K mainGlobals "root_of"=some (some (.ref f9)))
  (l9:K.lookup f9=some ⟨oc9,od9,.func (PySem.W.fnOf "root_of" "root_of" (defArgs cU) (defBody cU) (defScope cU) .none kV9 dc9 pm9 an9 cd9 ct9),sl9⟩)
  (c9:PySem.W.codeIn K cd9 "root_of"=true)
  (k9:PySem.W.keepIn K (.ref f9)=true)
  (a10:PySem.W.nsIn K mainGlobals "rounds_by"=some (some (.ref f10)))
  (l10:K.lookup f10=some ⟨oc10,od10,.func (PySem.W.fnOf "rounds_by" "rounds_by" (defArgs bH) (defBody bH) (defScope bH) .none kV10 dc10 pm10 an10 cd10 ct10),sl10⟩)
  (c10:PySem.W.codeIn K cd10 "rounds_by"=true)
  (k10:PySem.W.keepIn K (.ref f10)=true)
  (a11:PySem.W.nsIn K mainGlobals "bits"=some (some (.ref f11)))
  (l11:K.lookup f11=some ⟨oc11,od11,.func (PySem.W.fnOf "bits" "bits" (defArgs fW) (defBody fW) (defScope fW) .none kV11 dc11 pm11 an11 cd11 ct11),sl11⟩)
  (c11:PySem.W.codeIn K cd11 "bits"=true)
  (k11:PySem.W.keepIn K (.ref f11)=true)
  (a12:PySem.W.nsIn K mainGlobals "polynomials"=some (some (.ref f12)))
  (l12:K.lookup f12=some ⟨oc12,od12,.func (PySem.W.fnOf "polynomials" "polynomials" (defArgs aV) (defBody aV) (defScope aV) .none kV12 dc12 pm12 an12 cd12 ct12),sl12⟩)
  (c12:PySem.W.codeIn K cd12 "polynomials"=true)
  (k12:PySem.W.keepIn K (.ref f12)=true)
  (a13:PySem.W.nsIn K mainGlobals "polynomial"=some (some (.ref f13)))
  (l13:K.lookup f13=some ⟨oc13,od13,.func (PySem.W.fnOf "polynomial" "polynomial" (defArgs aZ) (defBody aZ) (defScope aZ) .none kV13 dc13 pm13 an13 cd13 ct13),sl13⟩)
  (c13:PySem.W.codeIn K cd13 "polynomial"=true)
  (k13:PySem.W.keepIn K (.ref f13)=true)
  (a14:PySem.W.nsIn K mainGlobals "bit_row"=some (some (.ref f14)))
  (l14:K.lookup f14=some ⟨oc14,od14,.func (PySem.W.fnOf "bit_row" "bit_row" (defArgs cV) (defBody cV) (defScope cV) .none kV14 dc14 pm14 an14 cd14 ct14),sl14⟩)
  (c14:PySem.W.codeIn K cd14 "bit_row"=true)
  (k14:PySem.W.keepIn K (.ref f14)=true)
  (a15:PySem.W.nsIn K mainGlobals "term_numbers"=some (some (.ref f15)))
  (l15:K.lookup f15=some ⟨oc15,od15,.func (PySem.W.fnOf "term_numbers" "term_numbers" (defArgs aU) (defBody aU) (defScope aU) .none kV15 dc15 pm15 an15 cd15 ct15),sl15⟩)
  (c15:PySem.W.codeIn K cd15 "term_numbers"=true)
  (k15:PySem.W.keepIn K (.ref f15)=true)
  (a16:PySem.W.nsIn K mainGlobals "places_of"=some (some (.ref f16)))
  (l16:K.lookup f16=some ⟨oc16,od16,.func (PySem.W.fnOf "places_of" "places_of" (defArgs bO) (defBody bO) (defScope bO) .none kV16 dc16 pm16 an16 cd16 ct16),sl16⟩)
  (c16:PySem.W.codeIn K cd16 "places_of"=true)
  (k16:PySem.W.keepIn K (.ref f16)=true)
  (a17:PySem.W.nsIn K mainGlobals "tree_program"=some (some (.ref f17)))
  (l17:K.lookup f17=some ⟨oc17,od17,.func (PySem.W.fnOf "tree_program" "tree_program" (defArgs aR) (defBody aR) (defScope aR) (.ref dt17) kV17 dc17 pm17 an17 cd17 ct17),sl17⟩)
  (c17:PySem.W.codeIn K cd17 "tree_program"=true)
  (k17:PySem.W.keepIn K (.ref f17)=true)
  (t17:K.lookup dt17=some ⟨dc017,dd17,.seq #[.int 5000 dk17] dn17,ds17⟩)
  (a18:PySem.W.nsIn K mainGlobals "order"=some (some (.ref f18)))
  (l18:K.lookup f18=some ⟨oc18,od18,.func (PySem.W.fnOf "order" "order" (defArgs eQ) (defBody eQ) (defScope eQ) .none kV18 dc18 pm18 an18 cd18 ct18),sl18⟩)
  (c18:PySem.W.codeIn K cd18 "order"=true)
  (k18:PySem.W.keepIn K (.ref f18)=true)
  (a19:PySem.W.nsIn K mainGlobals "tree_deeds"=some (some (.ref f19)))
  (l19:K.lookup f19=some ⟨oc19,od19,.func (PySem.W.fnOf "tree_deeds" "tree_deeds" (defArgs bE) (defBody bE) (defScope bE) .none kV19 dc19 pm19 an19 cd19 ct19),sl19⟩)
  (c19:PySem.W.codeIn K cd19 "tree_deeds"=true)
  (k19:PySem.W.keepIn K (.ref f19)=true)
  (a20:PySem.W.nsIn K mainGlobals "tree_row"=some (some (.ref f20)))
  (l20:K.lookup f20=some ⟨oc20,od20,.func (PySem.W.fnOf "tree_row" "tree_row" (defArgs bW) (defBody bW) (defScope bW) .none kV20 dc20 pm20 an20 cd20 ct20),sl20⟩)
  (c20:PySem.W.codeIn K cd20 "tree_row"=true)
  (k20:PySem.W.keepIn K (.ref f20)=true)
  (a21:PySem.W.nsIn K mainGlobals "bringers_to"=some (some (.ref f21)))
  (l21:K.lookup f21=some ⟨oc21,od21,.func (PySem.W.fnOf "bringers_to" "bringers_to" (defArgs aW) (defBody aW) (defScope aW) .none kV21 dc21 pm21 an21 cd21 ct21),sl21⟩)
  (c21:PySem.W.codeIn K cd21 "bringers_to"=true)
  (k21:PySem.W.keepIn K (.ref f21)=true)
  (a22:PySem.W.nsIn K mainGlobals "table_deeds"=some (some (.ref f22)))
  (l22:K.lookup f22=some ⟨oc22,od22,.func (PySem.W.fnOf "table_deeds" "table_deeds" (defArgs aX) (defBody aX) (defScope aX) .none kV22 dc22 pm22 an22 cd22 ct22),sl22⟩)
  (c22:PySem.W.codeIn K cd22 "table_deeds"=true)
  (k22:PySem.W.keepIn K (.ref f22)=true)
  (a23:PySem.W.nsIn K mainGlobals "_law_box"=some (some (.ref f23)))
  (l23:K.lookup f23=some ⟨oc23,od23,.func (PySem.W.fnOf "_law_box" "_law_box" (defArgs eS) (defBody eS) (defScope eS) .none kV23 dc23 pm23 an23 cd23 ct23),sl23⟩)
  (c23:PySem.W.codeIn K cd23 "_law_box"=true)
  (k23:PySem.W.keepIn K (.ref f23)=true)
  (a24:PySem.W.nsIn K mainGlobals "_law_take"=some (some (.ref f24)))
  (l24:K.lookup f24=some ⟨oc24,od24,.func (PySem.W.fnOf "_law_take" "_law_take" (defArgs dI) (defBody dI) (defScope dI) .none kV24 dc24 pm24 an24 cd24 ct24),sl24⟩)
  (c24:PySem.W.codeIn K cd24 "_law_take"=true)
  (k24:PySem.W.keepIn K (.ref f24)=true)
  (a25:PySem.W.nsIn K mainGlobals "_law_rest"=some (some (.ref f25)))
  (l25:K.lookup f25=some ⟨oc25,od25,.func (PySem.W.fnOf "_law_rest" "_law_rest" (defArgs dG) (defBody dG) (defScope dG) .none kV25 dc25 pm25 an25 cd25 ct25),sl25⟩)
  (c25:PySem.W.codeIn K cd25 "_law_rest"=true)
  (k25:PySem.W.keepIn K (.ref f25)=true)
  (a26:PySem.W.nsIn K mainGlobals "_law_rests"=some (some (.ref f26)))
  (l26:K.lookup f26=some ⟨oc26,od26,.func (PySem.W.fnOf "_law_rests" "_law_rests" (defArgs cG) (defBody cG) (defScope cG) .none kV26 dc26 pm26 an26 cd26 ct26),sl26⟩)
  (c26:PySem.W.codeIn K cd26 "_law_rests"=true)
  (k26:PySem.W.keepIn K (.ref f26)=true)
  (a27:PySem.W.nsIn K mainGlobals "_law_run"=some (some (.ref f27)))
  (l27:K.lookup f27=some ⟨oc27,od27,.func (PySem.W.fnOf "_law_run" "_law_run" (defArgs eP) (defBody eP) (defScope eP) .none kV27 dc27 pm27 an27 cd27 ct27),sl27⟩)
  (c27:PySem.W.codeIn K cd27 "_law_run"=true)
  (k27:PySem.W.keepIn K (.ref f27)=true)
  (a28:PySem.W.nsIn K mainGlobals "_law_table"=some (some (.ref f28)))
  (l28:K.lookup f28=some ⟨oc28,od28,.func (PySem.W.fnOf "_law_table" "_law_table" (defArgs cH) (defBody cH) (defScope cH) .none kV28 dc28 pm28 an28 cd28 ct28),sl28⟩)
  (c28:PySem.W.codeIn K cd28 "_law_table"=true)
  (k28:PySem.W.keepIn K (.ref f28)=true)
  (a29:PySem.W.nsIn K mainGlobals "_law_bits"=some (some (.ref f29)))
  (l29:K.lookup f29=some ⟨oc29,od29,.func (PySem.W.fnOf "_law_bits" "_law_bits" (defArgs dA) (defBody dA) (defScope dA) .none kV29 dc29 pm29 an29 cd29 ct29),sl29⟩)
  (c29:PySem.W.codeIn K cd29 "_law_bits"=true)
  (k29:PySem.W.keepIn K (.ref f29)=true)
  (a30:PySem.W.nsIn K mainGlobals "_law_tree"=some (some (.ref f30)))
  (l30:K.lookup f30=some ⟨oc30,od30,.func (PySem.W.fnOf "_law_tree" "_law_tree" (defArgs dO) (defBody dO) (defScope dO) .none kV30 dc30 pm30 an30 cd30 ct30),sl30⟩)
  (c30:PySem.W.codeIn K cd30 "_law_tree"=true)
  (k30:PySem.W.keepIn K (.ref f30)=true)
  (a31:PySem.W.nsIn K mainGlobals "_law_tree_worth"=some (some (.ref f31)))
  (l31:K.lookup f31=some ⟨oc31,od31,.func (PySem.W.fnOf "_law_tree_worth" "_law_tree_worth" (defArgs aY) (defBody aY) (defScope aY) .none kV31 dc31 pm31 an31 cd31 ct31),sl31⟩)
  (c31:PySem.W.codeIn K cd31 "_law_tree_worth"=true)
  (k31:PySem.W.keepIn K (.ref f31)=true)
  (a32:PySem.W.nsIn K mainGlobals "_law_by"=some (some (.ref f32)))
  (l32:K.lookup f32=some ⟨oc32,od32,.func (PySem.W.fnOf "_law_by" "_law_by" (defArgs fV) (defBody fV) (defScope fV) .none kV32 dc32 pm32 an32 cd32 ct32),sl32⟩)
  (c32:PySem.W.codeIn K cd32 "_law_by"=true)
  (k32:PySem.W.keepIn K (.ref f32)=true)
  (a33:PySem.W.nsIn K mainGlobals "_law_given"=some (some (.ref f33)))
  (l33:K.lookup f33=some ⟨oc33,od33,.func (PySem.W.fnOf "_law_given" "_law_given" (defArgs cP) (defBody cP) (defScope cP) .none kV33 dc33 pm33 an33 cd33 ct33),sl33⟩)
  (c33:PySem.W.codeIn K cd33 "_law_given"=true)
  (k33:PySem.W.keepIn K (.ref f33)=true)
  (a34:PySem.W.nsIn K mainGlobals "law"=some (some (.ref f34)))
  (l34:K.lookup f34=some ⟨oc34,od34,.func (PySem.W.fnOf "law" "law" (defArgs fN) (defBody fN) (defScope fN) .none kV34 dc34 pm34 an34 cd34 ct34),sl34⟩)
  (c34:PySem.W.codeIn K cd34 "law"=true)
  (k34:PySem.W.keepIn K (.ref f34)=true)
  (z_enumerate:PySem.W.nsIn K mainGlobals "enumerate"=some none)
  (z_int:PySem.W.nsIn K mainGlobals "int"=some none)
  (z_len:PySem.W.nsIn K mainGlobals "len"=some none)
  (z_list:PySem.W.nsIn K mainGlobals "list"=some none)
  (z_max:PySem.W.nsIn K mainGlobals "max"=some none)
  (z_range:PySem.W.nsIn K mainGlobals "range"=some none)
  (z_reversed:PySem.W.nsIn K mainGlobals "reversed"=some none)
  (z_sorted:PySem.W.nsIn K mainGlobals "sorted"=some none)
  (z_sum:PySem.W.nsIn K mainGlobals "sum"=some none)
  (z_tuple:PySem.W.nsIn K mainGlobals "tuple"=some none)
  (z_zip:PySem.W.nsIn K mainGlobals "zip"=some none)
  : ∃ fd:FuncData,(∀ (s:Shared) (v:Value),BindsTo s fd ⟨[v],[]⟩ [("_law_script",v)])/\∀ base:Heap,K.In base->base.Ns mainGlobals mg->FnOk l.prog w K mg base CX0 57 fa fd ["_law_script"] (spF K Z0 1 nO):=by
 have e:=hfa.symm.trans (PySem.W.mg_of X G a34)
 cases e
 have T:Tx K mg ⟨f1,(PySem.W.fnOf "inverse" "inverse" (defArgs cW) (defBody cW) (defScope cW) .none kV1 dc1 pm1 an1 cd1 ct1),f2,(PySem.W.fnOf "power" "power" (defArgs eM) (defBody eM) (defScope eM) .none kV2 dc2 pm2 an2 cd2 ct2),f3,(PySem.W.fnOf "turned_back" "turned_back" (defArgs bB) (defBody bB) (defScope bB) .none kV3 dc3 pm3 an3 cd3 ct3),f4,(PySem.W.fnOf "deeds_back" "deeds_back" (defArgs bC) (defBody bC) (defScope bC) .none kV4 dc4 pm4 an4 cd4 ct4),f5,(PySem.W.fnOf "deed_back" "deed_back" (defArgs bU) (defBody bU) (defScope bU) .none kV5 dc5 pm5 an5 cd5 ct5),f6,(PySem.W.fnOf "behind" "behind" (defArgs dP) (defBody dP) (defScope dP) .none kV6 dc6 pm6 an6 cd6 ct6),f7,(PySem.W.fnOf "is_root" "is_root" (defArgs cQ) (defBody cQ) (defScope cQ) .none kV7 dc7 pm7 an7 cd7 ct7),f8,(PySem.W.fnOf "root" "root" (defArgs gB) (defBody gB) (defScope gB) .none kV8 dc8 pm8 an8 cd8 ct8),f9,(PySem.W.fnOf "root_of" "root_of" (defArgs cU) (defBody cU) (defScope cU) .none kV9 dc9 pm9 an9 cd9 ct9),f10,(PySem.W.fnOf "rounds_by" "rounds_by" (defArgs bH) (defBody bH) (defScope bH) .none kV10 dc10 pm10 an10 cd10 ct10),f11,(PySem.W.fnOf "bits" "bits" (defArgs fW) (defBody fW) (defScope fW) .none kV11 dc11 pm11 an11 cd11 ct11),f12,(PySem.W.fnOf "polynomials" "polynomials" (defArgs aV) (defBody aV) (defScope aV) .none kV12 dc12 pm12 an12 cd12 ct12),f13,(PySem.W.fnOf "polynomial" "polynomial" (defArgs aZ) (defBody aZ) (defScope aZ) .none kV13 dc13 pm13 an13 cd13 ct13),f14,(PySem.W.fnOf "bit_row" "bit_row" (defArgs cV) (defBody cV) (defScope cV) .none kV14 dc14 pm14 an14 cd14 ct14),f15,(PySem.W.fnOf "term_numbers" "term_numbers" (defArgs aU) (defBody aU) (defScope aU) .none kV15 dc15 pm15 an15 cd15 ct15),f16,(PySem.W.fnOf "places_of" "places_of" (defArgs bO) (defBody bO) (defScope bO) .none kV16 dc16 pm16 an16 cd16 ct16),f17,(PySem.W.fnOf "tree_program" "tree_program" (defArgs aR) (defBody aR) (defScope aR) (.ref dt17) kV17 dc17 pm17 an17 cd17 ct17),dk17,f18,(PySem.W.fnOf "order" "order" (defArgs eQ) (defBody eQ) (defScope eQ) .none kV18 dc18 pm18 an18 cd18 ct18),f19,(PySem.W.fnOf "tree_deeds" "tree_deeds" (defArgs bE) (defBody bE) (defScope bE) .none kV19 dc19 pm19 an19 cd19 ct19),f20,(PySem.W.fnOf "tree_row" "tree_row" (defArgs bW) (defBody bW) (defScope bW) .none kV20 dc20 pm20 an20 cd20 ct20),f21,(PySem.W.fnOf "bringers_to" "bringers_to" (defArgs aW) (defBody aW) (defScope aW) .none kV21 dc21 pm21 an21 cd21 ct21),f22,(PySem.W.fnOf "table_deeds" "table_deeds" (defArgs aX) (defBody aX) (defScope aX) .none kV22 dc22 pm22 an22 cd22 ct22),f23,(PySem.W.fnOf "_law_box" "_law_box" (defArgs eS) (defBody eS) (defScope eS) .none kV23 dc23 pm23 an23 cd23 ct23),f24,(PySem.W.fnOf "_law_take" "_law_take" (defArgs dI) (defBody dI) (defScope dI) .none kV24 dc24 pm24 an24 cd24 ct24),f25,(PySem.W.fnOf "_law_rest" "_law_rest" (defArgs dG) (defBody dG) (defScope dG) .none kV25 dc25 pm25 an25 cd25 ct25),f26,(PySem.W.fnOf "_law_rests" "_law_rests" (defArgs cG) (defBody cG) (defScope cG) .none kV26 dc26 pm26 an26 cd26 ct26),f27,(PySem.W.fnOf "_law_run" "_law_run" (defArgs eP) (defBody eP) (defScope eP) .none kV27 dc27 pm27 an27 cd27 ct27),f28,(PySem.W.fnOf "_law_table" "_law_table" (defArgs cH) (defBody cH) (defScope cH) .none kV28 dc28 pm28 an28 cd28 ct28),f29,(PySem.W.fnOf "_law_bits" "_law_bits" (defArgs dA) (defBody dA) (defScope dA) .none kV29 dc29 pm29 an29 cd29 ct29),f30,(PySem.W.fnOf "_law_tree" "_law_tree" (defArgs dO) (defBody dO) (defScope dO) .none kV30 dc30 pm30 an30 cd30 ct30),f31,(PySem.W.fnOf "_law_tree_worth" "_law_tree_worth" (defArgs aY) (defBody aY) (defScope aY) .none kV31 dc31 pm31 an31 cd31 ct31),f32,(PySem.W.fnOf "_law_by" "_law_by" (defArgs fV) (defBody fV) (defScope fV) .none kV32 dc32 pm32 an32 cd32 ct32),f33,(PySem.W.fnOf "_law_given" "_law_given" (defArgs cP) (defBody cP) (defScope cP) .none kV33 dc33 pm33 an33 cd33 ct33),fa,(PySem.W.fnOf "law" "law" (defArgs fN) (defBody fN) (defScope fN) .none kV34 dc34 pm34 an34 cd34 ct34)⟩ :=
  ⟨aL l1 c1 k1,
   (aL (st:=cW) l1 c1 k1).binds (ps:=["n","k"]) (fun _ _ _ _ _ _=>ex2 fun _ _=>rfl),
   k1,
   PySem.W.mg_of X G a1,
   aL l2 c2 k2,
   (aL (st:=eM) l2 c2 k2).binds (ps:=["n","k","e"]) (fun _ _ _ _ _ _=>ex3 fun _ _ _=>rfl),
   k2,
   PySem.W.mg_of X G a2,
   aL l3 c3 k3,
   (aL (st:=bB) l3 c3 k3).binds (ps:=["program"]) (fun _ _ _ _ _ _=>ex1 fun _=>rfl),
   k3,
   PySem.W.mg_of X G a3,
   aL l4 c4 k4,
   (aL (st:=bC) l4 c4 k4).binds (ps:=["n","deeds"]) (fun _ _ _ _ _ _=>ex2 fun _ _=>rfl),
   k4,
   PySem.W.mg_of X G a4,
   aL l5 c5 k5,
   (aL (st:=bU) l5 c5 k5).binds (ps:=["n","deed"]) (fun _ _ _ _ _ _=>ex2 fun _ _=>rfl),
   k5,
   PySem.W.mg_of X G a5,
   aL l6 c6 k6,
   (aL (st:=dP) l6 c6 k6).binds (ps:=["one","other"]) (fun _ _ _ _ _ _=>ex2 fun _ _=>rfl),
   k6,
   PySem.W.mg_of X G a6,
   aL l7 c7 k7,
   (aL (st:=cQ) l7 c7 k7).binds (ps:=["n","w","m"]) (fun _ _ _ _ _ _=>ex3 fun _ _ _=>rfl),
   k7,
   PySem.W.mg_of X G a7,
   aL l8 c8 k8,
   (aL (st:=gB) l8 c8 k8).binds (ps:=["n","m"]) (fun _ _ _ _ _ _=>ex2 fun _ _=>rfl),
   k8,
   PySem.W.mg_of X G a8,
   aL l9 c9 k9,
   (aL (st:=cU) l9 c9 k9).binds (ps:=["n","m"]) (fun _ _ _ _ _ _=>ex2 fun _ _=>rfl),
   k9,
   PySem.W.mg_of X G a9,
   aL l10 c10 k10,
   (aL (st:=bH) l10 c10 k10).binds (ps:=["n","m","w","bringers","inner"]) (fun _ _ _ _ _ _=>ex5 fun _ _ _ _ _=>rfl),
   k10,
   PySem.W.mg_of X G a10,
   aL l11 c11 k11,
   (aL (st:=fW) l11 c11 k11).binds (ps:=["k"]) (fun _ _ _ _ _ _=>ex1 fun _=>rfl),
   k11,
   PySem.W.mg_of X G a11,
   aL l12 c12 k12,
   (aL (st:=aV) l12 c12 k12).binds (ps:=["n","k","table"]) (fun _ _ _ _ _ _=>ex3 fun _ _ _=>rfl),
   k12,
   PySem.W.mg_of X G a12,
   aL l13 c13 k13,
   (aL (st:=aZ) l13 c13 k13).binds (ps:=["n","k","table","bit"]) (fun _ _ _ _ _ _=>ex4 fun _ _ _ _=>rfl),
   k13,
   PySem.W.mg_of X G a13,
   aL l14 c14 k14,
   (aL (st:=cV) l14 c14 k14).binds (ps:=["k","table","bit"]) (fun _ _ _ _ _ _=>ex3 fun _ _ _=>rfl),
   k14,
   PySem.W.mg_of X G a14,
   aL l15 c15 k15,
   (aL (st:=aU) l15 c15 k15).binds (ps:=["row"]) (fun _ _ _ _ _ _=>ex1 fun _=>rfl),
   k15,
   PySem.W.mg_of X G a15,
   aL l16 c16 k16,
   (aL (st:=bO) l16 c16 k16).binds (ps:=["chosen"]) (fun _ _ _ _ _ _=>ex1 fun _=>rfl),
   k16,
   PySem.W.mg_of X G a16,
   qN l17 c17 t17,
   (qN (st:=aR) l17 c17 t17).binds (fun _ _ _ _ _ _ _=>(ex5 fun _ _ _ _ _=>⟨_,rfl,rfl⟩)),
   (qN (st:=aR) l17 c17 t17).binds1 (fun _ _ _ _ _ _ _ us hl=>by have h3:us.length=4:=(by simpa using hl); clear hl; revert us; exact (ex4 fun _ _ _ _=>⟨_,rfl,rfl⟩)),
   k17,
   PySem.W.mg_of X G a17,
   aL l18 c18 k18,
   (aL (st:=eQ) l18 c18 k18).binds (ps:=["k"]) (fun _ _ _ _ _ _=>ex1 fun _=>rfl),
   k18,
   PySem.W.mg_of X G a18,
   aL l19 c19 k19,
   (aL (st:=bE) l19 c19 k19).binds (ps:=["n","k","tree"]) (fun _ _ _ _ _ _=>ex3 fun _ _ _=>rfl),
   k19,
   PySem.W.mg_of X G a19,
   aL l20 c20 k20,
   (aL (st:=bW) l20 c20 k20).binds (ps:=["n","k","w","tree","O","L","R"]) (fun _ _ _ _ _ _=>ex7 fun _ _ _ _ _ _ _=>rfl),
   k20,
   PySem.W.mg_of X G a20,
   aL l21 c21 k21,
   (aL (st:=aW) l21 c21 k21).binds (ps:=["shelves","deeds"]) (fun _ _ _ _ _ _=>ex2 fun _ _=>rfl),
   k21,
   PySem.W.mg_of X G a21,
   aL l22 c22 k22,
   (aL (st:=aX) l22 c22 k22).binds (ps:=["n","k","table","O","places"]) (fun _ _ _ _ _ _=>ex5 fun _ _ _ _ _=>rfl),
   k22,
   PySem.W.mg_of X G a22,
   aL l23 c23 k23,
   (aL (st:=eS) l23 c23 k23).binds (ps:=["_law_script","_law_k"]) (fun _ _ _ _ _ _=>ex2 fun _ _=>rfl),
   k23,
   PySem.W.mg_of X G a23,
   aL l24 c24 k24,
   (aL (st:=dI) l24 c24 k24).binds (ps:=["_law_box_here","_law_many"]) (fun _ _ _ _ _ _=>ex2 fun _ _=>rfl),
   k24,
   PySem.W.mg_of X G a24,
   aL l25 c25 k25,
   (aL (st:=dG) l25 c25 k25).binds (ps:=["_law_box_here","_law_n"]) (fun _ _ _ _ _ _=>ex2 fun _ _=>rfl),
   k25,
   PySem.W.mg_of X G a25,
   aL l26 c26 k26,
   (aL (st:=cG) l26 c26 k26).binds (ps:=["_law_box_here","_law_n","_law_many"]) (fun _ _ _ _ _ _=>ex3 fun _ _ _=>rfl),
   k26,
   PySem.W.mg_of X G a26,
   aL l27 c27 k27,
   (aL (st:=eP) l27 c27 k27).binds (ps:=["_law_program","_law_given_here","_law_contents"]) (fun _ _ _ _ _ _=>ex3 fun _ _ _=>rfl),
   k27,
   PySem.W.mg_of X G a27,
   aL l28 c28 k28,
   (aL (st:=cH) l28 c28 k28).binds (ps:=["_law_box_here","_law_k"]) (fun _ _ _ _ _ _=>ex2 fun _ _=>rfl),
   k28,
   PySem.W.mg_of X G a28,
   aL l29 c29 k29,
   (aL (st:=dA) l29 c29 k29).binds (ps:=["_law_value","_law_many"]) (fun _ _ _ _ _ _=>ex2 fun _ _=>rfl),
   k29,
   PySem.W.mg_of X G a29,
   aL l30 c30 k30,
   (aL (st:=dO) l30 c30 k30).binds (ps:=["_law_box_here","_law_k","_law_high","_law_leaves"]) (fun _ _ _ _ _ _=>ex4 fun _ _ _ _=>rfl),
   k30,
   PySem.W.mg_of X G a30,
   aL l31 c31 k31,
   (aL (st:=aY) l31 c31 k31).binds (ps:=["_law_k","_law_tree_here","_law_values"]) (fun _ _ _ _ _ _=>ex3 fun _ _ _=>rfl),
   k31,
   PySem.W.mg_of X G a31,
   aL l32 c32 k32,
   (aL (st:=fV) l32 c32 k32).binds (ps:=["_law_box_here","_law_k"]) (fun _ _ _ _ _ _=>ex2 fun _ _=>rfl),
   k32,
   PySem.W.mg_of X G a32,
   aL l33 c33 k33,
   (aL (st:=cP) l33 c33 k33).binds (ps:=["_law_k","_law_values","_law_givens"]) (fun _ _ _ _ _ _=>ex3 fun _ _ _=>rfl),
   k33,
   PySem.W.mg_of X G a33,
   aL l34 c34 k34,
   (aL (st:=fN) l34 c34 k34).binds (ps:=["_law_script"]) (fun _ _ _ _ _ _=>ex1 fun _=>rfl),
   k34,
   PySem.W.mg_of X G a34,
   PySem.W.mg_none_of X G z_enumerate,
   PySem.W.mg_none_of X G z_int,
   PySem.W.mg_none_of X G z_len,
   PySem.W.mg_none_of X G z_list,
   PySem.W.mg_none_of X G z_max,
   PySem.W.mg_none_of X G z_range,
   PySem.W.mg_none_of X G z_reversed,
   PySem.W.mg_none_of X G z_sorted,
   PySem.W.mg_none_of X G z_sum,
   PySem.W.mg_none_of X G z_tuple,
   PySem.W.mg_none_of X G z_zip⟩
 exact ⟨_,fun s v=>.of_eq rfl,fun base _ _=>(aKk T).mono (by omega)⟩
theorem aDx {l:PySem.W.OpenLaw} {q:Program} {loose:List Str} {XP:(Str->Option Value)->Heap->Prop} {YP:World->Heap->Prop} {d:DefRec} {K:Params->PySem.W.Frag} (hn:l.most=some 63) (hdf:d.params.defaults=[])
  (hY:∀ (w:World) (h:Heap),YP w h->(K w.params).In h)
  (F:∀ (w:World) (mg:Str->Option Value) (fa:Addr) (h:Heap),(K w.params).In h->h.Ns mainGlobals mg->mg d.name=some (.ref fa) ->
   ∃ fd:FuncData,(∀ (s:Shared) (u:Value),BindsTo s fd ⟨[u],[]⟩ [("_law_script",u)])/\∀ base:Heap,(K w.params).In base->base.Ns mainGlobals mg->FnOk l.prog w (K w.params) mg base CX0 57 fa fd ["_law_script"] (spF (K w.params) Z0 1 nO)) :
  PySem.W.WalkO q loose XP YP l.row.toRowW d [] (fun f vs=>PySem.call f vs) :=
 L2.xW (n:=63) (k:=57) (x:="_law_script") (CX:=fun w=>CX0) (sp:=fun w=>(spF (K w.params) Z0 1 nO)) hn (by decide) hdf ⟨rfl,by decide,by decide⟩ hY F (fun _ _ a ns hl hO hS=>aKi hO hS (aBr ns hl)) fun _ _ _ _ _ z=>z
end K48
open PySem PySem.W PyProof.Rows
namespace PySem.W.Fast
noncomputable def tw17804404100341079217:Params->Heap:=fun _=>⟨#[],default⟩
theorem te17804404100341079217:tw17804404100341079217=tw17804404100341079217:=rfl
noncomputable def tw18038469310298319303:Params->Heap:=fun _=>⟨#[],default⟩
theorem te18038469310298319303:tw18038469310298319303=tw18038469310298319303:=rfl
noncomputable def tw17683246803294973367:Program:=Challenge.pw_lentshelf_k48_whole_trees_back_and_one_b
theorem te17683246803294973367:Challenge.pw_lentshelf_k48_whole_trees_back_and_one_b=tw17683246803294973367:=rfl
noncomputable def tw13943869184538008550:Params->BT:=fun _=>BT.nil
theorem te13943869184538008550:tw13943869184538008550=tw13943869184538008550:=rfl
noncomputable def tw2659312976398687714:Program:=Challenge.pw_lentshelf_k48_whole_trees_back_and_one_b
theorem te2659312976398687714:tw2659312976398687714=tw2659312976398687714:=rfl
noncomputable def tw10187664545271531126:Params->BT:=fun _=>BT.nil
theorem te10187664545271531126:tw10187664545271531126=tw10187664545271531126:=rfl
noncomputable def tw7401528266054219440:Params->BT:=fun _=>BT.nil
theorem te7401528266054219440:tw7401528266054219440=tw7401528266054219440:=rfl
noncomputable def tw16855267388449107145:List Stmt:=[]
theorem te16855267388449107145:tw16855267388449107145=tw16855267388449107145:=rfl
noncomputable def tw15637386860353453646:List Stmt:=[]
theorem te15637386860353453646:tw15637386860353453646=tw15637386860353453646:=rfl
noncomputable def tw1850369987372881368:List Stmt:=[]
theorem te1850369987372881368:tw1850369987372881368=tw1850369987372881368:=rfl
noncomputable def tw17659050446728263020:Params->Obj:=fun _=>default
theorem te17659050446728263020:tw17659050446728263020=tw17659050446728263020:=rfl
noncomputable def tw16124983825494988844:Params->Obj:=fun _=>default
theorem te16124983825494988844:tw16124983825494988844=tw16124983825494988844:=rfl
noncomputable def tw13661540005825066014:Params->BT:=fun _=>BT.nil
theorem te13661540005825066014:tw13661540005825066014=tw13661540005825066014:=rfl
noncomputable def tw4611788562920110113:Params->Obj:=fun _=>default
theorem te4611788562920110113:tw4611788562920110113=tw4611788562920110113:=rfl
noncomputable def tw17457460291666221809:Params->Obj:=fun _=>default
theorem te17457460291666221809:tw17457460291666221809=tw17457460291666221809:=rfl
noncomputable def tw9289930523353414830:Params->Obj:=fun _=>default
theorem te9289930523353414830:tw9289930523353414830=tw9289930523353414830:=rfl
noncomputable def tw3937253419894613003:List Stmt:=[]
theorem te3937253419894613003:tw3937253419894613003=tw3937253419894613003:=rfl
noncomputable def tw7603251184888476676:Params->Obj:=fun _=>default
theorem te7603251184888476676:tw7603251184888476676=tw7603251184888476676:=rfl
noncomputable def tw6358089316721594217:Params->Obj:=fun _=>default
theorem te6358089316721594217:tw6358089316721594217=tw6358089316721594217:=rfl
noncomputable def tw3575528615049887052:Params->Obj:=fun _=>default
theorem te3575528615049887052:tw3575528615049887052=tw3575528615049887052:=rfl
noncomputable def tw3342954846047886075:Params->Obj:=fun _=>default
theorem te3342954846047886075:tw3342954846047886075=tw3342954846047886075:=rfl
noncomputable def tw7339126883902225372:Params->Obj:=fun _=>default
theorem te7339126883902225372:tw7339126883902225372=tw7339126883902225372:=rfl
noncomputable def tw11183457979647882420:Params->Obj:=fun _=>default
theorem te11183457979647882420:tw11183457979647882420=tw11183457979647882420:=rfl
noncomputable def tw2917549411743469066:Params->Obj:=fun _=>default
theorem te2917549411743469066:tw2917549411743469066=tw2917549411743469066:=rfl
noncomputable def tw16592818545527462419:Params->Obj:=fun _=>default
theorem te16592818545527462419:tw16592818545527462419=tw16592818545527462419:=rfl
end PySem.W.Fast
set_option maxRecDepth 100000 in
set_option maxHeartbeats 0 in
theorem PySem.Challenge.cw_lentshelf_k48_whole_trees_back_and_one_b_holds : PySem.Challenge.rw_lentshelf_k48_whole_trees_back_and_one_b.Holds := by
 w_on; o_law; k_head; (case hw=>w_witness2)
 k_fill
 refine K48.aDx (l:=PySem.Challenge.rw_lentshelf_k48_whole_trees_back_and_one_b) rfl rfl (fun w h Y=>PySem.W.kIn_of Y) ?F
 case F =>
  intro w mg fa h KX G hmg
  refine' K48.aLf KX G hmg ?a1 ?l1 ?c1 ?k1 ?a2 ?l2 ?c2 ?k2 ?a3 ?l3 ?c3 ?k3 ?a4 ?l4 ?c4 ?k4 ?a5 ?l5 ?c5 ?k5 ?a6 ?l6 ?c6 ?k6 ?a7 ?l7 ?c7 ?k7 ?a8 ?l8 ?c8 ?k8 ?a9 ?l9 ?c9 ?k9 ?a10 ?l10 ?c10 ?k10 ?a11 ?l11 ?c11 ?k11 ?a12 ?l12 ?c12 ?k12 ?a13 ?l13 ?c13 ?k13 ?a14 ?l14 ?c14 ?k14 ?a15 ?l15 ?c15 ?k15 ?a16 ?l16 ?c16 ?k16 ?a17 ?l17 ?c17 ?k17 ?t17 ?a18 ?l18 ?c18 ?k18 ?a19 ?l19 ?c19 ?k19 ?a20 ?l20 ?c20 ?k20 ?a21 ?l21 ?c21 ?k21 ?a22 ?l22 ?c22 ?k22 ?a23 ?l23 ?c23 ?k23 ?a24 ?l24 ?c24 ?k24 ?a25 ?l25 ?c25 ?k25 ?a26 ?l26 ?c26 ?k26 ?a27 ?l27 ?c27 ?k27 ?a28 ?l28 ?c28 ?k28 ?a29 ?l29 ?c29 ?k29 ?a30 ?l30 ?c30 ?k30 ?a31 ?l31 ?c31 ?k31 ?a32 ?l32 ?c32 ?k32 ?a33 ?l33 ?c33 ?k33 ?a34 ?l34 ?c34 ?k34 ?z_enumerate ?z_int ?z_len ?z_list ?z_max ?z_range ?z_reversed ?z_sorted ?z_sum ?z_tuple ?z_zip
  (case a1=>k_is)
  (case l1=>k_is)
  (case c1=>k_is)
  (case k1=>k_is)
  (case a2=>k_is)
  (case l2=>k_is)
  (case c2=>k_is)
  (case k2=>k_is)
  (case a3=>k_is)
  (case l3=>k_is)
  (case c3=>k_is)
  (case k3=>k_is)
  (case a4=>k_is)
  (case l4=>k_is)
  (case c4=>k_is)
  (case k4=>k_is)
  (case a5=>k_is)
  (case l5=>k_is)
  (case c5=>k_is)
  (case k5=>k_is)
  (case a6=>k_is)
  (case l6=>k_is)
  (case c6=>k_is)
  (case k6=>k_is)
  (case a7=>k_is)
  (case l7=>k_is)
  (case c7=>k_is)
  (case k7=>k_is)
  (case a8=>k_is)
  (case l8=>k_is)
  (case c8=>k_is)
  (case k8=>k_is)
  (case a9=>k_is)
  (case l9=>k_is)
  (case c9=>k_is)
  (case k9=>k_is)
  (case a10=>k_is)
  (case l10=>k_is)
  (case c10=>k_is)
  (case k10=>k_is)
  (case a11=>k_is)
  (case l11=>k_is)
  (case c11=>k_is)
  (case k11=>k_is)
  (case a12=>k_is)
  (case l12=>k_is)
  (case c12=>k_is)
  (case k12=>k_is)
  (case a13=>k_is)
  (case l13=>k_is)
  (case c13=>k_is)
  (case k13=>k_is)
  (case a14=>k_is)
  (case l14=>k_is)
  (case c14=>k_is)
  (case k14=>k_is)
  (case a15=>k_is)
  (case l15=>k_is)
  (case c15=>k_is)
  (case k15=>k_is)
  (case a16=>k_is)
  (case l16=>k_is)
  (case c16=>k_is)
  (case k16=>k_is)
  (case a17=>k_is)
  (case l17=>k_is)
  (case c17=>k_is)
  (case k17=>k_is)
  (case t17=>k_is)
  (case a18=>k_is)
  (case l18=>k_is)
  (case c18=>k_is)
  (case k18=>k_is)
  (case a19=>k_is)
  (case l19=>k_is)
  (case c19=>k_is)
  (case k19=>k_is)
  (case a20=>k_is)
  (case l20=>k_is)
  (case c20=>k_is)
  (case k20=>k_is)
  (case a21=>k_is)
  (case l21=>k_is)
  (case c21=>k_is)
  (case k21=>k_is)
  (case a22=>k_is)
  (case l22=>k_is)
  (case c22=>k_is)
  (case k22=>k_is)
  (case a23=>k_is)
  (case l23=>k_is)
  (case c23=>k_is)
  (case k23=>k_is)
  (case a24=>k_is)
  (case l24=>k_is)
  (case c24=>k_is)
  (case k24=>k_is)
  (case a25=>k_is)
  (case l25=>k_is)
  (case c25=>k_is)
  (case k25=>k_is)
  (case a26=>k_is)
  (case l26=>k_is)
  (case c26=>k_is)
  (case k26=>k_is)
  (case a27=>k_is)
  (case l27=>k_is)
  (case c27=>k_is)
  (case k27=>k_is)
  (case a28=>k_is)
  (case l28=>k_is)
  (case c28=>k_is)
  (case k28=>k_is)
  (case a29=>k_is)
  (case l29=>k_is)
  (case c29=>k_is)
  (case k29=>k_is)
  (case a30=>k_is)
  (case l30=>k_is)
  (case c30=>k_is)
  (case k30=>k_is)
  (case a31=>k_is)
  (case l31=>k_is)
  (case c31=>k_is)
  (case k31=>k_is)
  (case a32=>k_is)
  (case l32=>k_is)
  (case c32=>k_is)
  (case k32=>k_is)
  (case a33=>k_is)
  (case l33=>k_is)
  (case c33=>k_is)
  (case k33=>k_is)
  (case a34=>k_is)
  (case l34=>k_is)
  (case c34=>k_is)
  (case k34=>k_is)
  (case z_enumerate=>k_is)
  (case z_int=>k_is)
  (case z_len=>k_is)
  (case z_list=>k_is)
  (case z_max=>k_is)
  (case z_range=>k_is)
  (case z_reversed=>k_is)
  (case z_sorted=>k_is)
  (case z_sum=>k_is)
  (case z_tuple=>k_is)
  (case z_zip=>k_is)

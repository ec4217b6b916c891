import PyProof.Rows.All
import Wide.All
import OpenK.AllK
import Wide.FinOn
import Lean
import PyProof.EqAt
import PyProof.EqKinds
import PyProof.TupleCall
import PySem.Challenge.RW_lentshelf_k34_whole_what_papers_show
set_option Elab.async false
set_option linter.all false
set_option bootstrap.genMatcherCode false
local macro_rules | `(tactic| omega) => `(tactic| lia)
-- CHANGE: your row's module here,as the last of these rows
set_option maxRecDepth 100000
namespace L2
open PySem PySem.Spec PyProof.Rows
noncomputable abbrev Key:=Sum Int Str
noncomputable def keyIs:Key->Value->Bool
 | .inl k,v=>Value.isInt k v
 | .inr x,v=>Value.isStrOf x v
noncomputable def keyH (w:World):Key->Int
 | .inl k=>hashInt k
 | .inr x=>hashStr w x
theorem dI:∀ {k:Key} {v:Value},keyIs k v=true->(∃ i t,k=Sum.inl i/\v=Value.int i t)\/(∃ x t,k=Sum.inr x/\v=Value.str x t)
 | .inl i,v,h=>by
  obtain ⟨t,e⟩:=Value.isInt_shape (k:=i) (v:=v) h
  exact .inl ⟨i,t,rfl,e⟩
 | .inr x,v,h=>by
  obtain ⟨t,e⟩:=Value.isStrOf_shape (x:=x) (v:=v) h
  exact .inr ⟨x,t,rfl,e⟩
theorem aIx (a b:Int):decide ((Sum.inl a:Key)=Sum.inl b)=(a==b):=by
 by_cases e:a=b
 ·subst e; simp
 ·have h:¬ (Sum.inl a:Key)=Sum.inl b:=fun q=>e (Sum.inl.inj q)
  rw [decide_eq_false h]
  exact (beq_eq_false_iff_ne.mpr e).symm
theorem aGz (a b:Str):decide ((Sum.inr a:Key)=Sum.inr b)=decide (a=b):=by
 by_cases e:a=b
 ·subst e; simp
 ·have h:¬ (Sum.inr a:Key)=Sum.inr b:=fun q=>e (Sum.inr.inj q)
  rw [decide_eq_false h,decide_eq_false e]
theorem aGr (a:Int) (b:Str):decide ((Sum.inl a:Key)=Sum.inr b)=false:=decide_eq_false (fun q=>nomatch q)
theorem aJm (a:Str) (b:Int):decide ((Sum.inr a:Key)=Sum.inl b)=false:=decide_eq_false (fun q=>nomatch q)
noncomputable def mixKind (prog:Program) (w:World):PySem.KeyKind prog w Key where
 is:=keyIs
 hash:=keyH w
 inj:=fun v a b ha hb=>by
  rcases dI ha with ⟨i,t,rfl,rfl⟩ | ⟨x,t,rfl,rfl⟩
  ·rcases dI hb with ⟨j,u,rfl,e⟩ | ⟨y,u,rfl,e⟩
   ·injection e with e1 _; rw [e1]
   ·exact nomatch e
  ·rcases dI hb with ⟨j,u,rfl,e⟩ | ⟨y,u,rfl,e⟩
   ·exact nomatch e
   ·injection e with e1 _; rw [e1]
 byValue:=fun k v h=>by
  rcases dI h with ⟨i,t,rfl,rfl⟩ | ⟨x,t,rfl,rfl⟩ <;> rfl
 pyHash:=fun hv h=>by
  rcases dI hv with ⟨i,t,rfl,rfl⟩ | ⟨x,t,rfl,rfl⟩
  ·exact wpAny_pyHash_int h
  ·exact wpAny_pyHash_str h
 eqBool:=fun hu hv h=>by
  rcases dI hu with ⟨i,t,rfl,rfl⟩ | ⟨x,t,rfl,rfl⟩
  ·rcases dI hv with ⟨j,u,rfl,rfl⟩ | ⟨y,u,rfl,rfl⟩
   ·rw [aIx] at h; exact wpAny_eqBool_int h
   ·rw [aGr] at h; exact SeqAt.EqAt.int_str i t y u _ _ _ _ h
  ·rcases dI hv with ⟨j,u,rfl,rfl⟩ | ⟨y,u,rfl,rfl⟩
   ·rw [aJm] at h; exact SeqAt.EqAt.str_int x t j u _ _ _ _ h
   ·rw [aGz] at h; exact wpAny_eqBool_str h
 «strs»:=fun k x t v h=>by
  rcases dI h with ⟨i,u,rfl,e⟩ | ⟨y,u,rfl,e⟩
  ·exact nomatch e
  ·injection e with e1 _
   subst e1
   cases v <;> rfl
theorem aIw (prog:Program) (w:World) (k:Key) (v:Value):(mixKind prog w).is k v=keyIs k v:=rfl
end L2
namespace L2
open PySem PySem.Spec PyProof.Rows
inductive V where
 | non | bl (b:Bool) | int (i:Int) | str (x:Str) | byt (b:Array UInt8) | flt (b:UInt64) | ref (a:Addr) | ty (n:String)
 deriving DecidableEq
noncomputable def RelV:V->Value->Prop
 | .non,u=>u=Value.none
 | .bl b,u=>u=Value.bool b
 | .int i,u=>∃ t,u=Value.int i t
 | .str x,u=>∃ t,u=Value.str x t
 | .byt b,u=>∃ t,u=Value.bytes b t
 | .flt b,u=>∃ t,u=Value.float b t
 | .ref a,u=>u=Value.ref a
 | .ty n,u=>u=Value.type n
noncomputable abbrev Vals:List V->List Value->Prop:=Paired RelV
theorem Vals.length {xs:List V} {us:List Value} (r:Vals xs us):xs.length=us.length:=Paired.length r
theorem Vals.get:∀ {xs:List V} {us:List Value} {i:Nat} {x:V},Vals xs us->xs[i]?=some x->∃ u,us[i]?=some u/\RelV x u
 | _,_,_,_,.nil,e=>by simp at e
 | _,_,0,_,.cons r _,e=>by simp at e; subst e; exact ⟨_,rfl,r⟩
 | _,_,i+1,x,.cons _ t,e=>by
  obtain ⟨u,h1,h2⟩:=Vals.get (i:=i) (x:=x) t (by simpa using e)
  exact ⟨u,by simpa using h1,h2⟩
theorem Vals.set {x:V} {u:Value} (r:RelV x u):∀ {xs:List V} {us:List Value} (i:Nat),Vals xs us->Vals (xs.set i x) (us.set i u)
 | _,_,_,.nil=>.nil
 | _,_,0,.cons _ t=>.cons r t
 | _,_,i+1,.cons q t=>.cons q (Vals.set r i t)
theorem Vals.append:∀ {xs ys:List V} {us ws:List Value},Vals xs us->Vals ys ws->Vals (xs++ys) (us++ws)
 | _,_,_,_,.nil,s=>s
 | _,_,_,_,.cons r t,s=>.cons r (Vals.append t s)
theorem Vals.take:∀ {xs:List V} {us:List Value} (n:Nat),Vals xs us->Vals (xs.take n) (us.take n)
 | _,_,0,_=>.nil
 | _,_,_+1,.nil=>.nil
 | _,_,n+1,.cons r t=>.cons r (Vals.take n t)
theorem Vals.drop:∀ {xs:List V} {us:List Value} (n:Nat),Vals xs us->Vals (xs.drop n) (us.drop n)
 | _,_,0,r=>r
 | _,_,_+1,.nil=>.nil
 | _,_,n+1,.cons _ t=>Vals.drop n t
theorem Vals.none_of:∀ {xs:List V} {us:List Value} {i:Nat},Vals xs us->xs[i]?=none->us[i]?=none:=fun {xs us i} r e=>by
 have h1:=r.length
 have h2:xs.length<=i:=List.getElem?_eq_none_iff.mp e
 exact List.getElem?_eq_none_iff.mpr (by omega)
noncomputable def RelO:Option V->Option Value->Prop
 | some v,some u=>RelV v u
 | none,none=>True
 | _,_=>False
noncomputable def KV {κ:Type}:List (κ×V)->List (κ×Value)->Prop:=Paired fun (p:κ×V) (q:κ×Value)=>p.1=q.1/\RelV p.2 q.2
noncomputable def kV:Key->V
 | .inl i=>.int i
 | .inr x=>.str x
inductive HO where
 | lst (xs:List V)
 | tup (xs:List V)
 | dK (kvs:List (Key×V)) | dT (kvs:List (List Key×V))
 | set (S:Int->Bool) (n:Nat)
 | ins (C dx:Addr) (fs:List (Str×V))
 | own (x:Addr)
 | xd (fs:List (Str×V))
 | met (f x:Addr)
 | rng (lo hi:Int)
 | frz (o:Obj) (u:HO)
 | tbl (ps:Array Value)
 | ext (φ:Heap->Prop)
noncomputable abbrev Hp:=Addr->Option HO
noncomputable def upd (H:Hp) (a:Addr) (o:HO):Hp:=fun b=>if b=a then some o else H b
theorem cB {H:Hp} {a:Addr} {o:HO}:upd H a o a=some o:=by unfold upd; rw [if_pos rfl]
theorem bF {H:Hp} {a b:Addr} {o:HO} (h:b≠a):upd H a o b=H b:=by unfold upd; rw [if_neg h]
theorem aEy {H:Hp} {a:Addr} {o u:HO}:upd (upd H a o) a u=upd H a u:=by
 funext b; unfold upd; split <;> rfl
theorem aKg {H:Hp} {a b:Addr} {o u:HO} (h:H a=some o) (h':H b=some u) (d:o≠u):a≠b:=by
 intro e; subst e; rw [h] at h'; exact d (Option.some.inj h')
theorem cA {H:Hp} {a b:Addr} {o:HO} (h:H a=some o) (h':H b=none):a≠b:=by
 intro e; subst e; rw [h] at h'; cases h'
section
variable (P:Program) (w:World)
noncomputable def ObjOk (H:Hp) (h:Heap) (a:Addr):HO->Prop
 | .lst xs=>xs.length<=sizeLine/\∃ (its:List Value) (n:Nat),Vals xs its/\h.get? a=some { cls:=.type "list",data:=.seq its.toArray n }
 | .tup xs=>xs.length<=sizeLine/\∃ its:List Value,Vals xs its/\IsTup h a its.toArray
 | .dK kvs=>kvs.length<=sizeLine/\(a==sysModules)=false/\∃ vs,KV kvs vs/\h.DictOf (mixKind P w) a vs
 | .dT kvs=>kvs.length<=sizeLine/\(a==sysModules)=false/\∃ xs:List (List Key×Addr×Value),
   Paired (fun (p:List Key×V) (q:List Key×Addr×Value)=>p.1=q.1/\H q.2.1=some (.tup (p.1.map kV))/\RelV p.2 q.2.2) kvs xs /\
   ∃ o es ep,h.get? a=some o/\o.ExactDict/\o.data=.dict es ep/\es.toList=xs.map (entryOfKey (tupleKind (mixKind P w)))/\(xs.map (·.1)).Nodup
 | .set S n=>h.SetOf (intKind P w) a S n
 | .ins C dx fs=>H dx=some (.own a)/\fs.length<=1000/\dx≠a/\h.get? a=some (PySem.W.instObj C dx) /\
   ∃ mA,h.Ns1 dx mA/\(∀ f,RelO (fs.lookup f) (mA f))/\PySem.Within mA (fs.map (·.1))
 | .own _=>∃ o,h.get? a=some o
 | .xd fs=>∃ mA,h.Ns1 a mA/\∀ f,RelO (fs.lookup f) (mA f)
 | .rng lo hi=>∃ t u v,h.get? a=some { cls:=.type "range",data:=.fields #[.int lo t,.int hi u,.int 1 v] }
 | .frz o u=>h.get? a=some o/\ObjOk H h a u
 | .tbl ps=>h.get? a=some { cls:=.none,data:=.fields ps }
 | .met f x=>h.get? a=some (PySem.W.methodObj (.ref f) (.ref x))
 | .ext φ=>φ h/\(∃ o,h.get? a=some o)/\∀ h1 h2:Heap,φ h1->(∀ o,h1.get? a=some o->h2.get? a=some o)->φ h2
noncomputable def HOk (H:Hp) (h:Heap):Prop:=∀ a o,H a=some o->ObjOk P w H h a o
end
section
variable {P:Program} {w:World} {H H':Hp} {h h':Heap} {a:Addr} {o:HO}
theorem ObjOk.lt (x:ObjOk P w H h a o):a < h.objs.size:=by
 cases o with
 | lst xs=>obtain ⟨_,_,_,_,e⟩:=x; exact Heap.lt_size e
 | tup xs=>obtain ⟨_,_,_,p⟩:=x; exact p.lt
 | dK kvs=>obtain ⟨_,_,_,_,o,_,_,e,_⟩:=x; exact Heap.lt_size e
 | dT kvs=>obtain ⟨_,_,_,_,o,_,_,e,_⟩:=x; exact Heap.lt_size e
 | set S n=>obtain ⟨o,_,_,_,e,_⟩:=x; exact Heap.lt_size e
 | ins C dx fs=>obtain ⟨_,_,_,e,_⟩:=x; exact Heap.lt_size e
 | own y=>obtain ⟨_,e⟩:=x; exact Heap.lt_size e
 | xd fs=>obtain ⟨_,⟨_,_,_,e,_⟩,_⟩:=x; exact Heap.lt_size e
 | rng lo hi=>obtain ⟨_,_,_,e⟩:=x; exact Heap.lt_size e
 | frz ob u=>obtain ⟨e,_⟩:=x; exact Heap.lt_size e
 | tbl ps=>exact Heap.lt_size (show h.get? a=some _ from x)
 | met f y=>exact Heap.lt_size (show h.get? a=some _ from x)
 | ext φ=>obtain ⟨_,⟨_,e⟩,_⟩:=x; exact Heap.lt_size e
theorem Paired.mapP {α β:Type} {F G:α->β->Prop}:∀ {l₁:List α} {l₂:List β},Paired F l₁ l₂->(∀ a b,F a b->G a b)->Paired G l₁ l₂
 | _,_,.nil,_=>.nil
 | _,_,.cons r t,f=>.cons (f _ _ r) (Paired.mapP t f)
theorem ObjOk.stay (x:ObjOk P w H h a o) (k:∀ b u,(b=a\/H b=some (.own a))->h.get? b=some u->h'.get? b=some u)
  (ho:∀ b,H b=some (.own a)->H' b=some (.own a)) (ht:∀ b xs,H b=some (.tup xs)->H' b=some (.tup xs)):ObjOk P w H' h' a o:=by
 induction o with
 | lst xs=>obtain ⟨z,its,n,r,e⟩:=x; exact ⟨z,its,n,r,k _ _ (.inl rfl) e⟩
 | tup xs=>obtain ⟨z,its,r,ob,e,c⟩:=x; exact ⟨z,its,r,ob,k _ _ (.inl rfl) e,c⟩
 | dK kvs=>obtain ⟨z,y,vs,r,ob,es,ep,e,c⟩:=x; exact ⟨z,y,vs,r,ob,es,ep,k _ _ (.inl rfl) e,c⟩
 | dT kvs =>
  obtain ⟨z,y,xs,r,ob,es,ep,e,c⟩:=x
  exact ⟨z,y,xs,Paired.mapP r fun p q z=>⟨z.1,ht _ _ z.2.1,z.2.2⟩,ob,es,ep,k _ _ (.inl rfl) e,c⟩
 | set S n=>obtain ⟨ob,es,ep,t,e,c⟩:=x; exact ⟨ob,es,ep,t,k _ _ (.inl rfl) e,c⟩
 | ins C dx fs =>
  obtain ⟨d,z,ne,e,mA,⟨od,es,ep,e2,c⟩,r⟩:=x
  exact ⟨ho _ d,z,ne,k _ _ (.inl rfl) e,mA,⟨od,es,ep,k _ _ (.inr d) e2,c⟩,r⟩
 | own y=>obtain ⟨ob,e⟩:=x; exact ⟨ob,k _ _ (.inl rfl) e⟩
 | xd fs=>obtain ⟨mA,⟨od,es,ep,e,c⟩,r⟩:=x; exact ⟨mA,⟨od,es,ep,k _ _ (.inl rfl) e,c⟩,r⟩
 | rng lo hi=>obtain ⟨t,u,v,e⟩:=x; exact ⟨t,u,v,k _ _ (.inl rfl) e⟩
 | frz ob u ih=>obtain ⟨e,q⟩:=x; exact ⟨k _ _ (.inl rfl) e,ih q⟩
 | tbl ps =>
  have e:h.get? a=some { cls:=.none,data:=.fields ps }:=x
  show h'.get? a=some { cls:=.none,data:=.fields ps }
  exact k a _ (.inl rfl) e
 | met f y =>
  have e:h.get? a=some (PySem.W.methodObj (.ref f) (.ref y)):=x
  show h'.get? a=some (PySem.W.methodObj (.ref f) (.ref y))
  exact k a _ (.inl rfl) e
 | ext φ=>obtain ⟨p,⟨o,e⟩,st⟩:=x; exact ⟨st _ _ p fun o q=>k _ _ (.inl rfl) q,⟨o,k _ _ (.inl rfl) e⟩,st⟩
theorem HOk.lt (x:HOk P w H h) (e:H a=some o):a < h.objs.size:=(x a o e).lt
theorem HOk.fresh (x:HOk P w H h) (e:h.objs.size<=a):H a=none:=by
 cases q:H a with
 | none=>rfl
 | some u=>exact absurd (Nat.lt_of_lt_of_le (x.lt q) e) (Nat.lt_irrefl _)
theorem HOk.kept (x:HOk P w H h) (k:∀ b u,h.get? b=some u->h'.get? b=some u):HOk P w H h':=fun a o e =>
 (x a o e).stay (fun b u _ q=>k b u q) (fun _ q=>q) fun _ _ q=>q
theorem HOk.laid (x:HOk P w H h) (k:∀ b u,h.get? b=some u->h'.get? b=some u) (hp:h.objs.size<=a) (new:ObjOk P w (upd H a o) h' a o):HOk P w (upd H a o) h':=fun b u e=>by
 have hn:=x.fresh hp
 by_cases hb:b=a
 ·subst hb; rw [cB] at e; cases e; exact new
 ·rw [bF hb] at e
  exact (x b u e).stay (fun c v _ q=>k c v q) (fun c q=>by rw [bF (cA q hn)]; exact q) fun c xs q=>by rw [bF (cA q hn)]; exact q
end
noncomputable def Rd (H:Hp) (a:Addr) (u:HO):Prop:=H a=some u\/∃ o,H a=some (.frz o u)
theorem Rd.of {H:Hp} {a:Addr} {u:HO} (h:H a=some u):Rd H a u:=.inl h
theorem Rd.ok {P:Program} {w:World} {H:Hp} {h:Heap} {a:Addr} {u:HO} (r:Rd H a u) (x:HOk P w H h):ObjOk P w H h a u:=by
 rcases r with r | ⟨o,r⟩
 ·exact x a u r
 ·obtain ⟨_,q⟩:=x a _ r
  exact q
noncomputable def Mut:Option HO->Prop
 | some (.lst _)=>True
 | some (.dK _)=>True
 | some (.dT _)=>True
 | some (.set _ _)=>True
 | some (.ins _ _ _)=>True
 | some (.ext _)=>True
 | _=>False
section
variable {P:Program} {w:World} {H:Hp} {h h':Heap} {x e:Addr} {o':HO}
theorem HOk.write (ok:HOk P w H h) (mu:Mut (H x)) (he:e=x\/H e=some (.own x)) (k:∀ b u,b≠e->h.get? b=some u->h'.get? b=some u) (heo:∃ u,h'.get? e=some u)
  (new:ObjOk P w (upd H x o') h' x o'):HOk P w (upd H x o') h':=fun b u q=>by
 have nown:∀ c y,H c=some (.own y)->c≠x:=fun c y r z=>by subst z; rw [r] at mu; exact mu
 have ntup:∀ c xs,H c=some (.tup xs)->c≠x:=fun c xs r z=>by subst z; rw [r] at mu; exact mu
 by_cases hb:b=x
 ·subst hb; rw [cB] at q; cases q; exact new
 ·rw [bF hb] at q
  by_cases hbe:b=e
  ·have q':H b=some (.own x):=by
    rcases he with z | z
    ·exact absurd (hbe.trans z) hb
    ·rw [hbe]; exact z
   rw [q] at q'; cases q'
   obtain ⟨v,hv⟩:=heo
   exact ⟨v,by rw [hbe]; exact hv⟩
  ·refine (ok b u q).stay (fun c v hc r=>k c v ?_ r) (fun c r=>by rw [bF (nown c b r)]; exact r) fun c xs r=>by rw [bF (ntup c xs r)]; exact r
   rcases hc with rfl | hc
   ·exact hbe
   ·rintro rfl
    rcases he with z | z
    ·exact nown c b hc z
    ·rw [hc] at z; cases z; exact hb rfl
end
structure Un (fs ex:List Addr) (H H':Hp) (h h':Heap):Prop where
 keep:∀ b o,h.get? b=some o->H b=none->b∉fs->b∉ex->h'.get? b=some o
 slot:∀ b o,h.get? b=some o->H b=none->b∈fs->b∉ex->∃ sl,h'.get? b=some { o with slots:=sl }
 free:∀ b o,h.get? b=some o->H b=none->b∉ex->H' b=none
 there:∀ b o,h.get? b=some o->b∉ex->∃ o',h'.get? b=some o'
 tups:∀ b xs,H b=some (.tup xs)->H' b=some (.tup xs)
 frzs:∀ b o u,H b=some (.frz o u)->H' b=some (.frz o u)
 tbls:∀ b ps,H b=some (.tbl ps)->∃ more,H' b=some (.tbl (ps++more))
section
variable {fs fs' ex ex':List Addr} {H H1 H2:Hp} {h h1 h2 h':Heap} {a x e:Addr} {o:HO}
theorem Un.any (u:Un fs ex H H1 h h1) {b:Addr} {ob:Obj} (q:h.get? b=some ob) (n:H b=none) (hx:b∉ex):∃ sl,h1.get? b=some { ob with slots:=sl }:=by
 by_cases hb:b∈fs
 ·exact u.slot b ob q n hb hx
 ·exact ⟨ob.slots,u.keep b ob q n hb hx⟩
theorem Un.trans (a:Un fs ex H H1 h h1) (b:Un fs ex H1 H2 h1 h2):Un fs ex H H2 h h2 where
 keep:=fun c ob q n hc hx=>b.keep c ob (a.keep c ob q n hc hx) (a.free c ob q n hx) hc hx
 slot:=fun c ob q n hc hx=>by
  obtain ⟨sl,e1⟩:=a.slot c ob q n hc hx
  obtain ⟨sl',e2⟩:=b.slot c _ e1 (a.free c ob q n hx) hc hx
  exact ⟨sl',e2⟩
 free:=fun c ob q n hx=>by
  obtain ⟨o',e1⟩:=a.there c ob q hx
  exact b.free c o' e1 (a.free c ob q n hx) hx
 there:=fun c ob q hx=>by
  obtain ⟨o',e1⟩:=a.there c ob q hx
  exact b.there c o' e1 hx
 tups:=fun c xs q=>b.tups c xs (a.tups c xs q)
 frzs:=fun c ob xs q=>b.frzs c ob xs (a.frzs c ob xs q)
 tbls:=fun c ps q=>by
  obtain ⟨m1,e1⟩:=a.tbls c ps q
  obtain ⟨m2,e2⟩:=b.tbls c _ e1
  exact ⟨m1++m2,by rw [e2,Array.append_assoc]⟩
theorem Un.kept (k:∀ b u,h.get? b=some u->h'.get? b=some u):Un fs ex H H h h' :=
 ⟨fun b ob q _ _ _=>k b ob q,fun b ob q _ _ _=>⟨ob.slots,k b ob q⟩,fun _ _ _ n _=>n,fun b ob q _=>⟨ob,k b ob q⟩,fun _ _ q=>q,fun _ _ _ q=>q,fun _ ps q=>⟨#[],by rw [q]; simp⟩⟩
theorem Un.refl:Un fs ex H H h h:=Un.kept fun _ _ q=>q
theorem Un.laid (k:∀ b u,h.get? b=some u->h'.get? b=some u) (hp:h.objs.size<=a) (hn:H a=none):Un fs ex H (upd H a o) h h' where
 keep:=fun b u q _ _ _=>k b u q
 slot:=fun b u q _ _ _=>⟨u.slots,k b u q⟩
 free:=fun b u q n _=>by rw [bF (Nat.ne_of_lt (Nat.lt_of_lt_of_le (Heap.lt_size q) hp))]; exact n
 there:=fun b u q _=>⟨u,k b u q⟩
 tups:=fun b xs q=>by rw [bF (cA q hn)]; exact q
 frzs:=fun b u xs q=>by rw [bF (cA q hn)]; exact q
 tbls:=fun b ps q=>⟨#[],by rw [bF (cA q hn),q]; simp⟩
theorem Un.write (mu:Mut (H x)) (he:e=x\/H e=some (.own x)) (k:∀ b u,b≠e->h.get? b=some u->h'.get? b=some u) (heo:∃ u,h'.get? e=some u):Un fs ex H (upd H x o) h h':=by
 have hx:∀ b,H b=none->b≠x:=fun b n z=>by subst z; rw [n] at mu; exact mu
 have hb:∀ b,H b=none->b≠e:=fun b n z=>by
  subst z
  rcases he with r | r
  ·exact hx b n r
  ·rw [n] at r; cases r
 have hm:∀ b u,H b=some u->¬ Mut (some u)->b≠x:=fun b u q nm z=>by subst z; rw [q] at mu; exact nm mu
 refine ⟨fun b u q n _ _=>k b u (hb b n) q,fun b u q n _ _=>⟨u.slots,k b u (hb b n) q⟩,fun b u q n _=>by rw [bF (hx b n)]; exact n,fun b u q _=>?_,
  fun b xs q=>by rw [bF (hm b _ q fun z=>z)]; exact q,fun b u xs q=>by rw [bF (hm b _ q fun z=>z)]; exact q,fun b ps q=>⟨#[],by rw [bF (hm b _ q fun z=>z),q]; simp⟩⟩
 by_cases hbe:b=e
 ·subst hbe; exact heo
 ·exact ⟨u,k b u hbe q⟩
theorem Un.mono (u:Un fs ex H H1 h h1) (hs:∀ b∈fs,b∈fs') (hx:∀ b∈ex,b∈ex'):Un fs' ex' H H1 h h1 :=
 ⟨fun b ob q n hb he=>u.keep b ob q n (fun z=>hb (hs b z)) fun z=>he (hx b z),fun _ _ q n _ he=>u.any q n fun z=>he (hx _ z),fun b ob q n he=>u.free b ob q n fun z=>he (hx b z),fun b ob q he=>u.there b ob q fun z=>he (hx b z),u.tups,u.frzs,u.tbls⟩
end
noncomputable def trk (h:Heap) (H:Hp):List Addr:=(List.range h.objs.size).filter fun a=>(H a).isSome
noncomputable def hidT (h:Heap) (H:Hp):Heap:=PySem.W.hideAll h (trk h H)
theorem aAg (h:Heap) (H:Hp):(hidT h H).objs.size=h.objs.size:=PySem.W.hideAll_size _ _
theorem aBr {h:Heap} {H:Hp} {b:Addr} {o:Obj} (e:h.get? b=some o) (n:H b=none):(hidT h H).get? b=some o :=
 PySem.W.hideAll_get _ e fun hm=>by
  have q:(H b).isSome=true:=(List.mem_filter.mp hm).2
  rw [n] at q; simp at q
theorem aEj {h:Heap} {H:Hp} {b:Addr} {o:Obj} (e:(hidT h H).get? b=some o):h.get? b=some o/\H b=none:=by
 have e':h.get? b=some o:=PySem.W.of_hideAll (trk h H) e
 refine ⟨e',?_⟩
 cases q:H b with
 | none=>rfl
 | some x =>
  have hm:b∈trk h H:=List.mem_filter.mpr ⟨List.mem_range.mpr (Heap.lt_size e'),by simp [q]⟩
  have z:(hidT h H).get? b=none:=PySem.W.hideAll_none (trk h H) hm
  rw [z] at e; cases e
noncomputable def allNews (g h:Heap) (L:Addr):List (Addr×Obj):=(List.range h.objs.size).filterMap fun a=>if a=L\/(g.get? a).isSome=true then none else (h.get? a).map fun o=>(a,o)
noncomputable def rest (g h:Heap) (L d:Addr):List (Addr×Obj):=(allNews g h L).filter fun p=>decide (p.1≠d)
end L2
namespace L2
open PySem PySem.Spec PyProof.Rows
structure Mod (K:PySem.W.Frag) (mg:Str->Option Value) (base:Heap):Prop where
 kin:K.In base
 glob:base.Ns mainGlobals mg
 blt:∃ mb,base.Ns builtinsNs mb/\∀ x:Str,x≠"__name__"->mb x=bootBuiltins x
 nolimit:base.NoLimit
structure Cx where
 prog:Program
 w:World
 K:PySem.W.Frag
 mg:Str->Option Value
 base:Heap
 A:Around
 N:List Str
 s₀:Shared
 H₀:Hp
 env:Env
 outer:List Env
 stack:List Env
 ex:List Addr
 fn:Str->Bool
 calm:Bool
 pn:List (Addr×Obj)
 xe:Value->Shared->Prop
noncomputable def frs (l:List Env):List Addr:=l.filterMap (·.frame)
noncomputable abbrev Cx.fs (X:Cx):List Addr:=frs X.outer
noncomputable def Vis (sc:Scope) (x:Str):Prop:=sc.names.lookup x=some .local\/sc.names.lookup x=some .cell\/sc.names.lookup x=some .free
noncomputable def Loc (sc:Scope) (x:Str):Prop:=sc.names.lookup x=some .local\/sc.names.lookup x=some .cell
noncomputable def Look (env:Env) (h:Heap) (m:Str->Option Value) (x:Str) (u:Value):Prop :=
 (env.kindOf x=some .local/\m x=some u)\/((env.kindOf x=some .cell\/env.kindOf x=some .free)/\∃ c,env.cells.lookup x=some c/\h.IsCell c (some u))
structure Cx.Ok (X:Cx):Prop where
 mod:Mod X.K X.mg X.base
 kind:X.env.scope.kind=.function
 glob:X.env.globals=mainGlobals
 blt:X.env.builtins=builtinsNs
 above:X.s₀.heap.objs.size<=X.env.locals
 inj:∀ x y c,X.env.cells.lookup x=some c->X.env.cells.lookup y=some c->x=y
 has:∀ x,(X.env.kindOf x=some .cell\/X.env.kindOf x=some .free)->∃ c,X.env.cells.lookup x=some c
 cab:∀ x c,X.fn x=true->X.env.cells.lookup x=some c->X.s₀.heap.objs.size<=c
 hd:X.calm=true->X.A.handled=none
 frames:X.A.frames=some X.stack
 stk:X.stack=X.outer\/(X.stack=X.env::X.outer/\X.env.frame=some X.env.locals)
 exf:∀ b∈X.ex,b≠X.env.locals/\∀ x c,X.env.cells.lookup x=some c->c≠b
 bs:∀ b o,X.base.get? b=some o->X.s₀.heap.get? b=some o/\X.H₀ b=none
 bsz:X.base.objs.size<=X.s₀.heap.objs.size
 noex:∀ b o,X.base.get? b=some o->b∉X.ex
 exfs:∀ b∈X.ex,b∉X.fs
 funs:X.s₀.heap.FunFrames X.base X.outer
 frf:∀ b∈X.fs,X.H₀ b=none
structure Inv (X:Cx) (pins:List (Addr×Obj)) (σ:List (Option V)) (H:Hp) (s:Shared):Prop where
 ok:X.Ok
 os:s.os=X.s₀.os
 bare:AllBare s.gens
 base:Un X.fs X.ex X.H₀ H X.s₀.heap s.heap
 loc:∃ m,s.heap.Ns X.env.locals m/\∀ (i:Nat) (x:Str) (v:V),X.N[i]?=some x->σ[i]?=some (some v)->Vis X.env.scope x->∃ u,RelV v u/\Look X.env s.heap m x u
 cell:∀ x c,X.env.cells.lookup x=some c->∃ v,s.heap.IsCell c v
 free:H X.env.locals=none
 freeC:∀ x c,X.env.cells.lookup x=some c->H c=none
 pin:∀ p∈X.pn++pins,s.heap.get? p.1=some p.2/\H p.1=none/\p.1≠X.env.locals/\p.1∉X.fs/\∀ v,p.2.data≠.cell v
 hok:HOk X.prog X.w H s.heap
 len:σ.length=X.N.length
section
variable {X:Cx} {pins:List (Addr×Obj)} {σ:List (Option V)} {H H':Hp} {s:Shared} {h':Heap}
theorem Cx.Ok.nofr (ok:X.Ok) {b:Addr} {o:Obj} (e:X.base.get? b=some o):b∉X.fs:=fun hb=>by
 have:=(ok.funs.mem hb).1
 rw [e] at this; cases this
theorem Inv.bs (I:Inv X pins σ H s):∀ b o,X.base.get? b=some o->s.heap.get? b=some o/\H b=none:=fun b o e =>
 ⟨I.base.keep b o (I.ok.bs b o e).1 (I.ok.bs b o e).2 (I.ok.nofr e) (I.ok.noex b o e),I.base.free b o (I.ok.bs b o e).1 (I.ok.bs b o e).2 (I.ok.noex b o e)⟩
theorem Inv.bk (I:Inv X pins σ H s):∀ b o,X.base.get? b=some o->s.heap.get? b=some o:=fun b o e=>(I.bs b o e).1
theorem Inv.mod (I:Inv X pins σ H s):Mod X.K X.mg X.base:=I.ok.mod
theorem Inv.kIn (I:Inv X pins σ H s):X.K.In s.heap:=I.ok.mod.kin.keeps I.bk
theorem Inv.nolimit (I:Inv X pins σ H s):s.heap.NoLimit:=I.ok.mod.nolimit.keeps I.bk
theorem Inv.lt (I:Inv X pins σ H s):X.env.locals < s.heap.objs.size:=let ⟨_,hn,_⟩:=I.loc; hn.lt
theorem Inv.sz (I:Inv X pins σ H s):X.s₀.heap.objs.size<=s.heap.objs.size:=Nat.le_trans I.ok.above (Nat.le_of_lt I.lt)
theorem Inv.nofs (I:Inv X pins σ H s) {a:Addr} (h:s.heap.objs.size<=a):a∉X.fs:=fun hb=>by
 obtain ⟨_,o,ho,_⟩:=I.ok.funs.mem hb
 exact absurd (Nat.lt_of_lt_of_le (Heap.lt_size ho) (Nat.le_trans I.sz h)) (Nat.lt_irrefl _)
theorem Inv.cne (I:Inv X pins σ H s):∀ x c,X.env.cells.lookup x=some c->c≠X.env.locals:=fun x c e z=>by
 obtain ⟨v,o,ho,hd⟩:=I.cell x c e
 obtain ⟨m,⟨o',es,ep,ho',hd',_⟩,_⟩:=I.loc
 rw [z,ho'] at ho; cases ho; rw [hd'] at hd; cases hd
theorem Inv.funs (I:Inv X pins σ H s):s.heap.FunFrames X.base X.outer:=by
 have all:∀ (l:List Env),(∀ b∈frs l,b∈X.fs)->X.s₀.heap.FunFrames X.base l->s.heap.FunFrames X.base l:=by
  intro l
  induction l with
  | nil=>intro _ _; trivial
  | cons env r ih =>
   intro hs hl
   obtain ⟨hk,⟨L,o,hf,hn,ho,hd⟩,hr⟩:=hl
   have hL:L∈X.fs:=hs L (by unfold frs; rw [List.filterMap_cons,hf]; exact List.mem_cons_self)
   obtain ⟨sl,e⟩:=I.base.slot L o ho (I.ok.frf L hL) hL fun z=>I.ok.exfs L z hL
   exact ⟨hk,⟨L,_,hf,hn,e,hd⟩,ih (fun b hb=>hs b (by unfold frs; rw [List.filterMap_cons,hf]; exact List.mem_cons_of_mem _ hb)) hr⟩
 exact all X.outer (fun _ hb=>hb) I.ok.funs
theorem Inv.stack (I:Inv X pins σ H s):s.heap.FunFrames X.base X.stack:=by
 rcases I.ok.stk with e | ⟨e,hf⟩
 ·rw [e]; exact I.funs
 ·rw [e]
  obtain ⟨m,hn,_⟩:=I.loc
  refine .cons (by rw [I.ok.kind]; decide) hf hn ?_ I.funs
  exact Heap.get?_none_of_le (Nat.le_trans I.ok.bsz I.ok.above)
theorem Inv.stkSub (I:Inv X pins σ H s):∀ b∈frs X.stack,b∈X.env.locals::X.fs:=fun b hb=>by
 rcases I.ok.stk with e | ⟨e,hf⟩
 ·rw [e] at hb; exact List.mem_cons_of_mem _ hb
 ·rw [e] at hb
  unfold frs at hb
  rw [List.filterMap_cons,hf] at hb
  exact hb
theorem Inv.stkFree (I:Inv X pins σ H s):∀ b∈frs X.stack,H b=none:=fun b hb=>by
 rcases List.mem_cons.mp (I.stkSub b hb) with e | hb
 ·rw [e]; exact I.free
 ·obtain ⟨_,o,ho,_⟩:=I.ok.funs.mem hb
  exact I.base.free b o ho (I.ok.frf b hb) fun z=>I.ok.exfs b z hb
theorem Inv.step {g':Array GenState} {t':Nat} {d':Drawn} {ch:List Addr} (I:Inv X pins σ H s)
  (hch:∀ b∈ch,(b∈X.ex\/X.s₀.heap.objs.size<=b)/\b≠X.env.locals/\(∀ x c,X.env.cells.lookup x=some c->c≠b)/\∀ p∈X.pn++pins,p.1≠b)
  (keep:∀ b o,b≠X.env.locals->b∉X.fs->b∉ch->s.heap.get? b=some o->H b=none->h'.get? b=some o)
  (slot:∀ b o,b≠X.env.locals->b∈X.fs->b∉ch->s.heap.get? b=some o->H b=none->∃ sl,h'.get? b=some { o with slots:=sl }) (free:∀ b o,b∉ch->s.heap.get? b=some o->H b=none->H' b=none)
  (there:∀ b o,b∉ch->s.heap.get? b=some o->∃ o',h'.get? b=some o')
  (tups:∀ b xs,H b=some (.tup xs)->H' b=some (.tup xs)) (frzs:∀ b o u,H b=some (.frz o u)->H' b=some (.frz o u)) (tbls:∀ b ps,H b=some (.tbl ps)->∃ more,H' b=some (.tbl (ps++more)))
  (ns:∀ m,s.heap.Ns X.env.locals m->h'.Ns X.env.locals m) (hok:HOk X.prog X.w H' h') (hg:AllBare g') :
  Inv X pins σ H' { s with heap:=h',gens:=g',drawn:=d',toks:=t' }:=by
 have neL:∀ b o,X.s₀.heap.get? b=some o->b≠X.env.locals:=fun b o e=>Nat.ne_of_lt (Nat.lt_of_lt_of_le (Heap.lt_size e) I.ok.above)
 have neC:∀ b o,X.s₀.heap.get? b=some o->b∉X.ex->b∉ch:=fun b o e hx hb=>by
  rcases (hch b hb).1 with z | z
  ·exact hx z
  ·exact absurd (Nat.lt_of_lt_of_le (Heap.lt_size e) z) (Nat.lt_irrefl _)
 have cellK:∀ x c,X.env.cells.lookup x=some c->∀ v,s.heap.IsCell c v->h'.IsCell c v:=fun x c e v ⟨o,ho,hd⟩=>by
  have nch:c∉ch:=fun z=>(hch c z).2.2.1 x c e rfl
  by_cases hc:c∈X.fs
  ·obtain ⟨sl,q⟩:=slot c o (I.cne x c e) hc nch ho (I.freeC x c e)
   exact ⟨_,q,hd⟩
  ·exact ⟨o,keep c o (I.cne x c e) hc nch ho (I.freeC x c e),hd⟩
 refine ⟨I.ok,I.os,hg,⟨fun b o e n hb hx=>?_,fun b o e n hb hx=>?_,fun b o e n hx=>?_,fun b o e hx=>?_,fun b xs e=>tups b xs (I.base.tups b xs e),fun b o xs e=>frzs b o xs (I.base.frzs b o xs e),fun b ps e=>?_⟩,?_,fun x c e=>?_,?_,fun x c e=>?_,fun p hp=>?_,hok,I.len⟩
 ·exact keep b o (neL b o e) hb (neC b o e hx) (I.base.keep b o e n hb hx) (I.base.free b o e n hx)
 ·obtain ⟨sl,e1⟩:=I.base.slot b o e n hb hx
  obtain ⟨sl',e2⟩:=slot b _ (neL b o e) hb (neC b o e hx) e1 (I.base.free b o e n hx)
  exact ⟨sl',e2⟩
 ·obtain ⟨o',e1⟩:=I.base.there b o e hx
  exact free b o' (neC b o e hx) e1 (I.base.free b o e n hx)
 ·obtain ⟨o',e1⟩:=I.base.there b o e hx
  exact there b o' (neC b o e hx) e1
 ·obtain ⟨m1,e1⟩:=I.base.tbls b ps e
  obtain ⟨m2,e2⟩:=tbls b _ e1
  exact ⟨m1++m2,by rw [e2,Array.append_assoc]⟩
 ·obtain ⟨m,hn,hl⟩:=I.loc
  refine ⟨m,ns m hn,fun i x v e1 e2 e3=>?_⟩
  obtain ⟨u,r,l⟩:=hl i x v e1 e2 e3
  refine ⟨u,r,?_⟩
  rcases l with l | ⟨k,c,e,z⟩
  ·exact .inl l
  ·exact .inr ⟨k,c,e,cellK x c e _ z⟩
 ·obtain ⟨v,z⟩:=I.cell x c e
  exact ⟨v,cellK x c e v z⟩
 ·obtain ⟨m,⟨o,_,_,ho,_⟩,_⟩:=I.loc
  exact free _ o (fun z=>(hch _ z).2.1 rfl) ho I.free
 ·obtain ⟨v,o,ho,hd⟩:=I.cell x c e
  exact free c o (fun z=>(hch c z).2.2.1 x c e rfl) ho (I.freeC x c e)
 ·obtain ⟨e,n,ne,nf,d⟩:=I.pin p hp
  have nch:p.1∉ch:=fun z=>(hch p.1 z).2.2.2 p hp rfl
  exact ⟨keep p.1 p.2 ne nf nch e n,free p.1 p.2 nch e n,ne,nf,d⟩
theorem Inv.un {t':Nat} (I:Inv X pins σ H s) (u:Un X.fs [] H H' s.heap h') (hok:HOk X.prog X.w H' h'):Inv X pins σ H' { s with heap:=h',toks:=t' }:=by
 obtain ⟨m,⟨o,es,ep,ho,r⟩,_⟩:=id I.loc
 obtain ⟨sl,hL⟩:=u.any ho I.free (by simp)
 exact I.step (g':=s.gens) (d':=s.drawn) (ch:=[]) (fun _ z=>nomatch z) (fun b o _ hb _ e n=>u.keep b o e n hb (by simp)) (fun b o _ hb _ e n=>u.slot b o e n hb (by simp)) (fun b o _ e n=>u.free b o e n (by simp)) (fun b o _ e=>u.there b o e (by simp)) u.tups u.frzs u.tbls (fun m' hm=>by
  obtain ⟨o',es',ep',ho',r'⟩:=hm
  rw [ho] at ho'; cases ho'
  exact ⟨_,es',ep',hL,r'⟩) hok I.bare
theorem Inv.call {g':Array GenState} {t':Nat} {d':Drawn} {ch:List Addr} (I:Inv X pins σ H s) (u:Un (frs X.stack) ch H H' s.heap h') (hok:HOk X.prog X.w H' h') (hg:AllBare g')
  (hch:∀ b∈ch,(b∈X.ex\/X.s₀.heap.objs.size<=b)/\b≠X.env.locals/\(∀ x c,X.env.cells.lookup x=some c->c≠b)/\∀ p∈X.pn++pins,p.1≠b) :
  Inv X pins σ H' { s with heap:=h',gens:=g',drawn:=d',toks:=t' }:=by
 obtain ⟨m,⟨o,es,ep,ho,r⟩,_⟩:=id I.loc
 obtain ⟨sl,hL⟩:=u.any ho I.free fun z=>(hch _ z).2.1 rfl
 exact I.step (ch:=ch) hch (fun b o hL hb hc e n=>u.keep b o e n (fun z=>(List.mem_cons.mp (I.stkSub b z)).elim hL hb) hc) (fun b o _ _ hc e n=>u.any e n hc) (fun b o hc e n=>u.free b o e n hc) (fun b o hc e=>u.there b o e hc) u.tups u.frzs u.tbls (fun m' hm=>by
  obtain ⟨o',es',ep',ho',r'⟩:=hm
  rw [ho] at ho'; cases ho'
  exact ⟨_,es',ep',hL,r'⟩) hok hg
theorem Inv.turned {t':Nat} {it:Addr} (I:Inv X pins σ H s) (k:∀ b o,b≠it->s.heap.get? b=some o->h'.get? b=some o) (hn:H it=none) (hL:it≠X.env.locals)
  (h1:it∈X.ex\/X.s₀.heap.objs.size<=it) (h2:∀ x c,X.env.cells.lookup x=some c->c≠it) (h3:∀ p∈X.pn++pins,p.1≠it):Inv X pins σ H { s with heap:=h',toks:=t' }:=by
 have nit:∀ b u,H b=some u->b≠it:=fun b u e z=>by rw [z,hn] at e; cases e
 refine I.step (g':=s.gens) (d':=s.drawn) (ch:=[it]) (fun b hb=>?_) (fun b o _ _ hc e _=>k b o (fun z=>hc (by simp [z])) e) (fun b o _ _ hc e _=>⟨o.slots,k b o (fun z=>hc (by simp [z])) e⟩) (fun _ _ _ _ n=>n)
  (fun b o hc e=>⟨o,k b o (fun z=>hc (by simp [z])) e⟩) (fun _ _ e=>e) (fun _ _ _ e=>e) (fun b ps e=>⟨#[],by rw [e]; simp⟩) (fun m hm=>?_) (fun b u e=>?_) I.bare
 ·have e:b=it:=by simpa using hb
  subst e
  exact ⟨h1,hL,h2,h3⟩
 ·obtain ⟨o,es,ep,ho,r⟩:=hm
  exact ⟨o,es,ep,k _ o (Ne.symm hL) ho,r⟩
 ·refine (I.hok b u e).stay (fun c v hc q=>k c v ?_ q) (fun _ q=>q) fun _ _ q=>q
  rcases hc with z | z
  ·rw [z]; exact nit b u e
  ·exact nit c _ z
theorem Inv.tok (I:Inv X pins σ H s) (t:Nat):Inv X pins σ H { s with toks:=t }:=I.un (h':=s.heap) (t':=t) Un.refl I.hok
theorem Inv.kept {t':Nat} (I:Inv X pins σ H s) (k:∀ b u,s.heap.get? b=some u->h'.get? b=some u):Inv X pins σ H { s with heap:=h',toks:=t' }:=I.un (Un.kept k) (I.hok.kept k)
theorem Inv.laid {a:Addr} {o:HO} {t':Nat} (I:Inv X pins σ H s) (k:∀ b u,s.heap.get? b=some u->h'.get? b=some u) (hp:s.heap.objs.size<=a) (new:ObjOk X.prog X.w (upd H a o) h' a o) :
  Inv X pins σ (upd H a o) { s with heap:=h',toks:=t' }:=I.un (Un.laid k hp (I.hok.fresh hp)) (I.hok.laid k hp new)
theorem Inv.write {x e:Addr} {o:HO} {t':Nat} (I:Inv X pins σ H s) (mu:Mut (H x)) (he:e=x\/H e=some (.own x)) (k:∀ b u,b≠e->s.heap.get? b=some u->h'.get? b=some u) (heo:∃ u,h'.get? e=some u)
  (new:ObjOk X.prog X.w (upd H x o) h' x o):Inv X pins σ (upd H x o) { s with heap:=h',toks:=t' }:=I.un (Un.write mu he k heo) (I.hok.write mu he k heo new)
theorem Inv.pins_of {pins':List (Addr×Obj)} (I:Inv X pins σ H s) (h:∀ p∈pins',s.heap.get? p.1=some p.2/\H p.1=none/\p.1≠X.env.locals/\p.1∉X.fs/\∀ v,p.2.data≠.cell v):Inv X pins' σ H s :=
 ⟨I.ok,I.os,I.bare,I.base,I.loc,I.cell,I.free,I.freeC,fun p hp=>(List.mem_append.mp hp).elim (fun z=>I.pin p (List.mem_append_left _ z)) (h p),I.hok,I.len⟩
theorem uM {N:List Str} (hN:N.Nodup) {i j:Nat} {x:Str} (a:N[i]?=some x) (b:N[j]?=some x):i=j:=by
 obtain ⟨h1,e1⟩:=List.getElem?_eq_some_iff.mp a
 obtain ⟨h2,e2⟩:=List.getElem?_eq_some_iff.mp b
 exact (List.getElem_inj hN).mp (e1.trans e2.symm)
theorem rX {M:Model} {A:Around} {E:Value->Shared->Prop} {i:Nat} {x:Str} {v:V} {u:Value} {Q:Unit->Shared->Prop} (I:Inv X pins σ H s) (hN:X.N.Nodup) (hi:X.N[i]?=some x) (hx:Loc X.env.scope x) (r:RelV v u)
  (h:∀ s',Inv X pins (σ.set i (some v)) H s'->(∃ a,Heap.SameBut a s.heap s'.heap/\(a=X.env.locals\/X.env.cells.lookup x=some a))->Q () s') (hf:X.fn x=true\/X.env.scope.names.lookup x=some .local:=by first | exact .inl rfl | exact .inr rfl | assumption):wpAny M A (storeName X.env x u) Q E s:=by
 obtain ⟨m,hn,hl⟩:=id I.loc
 have hcls:(X.env.scope.kind==.class || (X.env.scope.kind==.module&&X.env.locals != X.env.globals))=false:=by rw [I.ok.kind]; rfl
 have hiσ:i < σ.length:=by rw [I.len]; exact (List.getElem?_eq_some_iff.mp hi).1
 have cne:=I.cne
 have tracked:∀ {a:Addr} {h':Heap},(∃ o,s.heap.get? a=some o/\H a=none)->Heap.SameBut a s.heap h'->HOk X.prog X.w H h':=fun {a h'} ha hs b ob e=>by
  obtain ⟨_,_,hfree⟩:=ha
  refine (I.hok b ob e).stay (fun c w' hc q=>(hs.2 c ?_).trans q) (fun _ q=>q) fun _ _ q=>q
  rintro rfl
  rcases hc with rfl | hc
  ·rw [hfree] at e; cases e
  ·rw [hfree] at hc; cases hc
 rcases hx with hk | hk
 ·refine wpAny_storeName_local hk hn (fun h' hn' hs=>?_) hcls
  obtain ⟨oL,_,_,hoL,_⟩:=id hn
  refine h _ ⟨I.ok,I.os,I.bare,⟨fun b o e n hb hx=>?_,fun b o e n hb hx=>?_,I.base.free,fun b o e hx=>?_,I.base.tups,I.base.frzs,I.base.tbls⟩,⟨_,hn',fun j y v' e1 e2 e3=>?_⟩,fun y c e=>?_,I.free,I.freeC,fun p hp=>?_,tracked ⟨oL,hoL,I.free⟩ hs,by simpa using I.len⟩ ⟨_,hs,.inl rfl⟩
  ·exact (hs.2 b (Nat.ne_of_lt (Nat.lt_of_lt_of_le (Heap.lt_size e) I.ok.above))).trans (I.base.keep b o e n hb hx)
  ·obtain ⟨sl,e1⟩:=I.base.slot b o e n hb hx
   exact ⟨sl,(hs.2 b (Nat.ne_of_lt (Nat.lt_of_lt_of_le (Heap.lt_size e) I.ok.above))).trans e1⟩
  ·obtain ⟨o',e1⟩:=I.base.there b o e hx
   exact ⟨o',(hs.2 b (Nat.ne_of_lt (Nat.lt_of_lt_of_le (Heap.lt_size e) I.ok.above))).trans e1⟩
  ·by_cases hj:j=i
   ·subst hj
    rw [hi] at e1; cases e1
    rw [List.getElem?_set_self hiσ] at e2
    cases e2
    exact ⟨u,r,.inl ⟨hk,by simp⟩⟩
   ·rw [List.getElem?_set_ne (Ne.symm hj)] at e2
    obtain ⟨u',r',q⟩:=hl j y v' e1 e2 e3
    refine ⟨u',r',?_⟩
    rcases q with ⟨k,e⟩ | ⟨k,c,e,z⟩
    ·refine .inl ⟨k,?_⟩
     have:y≠x:=fun e=>hj (uM hN e1 (e▸hi))
     simp [this,e]
    ·exact .inr ⟨k,c,e,z.sameBut hs (cne y c e)⟩
  ·obtain ⟨w',z⟩:=I.cell y c e
   exact ⟨w',z.sameBut hs (cne y c e)⟩
  ·obtain ⟨e,n,ne,nf,d⟩:=I.pin p hp
   exact ⟨(hs.2 p.1 ne).trans e,n,ne,nf,d⟩
 ·have hfn:X.fn x=true:=by
   rcases hf with z | z
   ·exact z
   ·rw [z] at hk; cases hk
  obtain ⟨c,hc⟩:=I.ok.has x (.inl hk)
  obtain ⟨w',z⟩:=I.cell x c hc
  refine wpAny_storeName_cell I.ok.kind hk hc z (fun h' hc' hs=>?_)
  obtain ⟨oc,hoc,hocd⟩:=id z
  refine h { s with heap:=h' } ⟨I.ok,I.os,I.bare,⟨fun b o e n hb hx=>?_,fun b o e n hb hx=>?_,I.base.free,fun b o e hx=>?_,I.base.tups,I.base.frzs,I.base.tbls⟩,⟨m,hn.sameBut hs (Ne.symm (cne x c hc)),fun j y v' e1 e2 e3=>?_⟩,fun y c' e=>?_,I.free,I.freeC,fun p hp=>?_,tracked ⟨oc,hoc,I.freeC x c hc⟩ hs,by simpa using I.len⟩ ⟨c,hs,.inr hc⟩
  ·exact (hs.2 b (Nat.ne_of_lt (Nat.lt_of_lt_of_le (Heap.lt_size e) (I.ok.cab x c hfn hc)))).trans (I.base.keep b o e n hb hx)
  ·obtain ⟨sl,e1⟩:=I.base.slot b o e n hb hx
   exact ⟨sl,(hs.2 b (Nat.ne_of_lt (Nat.lt_of_lt_of_le (Heap.lt_size e) (I.ok.cab x c hfn hc)))).trans e1⟩
  ·obtain ⟨o',e1⟩:=I.base.there b o e hx
   exact ⟨o',(hs.2 b (Nat.ne_of_lt (Nat.lt_of_lt_of_le (Heap.lt_size e) (I.ok.cab x c hfn hc)))).trans e1⟩
  ·by_cases hj:j=i
   ·subst hj
    rw [hi] at e1; cases e1
    rw [List.getElem?_set_self hiσ] at e2
    cases e2
    exact ⟨u,r,.inr ⟨.inl hk,c,hc,hc'⟩⟩
   ·rw [List.getElem?_set_ne (Ne.symm hj)] at e2
    obtain ⟨u',r',q⟩:=hl j y v' e1 e2 e3
    refine ⟨u',r',?_⟩
    rcases q with q | ⟨k,c',e,z'⟩
    ·exact .inl q
    ·refine .inr ⟨k,c',e,z'.sameBut hs ?_⟩
     rintro rfl
     exact hj (uM hN e1 (I.ok.inj _ _ _ e hc▸hi))
  ·by_cases hcc:c'=c
   ·subst hcc; exact ⟨_,hc'⟩
   ·obtain ⟨w2,z2⟩:=I.cell y c' e
    exact ⟨w2,z2.sameBut hs hcc⟩
  ·obtain ⟨e,n,ne,nf,d⟩:=I.pin p hp
   refine ⟨(hs.2 p.1 ?_).trans e,n,ne,nf,d⟩
   intro q
   rw [q,hoc] at e
   have q':oc=p.2:=Option.some.inj e
   exact d w' (by rw [<- q']; exact hocd)
theorem jI {M:Model} {A:Around} {E:Value->Shared->Prop} {i:Nat} {x:Str} {v:V} {u:Value} {Q:Unit->Shared->Prop} (I:Inv X pins σ H s) (hN:X.N.Nodup) (hi:X.N[i]?=some x) (hx:Loc X.env.scope x) (r:RelV v u)
  (h:∀ s',Inv X pins (σ.set i (some v)) H s'->Q () s') (hf:X.fn x=true\/X.env.scope.names.lookup x=some .local:=by first | exact .inl rfl | exact .inr rfl | assumption):wpAny M A (storeName X.env x u) Q E s :=
 rX I hN hi hx r (fun s' I' _=>h s' I') hf
theorem Inv.call' {s':Shared} {ch:List Addr} (I:Inv X pins σ H s) (ho:s'.os=s.os) (u:Un (frs X.stack) ch H H' s.heap s'.heap) (hok:HOk X.prog X.w H' s'.heap) (hg:AllBare s'.gens)
  (hch:∀ b∈ch,(b∈X.ex\/X.s₀.heap.objs.size<=b)/\b≠X.env.locals/\(∀ x c,X.env.cells.lookup x=some c->c≠b)/\∀ p∈X.pn++pins,p.1≠b):Inv X pins σ H' s':=by
 obtain ⟨h',g',d',t',o'⟩:=s'
 have e:o'=s.os:=ho
 subst e
 exact I.call (g':=g') (t':=t') (d':=d') u hok hg hch
end
noncomputable abbrev XK:=Value->Option Addr->Hp->Prop
noncomputable abbrev St:=List (Option V)
noncomputable abbrev VK:=V->Hp->Prop
noncomputable abbrev TE:=St->Hp->VK->Prop
noncomputable abbrev TT:=St->Hp->(Bool->Hp->Prop)->Prop
noncomputable abbrev TA:=St->Hp->(List V->Hp->Prop)->Prop
structure Ends where
 nx:St->Hp->Prop
 rt:VK
 bk:St->Hp->Prop:=fun _ _=>False
 ct:St->Hp->Prop:=fun _ _=>False
noncomputable abbrev TS:=Ends->St->Hp->Prop
noncomputable def EP (X:Cx) (pins:List (Addr×Obj)) (σ:St) (Q:VK) (u:Value) (s':Shared):Prop:=∃ v H',Inv X pins σ H' s'/\RelV v u/\Q v H'
noncomputable def TP (X:Cx) (pins:List (Addr×Obj)) (σ:St) (Q:Bool->Hp->Prop) (b:Bool) (s':Shared):Prop:=∃ H',Inv X pins σ H' s'/\Q b H'
noncomputable def AP (X:Cx) (pins:List (Addr×Obj)) (σ:St) (Q:List V->Hp->Prop) (us:List Value) (s':Shared):Prop:=∃ vs H',Inv X pins σ H' s'/\Vals vs us/\Q vs H'
noncomputable def SP (X:Cx) (pins:List (Addr×Obj)) (D:Ends) (f:Flow) (s':Shared):Prop :=
 match f with
 | .next=>∃ σ' H',Inv X pins σ' H' s'/\D.nx σ' H'
 | .brk=>∃ σ' H',Inv X pins σ' H' s'/\D.bk σ' H'
 | .cont=>∃ σ' H',Inv X pins σ' H' s'/\D.ct σ' H'
 | .ret u=>∃ v σ' H',Inv X pins σ' H' s'/\RelV v u/\D.rt v H'
noncomputable def PE (X:Cx) (e:Expr) (t:TE):Prop :=
 ∀ (pins:List (Addr×Obj)) (s:Shared) (σ:St) (H:Hp) (Q:VK),Inv X pins σ H s->t σ H Q->wpAny (model X.prog X.w) X.A (eval e X.env) (EP X pins σ Q) X.xe s
noncomputable def PT (X:Cx) (e:Expr) (t:TT):Prop :=
 ∀ (pins:List (Addr×Obj)) (s:Shared) (σ:St) (H:Hp) (Q:Bool->Hp->Prop),Inv X pins σ H s->t σ H Q->wpAny (model X.prog X.w) X.A (isTrue e X.env (eval e X.env)) (TP X pins σ Q) X.xe s
noncomputable def PW (X:Cx) (e:Expr) (t:TT):Prop :=
 ∀ (whole:Sem Value) (pins:List (Addr×Obj)) (s:Shared) (σ:St) (H:Hp) (Q:Bool->Hp->Prop),Inv X pins σ H s->t σ H Q->wpAny (model X.prog X.w) X.A (isTrue e X.env whole) (TP X pins σ Q) X.xe s
theorem PW.pt {X:Cx} {e:Expr} {t:TT} (h:PW X e t):PT X e t:=h _
noncomputable def PA (X:Cx) (es:List Expr) (t:TA):Prop :=
 ∀ (pos:Pos) (pins:List (Addr×Obj)) (s:Shared) (σ:St) (H:Hp) (Q:List V->Hp->Prop),Inv X pins σ H s->t σ H Q->wpAny (model X.prog X.w) X.A (spliced (backTo pos (starEach es X.env))) (AP X pins σ Q) X.xe s
noncomputable def PS (X:Cx) (st:Stmt) (t:TS):Prop :=
 ∀ (pins:List (Addr×Obj)) (s:Shared) (σ:St) (H:Hp) (D:Ends),Inv X pins σ H s->t D σ H->wpAny (model X.prog X.w) X.A (exec st X.env) (SP X pins D) X.xe s
noncomputable def PSs (X:Cx) (st:List Stmt) (t:TS):Prop :=
 ∀ (pins:List (Addr×Obj)) (s:Shared) (σ:St) (H:Hp) (D:Ends),Inv X pins σ H s->t D σ H->wpAny (model X.prog X.w) X.A (execs st X.env) (SP X pins D) X.xe s
theorem thn {α:Type} {t:Sem α} {Q Q':α->Shared->Prop} {M:Model} {A:Around} {E:Value->Shared->Prop} {s:Shared} (h:wpAny M A t Q E s) (hQ:∀ a s,Q a s->Q' a s):wpAny M A t Q' E s:=wpAny_mono h hQ fun _ _ x=>x
end L2
namespace L2
open PySem PySem.Spec PyProof.Rows
section
variable {X:Cx}
noncomputable def tVar (i:Nat):TE:=fun σ H Q=>∃ v,σ[i]?=some (some v)/\Q v H
noncomputable def tC (v:V):TE:=fun _ H Q=>Q v H
theorem aDr {i:Nat} {x:Str} {pos:Pos} (hN:X.N[i]?=some x) (hv:Vis X.env.scope x) (hd:(x==("__debug__":Str))=false:=by decide) (hcd:(x==("__classdict__":Str))=false:=by decide):PE X (.Name x pos) (tVar i):=by
 intro pins s σ H Q I h
 obtain ⟨v,e,h⟩:=h
 obtain ⟨m,hn,hl⟩:=I.loc
 obtain ⟨u,r,l⟩:=hl i x v hN e hv
 have fin:EP X pins σ Q u s:=⟨v,H,I,r,h⟩
 rcases l with ⟨hk,hm⟩ | ⟨hk,c,hc,hcell⟩
 ·exact wpAny_Name (wpAny_loadName_local I.ok.kind hk hn hm fin) hd
 ·rcases hk with hk | hk
  ·exact wpAny_Name (wpAny_loadName_cell I.ok.kind hk hc hcell fin) hd
  ·exact wpAny_Name (wpAny_loadName_free I.ok.kind hk hc hcell fin hcd) hd
theorem aBa {i j pos}:PE X (.Constant (.int i) j pos) (tC (.int i)):=fun _ _ _ H _ I h=>wpAny_Constant_int ⟨.int i,H,I.tok _,⟨_,rfl⟩,h⟩
theorem aLg {b j pos}:PE X (.Constant (.bool b) j pos) (tC (.bl b)):=fun _ _ _ H _ I h=>Constant_bool ⟨.bl b,H,I,rfl,h⟩
theorem aIs {j pos}:PE X (.Constant .none j pos) (tC .non):=fun _ _ _ H _ I h=>Constant_none ⟨.non,H,I,rfl,h⟩
theorem aCc {x j pos}:PE X (.Constant (.str x) j pos) (tC (.str x)):=fun _ _ _ H _ I h=>Calls.Constant_str ⟨.str x,H,I.tok _,⟨_,rfl⟩,h⟩
noncomputable def Gl (X:Cx) (x:Str):Prop:=X.env.kindOf x=some .globalImplicit
theorem mR {E:Value->Shared->Prop} {pins:List (Addr×Obj)} {s:Shared} {σ:St} {H:Hp} {x:Str} {u:Value} {pos:Pos} {Q:Value->Shared->Prop} (I:Inv X pins σ H s) (hg:Gl X x) (hm:X.mg x=some u) (h:Q u s)
  (hd:(x==("__debug__":Str))=false:=by decide):wpAny (model X.prog X.w) X.A (eval (.Name x pos) X.env) Q E s :=
 Calls.Name_function_global I.ok.kind hg (Calls.loadGlobal_global (by rw [I.ok.glob]; exact I.mod.glob.keeps I.bk) hm h) hd
theorem nM {E:Value->Shared->Prop} {pins:List (Addr×Obj)} {s:Shared} {σ:St} {H:Hp} {x:Str} {u:Value} {pos:Pos} {Q:Value->Shared->Prop} (I:Inv X pins σ H s) (hg:Gl X x) (hm:X.mg x=none) (hv:bootBuiltins x=some u) (h:Q u s)
  (hn:x≠"__name__":=by decide) (hd:(x==("__debug__":Str))=false:=by decide):wpAny (model X.prog X.w) X.A (eval (.Name x pos) X.env) Q E s:=by
 obtain ⟨mb,h1,h2⟩:=I.mod.blt
 exact Calls.Name_function_global I.ok.kind hg (Calls.loadGlobal_builtin (by rw [I.ok.glob]; exact I.mod.glob.keeps I.bk) hm (by rw [I.ok.blt]; exact h1.keeps I.bk) ((h2 x hn).trans hv) h) hd
variable {a b:Expr} {ta tb:TE} {pos:Pos}
noncomputable def tB (t:TE):TT:=fun σ H Q=>t σ H fun x H1=>∃ c,x=.bl c/\Q c H1
variable {tA tB':TT} {rest:List Expr}
noncomputable def tAnd (t u:TT):TT:=fun σ H Q=>t σ H fun c H1=>if c=true then u σ H1 Q else Q false H1
noncomputable def tOr (t u:TT):TT:=fun σ H Q=>t σ H fun c H1=>if c=true then Q true H1 else u σ H1 Q
noncomputable def tNot (t:TT):TT:=fun σ H Q=>t σ H fun c H1=>Q (!c) H1
theorem aEm (ha:PT X a tA):PW X (.BoolOp .And [a] pos) tA:=by
 intro wh pins s σ H Q I h
 refine isTrue_and (thn (ha pins s σ H Q I h) fun c s1 e=>?_)
 cases c with
 | true=>exact isTrue_and_nil e
 | false=>exact e
theorem aGn (ha:PT X a tA):PW X (.BoolOp .Or [a] pos) tA:=by
 intro wh pins s σ H Q I h
 refine isTrue_or (thn (ha pins s σ H Q I h) fun c s1 e=>?_)
 cases c with
 | false=>exact isTrue_or_nil e
 | true=>exact e
theorem aHl (ha:PT X a tA) (hb:PW X (.BoolOp .And (b::rest) pos) tB'):PW X (.BoolOp .And (a::b::rest) pos) (tAnd tA tB'):=by
 intro wh pins s σ H Q I h
 refine isTrue_and (thn (ha pins s σ H _ I h) fun c s1 ⟨H1,I1,q1⟩=>?_)
 cases c with
 | true=>exact hb wh pins s1 σ H1 Q I1 q1
 | false=>exact ⟨H1,I1,q1⟩
theorem aKn (ha:PT X a tA) (hb:PW X (.BoolOp .Or (b::rest) pos) tB'):PW X (.BoolOp .Or (a::b::rest) pos) (tOr tA tB'):=by
 intro wh pins s σ H Q I h
 refine isTrue_or (thn (ha pins s σ H _ I h) fun c s1 ⟨H1,I1,q1⟩=>?_)
 cases c with
 | true=>exact ⟨H1,I1,q1⟩
 | false=>exact hb wh pins s1 σ H1 Q I1 q1
theorem aGp (ha:PT X a tA):PT X (.UnaryOp .Not a pos) (tNot tA):=by
 intro pins s σ H Q I h
 exact isTrue_not (ha pins s σ H (fun c H1=>Q (!c) H1) I h)
noncomputable def tIf (t:TT) (ta tb:TE):TE:=fun σ H Q=>t σ H fun c H1=>if c=true then ta σ H1 Q else tb σ H1 Q
theorem aAu {c:Expr} (hc:PT X c tA) (ha:PE X a ta) (hb:PE X b tb):PE X (.IfExp c a b pos) (tIf tA ta tb):=by
 intro pins s σ H Q I h
 refine wpAny_IfExp (thn (hc pins s σ H _ I h) fun d s1 ⟨H1,I1,q1⟩=>?_)
 cases d with
 | true=>exact ha pins s1 σ H1 Q I1 q1
 | false=>exact hb pins s1 σ H1 Q I1 q1
end
end L2
namespace L2
open PySem PySem.Spec PyProof.Rows
noncomputable def SqL (K:PySem.W.Frag) (H:Hp) (a:Addr) (xs:List V):Prop :=
 Rd H a (.lst xs) \/
  ∃ (o:Obj) (its:Array Value) (n:Nat),K.lookup a=some o/\o.cls=.type "list"/\o.dict=none/\o.data=.seq its n/\its.size<=sizeLine/\Vals xs its.toList
noncomputable def SqT (K:PySem.W.Frag) (H:Hp) (a:Addr) (xs:List V):Prop :=
 Rd H a (.tup xs) \/
  ∃ (o:Obj) (its:Array Value) (n:Nat),K.lookup a=some o/\o.cls=.type "tuple"/\o.data=.seq its n/\its.size<=sizeLine/\Vals xs its.toList
noncomputable def absV:Value->Option V
 | .none=>some .non
 | .bool b=>some (.bl b)
 | .int i _=>some (.int i)
 | .str x _=>some (.str x)
 | .bytes b _=>some (.byt b)
 | .float b _=>some (.flt b)
 | .ref a=>some (.ref a)
 | .type n=>some (.ty n)
 | _=>none
theorem RelV.abs {x:V} {u:Value} (r:RelV x u):absV u=some x:=by
 cases x with
 | non=>cases r; rfl
 | bl _=>cases r; rfl
 | int _=>obtain ⟨t,rfl⟩:=r; rfl
 | str _=>obtain ⟨t,rfl⟩:=r; rfl
 | byt _=>obtain ⟨t,rfl⟩:=r; rfl
 | flt _=>obtain ⟨t,rfl⟩:=r; rfl
 | ref _=>cases r; rfl
 | ty _=>cases r; rfl
theorem RelV.inj {x y:V} {u:Value} (r:RelV x u) (q:RelV y u):x=y:=Option.some.inj (r.abs.symm.trans q.abs)
theorem Vals.inj:∀ {xs ys:List V} {us:List Value},Vals xs us->Vals ys us->xs=ys
 | _,_,_,.nil,.nil=>rfl
 | _,_,_,.cons r t,.cons r' t'=>by rw [r.inj r',Vals.inj t t']
section
variable {X:Cx} {pins:List (Addr×Obj)} {σ:St} {H:Hp} {s:Shared} {a:Addr} {xs ys:List V}
theorem SqL.of {K:PySem.W.Frag} (h:H a=some (.lst xs)):SqL K H a xs:=.inl (.inl h)
theorem SqT.of {K:PySem.W.Frag} (h:H a=some (.tup xs)):SqT K H a xs:=.inl (.inl h)
theorem Inv.list (I:Inv X pins σ H s) (h:SqL X.K H a xs):∃ its:List Value,Vals xs its/\PlainL s.heap a its.toArray/\xs.length<=sizeLine:=by
 rcases h with h | ⟨o,its,n,hk,hc,hd,hs,hz,r⟩
 ·obtain ⟨z,its,n,r,e⟩:=h.ok I.hok
  exact ⟨its,r,⟨_,n,e,rfl,rfl,rfl⟩,z⟩
 ·refine ⟨its.toList,r,⟨o,n,I.kIn a o hk,hc,hd,by simpa using hs⟩,?_⟩
  have e:=r.length
  simp only [Array.length_toList] at e
  omega
theorem Inv.tuple (I:Inv X pins σ H s) (h:SqT X.K H a xs):∃ its:List Value,Vals xs its/\IsTup s.heap a its.toArray/\xs.length<=sizeLine:=by
 rcases h with h | ⟨o,its,n,hk,hc,hs,hz,r⟩
 ·obtain ⟨z,its,r,p⟩:=h.ok I.hok
  exact ⟨its,r,p,z⟩
 ·refine ⟨its.toList,r,⟨o,I.kIn a o hk,hc,n,by simpa using hs⟩,?_⟩
  have e:=r.length
  simp only [Array.length_toList] at e
  omega
theorem Inv.list_inj (I:Inv X pins σ H s) (h:SqL X.K H a xs) (h':SqL X.K H a ys):xs=ys:=by
 obtain ⟨its,r,⟨o,n,e,_,_,d⟩,_⟩:=I.list h
 obtain ⟨its',r',⟨o',n',e',_,_,d'⟩,_⟩:=I.list h'
 rw [e] at e'; cases e'
 rw [d] at d'
 injection d' with d1 _
 have:its=its':=by simpa using congrArg Array.toList d1
 subst this
 exact r.inj r'
theorem Inv.tuple_inj (I:Inv X pins σ H s) (h:SqT X.K H a xs) (h':SqT X.K H a ys):xs=ys:=by
 obtain ⟨its,r,⟨o,e,_,n,d⟩,_⟩:=I.tuple h
 obtain ⟨its',r',⟨o',e',_,n',d'⟩,_⟩:=I.tuple h'
 rw [e] at e'; cases e'
 rw [d] at d'
 injection d' with d1 _
 have:its=its':=by simpa using congrArg Array.toList d1
 subst this
 exact r.inj r'
end
noncomputable abbrev Cx.wish (X:Cx) (E:Value->Shared->Prop):Cx:={ X with xe:=E }
noncomputable abbrev Cx.nox (X:Cx):Cx:=X.wish fun _ _=>False
theorem Cx.Ok.wish {X:Cx} (ok:X.Ok) (E:Value->Shared->Prop):(X.wish E).Ok :=
 ⟨ok.mod,ok.kind,ok.glob,ok.blt,ok.above,ok.inj,ok.has,ok.cab,ok.hd,ok.frames,ok.stk,ok.exf,ok.bs,ok.bsz,ok.noex,ok.exfs,ok.funs,ok.frf⟩
theorem Cx.Ok.unwish {X:Cx} {E:Value->Shared->Prop} (ok:(X.wish E).Ok):X.Ok :=
 ⟨ok.mod,ok.kind,ok.glob,ok.blt,ok.above,ok.inj,ok.has,ok.cab,ok.hd,ok.frames,ok.stk,ok.exf,ok.bs,ok.bsz,ok.noex,ok.exfs,ok.funs,ok.frf⟩
section
variable {X:Cx} {pins:List (Addr×Obj)} {σ:St} {H:Hp} {s:Shared} {E:Value->Shared->Prop}
theorem Inv.wish (I:Inv X pins σ H s) (E:Value->Shared->Prop):Inv (X.wish E) pins σ H s:=⟨I.ok.wish E,I.os,I.bare,I.base,I.loc,I.cell,I.free,I.freeC,I.pin,I.hok,I.len⟩
theorem Inv.unwish (I:Inv (X.wish E) pins σ H s):Inv X pins σ H s:=⟨I.ok.unwish,I.os,I.bare,I.base,I.loc,I.cell,I.free,I.freeC,I.pin,I.hok,I.len⟩
theorem SP.unwish {D:Ends} {f:Flow} {s':Shared} (h:SP (X.wish E) pins D f s'):SP X pins D f s':=by
 cases f with
 | next=>obtain ⟨σ',H',I,q⟩:=h; exact ⟨σ',H',I.unwish,q⟩
 | brk=>obtain ⟨σ',H',I,q⟩:=h; exact ⟨σ',H',I.unwish,q⟩
 | cont=>obtain ⟨σ',H',I,q⟩:=h; exact ⟨σ',H',I.unwish,q⟩
 | ret u=>obtain ⟨v,σ',H',I,r,q⟩:=h; exact ⟨v,σ',H',I.unwish,r,q⟩
theorem PE.nox {e:Expr} {t:TE} (h:PE X.nox e t):PE X e t:=fun pins s σ H Q I hw =>
 wpAny_mono (h pins s σ H Q (I.wish _) hw) (fun _ _ ⟨v,H',I',r,q⟩=>⟨v,H',I'.unwish,r,q⟩) fun _ _ z=>False.elim z
theorem PT.nox {e:Expr} {t:TT} (h:PT X.nox e t):PT X e t:=fun pins s σ H Q I hw =>
 wpAny_mono (h pins s σ H Q (I.wish _) hw) (fun _ _ ⟨H',I',q⟩=>⟨H',I'.unwish,q⟩) fun _ _ z=>False.elim z
theorem PSs.nox {st:List Stmt} {t:TS} (h:PSs X.nox st t):PSs X st t:=fun pins s σ H D I hw =>
 wpAny_mono (h pins s σ H D (I.wish _) hw) (fun _ _ q=>q.unwish) fun _ _ z=>False.elim z
end
section
variable {X:Cx} {st:Stmt} {rest:List Stmt} {t u:TS} {e:Expr} {te:TE} {pos:Pos}
noncomputable def tNext:TS:=fun D σ H=>D.nx σ H
noncomputable def tSeq (t u:TS):TS:=fun D σ H=>t { D with nx:=u D } σ H
theorem aFq:PSs X [] tNext:=fun _ _ σ H _ I h=>wpAny_execs_nil ⟨σ,H,I,h⟩
theorem vQ (h1:PS X st t) (h2:PSs X rest u):PSs X (st::rest) (tSeq t u):=by
 intro pins s σ H D I h
 refine wpAny_execs_cons (thn (h1 pins s σ H { D with nx:=u D } I h) fun f s1 q=>?_)
 cases f with
 | next =>
  obtain ⟨σ',H',I',q⟩:=q
  exact h2 pins s1 σ' H' D I' q
 | ret v=>exact q
 | brk=>exact q
 | cont=>exact q
theorem xV (h1:PS X st t):PSs X [st] t:=by
 intro pins s σ H D I h
 refine wpAny_execs_cons (thn (h1 pins s σ H D I h) fun f s1 q=>?_)
 cases f with
 | next=>exact wpAny_execs_nil q
 | ret v=>exact q
 | brk=>exact q
 | cont=>exact q
theorem Inv.quiet {pins:List (Addr×Obj)} {σ:St} {H:Hp} {s:Shared} (I:Inv X pins σ H s):interactive X.env=false:=by simp [interactive,I.ok.kind]
noncomputable def tDrop (te:TE):TS:=fun D σ H=>te σ H fun _ H1=>D.nx σ H1
theorem yY (he:PE X e te) (hs:swapsWith e none pos.line X.env=pure false:=by rfl):PS X (.Expr e pos) (tDrop te):=by
 intro pins s σ H D I h
 exact wpAny_Expr_any (thn (he pins s σ H _ I h) fun v s1 ⟨x,H1,I1,r1,q1⟩=>⟨σ,H1,I1,q1⟩) I.quiet hs
noncomputable def tRet (te:TE):TS:=fun D σ H=>te σ H D.rt
theorem aIj (he:PE X e te):PS X (.Return (some e) pos) (tRet te):=by
 intro pins s σ H D I h
 exact wpAny_Return_some (thn (he pins s σ H _ I h) fun v s1 ⟨x,H1,I1,r1,q1⟩=>⟨x,σ,H1,I1,r1,q1⟩)
noncomputable def tIfS (c:TT) (t u:TS):TS:=fun D σ H=>c σ H fun b H1=>if b=true then t D σ H1 else u D σ H1
theorem aKy {c:Expr} {a b:List Stmt} {tc:TT} (hc:PT X c tc) (ha:PSs X a t) (hb:PSs X b u):PS X (.If c a b pos) (tIfS tc t u):=by
 intro pins s σ H D I h
 refine wpAny_If (thn (hc pins s σ H _ I h) fun d s1 ⟨H1,I1,q1⟩=>?_)
 cases d with
 | true=>exact ha pins s1 σ H1 D I1 q1
 | false=>exact hb pins s1 σ H1 D I1 q1
end
noncomputable abbrev TG:=V->St->Hp->(St->Hp->Prop)->Prop
noncomputable abbrev TGs:=List V->St->Hp->(St->Hp->Prop)->Prop
noncomputable def PG (X:Cx) (target:Expr) (t:TG):Prop :=
 ∀ (pins:List (Addr×Obj)) (s:Shared) (σ:St) (H:Hp) (v:V) (u:Value) (Q:St->Hp->Prop),Inv X pins σ H s->RelV v u->t v σ H Q ->
  wpAny (model X.prog X.w) X.A (assign target X.env u) (fun _ s'=>∃ σ' H',Inv X pins σ' H' s'/\Q σ' H') X.xe s
noncomputable def PGs (X:Cx) (ts:List Expr) (t:TGs):Prop :=
 ∀ (pins:List (Addr×Obj)) (s:Shared) (σ:St) (H:Hp) (vs:List V) (us:List Value) (Q:St->Hp->Prop),Inv X pins σ H s->Vals vs us->t vs σ H Q ->
  wpAny (model X.prog X.w) X.A (assignInOrder ((assignEach ts X.env).map (·.2)) us) (fun _ s'=>∃ σ' H',Inv X pins σ' H' s'/\Q σ' H') X.xe s
noncomputable abbrev TSet:=V->V->V->Hp->(Hp->Prop)->Prop
noncomputable def PSet (X:Cx) (t:TSet):Prop :=
 ∀ (pins:List (Addr×Obj)) (s:Shared) (σ:St) (H:Hp) (o i v:V) (ov iv u:Value) (Q:Hp->Prop),Inv X pins σ H s->RelV o ov->RelV i iv->RelV v u->t o i v H Q ->
  wpAny (model X.prog X.w) X.A (setItem ov iv u) (fun _ s'=>∃ H',Inv X pins σ H' s'/\Q H') X.xe s
noncomputable abbrev TIp:=V->V->Hp->VK->Prop
noncomputable def PIp (X:Cx) (op:Operator) (t:TIp):Prop :=
 ∀ (pins:List (Addr×Obj)) (s:Shared) (σ:St) (H:Hp) (x y:V) (v u:Value) (Q:VK),Inv X pins σ H s->RelV x v->RelV y u->t x y H Q ->
  wpAny (model X.prog X.w) X.A (inplaceOp op v u) (EP X pins σ Q) X.xe s
section
variable {X:Cx} {pos:Pos}
noncomputable def gName (i:Nat):TG:=fun v σ H Q=>Q (σ.set i (some v)) H
theorem aDy {i:Nat} {x:Str} (hN:X.N.Nodup) (hi:X.N[i]?=some x) (hx:Loc X.env.scope x) (hf:X.fn x=true\/X.env.scope.names.lookup x=some .local:=by first | exact .inl rfl | exact .inr rfl | assumption):PG X (.Name x pos) (gName i):=by
 intro pins s σ H v u Q I r h
 exact wpAny_assign_Name (jI I hN hi hx r (fun s' I'=>⟨_,H,I',h⟩) hf)
noncomputable def gNil:TGs:=fun vs σ H Q=>vs=[]/\Q σ H
noncomputable def gCons (t:TG) (u:TGs):TGs:=fun vs σ H Q=>∃ v r,vs=v::r/\t v σ H fun σ' H'=>u r σ' H' Q
theorem aFu:PGs X [] gNil:=by
 intro pins s σ H vs us Q I r h
 obtain ⟨e,h⟩:=h
 subst e
 cases r
 exact assignInOrder_nil ⟨σ,H,I,h⟩
theorem aAy {e:Expr} {es:List Expr} {t:TG} {u:TGs} (h1:PG X e t) (h2:PGs X es u)
  (hs:(assignEach (e::es) X.env).map (·.2)=assign e X.env::(assignEach es X.env).map (·.2):=by rfl):PGs X (e::es) (gCons t u):=by
 intro pins s σ H vs us Q I r h
 obtain ⟨v,vr,e1,h⟩:=h
 subst e1
 cases r with
 | cons r rr =>
  rw [hs]
  refine assignInOrder_cons (thn (h1 pins s σ H _ _ _ I r h) fun _ s1 ⟨σ1,H1,I1,q1⟩=>?_)
  exact h2 pins s1 σ1 H1 _ _ Q I1 rr q1
noncomputable def gTup (K:PySem.W.Frag) (n:Nat) (t:TGs):TG:=fun v σ H Q=>∃ a xs,v=.ref a/\SqT K H a xs/\xs.length=n/\t xs σ H Q
theorem aGx {es:List Expr} {k:Nat} {t:TGs} {n:Nat} (hc:X.calm=true) (h:PGs X es t)
  (hn:(assignEach es X.env).length=n:=by rfl) (hst:(assignEach es X.env).findIdx? (·.1)=none:=by rfl):PG X (.Tuple es k pos) (gTup X.K n t):=by
 intro pins s σ H v u Q I r hw
 obtain ⟨a,xs,e1,hq,hl,hw⟩:=hw
 subst e1
 cases r
 obtain ⟨its,rv,ht,hz⟩:=I.tuple hq
 refine assign_Tuple_tuple (I.ok.hd hc) ht (by simp [hn,<- hl,rv.length]) hst fun h' hx=>?_
 have I1:Inv X pins σ H { s with heap:=h' }:=I.kept (t':=s.toks) fun b o e=>hx b o (Nat.ne_of_lt (Heap.lt_size e)) e
 exact h pins _ σ H xs _ Q I1 (by simpa using rv) hw
noncomputable def gSub (to ti:TE) (t:TSet):TG:=fun v σ H Q=>to σ H fun o H1=>ti σ H1 fun i H2=>t o i v H2 fun H3=>Q σ H3
theorem aGq {o i:Expr} {to ti:TE} {t:TSet} (ho:PE X o to) (hi:PE X i ti) (hs:PSet X t)
  (ha:∀ v,assign (.Subscript o i pos) X.env v=(do
   let ov <- holding [v] (eval o X.env)
   let iv <- holding [v,ov] (eval i X.env)
   standAt pos
   holding [v,ov,iv] (setItem ov iv v)
   release [v,ov,iv] []):=by intro _; rfl):PG X (.Subscript o i pos) (gSub to ti t):=by
 intro pins s σ H v u Q I r h
 rw [ha]
 refine wpAny_bind (wpAny_holding (thn (ho pins s σ H _ I h) fun ov s1 ⟨x,H1,I1,r1,q1⟩=>?_))
 refine wpAny_bind (wpAny_holding (thn (hi pins s1 σ H1 _ I1 q1) fun iv s2 ⟨y,H2,I2,r2,q2⟩=>?_))
 refine wpAny_bind (wpAny_standAt (wpAny_bind (wpAny_holding (thn (hs pins s2 σ H2 x y v ov iv u _ I2 r1 r2 r q2) fun _ s3 ⟨H3,I3,q3⟩=>?_))))
 exact wpAny_release ⟨σ,H3,I3,q3⟩
noncomputable def tAsg (te:TE) (g:TG):TS:=fun D σ H=>te σ H fun x H1=>g x σ H1 D.nx
theorem aIl {tg e:Expr} {te:TE} {g:TG} (he:PE X e te) (hg:PG X tg g) (hs:swapsWithSole [tg] e pos.line X.env=pure false:=by rfl) (hw:swappedStores [tg] e X.env=pure none:=by rfl)
  (h1:(assignEach [tg] X.env).map (·.2)=[assign tg X.env]:=by rfl):PS X (.Assign [tg] e pos) (tAsg te g):=by
 intro pins s σ H D I h
 refine wpAny_Assign_stores (thn (he pins s σ H _ I h) fun v s1 ⟨x,H1,I1,r1,q1⟩=>?_) hs hw
 rw [h1]
 exact thn (hg pins s1 σ H1 x v _ I1 r1 q1) fun _ s2 q=>q
theorem aJe {i:Nat} {x:Str} {e:Expr} {te:TE} {pos':Pos} (hN:X.N.Nodup) (hi:X.N[i]?=some x) (hx:Loc X.env.scope x) (he:PE X e te) (hs:swapsWith e (some (.Name x pos')) pos.line X.env=pure false:=by rfl) (hf:X.fn x=true\/X.env.scope.names.lookup x=some .local:=by first | exact .inl rfl | exact .inr rfl | assumption) :
  PS X (.Assign [.Name x pos'] e pos) (tAsg te (gName i)):=by
 intro pins s σ H D I h
 refine wpAny_Assign_Name (thn (he pins s σ H _ I h) fun v s1 ⟨y,H1,I1,r1,q1⟩=>?_) hs
 exact jI I1 hN hi hx r1 (fun s2 I2=>⟨_,H1,I2,q1⟩) hf
noncomputable def tPar (i j:Nat) (ta:TA):TS:=fun D σ H=>ta σ H fun vs H1=>∃ v w,vs=[v,w]/\D.nx ((σ.set i (some v)).set j (some w)) H1
theorem aHo {i j:Nat} {x y:Str} {a b:Expr} {ta:TA} {px py pt:Pos} {kt k2 pt2} (hc:X.calm=true) (hN:X.N.Nodup) (hi:X.N[i]?=some x) (hj:X.N[j]?=some y) (hij:i≠j)
  (hx:X.env.scope.names.lookup x=some .local) (hy:X.env.scope.names.lookup y=some .local) (ha:PA X [a,b] ta)
  (hw:swappedStores [.Tuple [.Name x px,.Name y py] kt pt] (.Tuple [a,b] k2 pt2) X.env=pure (some [x,y]))
  (hs:swapsWithSole [.Tuple [.Name x px,.Name y py] kt pt] (.Tuple [a,b] k2 pt2) pos.line X.env=pure false:=by rfl) :
  PS X (.Assign [.Tuple [.Name x px,.Name y py] kt pt] (.Tuple [a,b] k2 pt2) pos) (tPar i j ta):=by
 intro pins s σ H D I h
 rw [exec_Assign_arm]
 refine wpAny_bind (wpAny_standAt ?_)
 rw [hs]
 refine wpAny_bind (wpAny_pure ?_)
 rw [if_neg (by decide)]
 refine wpAny_bind (Tuple_ (thn (ha _ pins s σ H _ I h) fun us s1 ⟨vs,H1,I1,r1,q1⟩=>?_))
 obtain ⟨v,w,e1,q1⟩:=q1
 subst e1
 obtain ⟨u1,u2,rfl,rv,rw'⟩:∃ u1 u2,us=[u1,u2]/\RelV v u1/\RelV w u2:=by
  cases r1 with
  | cons p q =>
   cases q with
   | cons p' q' =>
    cases q'
    exact ⟨_,_,rfl,p,p'⟩
 refine wpAny_newObj_type ?_ (by show 2<=sizeLine; decide)
 have I2:Inv X pins σ H1 { s1 with heap:=s1.heap.push { cls:=.type "tuple",data:=.seq [u1,u2].toArray } }:=I1.kept (t':=s1.toks) fun b o e=>Heap.get?_push_of_some _ e
 rw [hw]
 refine wpAny_bind (wpAny_pure ?_)
 show wpAny (model X.prog X.w) X.A (do rule "assign.swapped-stores"; let items <- unpackItems (.ref s1.heap.objs.size) 2 none; assignInOrder [fun v=>bindName X.env y v,fun v=>bindName X.env x v] items.reverse; pure Flow.next) _ _ _
 refine wpAny_bind (wpAny_rule (wpAny_bind (unpackItems_tuple (items:=#[u1,u2]) (I.ok.hd hc) (IsTup.new s1.heap _) fun h' hx'=>?_)))
 have I3:=I2.kept (h':=h') (t':=s1.toks) fun b o e=>hx' b o (Nat.ne_of_lt (Heap.lt_size e)) e
 show wpAny _ _ (assignInOrder [fun v=>bindName X.env y v,fun v=>bindName X.env x v] [u2,u1] >>= fun _=>pure Flow.next) _ _ _
 refine wpAny_bind (assignInOrder_cons (wpAny_bindName (jI I3 hN hj (.inl hy) rw' (fun s2 I4=>?_) (.inr hy))))
 refine assignInOrder_cons (wpAny_bindName (jI I4 hN hi (.inl hx) rv (fun s3 I5=>assignInOrder_nil (wpAny_pure ?_)) (.inr hx)))
 rw [List.set_comm _ _ (Ne.symm hij)] at I5
 exact ⟨_,H1,I5,q1⟩
noncomputable def tAug (i:Nat) (te:TE) (ti:TIp):TS:=fun D σ H=>∃ x,σ[i]?=some (some x)/\te σ H fun y H1=>ti x y H1 fun z H2=>D.nx (σ.set i (some z)) H2
theorem aIo {i:Nat} {x:Str} {e:Expr} {te:TE} {op:Operator} {ti:TIp} {pos':Pos} (hN:X.N.Nodup) (hi:X.N[i]?=some x) (hx:Loc X.env.scope x) (he:PE X e te) (ho:PIp X op ti) (hf:X.fn x=true\/X.env.scope.names.lookup x=some .local:=by first | exact .inl rfl | exact .inr rfl | assumption) :
  PS X (.AugAssign (.Name x pos') op e pos) (tAug i te ti):=by
 intro pins s σ H D I h
 obtain ⟨v,e1,h⟩:=h
 obtain ⟨m,hn,hl⟩:=I.loc
 have vis:Vis X.env.scope x:=by rcases hx with k | k; exact .inl k; exact .inr (.inl k)
 obtain ⟨u,r,l⟩:=hl i x v hi e1 vis
 refine wpAny_AugAssign_Name ?_
 have go:wpAny (model X.prog X.w) X.A (eval e X.env) (fun w s₂=>wpAny (model X.prog X.w) X.A (inplaceOp op u w) (fun r s₃=>wpAny (model X.prog X.w) X.A (storeName X.env x r) (fun _=>SP X pins D .next) X.xe s₃) X.xe s₂) X.xe s:=by
  refine thn (he pins s σ H _ I h) fun w s1 ⟨y,H1,I1,r1,q1⟩=>?_
  refine thn (ho pins s1 σ H1 v y u w _ I1 r r1 q1) fun z s2 ⟨zv,H2,I2,r2,q2⟩=>?_
  exact jI I2 hN hi hx r2 (fun s3 I3=>⟨_,H2,I3,q2⟩) hf
 rcases l with ⟨hk,hm⟩ | ⟨hk,c,hc,hcell⟩
 ·exact wpAny_loadName_local I.ok.kind hk hn hm go
 ·rcases hk with hk | hk
  ·exact wpAny_loadName_cell I.ok.kind hk hc hcell go
  ·rcases hx with k | k
   ·have:X.env.scope.names.lookup x=some .free:=hk
    rw [k] at this; cases this
   ·have:X.env.scope.names.lookup x=some .free:=hk
    rw [k] at this; cases this
noncomputable def ipI (f:Int->Int->Int):TIp:=fun x y H Q=>∃ i j,x=.int i/\y=.int j/\Q (.int (f i j)) H
theorem aHx:PIp X .Add (ipI fun i j=>i+j):=by
 intro pins s σ H x y v u Q I r1 r2 h
 obtain ⟨i,j,e1,e2,q⟩:=h
 subst e1; subst e2
 obtain ⟨t,rfl⟩:=r1
 obtain ⟨t',rfl⟩:=r2
 exact iadd_int ⟨.int _,H,I.tok _,⟨_,rfl⟩,q⟩
end
section
variable {X:Cx} {pos:Pos}
noncomputable def tWhile (c:TT) (tb:TS):TS:=fun D σ H=>∃ W:Nat->St->Hp->Prop,(∃ m,W m σ H)/\∀ m σ H,W m σ H ->
 c σ H fun b H1=>if b=true then ∃ N:St->Hp->Prop,(∀ σ' H',N σ' H'->∃ m',m' < m/\W m' σ' H')/\tb { D with nx:=N,ct:=N,bk:=D.nx } σ H1 else D.nx σ H1
theorem aAx {c:Expr} {body:List Stmt} {tc:TT} {tb:TS} (hp:PassesOwn (model X.prog X.w) X.A X.env X.xe) (hc:PT X c tc) (hb:PSs X body tb):PS X (.While c body [] pos) (tWhile tc tb):=by
 intro pins s σ H D I h
 obtain ⟨W,⟨m0,w0⟩,turn⟩:=h
 refine wpAny_While (codeAny_whileLoop (fun n s'=>∃ σ' H',Inv X pins σ' H' s'/\W n σ' H') ?_ m0 ⟨σ,H,I,w0⟩)
 rintro n s1 ⟨σ1,H1,I1,w1⟩
 refine wpAny_passesOwn hp (thn (hc pins s1 σ1 H1 _ I1 (turn n σ1 H1 w1)) fun b s2 ⟨H2,I2,q2⟩=>?_)
 cases b with
 | true =>
  obtain ⟨N,hN,q2⟩:=q2
  rw [if_pos rfl]
  refine wpAny_passesOwn hp (thn (hb pins s2 σ1 H2 _ I2 q2) fun f s3 q3=>?_)
  cases f with
  | next =>
   obtain ⟨σ3,H3,I3,n3⟩:=q3
   obtain ⟨m',hm,w3⟩:=hN σ3 H3 n3
   exact ⟨m',hm,σ3,H3,I3,w3⟩
  | cont =>
   obtain ⟨σ3,H3,I3,n3⟩:=q3
   obtain ⟨m',hm,w3⟩:=hN σ3 H3 n3
   exact ⟨m',hm,σ3,H3,I3,w3⟩
  | brk=>exact q3
  | ret v=>exact q3
 | false =>
  rw [if_neg Bool.false_ne_true]
  exact wpAny_execs_nil ⟨σ1,H2,I2,q2⟩
end
structure It where
 go:Nat->Hp->Prop
 yld:Nat->Hp->V->Hp->Prop
 stop:Nat->Hp->Prop
noncomputable def FpOk (X:Cx) (pins:List (Addr×Obj)) (H:Hp) (b:Addr):Prop :=
 H b=none/\b≠X.env.locals/\b∉X.fs/\(b∈X.ex\/X.s₀.heap.objs.size<=b)/\(∀ x c,X.env.cells.lookup x=some c->c≠b)/\∀ p∈X.pn++pins,p.1≠b
theorem Inv.fpOk {X:Cx} {pins:List (Addr×Obj)} {σ:St} {H H':Hp} {s:Shared} {b:Addr} (I:Inv X pins σ H s) (hb:s.heap.objs.size<=b) (hn:H' b=none):FpOk X pins H' b:=by
 refine ⟨hn,Nat.ne_of_gt (Nat.lt_of_lt_of_le I.lt hb),I.nofs hb,.inr (Nat.le_trans I.sz hb),fun x c e z=>?_,fun p hp z=>?_⟩
 ·obtain ⟨v,q⟩:=I.cell x c e
  exact absurd (Nat.lt_of_lt_of_le q.lt (by rw [z]; exact hb)) (Nat.lt_irrefl _)
 ·exact absurd (Nat.lt_of_lt_of_le (Heap.lt_size (I.pin p hp).1) (by rw [z]; exact hb)) (Nat.lt_irrefl _)
structure Turn (P:Program) (w:World) (K:PySem.W.Frag) (tg:Expr) (J:It) (fp:List Addr) (it:Addr) (tn:Nat->Heap->Prop):Prop where
 mem:it∈fp
 obj:∀ i h,tn i h->∀ b∈fp,∃ o,h.get? b=some o/\∀ v,o.data≠.cell v
 keep:∀ i h h',tn i h->(∀ b∈fp,∀ o,h.get? b=some o->h'.get? b=some o)->tn i h'
 item:∀ (X:Cx),X.prog=P->X.w=w->X.K=K->X.calm=true->∀ (i:Nat) (pins:List (Addr×Obj)) (s:Shared) (σ:St) (H:Hp) (E:Value->Shared->Prop),Inv X pins σ H s->(∀ b∈fp,FpOk X pins H b)->tn i s.heap->J.go i H ->
  wpAny (model P w) X.A (pyNext (.ref it)) (fun r s1=>∃ u,r=some u /\
   wpAny (model P w) X.A (letOwnedTupleGo tg (.ref it) u) (fun _ s2=>∃ x H',Inv X pins σ H' s2/\RelV x u/\J.yld i H x H'/\tn (i+1) s2.heap/\∀ b∈fp,H' b=none) E s1) E s
 done:∀ (X:Cx),X.prog=P->X.w=w->X.K=K->X.calm=true->∀ (i:Nat) (pins:List (Addr×Obj)) (s:Shared) (σ:St) (H:Hp) (E:Value->Shared->Prop),Inv X pins σ H s->(∀ b∈fp,FpOk X pins H b)->tn i s.heap->J.stop i H ->
  wpAny (model P w) X.A (pyNext (.ref it)) (fun r s1=>r=none/\Inv X pins σ H s1) E s
 self:∀ (A:Around) (i:Nat) (s:Shared) (Q:Value->Shared->Prop) (E:Value->Shared->Prop),tn i s.heap->Q (.ref it) s->wpAny (model P w) A (pyIter (.ref it)) Q E s
noncomputable abbrev TI:=St->Hp->(It->Hp->Prop)->Prop
noncomputable def PIE (X:Cx) (pins:List (Addr×Obj)) (σ:St) (tg:Expr) (R:It->Hp->Prop) (itv:Value) (s2:Shared):Prop :=
 ∃ (it:Addr) (fp:List Addr) (tn:Nat->Heap->Prop) (J:It) (H':Hp),itv=.ref it/\Inv X pins σ H' s2/\Turn X.prog X.w X.K tg J fp it tn/\tn 0 s2.heap/\(∀ b∈fp,FpOk X pins H' b)/\R J H'
noncomputable def PI (X:Cx) (tg iter:Expr) (wi:TI):Prop :=
 ∀ (pins:List (Addr×Obj)) (s:Shared) (σ:St) (H:Hp) (R:It->Hp->Prop),Inv X pins σ H s->wi σ H R ->
  wpAny (model X.prog X.w) X.A (eval iter X.env) (fun v s1=>wpAny (model X.prog X.w) X.A (pyIter v) (PIE X pins σ tg R) X.xe s1) X.xe s
theorem vS {M:Model} {A:Around} {E:Value->Shared->Prop} {s:Shared} {tg:Expr} {it:Addr} {u:Value} {o:Obj} {n:String} {vs:Array Value} {Q:Unit->Shared->Prop} (ho:s.heap.get? it=some o) (hc:o.cls=.type n) (hd:o.data=.fields vs)
  (hn:["enumerate","zip","dict_itemiterator","dict_reverseitemiterator","odict_iterator","itertools.zip_longest","itertools.pairwise"].contains n=false) (hQ:Q () s):wpAny M A (letOwnedTupleGo tg (.ref it) u) Q E s:=by
 unfold letOwnedTupleGo
 cases tg <;> first
  | exact wpAny_pure hQ
  | (cases u <;> first
    | exact wpAny_pure hQ
    | (refine wpAny_bind (wpAny_load ho ?_)
       rw [hc,hd]
       show wpAny M A (if (["enumerate","zip","dict_itemiterator","dict_reverseitemiterator","odict_iterator","itertools.zip_longest","itertools.pairwise"].contains n&&vs[0]?==some (rawInt _))=true then _ else _) Q E s
       rw [if_neg (by intro h; rw [hn,Bool.false_and] at h; cases h)]
       exact wpAny_pure hQ))
noncomputable def Itl (K:PySem.W.Frag) (a:Addr):It :=
 ⟨fun i H=>∃ xs x,SqL K H a xs/\xs[i]?=some x,fun i H x H'=>H'=H/\∀ xs,SqL K H a xs->xs[i]?=some x,fun i H=>∃ xs,SqL K H a xs/\xs.length<=i⟩
noncomputable def Itt (K:PySem.W.Frag) (a:Addr):It :=
 ⟨fun i H=>∃ xs x,SqT K H a xs/\xs[i]?=some x,fun i H x H'=>H'=H/\∀ xs,SqT K H a xs->xs[i]?=some x,fun i H=>∃ xs,SqT K H a xs/\xs.length<=i⟩
noncomputable def Itr (lo:Int) (n:Nat):It:=⟨fun i _=>i < n,fun i H x H'=>H'=H/\x=.int (lo+i),fun i _=>n<=i⟩
theorem zY {P:Program} {w:World} {K:PySem.W.Frag} {tg:Expr} (a it:Addr):Turn P w K tg (Itl K a) [it] it (fun i h=>h.IsListIter it a i) where
 mem:=by simp
 obj:=fun i h st b hb=>by
  have e:b=it:=by simpa using hb
  subst e
  obtain ⟨o,e,c,d⟩:=st
  exact ⟨o,e,fun v z=>by rw [d] at z; cases z⟩
 keep:=fun i h h' st k=>st.at fun o e=>k it (by simp) o e
 item:=by
  intro X hP hw hK hc i pins s σ H E I hf st hg
  subst hP hw hK
  obtain ⟨xs,x,hq,hx⟩:=hg
  obtain ⟨its,rv,p,hz⟩:=I.list hq
  obtain ⟨u,hu,ru⟩:=rv.get hx
  obtain ⟨f0,f1,f2,f3,f4,f5⟩:=hf it (by simp)
  refine wpAny_pyNext_list_item st p.isList (x:=u) (by simpa using hu) fun h' st' sb=>?_
  have I1:Inv X pins σ H { s with heap:=h' }:=I.turned (t':=s.toks) (fun b o hb e=>(sb.2 b hb).trans e) f0 f1 f3 f4 f5
  obtain ⟨o,e,c,d⟩:=id st'
  exact ⟨u,rfl,vS (s:={ s with heap:=h' }) e c d (by decide) ⟨x,H,I1,ru,⟨rfl,fun ys hy=>by rw [I.list_inj hy hq]; exact hx⟩,st',fun b hb=>(hf b hb).1⟩⟩
 done:=by
  intro X hP hw hK hc i pins s σ H E I hf st hg
  subst hP hw hK
  obtain ⟨xs,hq,hx⟩:=hg
  obtain ⟨its,rv,p,hz⟩:=I.list hq
  obtain ⟨f0,f1,f2,f3,f4,f5⟩:=hf it (by simp)
  have hl:=rv.length
  exact wpAny_pyNext_list_end (I.ok.hd hc) st p.isList (by simp; omega) fun h' eb=>⟨rfl,I.turned (t':=s.toks) (fun b o hb e=>eb b o hb e) f0 f1 f3 f4 f5⟩
 self:=fun _ _ _ _ _ st h=>wpAny_pyIter_listiter st h
theorem xO {P:Program} {w:World} {K:PySem.W.Frag} {tg:Expr} (a it:Addr):Turn P w K tg (Itt K a) [it] it (fun i h=>h.IsTupleIter it a i) where
 mem:=by simp
 obj:=fun i h st b hb=>by
  have e:b=it:=by simpa using hb
  subst e
  obtain ⟨o,e,c,d⟩:=st
  exact ⟨o,e,fun v z=>by rw [d] at z; cases z⟩
 keep:=fun i h h' st k=>st.at fun o e=>k it (by simp) o e
 item:=by
  intro X hP hw hK hc i pins s σ H E I hf st hg
  subst hP hw hK
  obtain ⟨xs,x,hq,hx⟩:=hg
  obtain ⟨its,rv,p,hz⟩:=I.tuple hq
  obtain ⟨u,hu,ru⟩:=rv.get hx
  obtain ⟨f0,f1,f2,f3,f4,f5⟩:=hf it (by simp)
  refine wpAny_pyNext_tuple_item st (show s.heap.IsTuple a its.toArray from p) (x:=u) (by simpa using hu) fun h' st' sb=>?_
  have I1:Inv X pins σ H { s with heap:=h' }:=I.turned (t':=s.toks) (fun b o hb e=>(sb.2 b hb).trans e) f0 f1 f3 f4 f5
  obtain ⟨o,e,c,d⟩:=id st'
  exact ⟨u,rfl,vS (s:={ s with heap:=h' }) e c d (by decide) ⟨x,H,I1,ru,⟨rfl,fun ys hy=>by rw [I.tuple_inj hy hq]; exact hx⟩,st',fun b hb=>(hf b hb).1⟩⟩
 done:=by
  intro X hP hw hK hc i pins s σ H E I hf st hg
  subst hP hw hK
  obtain ⟨xs,hq,hx⟩:=hg
  obtain ⟨its,rv,p,hz⟩:=I.tuple hq
  obtain ⟨f0,f1,f2,f3,f4,f5⟩:=hf it (by simp)
  have hl:=rv.length
  exact wpAny_pyNext_tuple_end (I.ok.hd hc) st (show s.heap.IsTuple a its.toArray from p) (by simp; omega) fun h' eb=>⟨rfl,I.turned (t':=s.toks) (fun b o hb e=>eb b o hb e) f0 f1 f3 f4 f5⟩
 self:=fun _ _ _ _ _ st h=>wpAny_pyIter_tupleiter st h
theorem wD {P:Program} {w:World} {K:PySem.W.Frag} {tg:Expr} (it:Addr) (lo:Int) (n:Nat):Turn P w K tg (Itr lo n) [it] it (fun i h=>IsRangeIter h it (lo+(i:Nat)*1) ((n:Int) - (i:Nat)) 1) where
 mem:=by simp
 obj:=fun i h st b hb=>by
  have e:b=it:=by simpa using hb
  subst e
  exact ⟨_,st,fun v z=>by
   have z':Data.fields _=Data.cell v:=z
   cases z'⟩
 keep:=fun i h h' st k=>k it (by simp) _ st
 item:=by
  intro X hP hw hK hc i pins s σ H E I hf st hg
  subst hP hw hK
  obtain ⟨f0,f1,f2,f3,f4,f5⟩:=hf it (by simp)
  have W:=Walks.range (prog:=X.prog) (w:=X.w) (I.ok.hd hc) it lo 1 n
  refine W.item i s _ _ hg st fun v h' tk hv st' kk=>?_
  obtain ⟨t,rfl⟩:=hv
  have I1:Inv X pins σ H { s with heap:=h',toks:=tk }:=I.turned (fun b o hb e=>kk b o (by simpa using hb) e) f0 f1 f3 f4 f5
  refine ⟨_,rfl,vS (s:={ s with heap:=h',toks:=tk }) (n:="range_iterator") st' rfl rfl (by decide) ⟨.int (lo+i),H,I1,⟨t,?_⟩,⟨rfl,rfl⟩,st',fun b hb=>(hf b hb).1⟩⟩
  rw [Int.mul_one]
 done:=by
  intro X hP hw hK hc i pins s σ H E I hf st hg
  subst hP hw hK
  obtain ⟨f0,f1,f2,f3,f4,f5⟩:=hf it (by simp)
  exact wpAny_pyNext_range_end (I.ok.hd hc) st (by have:n<=i:=hg; omega) fun h' eb=>⟨rfl,I.turned (t':=s.toks) (fun b o hb e=>eb b o hb e) f0 f1 f3 f4 f5⟩
 self:=fun _ _ _ _ _ st h=>wpAny_pyIter_rangeiter st h
end L2
namespace L2
open PySem PySem.Spec PyProof.Rows
section
variable {X:Cx} {tg:Expr}
theorem aBs {pins:List (Addr×Obj)} {σ:St} {H:Hp} {s:Shared} {R:It->Hp->Prop} {E:Value->Shared->Prop} {lo hi:Int} {t u v:Tok} {tk:Nat} (I:Inv X pins σ H s) (h1 : -(2 ^ 62)<=lo) (h2:lo < 2 ^ 62) (h3 : -(2 ^ 62)<=hi) (h4:hi < 2 ^ 62)
  (q:R (Itr lo (hi - lo).toNat) H):wpAny (model X.prog X.w) X.A (pyIter (.ref s.heap.objs.size)) (PIE X pins σ tg R) E { s with heap:=s.heap.push { cls:=.type "range",data:=.fields #[.int lo t,.int hi u,.int 1 v] },toks:=tk }:=by
 refine wpAny_pyIter_range (IsRange.new ..) (small_one h1 h2 h3 h4) ?_
 have I1:Inv X pins σ H { s with heap:=s.heap.push { cls:=.type "range",data:=.fields #[.int lo t,.int hi u,.int 1 v] },toks:=tk }:=I.kept fun b o e=>Heap.get?_push_of_some _ e
 refine ⟨(s.heap.push { cls:=.type "range",data:=.fields #[.int lo t,.int hi u,.int 1 v] }).objs.size,[(s.heap.push { cls:=.type "range",data:=.fields #[.int lo t,.int hi u,.int 1 v] }).objs.size],_,_,H,rfl,
  I1.kept (t':=tk) fun b o e=>Heap.get?_push_of_some _ e,wD _ lo (hi - lo).toNat,?_,fun b hb=>?_,q⟩
 ·have e1:lo+((0:Nat):Int)*1=lo:=by simp
  have e2:(((hi - lo).toNat:Nat):Int) - ((0:Nat):Int)=Builtin.Range.rangeSize lo hi 1:=by rw [rangeSize_one]; split <;> omega
  show IsRangeIter _ _ (lo+((0:Nat):Int)*1) ((((hi - lo).toNat:Nat):Int) - ((0:Nat):Int)) 1
  rw [e1,e2]
  exact Heap.get?_push_size _ rfl
 ·have e:b=(s.heap.push { cls:=.type "range",data:=.fields #[.int lo t,.int hi u,.int 1 v] }).objs.size:=by simpa using hb
  subst e
  exact I1.fpOk (Nat.le_refl _) (I1.hok.fresh (Nat.le_refl _))
noncomputable def iRng1 (ta:TA):TI:=fun σ H R=>ta σ H fun vs H1=>∃ j:Int,vs=[.int j] /\ -(2 ^ 62)<=j/\j < 2 ^ 62/\R (Itr 0 j.toNat) H1
theorem zW {a:Expr} {ta:TA} {p pos:Pos} (hg:Gl X "range") (hm:X.mg "range"=none) (ha:PA X [a] ta) (hs:starEach [a] X.env=[(false,eval a X.env)]:=by rfl):PI X tg (.Call (.Name "range" p) [a] [] pos) (iRng1 ta):=by
 intro pins s σ H R I h
 refine Call_ (nM I hg hm boot_range (PyProof.Rows.callWith_type1 (thn (ha pos pins s σ H _ I h) fun us s1 ⟨vs,H1,I1,r1,q1⟩=>?_) hs rfl))
 obtain ⟨j,e,q1,q2,q⟩:=q1
 subst e
 cases r1 with
 | cons r rr =>
  cases rr
  obtain ⟨t,rfl⟩:=r
  exact call_range_1 (aBs I1 (by omega) (by omega) q1 q2 (by simpa using q))
noncomputable def tFor (wi:TI) (g:TG) (tb:TS):TS:=fun D σ H=>wi σ H fun J H1=>∃ W:Nat->Nat->St->Hp->Prop,(∃ m,W 0 m σ H1)/\∀ i m σ H,W i m σ H ->
 (J.stop i H/\D.nx σ H)\/(J.go i H/\∃ N:St->Hp->Prop,(∀ σ' H',N σ' H'->∃ m',m' < m/\W (i+1) m' σ' H')/\∀ x H',J.yld i H x H'->g x σ H' fun σ2 H2=>tb { D with nx:=N,ct:=N,bk:=D.nx } σ2 H2)
noncomputable def pinsAt (fp:List Addr) (h:Heap):List (Addr×Obj):=fp.filterMap fun b=>(h.get? b).map fun o=>(b,o)
theorem jK {fp:List Addr} {h:Heap} {b:Addr} {o:Obj} (hb:b∈fp) (e:h.get? b=some o):(b,o)∈pinsAt fp h:=List.mem_filterMap.mpr ⟨b,hb,by rw [e]; rfl⟩
theorem zB {fp:List Addr} {h:Heap} {p:Addr×Obj} (hp:p∈pinsAt fp h):p.1∈fp/\h.get? p.1=some p.2:=by
 obtain ⟨b,hb,e⟩:=List.mem_filterMap.mp hp
 cases q:h.get? b with
 | none=>rw [q] at e; cases e
 | some o =>
  rw [q] at e
  have e':(b,o)=p:=Option.some.inj e
  subst e'
  exact ⟨hb,q⟩
theorem Inv.pinned {pins:List (Addr×Obj)} {σ:St} {H:Hp} {s:Shared} {fp:List Addr} (I:Inv X pins σ H s) (hf:∀ b∈fp,FpOk X pins H b) (ho:∀ b∈fp,∃ o,s.heap.get? b=some o/\∀ v,o.data≠.cell v):Inv X (pins++pinsAt fp s.heap) σ H s :=
 I.pins_of fun p hp=>(List.mem_append.mp hp).elim (fun z=>I.pin p (List.mem_append_right _ z)) fun z=>by
  obtain ⟨hb,e⟩:=zB z
  obtain ⟨f0,f1,f2,_⟩:=hf p.1 hb
  obtain ⟨o,e',d⟩:=ho p.1 hb
  rw [e] at e'; cases e'
  exact ⟨e,f0,f1,f2,d⟩
theorem Inv.unpinned {pins pl:List (Addr×Obj)} {σ:St} {H:Hp} {s:Shared} (I:Inv X (pins++pl) σ H s):Inv X pins σ H s:=I.pins_of fun p hp=>I.pin p (List.mem_append_right _ (List.mem_append_left _ hp))
theorem aIq {iter:Expr} {body:List Stmt} {wi:TI} {g:TG} {tb:TS} {pos:Pos} (hp:PassesOwn (model X.prog X.w) X.A X.env X.xe) (hc:X.calm=true) (hi:PI X tg iter wi) (hg:PG X tg g) (hb:PSs X body tb)
  (hs:∀ x,foldedSetIterable iter X.env x=pure x:=by intro _; rfl):PS X (.For tg iter body [] pos) (tFor wi g tb):=by
 intro pins s σ H D I h
 refine wpAny_For (thn (hi pins s σ H _ I h) fun v s1 h1=>thn h1 fun itv s2 h2=>?_) hs
 obtain ⟨it,fp,tn,J,H2,e,I2,T,st2,f2,W,⟨m0,w0⟩,turn⟩:=h2
 subst e
 -- what stays true of the iterator's objects through the loop
 have stat:∀ {H':Hp},(∀ b∈fp,H' b=none)->∀ b∈fp,FpOk X pins H' b:=fun hn b hb=>⟨hn b hb,(f2 b hb).2⟩
 refine codeAny_forLoop_any (fun n s'=>∃ i σ' H',Inv X pins σ' H' s'/\tn i s'.heap/\(∀ b∈fp,H' b=none)/\W i n σ' H') ?_ m0 ⟨0,σ,H2,I2,st2,fun b hb=>(f2 b hb).1,w0⟩
 rintro n s3 ⟨i,σ3,H3,I3,st3,fr3,w3⟩
 rcases turn i n σ3 H3 w3 with ⟨stop,qn⟩ | ⟨go,N,hN,step⟩
 ·refine wpAny_passesOwn hp (thn (T.done X rfl rfl rfl hc i pins s3 σ3 H3 X.xe I3 (stat fr3) st3 stop) fun r s4 ⟨hr,I4⟩=>?_)
  subst hr
  exact wpAny_execs_nil ⟨σ3,H3,I4,qn⟩
 ·refine wpAny_passesOwn hp (thn (T.item X rfl rfl rfl hc i pins s3 σ3 H3 X.xe I3 (stat fr3) st3 go) fun r s4 ⟨u,hr,h4⟩=>?_)
  subst hr
  refine wpAny_passesOwn hp (thn h4 fun _ s5 ⟨x,H5,I5,r5,y5,st5,fr5⟩=>?_)
  have I5':=I5.pinned (stat fr5) (T.obj _ _ st5)
  refine wpAny_passesOwn hp (thn (hg _ s5 σ3 H5 x u _ I5' r5 (step x H5 y5)) fun _ s6 ⟨σ6,H6,I6,q6⟩=>?_)
  refine wpAny_passesOwn hp (thn (hb _ s6 σ6 H6 _ I6 q6) fun f s7 q7=>?_)
  have again:∀ {σ7:St} {H7:Hp},Inv X (pins++pinsAt fp s5.heap) σ7 H7 s7->N σ7 H7->∃ m,m < n/\∃ i σ' H',Inv X pins σ' H' s7/\tn i s7.heap/\(∀ b∈fp,H' b=none)/\W i m σ' H':=fun {σ7 H7} I7 n7=>by
   obtain ⟨m',hm,w7⟩:=hN σ7 H7 n7
   refine ⟨m',hm,i+1,σ7,H7,I7.unpinned,T.keep _ _ _ st5 fun b hb o e=>(I7.pin (b,o) (List.mem_append_right _ (List.mem_append_right _ (jK hb e)))).1,fun b hb=>?_,w7⟩
   obtain ⟨o,e,d⟩:=T.obj _ _ st5 b hb
   exact (I7.pin (b,o) (List.mem_append_right _ (List.mem_append_right _ (jK hb e)))).2.1
  cases f with
  | next=>obtain ⟨σ7,H7,I7,n7⟩:=q7; exact again I7 n7
  | cont=>obtain ⟨σ7,H7,I7,n7⟩:=q7; exact again I7 n7
  | brk=>obtain ⟨σ7,H7,I7,q7⟩:=q7; exact ⟨σ7,H7,I7.unpinned,q7⟩
  | ret v=>obtain ⟨x7,σ7,H7,I7,r7,q7⟩:=q7; exact ⟨x7,σ7,H7,I7.unpinned,r7,q7⟩
end
end L2
namespace L2
open PySem PySem.Spec PyProof.Rows
noncomputable abbrev R2:=V->V->Hp->VK->Prop
noncomputable def OpR (X:Cx) (f:Value->Value->Sem Value) (r:R2):Prop :=
 ∀ (pins:List (Addr×Obj)) (s:Shared) (σ:St) (H:Hp) (x y:V) (v u:Value) (Q:VK),Inv X pins σ H s->RelV x v->RelV y u->r x y H Q ->
  wpAny (model X.prog X.w) X.A (f v u) (EP X pins σ Q) X.xe s
noncomputable def UnR (X:Cx) (f:Value->Sem Value) (r:V->Hp->VK->Prop):Prop :=
 ∀ (pins:List (Addr×Obj)) (s:Shared) (σ:St) (H:Hp) (x:V) (v:Value) (Q:VK),Inv X pins σ H s->RelV x v->r x H Q ->
  wpAny (model X.prog X.w) X.A (f v) (EP X pins σ Q) X.xe s
noncomputable def CallR (X:Cx) (f:Value) (r:List V->Hp->VK->Prop):Prop :=
 ∀ (pins:List (Addr×Obj)) (s:Shared) (σ:St) (H:Hp) (xs:List V) (us:List Value) (Q:VK),Inv X pins σ H s->Vals xs us->r xs H Q ->
  wpAny (model X.prog X.w) X.A (call f us) (EP X pins σ Q) X.xe s
noncomputable def TruR (X:Cx) (r:V->Hp->(Bool->Hp->Prop)->Prop):Prop :=
 ∀ (pins:List (Addr×Obj)) (s:Shared) (σ:St) (H:Hp) (x:V) (v:Value) (Q:Bool->Hp->Prop),Inv X pins σ H s->RelV x v->r x H Q ->
  wpAny (model X.prog X.w) X.A (truthy v) (TP X pins σ Q) X.xe s
noncomputable def tOp (r:R2) (ta tb:TE):TE:=fun σ H Q=>ta σ H fun x H1=>tb σ H1 fun y H2=>r x y H2 Q
noncomputable def tUn (r:V->Hp->VK->Prop) (ta:TE):TE:=fun σ H Q=>ta σ H fun x H1=>r x H1 Q
noncomputable def rI (C:Int->Int->Prop) (g:Int->Int->V):R2:=fun x y H Q=>∃ i j,x=.int i/\y=.int j/\C i j/\Q (g i j) H
noncomputable def rI0 (g:Int->Int->V):R2:=fun x y H Q=>∃ i j,x=.int i/\y=.int j/\Q (g i j) H
noncomputable def rU (g:Int->V):V->Hp->VK->Prop:=fun x H Q=>∃ i,x=.int i/\Q (g i) H
section
variable {X:Cx} {a b c:Expr} {ta tb tc:TE} {pos:Pos}
theorem binT (ha:PE X a ta) (hb:PE X b tb) {pins:List (Addr×Obj)} {s:Shared} {σ:St} {H:Hp} {R:V->V->Hp->Prop} (I:Inv X pins σ H s)
  (h:ta σ H fun x H1=>tb σ H1 fun y H2=>R x y H2) {Q:Value->Shared->Prop} {f:Value->Value->Sem Value}
  (hf:∀ v u s2 x y H2,Inv X pins σ H2 s2->RelV x v->RelV y u->R x y H2->wpAny (model X.prog X.w) X.A (f v u) Q X.xe s2) :
  wpAny (model X.prog X.w) X.A (eval a X.env) (fun v s₁=>wpAny (model X.prog X.w) X.A (eval b X.env) (fun u s₂=>wpAny (model X.prog X.w) X.A (f v u) Q X.xe s₂) X.xe s₁) X.xe s:=by
 refine thn (ha pins s σ H _ I h) fun v s1 ⟨x,H1,I1,r1,q1⟩=>?_
 refine thn (hb pins s1 σ H1 _ I1 q1) fun u s2 ⟨y,H2,I2,r2,q2⟩=>?_
 exact hf v u s2 x y H2 I2 r1 r2 q2
theorem aKk {op:Operator} {r:R2} (ho:OpR X (binaryOp op) r) (ha:PE X a ta) (hb:PE X b tb):PE X (.BinOp a op b pos) (tOp r ta tb):=by
 intro pins s σ H Q I h
 exact wpAny_BinOp (binT ha hb I h fun v u s2 x y H2 I2 rx ry q=>ho pins s2 σ H2 x y v u Q I2 rx ry q)
theorem aKu {op:UnaryOp} {r:V->Hp->VK->Prop} (ho:UnR X (unaryOp op) r) (ha:PE X a ta):PE X (.UnaryOp op a pos) (tUn r ta):=by
 intro pins s σ H Q I h
 exact UnaryOp_ (thn (ha pins s σ H _ I h) fun v s1 ⟨x,H1,I1,r1,q1⟩=>ho pins s1 σ H1 x v Q I1 r1 q1)
theorem opI {f:Value->Value->Sem Value} {C:Int->Int->Prop} {g:Int->Int->Int}
  (rule:∀ (i j:Int) (t u:Tok) (s:Shared) (Q:Value->Shared->Prop) (E:Value->Shared->Prop),C i j->Q (.int (g i j) s.toks) { s with toks:=s.toks+1 }->wpAny (model X.prog X.w) X.A (f (.int i t) (.int j u)) Q E s) :
  OpR X f (rI C fun i j=>.int (g i j)):=by
 intro pins s σ H x y v u Q I rx ry h
 obtain ⟨i,j,rfl,rfl,hc,q⟩:=h
 obtain ⟨t,rfl⟩:=rx
 obtain ⟨t',rfl⟩:=ry
 exact rule i j t t' s _ _ hc ⟨.int (g i j),H,I.tok _,⟨_,rfl⟩,q⟩
theorem opI0 {f:Value->Value->Sem Value} {g:Int->Int->Int}
  (rule:∀ (i j:Int) (t u:Tok) (s:Shared) (Q:Value->Shared->Prop) (E:Value->Shared->Prop),Q (.int (g i j) s.toks) { s with toks:=s.toks+1 }->wpAny (model X.prog X.w) X.A (f (.int i t) (.int j u)) Q E s) :
  OpR X f (rI0 fun i j=>.int (g i j)):=by
 intro pins s σ H x y v u Q I rx ry h
 obtain ⟨i,j,rfl,rfl,q⟩:=h
 obtain ⟨t,rfl⟩:=rx
 obtain ⟨t',rfl⟩:=ry
 exact rule i j t t' s _ _ ⟨.int (g i j),H,I.tok _,⟨_,rfl⟩,q⟩
theorem opB0 {f:Value->Value->Sem Value} {g:Int->Int->Bool}
  (rule:∀ (i j:Int) (t u:Tok) (s:Shared) (Q:Value->Shared->Prop) (E:Value->Shared->Prop),Q (.bool (g i j)) s->wpAny (model X.prog X.w) X.A (f (.int i t) (.int j u)) Q E s) :
  OpR X f (rI0 fun i j=>.bl (g i j)):=by
 intro pins s σ H x y v u Q I rx ry h
 obtain ⟨i,j,rfl,rfl,q⟩:=h
 obtain ⟨t,rfl⟩:=rx
 obtain ⟨t',rfl⟩:=ry
 exact rule i j t t' s _ _ ⟨.bl (g i j),H,I,rfl,q⟩
noncomputable def CPow (i j:Int):Prop:=0<=j/\j<=1000000/\i.natAbs < 2 ^ 64
noncomputable def CMul (i j:Int):Prop:=(-(2 ^ 64) < i/\i < 2 ^ 64)\/(-(2 ^ 64) < j/\j < 2 ^ 64)
theorem CMul.ok {i j:Int} (h:CMul i j):IntMulOk i j:=by
 rcases h with ⟨h1,h2⟩ | ⟨h1,h2⟩
 ·exact .of_left (intBits_le_64 h1 h2)
 ·exact .of_right (intBits_le_64 h1 h2)
theorem aIn:OpR X (binaryOp .Add) (rI0 fun i j=>.int (i+j)):=opI0 fun _ _ _ _ _ _ _ q=>add_int q
theorem aIf:OpR X (binaryOp .Sub) (rI0 fun i j=>.int (i - j)):=opI0 fun _ _ _ _ _ _ _ q=>sub_int q
theorem aJh:OpR X (binaryOp .Mod) (rI (fun _ j=>0 < j) fun i j=>.int (i % j)):=opI fun i j _ _ _ _ _ hc q=>by
 have h1:(0:Int) < j:=hc
 exact mod_int' (by omega) (by rw [Int.fmod_eq_emod_of_nonneg i (by omega)]; exact q)
theorem aGm:OpR X (binaryOp .Pow) (rI CPow fun i j=>.int (i ^ j.toNat)):=opI fun _ _ _ _ _ _ _ hc q=>pow_int_small hc.1 hc.2.1 hc.2.2 q
theorem unI {f:Value->Sem Value} {g:Int->Int}
  (rule:∀ (i:Int) (t:Tok) (s:Shared) (Q:Value->Shared->Prop) (E:Value->Shared->Prop),Q (.int (g i) s.toks) { s with toks:=s.toks+1 }->wpAny (model X.prog X.w) X.A (f (.int i t)) Q E s) :
  UnR X f (rU fun i=>.int (g i)):=by
 intro pins s σ H x v Q I rx h
 obtain ⟨i,rfl,q⟩:=h
 obtain ⟨t,rfl⟩:=rx
 exact rule i t s _ _ ⟨.int (g i),H,I.tok _,⟨_,rfl⟩,q⟩
theorem aHd:UnR X (unaryOp .USub) (rU fun i=>.int (-i)):=unI fun _ _ _ _ _ q=>neg_int q
end
section
variable {X:Cx} {a b c:Expr} {ta tb tc:TE} {pos:Pos}
theorem aGs {pins:List (Addr×Obj)} {σ:St} {H:Hp} {s:Shared} {Q:VK} {k k':Bool} (I:Inv X pins σ H s) (q:Q (.bl k) H) (e:k=k'):EP X pins σ Q (.bool k') s:=by
 subst e
 exact ⟨.bl k,H,I,rfl,q⟩
theorem aLc:OpR X (compareOp .Lt) (rI0 fun i j=>.bl (decide (i < j))):=opB0 fun _ _ _ _ _ _ _ q=>lt_int q
theorem aKs:OpR X (compareOp .Gt) (rI0 fun i j=>.bl (decide (j < i))):=opB0 fun _ _ _ _ _ _ _ q=>gt_int q
theorem aLd:OpR X (compareOp .GtE) (rI0 fun i j=>.bl (decide (j<=i))):=opB0 fun _ _ _ _ _ _ _ q=>ge_int q
theorem aFp:OpR X (compareOp .IsNot) (fun x y H Q=>y=.non/\Q (.bl (!decide (x=.non))) H):=by
 intro pins s σ H x y v u Q I rx ry h
 obtain ⟨rfl,q⟩:=h
 cases ry
 refine isnot_none_gen (aGs I q ?_)
 cases x <;> first
  | (cases rx; rfl)
  | (obtain ⟨t,rfl⟩:=rx; rfl)
theorem OpR.or {f:Value->Value->Sem Value} {r r':R2} (h:OpR X f r) (h':OpR X f r'):OpR X f (fun x y H Q=>r x y H Q\/r' x y H Q):=by
 intro pins s σ H x y v u Q I rx ry q
 rcases q with q | q
 ·exact h pins s σ H x y v u Q I rx ry q
 ·exact h' pins s σ H x y v u Q I rx ry q
theorem nomark (b:Expr) {op:CmpOp} (h:op≠.In:=by decide) (h2:op≠.NotIn:=by decide):behindInMarks op b=false:=by
 have e1:(op==CmpOp.In)=false:=by cases op <;> first | rfl | exact absurd rfl h
 have e2:(op==CmpOp.NotIn)=false:=by cases op <;> first | rfl | exact absurd rfl h2
 cases b <;> simp [behindInMarks,e1,e2]
theorem aEr {op:CmpOp} {r:R2} (ho:OpR X (compareOp op) r) (ha:PE X a ta) (hb:PE X b tb) (hm:behindInMarks op b=false):PE X (.Compare a [op] [b] pos) (tOp r ta tb):=by
 intro pins s σ H Q I h
 exact wpAny_Compare1 (binT ha hb I h fun v u s2 x y H2 I2 rx ry q=>ho pins s2 σ H2 x y v u Q I2 rx ry q) hm
noncomputable def tTest (t:TE):TT:=fun σ H Q=>t σ H fun x H'=>∃ k,x=.bl k/\Q k H'
theorem aFr {op:CmpOp} {r:R2} (ho:OpR X (compareOp op) r) (ha:PE X a ta) (hb:PE X b tb) (hm:behindInMarks op b=false):PT X (.Compare a [op] [b] pos) (tTest (tOp r ta tb)):=by
 intro pins s σ H Q I h
 refine wpAny_isTrue_Compare1 (thn (ha pins s σ H _ I h) fun v s1 ⟨x,H1,I1,r1,q1⟩=>thn (hb pins s1 σ H1 _ I1 q1) fun u s2 ⟨y,H2,I2,r2,q2⟩ =>
  thn (ho pins s2 σ H2 x y v u _ I2 r1 r2 q2) fun c s3 ⟨z,H3,I3,r3,k,e,q3⟩=>?_) hm
 subst e
 cases r3
 exact wpAny_truthy_bool ⟨H3,I3,q3⟩
noncomputable def TruV (K:PySem.W.Frag) (x:V) (H:Hp) (k:Bool):Prop :=
 match x with
 | .non=>k=false
 | .bl b=>k=b
 | .int i=>k=(i != 0)
 | .str y=>y.length<=sizeLine/\k=((y.length:Int) != 0)
 | .byt y=>y.size<=sizeLine/\k=((y.size:Int) != 0)
 | .ref p=>(∃ xs,SqL K H p xs/\k=!xs.isEmpty)\/(∃ xs,SqT K H p xs/\k=!xs.isEmpty)\/∃ kvs,H p=some (.dK kvs)/\k=!kvs.isEmpty
 | _=>False
theorem wM {κ:Type} {kvs:List (κ×V)} {vs:List (κ×Value)} (r:KV kvs vs):(!vs.isEmpty)=!kvs.isEmpty:=by
 cases r <;> rfl
theorem qV {xs:List V} {its:List Value} (r:Vals xs its):(!its.toArray.isEmpty)=!xs.isEmpty:=by
 cases r <;> simp
theorem line63:(sizeLine:Nat) < 2 ^ 63:=by rw [sizeLine_eq]; decide
theorem aIb:TruR X (fun x H Q=>∃ k,TruV X.K x H k/\Q k H):=by
 intro pins s σ H x v Q I rx h
 obtain ⟨k,e,q⟩:=h
 have hl:=line63
 have hs:sizeLine=16777216:=sizeLine_eq
 cases x with
 | non =>
  cases rx
  have e':k=false:=e
  subst e'
  exact truthy_none ⟨H,I,q⟩
 | bl b =>
  cases rx
  have e':k=b:=e
  subst e'
  exact wpAny_truthy_bool ⟨H,I,q⟩
 | int i =>
  obtain ⟨t,rfl⟩:=rx
  have e':k=(i != 0):=e
  subst e'
  exact PySem.P.truthy_int ⟨H,I,q⟩
 | str y =>
  obtain ⟨t,rfl⟩:=rx
  obtain ⟨hy,e'⟩:y.length<=sizeLine/\k=((y.length:Int) != 0):=e
  subst e'
  exact PySem.P.truthy_str (by omega) ⟨H,I.tok _,q⟩
 | byt y =>
  obtain ⟨t,rfl⟩:=rx
  obtain ⟨hy,e'⟩:y.size<=sizeLine/\k=((y.size:Int) != 0):=e
  subst e'
  exact PySem.W.truthy_bytes (by omega) ⟨H,I.tok _,q⟩
 | ref p =>
  cases rx
  have e':(∃ xs,SqL X.K H p xs/\k=!xs.isEmpty)\/(∃ xs,SqT X.K H p xs/\k=!xs.isEmpty)\/∃ kvs,H p=some (.dK kvs)/\k=!kvs.isEmpty:=e
  rcases e' with ⟨xs,hx,e'⟩ | ⟨xs,hx,e'⟩ | ⟨kvs,hx,e'⟩
  ·subst e'
   obtain ⟨its,r,pl,hz⟩:=I.list hx
   have hlen:=r.length
   exact wpAny_truthy_list pl.isList (by simp only [List.size_toArray]; omega) ⟨H,I.tok _,by rw [qV r]; exact q⟩
  ·subst e'
   obtain ⟨its,r,pl,hz⟩:=I.tuple hx
   have hlen:=r.length
   exact truthy_tuple pl (by simp only [List.size_toArray]; omega) ⟨H,I.tok _,by rw [qV r]; exact q⟩
  ·subst e'
   obtain ⟨hz,hS,vs,r,m⟩:kvs.length<=sizeLine/\(p==sysModules)=false/\∃ vs,KV kvs vs/\s.heap.DictOf (mixKind X.prog X.w) p vs:=I.hok p _ hx
   have hlen:kvs.length=vs.length:=Paired.length r
   exact wpAny_truthy_dict hS m (by omega) ⟨H,I.tok _,by rw [wM r]; exact q⟩
 | _=>exact (show False from e).elim
theorem aBe (ha:PE X a ta) (he:∀ whole,isTrue a X.env whole=(do let v <- whole; standAt a.pos; holding [v] (truthy v))) :
  PT X a (fun σ H Q=>ta σ H fun x H'=>∃ k,TruV X.K x H' k/\Q k H'):=by
 intro pins s σ H Q I h
 exact isTrue_plain (thn (ha pins s σ H _ I h) fun v s1 ⟨x,H1,I1,r1,q1⟩=>aIb pins s1 σ H1 x v Q I1 r1 q1) (he _)
theorem xI:OpR X (binaryOp .Add) (fun x y H Q=>∃ i j,x=.str i/\y=.str j/\i.length+j.length<=sizeLine/\Q (.str (i++j)) H):=by
 intro pins s σ H x y v u Q I rx ry h
 obtain ⟨i,j,rfl,rfl,hz,q⟩:=h
 obtain ⟨t,rfl⟩:=rx
 obtain ⟨t',rfl⟩:=ry
 exact add_str (fun t' tk=>⟨.str (i++j),H,I.tok _,⟨_,rfl⟩,q⟩) hz
theorem vals1 {x:V} {us:List Value} (r:Vals [x] us):∃ u,us=[u]/\RelV x u:=by
 cases r with
 | cons r1 r2=>cases r2; exact ⟨_,rfl,r1⟩
theorem vals2 {x y:V} {us:List Value} (r:Vals [x,y] us):∃ u w',us=[u,w']/\RelV x u/\RelV y w':=by
 cases r with
 | cons r1 r2 =>
  cases r2 with
  | cons r3 r4=>cases r4; exact ⟨_,_,rfl,r1,r3⟩
theorem aAb (hc:X.calm=true):CallR X (.builtin "max") (fun xs H Q=>∃ i j,xs=[.int i,.int j]/\Q (.int (if j > i then j else i)) H):=by
 intro pins s σ H xs us Q I r h
 obtain ⟨i,j,rfl,q⟩:=h
 obtain ⟨u,w',rfl,⟨t,rfl⟩,⟨t',rfl⟩⟩:=vals2 r
 refine max_two_ints (I.ok.hd hc) fun h' tk k=>⟨_,H,I.kept k,?_,q⟩
 by_cases hj:j > i
 ·rw [if_pos hj,if_pos hj]; exact ⟨_,rfl⟩
 ·rw [if_neg hj,if_neg hj]; exact ⟨_,rfl⟩
theorem zP (hc:X.calm=true):CallR X (.builtin "min") (fun xs H Q=>∃ i j,xs=[.int i,.int j]/\Q (.int (if j < i then j else i)) H):=by
 intro pins s σ H xs us Q I r h
 obtain ⟨i,j,rfl,q⟩:=h
 obtain ⟨u,w',rfl,⟨t,rfl⟩,⟨t',rfl⟩⟩:=vals2 r
 refine min_two_ints (I.ok.hd hc) fun h' tk k=>⟨_,H,I.kept k,?_,q⟩
 by_cases hj:j < i
 ·rw [if_pos hj,if_pos hj]; exact ⟨_,rfl⟩
 ·rw [if_neg hj,if_neg hj]; exact ⟨_,rfl⟩
theorem zH:CallR X (.type "int") (fun xs H Q=>(∃ i,xs=[.int i]/\Q (.int i) H)\/∃ k,xs=[.bl k]/\Q (.int (if k then 1 else 0)) H):=by
 intro pins s σ H xs us Q I r h
 rcases h with ⟨i,rfl,q⟩ | ⟨k,rfl,q⟩
 ·obtain ⟨u,rfl,t,rfl⟩:=vals1 r
  exact call_int_int ⟨.int i,H,I,⟨_,rfl⟩,q⟩
 ·obtain ⟨u,rfl,r1⟩:=vals1 r
  cases r1
  exact call_int_bool ⟨.int (if k then 1 else 0),H,I.tok _,⟨_,rfl⟩,q⟩
end
end L2
namespace L2
open PySem PySem.Spec PyProof.Rows
structure ObjM (h:Heap) (x dx C:Addr) (mA:Str->Option Value):Prop where
 obj:h.get? x=some (PySem.W.instObj C dx)
 ns:h.Ns1 dx mA
 ne:dx≠x
section
variable {prog:Program} {w:World} {A:Around} {E:Value->Shared->Prop} {s:Shared} {K:PySem.W.Frag} {x dx C f:Addr} {mA:Str->Option Value} {name:Str} {v:Value}
end
theorem RelO.none_of {o:Option Value} (r:RelO none o):o=none:=by
 cases o with
 | none=>rfl
 | some u=>exact (show False from r).elim
section
variable {P:Program} {w:World} {H H':Hp} {h h':Heap} {a C dx:Addr} {fs fs':List (Str×V)}
end
structure Cls (K:PySem.W.Frag) (C:Addr):Prop where
 pg:PySem.W.plainGet K C Str.empty=true
 hd:PySem.W.hasDictIn K C=true
 po:PySem.W.plainOver K C=true
 sa:PySem.W.findIn K (.ref C) "__setattr__"=some (some (.builtin "object.__setattr__"))
theorem Cls.get {K:PySem.W.Frag} {C:Addr} (c:Cls K C) (f:Str):PySem.W.plainGet K C f=true:=c.pg
structure Con (K:PySem.W.Frag) (C:Addr) (f:Str) (v:V) (u:Value):Prop where
 at_:PySem.W.findIn K (.ref C) f=some (some u)
 rel:RelV v u
 get:PySem.W.specialIn K u "__get__"=some none
 cp:PySem.W.copiedNames.contains f=false
structure Meth (K:PySem.W.Frag) (C:Addr) (m:Str) (f:Addr):Prop where
 at_:PySem.W.findIn K (.ref C) m=some (some (.ref f))
 fn:PySem.W.isFn K (.ref f)=true
 kp:PySem.W.keepIn K (.ref f)=true
section
variable {X:Cx} {pins:List (Addr×Obj)} {σ:St} {H:Hp} {s:Shared} {a C dx:Addr} {fs:List (Str×V)} {f:Str} {v:V} {A:Around} {E:Value->Shared->Prop}
theorem Inv.made (I:Inv X pins σ H s):Inv X pins σ (upd (upd H s.heap.objs.size (.own (s.heap.objs.size+1))) (s.heap.objs.size+1) (.ins C s.heap.objs.size []))
  { s with heap:=(s.heap.push PySem.W.emptyDict).push (PySem.W.instObj C s.heap.objs.size) }:=by
 have e1:(s.heap.push PySem.W.emptyDict).get? s.heap.objs.size=some PySem.W.emptyDict:=Heap.get?_push_size s.heap rfl
 have e2:((s.heap.push PySem.W.emptyDict).push (PySem.W.instObj C s.heap.objs.size)).get? (s.heap.objs.size+1)=some (PySem.W.instObj C s.heap.objs.size):=by
  have:=Heap.get?_push_size (s.heap.push PySem.W.emptyDict) (o:=PySem.W.instObj C s.heap.objs.size) rfl
  rwa [Heap.size_push] at this
 have e3:(s.heap.push PySem.W.emptyDict).Ns s.heap.objs.size (fun _=>none):=⟨PySem.W.emptyDict,#[],_,e1,rfl,(fun e he=>absurd he (by simp)),fun _=>rfl⟩
 have I1:=I.laid (a:=s.heap.objs.size) (o:=.own (s.heap.objs.size+1)) (h':=s.heap.push PySem.W.emptyDict) (t':=s.toks) (fun b u q=>Heap.get?_push_of_some _ q) (Nat.le_refl _) ⟨_,e1⟩
 refine I1.laid (a:=s.heap.objs.size+1) (o:=.ins C s.heap.objs.size []) (t':=s.toks) (fun b u q=>Heap.get?_push_of_some _ q) (Nat.le_of_eq (Heap.size_push _ _)) ?_
 have ne:s.heap.objs.size≠s.heap.objs.size+1:=Nat.ne_of_lt (Nat.lt_succ_self _)
 refine ⟨by rw [bF ne,cB],Nat.zero_le _,ne,e2,fun _=>none,(Heap.Ns1.of_empty e3).at fun o q=>Heap.get?_push_of_some _ q,fun _=>True.intro,fun y hy=>absurd rfl hy⟩
end
section
variable {X:Cx} {o e value:Expr} {f:Str} {pos pos' tpos:Pos} {ta tv:TE}
end
section
variable {X:Cx} {pins:List (Addr×Obj)} {σ:St} {H:Hp} {s:Shared} {A:Around} {E:Value->Shared->Prop} {Q:Value->Shared->Prop} {c:Value} {b:Bool}
inductive TyOf (K:PySem.W.Frag) (H:Hp):V->Value->Prop where
 | non:TyOf K H .non (.type "NoneType")
 | bl (x:Bool):TyOf K H (.bl x) (.type "bool")
 | int (i:Int):TyOf K H (.int i) (.type "int")
 | str (x:Str):TyOf K H (.str x) (.type "str")
 | flt (x:UInt64):TyOf K H (.flt x) (.type "float")
 | lst {a:Addr} {xs:List V} (e:H a=some (.lst xs)):TyOf K H (.ref a) (.type "list")
 | frz {a:Addr} {o:Obj} {xs:List V} (e:H a=some (.frz o (.lst xs))):TyOf K H (.ref a) (.type "list")
 | tup {a:Addr} {xs:List V} (e:H a=some (.tup xs)):TyOf K H (.ref a) (.type "tuple")
 | dK {a:Addr} {kvs:List (Key×V)} (e:H a=some (.dK kvs)):TyOf K H (.ref a) (.type "dict")
 | dT {a:Addr} {kvs:List (List Key×V)} (e:H a=some (.dT kvs)):TyOf K H (.ref a) (.type "dict")
 | ins {a C dx:Addr} {fs:List (Str×V)} (e:H a=some (.ins C dx fs)) (cl:Cls K C) (ha:PySem.W.findIn K (.ref C) "__class__"=some (some (.builtin "object.__class__")))
   (hn:PySem.W.specialIn K (.builtin "object.__class__") "__get__"=some (some (.builtin "getset_descriptor.__get__"))) (htk:PySem.W.takesIn K (.builtin "object.__class__")=some true)
   (hm:PySem.W.mroIn K C (.type "object")=some true):TyOf K H (.ref a) (.ref C)
end
end L2
namespace L2
open PySem PySem.Spec PyProof.Rows
structure Room (k:Nat) (A:Around):Prop where
 hd:A.handled=none
 dp:A.depth+3*k+5 < recursionLimit
 un:A.units+16*k+200 < cLine
theorem Room.mono {j k:Nat} {A:Around} (r:Room k A) (h:j<=k):Room j A:=⟨r.hd,by have:=r.dp; omega,by have:=r.un; omega⟩
theorem Room.deeper {k:Nat} {A:Around} (r:Room (k+1) A) (env:Env):Room k (A.deeper env) :=
 ⟨r.hd,by have:=r.dp; show A.depth+1+3*k+5 < _; omega,by have:=r.un; show A.units+3+16*k+200 < _; omega⟩
theorem Room.in1 {k:Nat} {A:Around} (r:Room (k+1) A):Room k A.in1 :=
 ⟨r.hd,by have:=r.dp; show A.depth+3*k+5 < _; omega,by have:=r.un; show A.units+1+16*k+200 < _; omega⟩
theorem xC {A:Around} {C:Addr} {us:List Value} {kw:List (Str×Value)}:(A.under (.builtin "type.__call__" ⟨.ref C::us,kw⟩)).depth=A.depth+1:=by
 first | rfl | simp [Around.under,Code.weight,Code.isCreation,Code.isGuard,Code.isCaller,Code.frames,Code.isFrame,guardIds]
theorem vZ {A:Around} {C:Addr} {us:List Value} {kw:List (Str×Value)}:(A.under (.builtin "type.__call__" ⟨.ref C::us,kw⟩)).units=A.units+1:=by
 first | rfl | simp [Around.under,Code.cUnits,Code.frames,Code.isFrame]
theorem Room.make {k:Nat} {A:Around} (r:Room (k+1) A) (C:Addr) (us:List Value) (kw:List (Str×Value)):Room k (A.under (.builtin "type.__call__" ⟨.ref C::us,kw⟩)) :=
 ⟨r.hd,by have:=r.dp; rw [xC]; omega,by have:=r.un; rw [vZ]; omega⟩
theorem Room.depth {k:Nat} {A:Around} (r:Room k A):A.depth < recursionLimit:=by have:=r.dp; omega
theorem Room.units {k:Nat} {A:Around} (r:Room k A):A.units+64 < cLine:=by have:=r.un; omega
noncomputable def tNil:TA:=fun _ H Q=>Q [] H
noncomputable def tCons (ta:TE) (tr:TA):TA:=fun σ H Q=>ta σ H fun x H1=>tr σ H1 fun xs H2=>Q (x::xs) H2
section
variable {X:Cx} {e:Expr} {es:List Expr} {te:TE} {t:TA} {pos:Pos}
theorem iJ:PA X [] tNil:=fun _ _ _ _ H Q I h=>Calls.spliced_nil ⟨[],H,I,.nil,h⟩
theorem fL (ha:PE X e te) (hr:PA X es t) (hs:starEach (e::es) X.env=(false,eval e X.env)::starEach es X.env:=by rfl):PA X (e::es) (tCons te t):=by
 intro pos pins s σ H Q I h
 rw [hs]
 show wpAny _ _ (spliced ((false,eval e X.env)::backTo pos (starEach es X.env))) _ _ s
 refine Calls.spliced_cons (thn (ha pins s σ H _ I h) fun u s1 ⟨x,H1,I1,r1,q1⟩=>?_)
 exact thn (hr pos pins s1 σ H1 _ I1 q1) fun us s2 ⟨xs,H2,I2,r2,q2⟩=>⟨x::xs,H2,I2,.cons r1 r2,q2⟩
noncomputable def tTup (t:TA):TE:=fun σ H Q=>t σ H fun xs H1=>xs.length<=sizeLine/\∀ p,H1 p=none->Q (.ref p) (upd H1 p (.tup xs))
noncomputable def tLst (t:TA):TE:=fun σ H Q=>t σ H fun xs H1=>xs.length<=sizeLine/\∀ p,H1 p=none->Q (.ref p) (upd H1 p (.lst xs))
theorem aHh {x1} (h:PA X es t):PE X (.Tuple es x1 pos) (tTup t):=by
 intro pins s σ H Q I hq
 refine wpAny_Tuple_spliced (thn (h pos pins s σ H _ I hq) fun us s1 ⟨xs,H1,I1,r,z,q⟩=>⟨by rw [<- r.length]; exact z,?_⟩)
 have hf:H1 s1.heap.objs.size=none:=I1.hok.fresh (Nat.le_refl _)
 refine ⟨.ref s1.heap.objs.size,upd H1 s1.heap.objs.size (.tup xs),I1.laid (t':=s1.toks) (fun b u e=>Heap.get?_push_of_some _ e) (Nat.le_refl _) ?_,rfl,q _ hf⟩
 exact ⟨z,us,r,⟨_,Heap.get?_push_size _ rfl,rfl,_,rfl⟩⟩
theorem wB (h:PA X es t):PE X (.List es pos) (tLst t):=by
 intro pins s σ H Q I hq
 refine wpAny_List_spliced (thn (h pos pins s σ H _ I hq) fun us s1 ⟨xs,H1,I1,r,z,q⟩=>⟨by rw [<- r.length]; exact z,?_⟩)
 have hf:H1 s1.heap.objs.size=none:=I1.hok.fresh (Nat.le_refl _)
 refine ⟨.ref s1.heap.objs.size,upd H1 s1.heap.objs.size (.lst xs),I1.laid (t':=s1.toks) (fun b u e=>Heap.get?_push_of_some _ e) (Nat.le_refl _) ?_,rfl,q _ hf⟩
 exact ⟨z,us,0,r,Heap.get?_push_size _ rfl⟩
end
noncomputable abbrev Sp:=List V->Hp->VK->XK->Prop
noncomputable abbrev CXT:=List Env->Hp->Shared->XK->Value->Shared->Prop
structure Env0 (P:Program) (w:World) (K:PySem.W.Frag) (mg:Str->Option Value) (base:Heap) (A:Around) (outer:List Env) (s:Shared) (H:Hp):Prop where
 frames:A.frames=some outer
 mod:Mod K mg base
 bs:∀ b o,base.get? b=some o->s.heap.get? b=some o/\H b=none
 bsz:base.objs.size<=s.heap.objs.size
 funs:s.heap.FunFrames base outer
 frf:∀ b∈frs outer,H b=none
 hok:HOk P w H s.heap
 bare:AllBare s.gens
noncomputable def CE (outer:List Env) (P:Program) (w:World) (H:Hp) (s:Shared) (Q:VK) (u:Value) (s':Shared):Prop :=
 ∃ v H',s'.os=s.os/\AllBare s'.gens/\Un (frs outer) [] H H' s.heap s'.heap/\HOk P w H' s'.heap/\RelV v u/\Q v H'
noncomputable def CR (CX:CXT) (outer:List Env) (P:Program) (w:World) (H:Hp) (s:Shared) (Q:VK) (E:XK) (r:Result) (s':Shared):Prop :=
 match r with
 | .ok (.ret u)=>CE outer P w H s Q u s'
 | .ok _=>False
 | .error e=>CX outer H s E e s'
structure FnOk (P:Program) (w:World) (K:PySem.W.Frag) (mg:Str->Option Value) (base:Heap) (CX:CXT) (k:Nat) (f:Addr) (fd:FuncData) (ps:List Str) (sp:Sp):Prop where
 len:∀ vs H Q E,sp vs H Q E->vs.length=ps.length
 run:∀ (A:Around) (outer:List Env) (s:Shared) (H:Hp) (args:Args) (us:List Value) (vs:List V) (Q:VK) (E:XK),Room k A->Env0 P w K mg base A outer s H->BindsTo s fd args (ps.zip us)->Vals vs us->sp vs H Q E ->
  codeAny (model P w) A (.call (.ref f) args) (CR CX outer P w H s Q E) s
theorem FnOk.mono {P:Program} {w:World} {K:PySem.W.Frag} {mg:Str->Option Value} {base:Heap} {CX:CXT} {j k:Nat} {f:Addr} {fd:FuncData} {ps:List Str} {sp:Sp} (F:FnOk P w K mg base CX j f fd ps sp) (h:j<=k) :
  FnOk P w K mg base CX k f fd ps sp:=⟨F.len,fun A outer s H args us vs Q E hr=>F.run A outer s H args us vs Q E (hr.mono h)⟩
theorem FnOk.imp {P:Program} {w:World} {K:PySem.W.Frag} {mg:Str->Option Value} {base:Heap} {CX:CXT} {k:Nat} {f:Addr} {fd:FuncData} {ps:List Str} {sp sp':Sp} (F:FnOk P w K mg base CX k f fd ps sp)
  (h:∀ vs H Q E,sp' vs H Q E->sp vs H Q E):FnOk P w K mg base CX k f fd ps sp' :=
 ⟨fun vs H Q E q=>F.len vs H Q E (h _ _ _ _ q),fun A outer s H args us vs Q E hr he hb hv hs=>F.run A outer s H args us vs Q E hr he hb hv (h _ _ _ _ hs)⟩
theorem Env0.make {P:Program} {w:World} {K:PySem.W.Frag} {mg:Str->Option Value} {base:Heap} {A:Around} {outer:List Env} {s:Shared} {H:Hp} (e:Env0 P w K mg base A outer s H) (C:Addr) (us:List Value) (kw:List (Str×Value)) :
  Env0 P w K mg base (A.under (.builtin "type.__call__" ⟨.ref C::us,kw⟩)) outer s H:=⟨by first | exact e.frames | (simpa [Around.under,Code.envs,Code.isFrame,pushEnvs] using e.frames),e.mod,e.bs,e.bsz,e.funs,e.frf,e.hok,e.bare⟩
theorem Env0.in1 {P:Program} {w:World} {K:PySem.W.Frag} {mg:Str->Option Value} {base:Heap} {A:Around} {outer:List Env} {s:Shared} {H:Hp} (e:Env0 P w K mg base A outer s H) :
  Env0 P w K mg base A.in1 outer s H:=⟨e.frames,e.mod,e.bs,e.bsz,e.funs,e.frf,e.hok,e.bare⟩
section
variable {X:Cx} {pins:List (Addr×Obj)} {σ:St} {H:Hp} {s s':Shared}
theorem Inv.env0 (I:Inv X pins σ H s):Env0 X.prog X.w X.K X.mg X.base X.A X.stack s H :=
 ⟨I.ok.frames,I.ok.mod,I.bs,Nat.le_trans I.ok.bsz I.sz,I.stack,I.stkFree,I.hok,I.bare⟩
theorem Inv.after {Q:VK} {u:Value} (I:Inv X pins σ H s) (h:CE X.stack X.prog X.w H s Q u s'):EP X pins σ Q u s':=by
 obtain ⟨v,H',os,bare,un,hok,r,q⟩:=h
 obtain ⟨hh,g,d,t,os'⟩:=s'
 obtain rfl:os'=s.os:=os
 exact ⟨v,H',I.call (h':=hh) (g':=g) (d':=d) (t':=t) (ch:=[]) un hok bare (fun b z=>absurd z (by simp)),r,q⟩
end
noncomputable def tCall (sp:Sp) (dvs:List V) (E:XK) (t:TA):TE:=fun σ H Q=>t σ H fun vs H1=>sp (vs++dvs) H1 Q E
noncomputable def Binds (K:PySem.W.Frag) (fd:FuncData) (ps:List Str) (ds:List Value):Prop :=
 ∀ (s:Shared) (us:List Value),K.In s.heap->(us++ds).length=ps.length->BindsTo s fd ⟨us,[]⟩ (ps.zip (us++ds))
theorem Binds.all {K:PySem.W.Frag} {fd:FuncData} {ps:List Str} (h:∀ us:List Value,us.length=ps.length->bindArgs fd ⟨us,[]⟩=pure (ps.zip us)):Binds K fd ps []:=fun s us _ hl=>by
 rw [List.append_nil] at hl ⊢
 exact .of_eq (h us hl)
noncomputable def Passes (CX:CXT) (X:Cx) (E:XK):Prop:=∀ (pins:List (Addr×Obj)) (σ:St) (H:Hp) (s:Shared) (e:Value) (s':Shared),Inv X pins σ H s->CX X.stack H s E e s'->X.xe e s'
section
variable {X:Cx} {CX:CXT} {k:Nat} {f C:Addr} {fd:FuncData} {ps:List Str} {sp:Sp} {dvs:List V} {ds:List Value} {E:XK} {x m:Str} {p pos apos:Pos} {e o:Expr} {es:List Expr} {ta:TE} {t:TA}
theorem aGo {pins:List (Addr×Obj)} {σ:St} {H:Hp} {s:Shared} {Q:VK} {us:List Value} {vs:List V} (F:FnOk X.prog X.w X.K X.mg X.base CX k f fd ps sp) (hr:Room k X.A) (hb:Binds X.K fd ps ds) (hd:Vals dvs ds) (hx:Passes CX X E)
  (I:Inv X pins σ H s) (r:Vals vs us) (h:sp (vs++dvs) H Q E):wpAny (model X.prog X.w) X.A (call (.ref f) us) (EP X pins σ Q) X.xe s:=by
 have r2:Vals (vs++dvs) (us++ds):=r.append hd
 have hl:(us++ds).length=ps.length:=by rw [<- r2.length]; exact F.len _ _ _ _ h
 refine wpAny_call (codeAny_mono (F.run X.A X.stack s H ⟨us,[]⟩ (us++ds) (vs++dvs) Q E hr I.env0 (hb s us I.kIn hl) r2 h) fun r s' hq=>?_)
 cases r with
 | error e=>exact hx pins σ H s e s' I hq
 | ok fl =>
  cases fl with
  | ret u=>exact I.after hq
  | next=>exact False.elim hq
  | brk=>exact False.elim hq
  | cont=>exact False.elim hq
theorem pD (F:FnOk X.prog X.w X.K X.mg X.base CX k f fd ps sp) (hr:Room k X.A) (hg:Gl X x) (hm:X.mg x=some (.ref f)) (hk:PySem.W.keepIn X.K (.ref f)=true) (hb:Binds X.K fd ps ds) (hd:Vals dvs ds) (hx:Passes CX X E)
  (ha:PA X (e::es) t) (hdb:(x==("__debug__":Str))=false:=by decide) (he:starEach (e::es) X.env=(false,eval e X.env)::starEach es X.env:=by rfl) (hpl:(backTo pos (starEach es X.env)).any (·.1)=false:=by rfl) :
  PE X (.Call (.Name x p) (e::es) [] pos) (tCall sp dvs E t):=by
 intro pins s σ H Q I h
 refine wpAny_Call_Name_kw (mR I hg hm ?_ hdb)
 refine PySem.W.callWith_K (h₀:=X.base) I.ok.mod.kin hk (thn (ha pos pins s σ H _ I h) fun us s1 ⟨vs,H1,I1,r,q⟩=>⟨I1.kIn,?_⟩) he hpl
 exact aGo F hr hb hd hx I1 r q
structure Mk (K:PySem.W.Frag) (C f:Addr):Prop where
 makes:PySem.W.makesIn K C=true
 init:PySem.W.findIn K (.ref C) "__init__"=some (some (.ref f))
 fn:PySem.W.isFn K (.ref f)=true
 kp:PySem.W.keepIn K (.ref C)=true
end
section
variable {X:Cx} {CX:CXT} {k:Nat} {f C:Addr} {fd:FuncData} {ps ks:List Str} {sp:Sp} {E:XK} {x m:Str} {p pos apos kpos:Pos} {e o:Expr} {es:List Expr} {kws:List Keyword} {te ta:TE} {t tk:TA} {nm:Option Str}
structure KBinds (K:PySem.W.Frag) (fd:FuncData) (ps ks:List Str) (g:List Value->List Value->List Value) (gV:List V->List V->List V):Prop where
 to:∀ (s:Shared) (us ws:List Value),K.In s.heap->(g us ws).length=ps.length->BindsTo s fd ⟨us,ks.zip ws⟩ (ps.zip (g us ws))
 rel:∀ {vs:List V} {us:List Value} {zs:List V} {ws:List Value},Vals vs us->Vals zs ws->Vals (gV vs zs) (g us ws)
variable {g:List Value->List Value->List Value} {gV:List V->List V->List V}
end
structure FnScope (N P:List Str) (sc:Scope):Prop where
 kind:sc.kind=.function
 co:sc.isCoroutine=false
 gen:sc.isGenerator=false
 nd:N.Nodup
 pre:N.take P.length=P
 par:∀ x∈P,sc.names.lookup x=some .local\/sc.names.lookup x=some .cell
 nofree:∀ y∈sc.names,y.2≠.free
theorem rM {kindOf:Str->Option NameKind} {x:Str}:∀ {binds:List (Str×Value)} {m:Str->Option Value},(∀ v,(x,v)∉binds)->bindL kindOf binds m x=m x
 | [],_,_=>rfl
 | (n,v)::r,m,h=>by
  unfold bindL
  rw [rM fun w hw=>h w (List.mem_cons_of_mem _ hw)]
  split
  ·have:x≠n:=by rintro rfl; exact h v List.mem_cons_self
   simp [this]
  ·rfl
theorem sK {kindOf:Str->Option NameKind} {x:Str}:∀ {binds:List (Str×Value)} {m:Str->Option Value},(∀ v,(x,v)∉binds)->bindC kindOf binds m x=m x
 | [],_,_=>rfl
 | (n,v)::r,m,h=>by
  unfold bindC
  rw [sK fun w hw=>h w (List.mem_cons_of_mem _ hw)]
  split
  ·rfl
  ·have:x≠n:=by rintro rfl; exact h v List.mem_cons_self
   simp [this]
theorem sI {kindOf:Str->Option NameKind} {x:Str} {v:Value}:∀ {P:List Str} {vs:List Value} {i:Nat} {m:Str->Option Value},P.Nodup->P[i]?=some x->vs[i]?=some v->kindOf x=some .local ->
  bindL kindOf (P.zip vs) m x=some v
 | [],_,_,_,_,h,_,_=>by simp at h
 | _::_,[],_,_,_,_,h,_=>by simp at h
 | p::P,w::vs,0,m,nd,h1,h2,hk=>by
  simp at h1 h2; subst h1; subst h2
  show bindL kindOf ((p,w)::P.zip vs) m p=_
  unfold bindL
  rw [rM fun v hv=>(List.nodup_cons.mp nd).1 (List.of_mem_zip hv).1,if_pos hk]
  simp
 | p::P,w::vs,i+1,m,nd,h1,h2,hk=>by
  show bindL kindOf ((p,w)::P.zip vs) m x=_
  unfold bindL
  exact sI (i:=i) (List.nodup_cons.mp nd).2 (by simpa using h1) (by simpa using h2) hk
theorem rY {kindOf:Str->Option NameKind} {x:Str} {v:Value}:∀ {P:List Str} {vs:List Value} {i:Nat} {m:Str->Option Value},P.Nodup->P[i]?=some x->vs[i]?=some v->kindOf x≠some .local ->
  bindC kindOf (P.zip vs) m x=some v
 | [],_,_,_,_,h,_,_=>by simp at h
 | _::_,[],_,_,_,_,h,_=>by simp at h
 | p::P,w::vs,0,m,nd,h1,h2,hk=>by
  simp at h1 h2; subst h1; subst h2
  show bindC kindOf ((p,w)::P.zip vs) m p=_
  unfold bindC
  rw [sK fun v hv=>(List.nodup_cons.mp nd).1 (List.of_mem_zip hv).1,if_neg hk]
  simp
 | p::P,w::vs,i+1,m,nd,h1,h2,hk=>by
  show bindC kindOf ((p,w)::P.zip vs) m x=_
  unfold bindC
  exact rY (i:=i) (List.nodup_cons.mp nd).2 (by simpa using h1) (by simpa using h2) hk
noncomputable def start (N:List Str) (vs:List V):St:=vs.map some++List.replicate (N.length - vs.length) none
noncomputable def cxOf (CX:CXT) (P:Program) (w:World) (K:PySem.W.Frag) (mg:Str->Option Value) (base:Heap) (N:List Str) (qual:Str) (scope:Scope) (f:Addr) (cd:Value) (A:Around) (outer:List Env) (s:Shared) (H:Hp) (E:XK):Cx where
 prog:=P
 w:=w
 K:=K
 mg:=mg
 base:=base
 A:=A.deeper (envOfC qual scope s.heap.objs.size f cd)
 N:=N
 s₀:=s
 H₀:=H
 env:=envOfC qual scope s.heap.objs.size f cd
 outer:=outer
 stack:=envOfC qual scope s.heap.objs.size f cd::outer
 ex:=[]
 calm:=true
 fn:=fun _=>true
 pn:=[]
 xe:=fun e s'=>wpAny (model P w) (A.deeper (envOfC qual scope s.heap.objs.size f cd)) (leaving (envOfC qual scope s.heap.objs.size f cd) e) (fun _ s''=>CX outer H s E e s'') (fun e' s''=>CX outer H s E e' s'') s'
theorem vW {sc:Scope} {n:Nat} {x:Str} (h:sc.names.lookup x=some .cell):∃ c,(cellsFrom n sc.names []).lookup x=some c:=by
 have q:=PySem.W.cellsFrom_some sc.names n [] (.inl h)
 exact Option.isSome_iff_exists.mp q
theorem aAh {CX:CXT} {P:Program} {w:World} {K:PySem.W.Frag} {mg:Str->Option Value} {base:Heap} {N ps:List Str} {qual:Str} {scope:Scope} {f:Addr} {cd:Value} {A:Around} {outer:List Env} {s s1:Shared} {H:Hp} {E:XK} {us:List Value} {vs:List V}
  (S:FnScope N ps scope) (hd:A.handled=none) (e0:Env0 P w K mg base A outer s H) (hl:vs.length=ps.length) (r:Vals vs us)
  (x:InCallC s s.heap.objs.size (bindL (envOfC qual scope s.heap.objs.size f cd).kindOf (ps.zip us) fun _=>none) (cellsFrom (s.heap.objs.size+1) scope.names []) (bindC (envOfC qual scope s.heap.objs.size f cd).kindOf (ps.zip us) fun _=>none) s1) :
  Inv (cxOf CX P w K mg base N qual scope f cd A outer s H E) [] (start N vs) H s1:=by
 have hpl:ps.length<=N.length:=by have:=congrArg List.length S.pre; rw [List.length_take] at this; omega
 obtain ⟨h1,tk,rfl,hk⟩:=x.done
 have noA:∀ b:Addr,b∉(cxOf CX P w K mg base N qual scope f cd A outer s H E).ex:=fun b z=>absurd (show b∈([]:List Addr) from z) (by simp)
 refine ⟨⟨e0.mod,S.kind,rfl,rfl,Nat.le_refl _,fun y z c h1 h2=>?_,fun y hy=>?_,fun y c _ h=>?_,fun _=>hd,Around.frames_deeper e0.frames,.inr ⟨rfl,rfl⟩,fun b z=>absurd z (noA b),e0.bs,e0.bsz,fun b _ _=>noA b,fun b z=>absurd z (noA b),e0.funs,e0.frf⟩,
  rfl,e0.bare,Un.kept hk,⟨_,x.toInCall.ns,fun i y v h1 h2 h3=>?_⟩,fun y c h=>⟨_,x.cell y c h⟩,e0.hok.fresh (Nat.le_refl _),fun y c h=>?_,fun p hp=>absurd (show p∈([]:List (Addr×Obj)) from hp) (by simp),e0.hok.kept hk,?_⟩
 ·exact name_of_addr x.apart (PySem.mem_of_lookup h1) (PySem.mem_of_lookup h2)
 ·have hy:scope.names.lookup y=some .cell\/scope.names.lookup y=some .free:=hy
  rcases hy with hy | hy
  ·exact vW hy
  ·exact absurd rfl (S.nofree _ (PySem.mem_of_lookup hy))
 ·exact Nat.le_of_lt (x.above y c (PySem.mem_of_lookup h))
 ·have hi:i < vs.length:=by
   unfold start at h2
   by_cases hi:i < vs.length
   ·exact hi
   ·rw [List.getElem?_append_right (by simpa using hi)] at h2
    rw [List.getElem?_replicate] at h2
    split at h2 <;> cases h2
  have ha:vs[i]?=some v:=by
   unfold start at h2
   rw [List.getElem?_append_left (by simpa using hi),List.getElem?_map] at h2
   cases e:vs[i]? with
   | none=>rw [e] at h2; cases h2
   | some a=>rw [e] at h2; cases h2; rfl
  obtain ⟨u,hu,rv⟩:=r.get ha
  have hp:ps[i]?=some y:=by
   rw [<- S.pre,List.getElem?_take_of_lt (by omega)]; exact h1
  have ndP:ps.Nodup:=by rw [<- S.pre]; exact S.nd.sublist (List.take_sublist _ _)
  refine ⟨u,rv,?_⟩
  rcases S.par y (List.mem_of_getElem? hp) with k | k
  ·exact .inl ⟨k,sI ndP hp hu k⟩
  ·obtain ⟨c,e⟩:=vW (n:=s.heap.objs.size+1) k
   refine .inr ⟨.inl k,c,e,?_⟩
   have q:=x.cell y c e
   rw [rY ndP hp hu (by show scope.names.lookup y≠_; rw [k]; decide)] at q
   exact q
 ·exact e0.hok.fresh (Nat.le_of_lt (x.above y c (PySem.mem_of_lookup h)))
 ·unfold start
  show _=N.length
  rw [List.length_append,List.length_map,List.length_replicate]
  omega
theorem aBi {CX:CXT} {P:Program} {w:World} {K:PySem.W.Frag} {mg:Str->Option Value} {base:Heap} {k:Nat} {f:Addr} {name qual:Str} {params:Arguments} {body:List Stmt} {scope:Scope} {dV kV doc pm cdv ct oc:Value} {an od:Option Addr}
  {osl:Array (Option Value)} {N ps:List Str} {sp:Sp} (lk:K.lookup f=some ⟨oc,od,.func (PySem.W.fnOf name qual params body scope dV kV doc pm an cdv ct),osl⟩) (hcd:PySem.W.codeIn K cdv qual=true) (S:FnScope N ps scope)
  (len:∀ vs H Q E,sp vs H Q E->vs.length=ps.length)
  (hbody:∀ (A:Around) (outer:List Env) (s:Shared) (H:Hp) (vs:List V) (Q:VK) (E:XK),Room k (A.deeper (envOfC qual scope s.heap.objs.size f cdv))->sp vs H Q E ->
   ∃ t,PSs (cxOf CX P w K mg base N qual scope f cdv A outer s H E) body t/\t { nx:=fun _ H'=>Q .non H',rt:=Q } (start N vs) H) :
  FnOk P w K mg base CX (k+1) f (PySem.W.fnOf name qual params body scope dV kV doc pm an cdv ct) ps sp:=by
 refine ⟨len,fun A outer s H args us vs Q E hr e0 hb r hsp=>?_⟩
 have hl:=len _ _ _ _ hsp
 have KX:K.In s.heap:=e0.mod.kin.keeps fun b o e=>(e0.bs b o e).1
 have lim:s.heap.NoLimit:=e0.mod.nolimit.keeps fun b o e=>(e0.bs b o e).1
 have hkind:∀ y∈ps.zip us,scope.names.lookup y.1=some .local\/(scope.names.lookup y.1=some .cell/\((cellsFrom (s.heap.objs.size+1) scope.names []).lookup y.1).isSome=true):=fun ⟨n,v⟩ hy=>by
  rcases S.par n (List.of_mem_zip hy).1 with q | q
  ·exact .inl q
  ·exact .inr ⟨q,PySem.W.cellsFrom_some _ _ _ (.inl q)⟩
 refine codeAny_call_function hr.depth (KX _ _ lk) rfl S.co S.gen rfl (PySem.W.codeRec_of KX hcd) (hb _ _ _ _ ?_)
 refine wpAny_newFunctionEnv_cells S.kind hkind fun env he s1 x=>?_
 subst he
 refine ⟨lim.keeps x.toInCall.keep,codeAny_func ?_⟩
 obtain ⟨t,ht,hq⟩:=hbody A outer s H vs Q E (hr.deeper _) hsp
 have I:Inv (cxOf CX P w K mg base N qual scope f cdv A outer s H E) [] (start N vs) H s1:=aAh S hr.hd e0 hl r x
 refine wpAny_mono (ht [] s1 (start N vs) H _ I hq) (fun fl s' hs=>?_) fun e s' hs=>hs
 have fin:∀ {σ':St} {H':Hp} {v:V} {u:Value},Inv (cxOf CX P w K mg base N qual scope f cdv A outer s H E) [] σ' H' s'->RelV v u->Q v H'->CE outer P w H s Q u s' :=
  fun {σ' H' v u} J rv q=>⟨v,H',J.os,J.bare,J.base,J.hok,rv,q⟩
 cases fl with
 | ret u =>
  obtain ⟨v,σ',H',J,rv,q⟩:=hs
  exact fin J rv q
 | next =>
  obtain ⟨σ',H',J,q⟩:=hs
  exact fin (v:=V.non) (u:=Value.none) J rfl q
 | brk =>
  obtain ⟨_,_,_,q⟩:=hs
  exact False.elim q
 | cont =>
  obtain ⟨_,_,_,q⟩:=hs
  exact False.elim q
end L2
namespace L2
open PySem PySem.Spec PyProof.Rows
section
variable {X:Cx} {x:Str} {p pos:Pos} {e:Expr} {es:List Expr} {t:TA} {id T:String} {r:List V->Hp->VK->Prop}
noncomputable def tCB (r:List V->Hp->VK->Prop) (t:TA):TE:=fun σ H Q=>t σ H fun vs H1=>r vs H1 Q
theorem aBm (hc:CallR X (.builtin id) r) (hg:Gl X x) (hm:X.mg x=none) (hv:bootBuiltins x=some (.builtin id)) (ha:PA X (e::es) t) (hn:x≠"__name__":=by decide) (hdb:(x==("__debug__":Str))=false:=by decide)
  (he:starEach (e::es) X.env=(false,eval e X.env)::starEach es X.env:=by rfl) (hpl:(backTo pos (starEach es X.env)).any (·.1)=false:=by rfl):PE X (.Call (.Name x p) (e::es) [] pos) (tCB r t):=by
 intro pins s σ H Q I h
 refine wpAny_Call_Name_kw (nM I hg hm hv ?_ hn hdb)
 exact PyProof.Rows.callWith_builtin1 (thn (ha pos pins s σ H _ I h) fun us s1 ⟨vs,H1,I1,r1,q1⟩=>hc pins s1 σ H1 vs us Q I1 r1 q1) he hpl
theorem oA (hc:CallR X (.type T) r) (hg:Gl X x) (hm:X.mg x=none) (hv:bootBuiltins x=some (.type T)) (ha:PA X (e::es) t) (hn:x≠"__name__":=by decide) (hdb:(x==("__debug__":Str))=false:=by decide)
  (he:starEach (e::es) X.env=(false,eval e X.env)::starEach es X.env:=by rfl) (hpl:(backTo pos (starEach es X.env)).any (·.1)=false:=by rfl):PE X (.Call (.Name x p) (e::es) [] pos) (tCB r t):=by
 intro pins s σ H Q I h
 refine wpAny_Call_Name_kw (nM I hg hm hv ?_ hn hdb)
 exact PyProof.Rows.callWith_type1 (thn (ha pos pins s σ H _ I h) fun us s1 ⟨vs,H1,I1,r1,q1⟩=>hc pins s1 σ H1 vs us Q I1 r1 q1) he hpl
end
end L2
namespace HT
open PySem PyProof.Rows
noncomputable def lexLt:List Int->List Int->Bool
 | [],[]=>false
 | [],_::_=>true
 | _::_,[]=>false
 | x::xs,y::ys=>if x=y then lexLt xs ys else decide (x < y)
theorem aIg (x y:Int) (xs ys:List Int):lexLt (x::xs) (y::ys)=if x=y then lexLt xs ys else decide (x < y):=rfl
theorem aDs:lexLt [] []=false:=rfl
theorem aCb (y:Int) (ys:List Int):lexLt [] (y::ys)=true:=rfl
theorem aDd (x:Int) (xs:List Int):lexLt (x::xs) []=false:=rfl
section
open PySem.SeqAt
open PySem.AutoSeq1 (wpAny_loadPart')
open PySem.MeetsSeq PySem.MeetsSeq2 PySem.MeetsSeq3
end
section
variable {prog:Program} {w:World} {A:Around} {E:Value->Shared->Prop} {s:Shared}
theorem cat_tup {t b:Addr} {vs ws:List Value} {Q:Value->Shared->Prop} (ht:IsTup s.heap t vs.toArray) (hb:IsTup s.heap b ws.toArray) (hv:vs≠[])
  (h1:ws=[]->Q (.ref t) s) (h2:ws≠[]->Q (.ref s.heap.objs.size) { s with heap:=s.heap.push { cls:=.type "tuple",data:=.seq (vs++ws).toArray } })
  (hsz:vs.length+ws.length<=sizeLine):wpAny (model prog w) A (binaryOp .Add (.ref t) (.ref b)) Q E s:=by
 obtain ⟨⟨cls,dd,data,sl⟩,ho,hc,n,hd⟩:=id ht
 obtain ⟨⟨cls2,dd2,data2,sl2⟩,ho2,hc2,n2,hd2⟩:=id hb
 simp only at hc hd hc2 hd2
 subst hc hd hc2 hd2
 have e:vs.toArray++ws.toArray=(vs++ws).toArray:=by simp
 by_cases hw:ws=[]
 ·exact concat_meets ⟨_,ho,rfl⟩ ⟨_,ho2,rfl⟩ noFill_tuple_add seq_tuple_add PySem.F.slot_tuple_add PySem.F.entry_tuple_add (PySem.F.args_tuple_add_2 _ _)
   (tuple_addW1 t b vs.toArray ws.toArray n n2 dd dd2 sl sl2 (by simpa using hv) (by simp [hw])) ⟨ho,ho2,h1 hw⟩
 ·refine concat_meets ⟨_,ho,rfl⟩ ⟨_,ho2,rfl⟩ noFill_tuple_add seq_tuple_add PySem.F.slot_tuple_add PySem.F.entry_tuple_add (PySem.F.args_tuple_add_2 _ _)
   (tuple_addW2 t b vs.toArray ws.toArray n n2 dd dd2 sl sl2 (by simpa using hv) (by simpa using hw) (by rw [List.size_toArray,List.size_toArray]; exact hsz)) ⟨ho,ho2,?_⟩
  rw [e]
  exact h2 hw
noncomputable def sIx (n d:Nat):Option Int->Nat
 | none=>d
 | some v=>if v < 0 then (v+(n:Int)).toNat else min v.toNat n
theorem aKl (n d:Nat):sIx n d none=d:=rfl
theorem sIx_nat (n d k:Nat):sIx n d (some (k:Int))=min k n:=by
 show (if (k:Int) < 0 then ((k:Int)+(n:Int)).toNat else min (k:Int).toNat n)=min k n
 rw [if_neg (by omega),Int.toNat_natCast]
theorem aHf (n d:Nat) (hd:d<=n) (o:Option Int):sIx n d o<=n:=by
 cases o with
 | none=>exact hd
 | some v =>
  show (if v < 0 then (v+(n:Int)).toNat else min v.toNat n)<=n
  by_cases hv:v < 0
  ·rw [if_pos hv]; omega
  ·rw [if_neg hv]; exact Nat.min_le_right _ _
theorem yF (v:Int) (n d:Nat):(if v < 0 then max (v+(n:Int)) 0 else min v (n:Int))=((sIx n d (some v):Nat):Int):=by
 show (if v < 0 then max (v+(n:Int)) 0 else min v (n:Int))=(((if v < 0 then (v+(n:Int)).toNat else min v.toNat n):Nat):Int)
 by_cases hv:v < 0
 ·simp only [if_pos hv]; omega
 ·simp only [if_neg hv]; omega
theorem xR (lo hi:Option Int) (n:Nat):Builtin.Slice.sliceAdjust lo hi 1 (n:Int)=(((sIx n 0 lo:Nat):Int),((sIx n n hi:Nat):Int)):=by
 have h1:¬ ((1:Int) < 0):=by omega
 unfold Builtin.Slice.sliceAdjust
 simp only [h1,if_false]
 refine Prod.ext ?_ ?_
 ·cases lo with
  | none=>rfl
  | some v=>exact yF v n 0
 ·cases hi with
  | none=>rfl
  | some v=>exact yF v n n
theorem wO (i j:Nat):Builtin.Slice.slicePlaces (i:Int) (j:Int) 1=j - i:=by
 unfold Builtin.Slice.slicePlaces
 have h1:(1:Int) > 0:=by omega
 simp only [h1,if_true,Int.ediv_one]
 split <;> omega
theorem qH {v:Value} {o:Option Int} {Q:Option Int->Shared->Prop} (p:IsPart v o) (h:Q o s):wpAny (model prog w) A (Builtin.Slice.slicePartIndex v) Q E s:=by
 cases p with
 | none=>exact slicePart_none h
 | int i t=>exact slicePart_int h
theorem jD {sl:Addr} {vl vu:Value} {lo hi:Option Int} {n:Nat} {Q:Int×Int×Nat->Shared->Prop} (hs:s.heap.IsSliceOf sl vl vu .none) (pl:IsPart vl lo) (pu:IsPart vu hi)
  (h:Q (((sIx n 0 lo:Nat):Int),1,sIx n n hi - sIx n 0 lo) s):wpAny (model prog w) A (Builtin.Slice.sliceApplied (.ref sl) (pure (n:Int))) Q E s:=by
 obtain ⟨os,hos,hcs,hds⟩:=id hs
 unfold Builtin.Slice.sliceApplied Builtin.Slice.sliceFields
 refine wpAny_bind (wpAny_bind (wpAny_field hos hds (x:=vl) rfl (wpAny_bind (wpAny_field hos hds (x:=vu) rfl (wpAny_bind (wpAny_field hos hds (x:=.none) rfl (wpAny_pure ?_)))))))
 refine wpAny_bind (slicePart_none ?_)
 show wpAny _ _ (if ((1:Int)==0)=true then _ else _) _ _ s
 rw [if_neg (by decide)]
 refine wpAny_bind (qH pl (wpAny_bind (qH pu (wpAny_bind (wpAny_pure ?_)))))
 show wpAny _ _ (match Builtin.Slice.sliceAdjust lo hi 1 (n:Int) with | (lo,hi)=>pure (lo,(1:Int),Builtin.Slice.slicePlaces lo hi 1)) _ _ s
 rw [xR lo hi n]
 show wpAny _ _ (pure (((sIx n 0 lo:Nat):Int),(1:Int),Builtin.Slice.slicePlaces ((sIx n 0 lo:Nat):Int) ((sIx n n hi:Nat):Int) 1)) _ _ s
 rw [wO]
 exact wpAny_pure h
theorem aCs (xs:Array Value) (i k:Nat):((List.range k).filterMap fun (m:Nat)=>xs[((i:Int)+(m:Int)*1).toNat]?).toArray=((xs.toList.drop i).take k).toArray:=by
 have e:(fun (m:Nat)=>xs[((i:Int)+(m:Int)*1).toNat]?)=fun m=>xs[i+m]?:=by
  funext m
  have:((i:Int)+(m:Int)*1).toNat=i+m:=by omega
  rw [this]
 rw [e]
 have:=pick_run xs i k
 rw [List.filterMap_map] at this
 have e2:((fun x=>xs[x]?) ∘ fun x=>i+x)=fun m=>xs[i+m]?:=rfl
 rw [e2] at this
 rw [this]
theorem getItem_tuple_cut {t sl:Addr} {items:Array Value} {vl vu:Value} {lo hi:Option Int} {Q:Value->Shared->Prop} (ht:IsTup s.heap t items) (hs:s.heap.IsSliceOf sl vl vu .none) (pl:IsPart vl lo) (pu:IsPart vu hi)
  (hw:¬ (sIx items.size 0 lo=0/\sIx items.size items.size hi=items.size))
  (h:Q (.ref s.heap.objs.size) { s with heap:=s.heap.push { cls:=.type "tuple",data:=.seq ((items.toList.drop (sIx items.size 0 lo)).take (sIx items.size items.size hi - sIx items.size 0 lo)).toArray } })
  (hsz:items.size<=sizeLine):wpAny (model prog w) A (getItem (.ref t) (.ref sl)) Q E s:=by
 have htake:sizeOk (.seq ((items.toList.drop (sIx items.size 0 lo)).take (sIx items.size items.size hi - sIx items.size 0 lo)).toArray):=by
  show ((items.toList.drop (sIx items.size 0 lo)).take (sIx items.size items.size hi - sIx items.size 0 lo)).toArray.size<=sizeLine
  rw [List.size_toArray,List.length_take,List.length_drop,Array.length_toList]
  omega
 have hj:sIx items.size items.size hi<=items.size:=aHf _ _ (Nat.le_refl _) hi
 obtain ⟨os,hos,hcs,hds⟩:=id hs
 have hTs:s.TypeIs (.ref sl) "slice":=⟨os,hos,hcs⟩
 unfold getItem
 try with_reducible refine wpAny_holding ?_
 first | refine wpAny_bind (wpAny_pure ?_) | skip
 refine wpAny_bind (wpAny_sequenceKey ht.typeIs (by decide) ?_)
 refine wpAny_bind (wpAny_callSpecial?_slot (name:=Str.ofString "__getitem__") ht.typeIs PyProof.Rows.slot_tuple_getitem
  (wpAny_call_entry PyProof.Rows.slot_tuple_getitem ht.typeIs entry_tuple_getitem ?_ (args_tuple_getitem _ _)))
 show wpAny _ _ (Builtin.Tuple.tupleItemsOf (.ref t) >>= _) _ _ s
 refine wpAny_bind (tupleItemsOf_ ht ?_)
 refine wpAny_bind (wpAny_typeOf hTs ?_)
 rw [if_pos (by decide)]
 refine wpAny_bind (jD hs pl pu ?_)
 have hno:¬ ((((sIx items.size 0 lo:Nat):Int)==0&&(1:Int)==1&&(sIx items.size items.size hi - sIx items.size 0 lo)==items.size)=true):=by
  intro q
  rw [Bool.and_eq_true,Bool.and_eq_true] at q
  have q1:((sIx items.size 0 lo:Nat):Int)=0:=eq_of_beq q.1.1
  have q2:sIx items.size items.size hi - sIx items.size 0 lo=items.size:=eq_of_beq q.2
  exact hw ⟨by omega,by omega⟩
 show wpAny _ _ (if (((sIx items.size 0 lo:Nat):Int)==0&&(1:Int)==1&&(sIx items.size items.size hi - sIx items.size 0 lo)==items.size)=true then _ else _) _ _ s
 rw [if_neg hno,aCs]
 first
  | exact wpAny_bind (m:=Builtin.Tuple.tupleExact _) (wpAny_newObj_type (wpAny_pure ⟨_,rfl,wpAny_pure h⟩) htake)
  | exact wpAny_bind (m:=Builtin.Tuple.tupleExact _) (wpAny_newObj_type (wpAny_bind (wpAny_pure (wpAny_pure ⟨_,rfl,wpAny_pure h⟩))) htake)
  | exact wpAny_bind (wpAny_bind (m:=Builtin.Tuple.tupleExact _) (wpAny_newObj_type (wpAny_pure (wpAny_pure ⟨_,rfl,wpAny_pure h⟩)) htake))
  | exact wpAny_bind (wpAny_bind (m:=Builtin.Tuple.tupleExact _) (wpAny_newObj_type (wpAny_pure ⟨_,rfl,wpAny_pure h⟩) htake))
end
end HT
namespace L2
open PySem PySem.Spec PyProof.Rows
noncomputable abbrev TO:=St->Hp->(Option Int->Hp->Prop)->Prop
noncomputable def PO (X:Cx) (e:Option Expr) (t:TO):Prop :=
 ∀ (pins:List (Addr×Obj)) (s:Shared) (σ:St) (H:Hp) (Q:Option Int->Hp->Prop),Inv X pins σ H s->t σ H Q ->
  wpAny (model X.prog X.w) X.A (evalPart e X.env) (fun u s'=>∃ o H',Inv X pins σ H' s'/\IsPart u o/\Q o H') X.xe s
noncomputable def tNoPart:TO:=fun _ H Q=>Q none H
noncomputable def tPart (t:TE):TO:=fun σ H Q=>t σ H fun x H1=>∃ i,x=.int i/\Q (some i) H1
theorem jV {ns:List Int}:∀ {us:List Value},Vals (ns.map V.int) us->IntsAre us ns:=by
 induction ns with
 | nil=>intro us r; rw [List.map_nil] at r; cases r; exact .nil
 | cons n ns ih =>
  intro us r
  rw [List.map_cons] at r
  cases r with
  | cons r1 r2 =>
   obtain ⟨t,e⟩:=r1
   subst e
   exact .cons n t (ih r2)
section
variable {X:Cx} {e:Expr} {te:TE} {lo hi:Option Expr} {tl th:TO} {pos p2:Pos}
theorem aFk:PO X none tNoPart:=by
 intro pins s σ H Q I h
 rw [evalPart_none]
 exact wpAny_pure ⟨none,H,I,.none,h⟩
theorem aFc (h:PE X e te):PO X (some e) (tPart te):=by
 intro pins s σ H Q I hw
 rw [evalPart_some]
 refine thn (h pins s σ H _ I hw) fun u s1 ⟨x,H1,I1,r1,q1⟩=>?_
 obtain ⟨i,rfl,q⟩:=q1
 obtain ⟨t,rfl⟩:=r1
 exact ⟨some i,H1,I1,.int i t,q⟩
noncomputable def SlR (X:Cx) (r:V->Option Int->Option Int->Hp->VK->Prop):Prop :=
 ∀ (pins:List (Addr×Obj)) (s:Shared) (σ:St) (H:Hp) (x:V) (v vl vu:Value) (lo hi:Option Int) (sl:Addr) (Q:VK),Inv X pins σ H s->RelV x v->s.heap.IsSliceOf sl vl vu .none->IsPart vl lo->IsPart vu hi->r x lo hi H Q ->
  ∃ T id,typeLookup (.type T) "__getitem__"=pure (some (.builtin id))/\s.TypeIs v T/\wpAny (model X.prog X.w) X.A (getItem v (.ref sl)) (EP X pins σ Q) X.xe s
theorem SlR.or {r r':V->Option Int->Option Int->Hp->VK->Prop} (h:SlR X r) (h':SlR X r'):SlR X (fun x lo hi H Q=>r x lo hi H Q\/r' x lo hi H Q):=by
 intro pins s σ H x v vl vu lo hi sl Q I rx hs pl pu q
 rcases q with q | q
 ·exact h pins s σ H x v vl vu lo hi sl Q I rx hs pl pu q
 ·exact h' pins s σ H x v vl vu lo hi sl Q I rx hs pl pu q
noncomputable def tSl (r:V->Option Int->Option Int->Hp->VK->Prop) (te:TE) (tl th:TO):TE:=fun σ H Q=>te σ H fun x H1=>tl σ H1 fun l H2=>th σ H2 fun u H3=>r x l u H3 Q
theorem aCj {r:V->Option Int->Option Int->Hp->VK->Prop} (hr:SlR X r) (he:PE X e te) (hl:PO X lo tl) (hu:PO X hi th):PE X (.Subscript e (.Slice lo hi none p2) pos) (tSl r te tl th):=by
 intro pins s σ H Q I h
 refine Subscript_ (thn (he pins s σ H _ I h) fun v s1 ⟨x,H1,I1,r1,q1⟩=>?_)
 refine wpAny_Slice (thn (hl pins s1 σ H1 _ I1 q1) fun vl s2 ⟨l,H2,I2,pl,q2⟩=>thn (hu pins s2 σ H2 _ I2 q2) fun vu s3 ⟨u,H3,I3,pu,q3⟩=>?_)
 rw [evalPart_none]
 refine wpAny_pure ?_
 have I4:Inv X pins σ H3 { s3 with heap:=s3.heap.push { cls:=.type "slice",data:=.fields #[vl,vu,.none] } }:=I3.kept (t':=s3.toks) fun b ob q=>Heap.get?_push_of_some _ q
 obtain ⟨T,id,hT,ht,hg⟩:=hr pins { s3 with heap:=s3.heap.push { cls:=.type "slice",data:=.fields #[vl,vu,.none] } } σ H3 x v vl vu l u s3.heap.objs.size Q I4 r1 (Heap.IsSliceOf.new ..) pl pu q3
 show wpAny (model X.prog X.w) X.A (subscriptTail e (.Slice lo hi none p2) v (.ref s3.heap.objs.size)) (EP X pins σ Q) X.xe { s3 with heap:=s3.heap.push { cls:=.type "slice",data:=.fields #[vl,vu,.none] } }
 exact tail_any (ops:=[.ref s3.heap.objs.size,v]) ht hT hg (by with_unfolding_all rfl)
noncomputable def cutV (xs:List V) (lo hi:Option Int):List V:=(xs.drop (HT.sIx xs.length 0 lo)).take (HT.sIx xs.length xs.length hi - HT.sIx xs.length 0 lo)
theorem oM (xs:List V) (lo hi:Option Int):(cutV xs lo hi).length<=xs.length:=by
 unfold cutV
 rw [List.length_take,List.length_drop]
 omega
noncomputable def rSlT (K:PySem.W.Frag):V->Option Int->Option Int->Hp->VK->Prop:=fun x lo hi H Q=>∃ a xs,x=.ref a/\SqT K H a xs /\
 ¬ (HT.sIx xs.length 0 lo=0/\HT.sIx xs.length xs.length hi=xs.length)/\∀ p,H p=none->Q (.ref p) (upd H p (.tup (cutV xs lo hi)))
theorem aHv:SlR X (rSlT X.K):=by
 intro pins s σ H x v vl vu lo hi sl Q I rx hs pl pu h
 obtain ⟨a,xs,rfl,hx,hw,q⟩:=h
 cases rx
 obtain ⟨its,r,ht,hz⟩:=I.tuple hx
 have hlen:its.toArray.size=xs.length:=by rw [List.size_toArray]; exact r.length.symm
 refine ⟨"tuple",_,PyProof.Rows.slot_tuple_getitem.lookup,ht.typeIs,?_⟩
 refine HT.getItem_tuple_cut ht hs pl pu (by rw [hlen]; exact hw) ?_ (by rw [hlen]; exact hz)
 rw [hlen]
 refine ⟨.ref s.heap.objs.size,_,I.laid (t':=s.toks) (o:=.tup (cutV xs lo hi)) (fun b ob q=>Heap.get?_push_of_some _ q) (Nat.le_refl _) ?_,rfl,q _ (I.hok.fresh (Nat.le_refl _))⟩
 exact ⟨Nat.le_trans (oM xs lo hi) hz,_,(r.drop (HT.sIx xs.length 0 lo)).take (HT.sIx xs.length xs.length hi - HT.sIx xs.length 0 lo),IsTup.new _ _⟩
noncomputable def rCatT (K:PySem.W.Frag):R2:=fun x y H Q=>∃ a b xs ys,x=.ref a/\y=.ref b/\SqT K H a xs/\SqT K H b ys/\xs≠[]/\xs.length+ys.length<=sizeLine /\
 (ys=[]->Q (.ref a) H)/\(ys≠[]->∀ p,H p=none->Q (.ref p) (upd H p (.tup (xs++ys))))
theorem Vals.nil_iff {xs:List V} {us:List Value} (r:Vals xs us):us=[] ↔ xs=[]:=by
 cases r with
 | nil=>simp
 | cons _ _=>simp
theorem aEl:OpR X (binaryOp .Add) (rCatT X.K):=by
 intro pins s σ H x y v u Q I rx ry h
 obtain ⟨a,b,xs,ys,rfl,rfl,ha,hb,hx,hz,q1,q2⟩:=h
 cases rx
 cases ry
 obtain ⟨its,r1,p1,_⟩:=I.tuple ha
 obtain ⟨its2,r2,p2,_⟩:=I.tuple hb
 refine HT.cat_tup p1 p2 (fun z=>hx (r1.nil_iff.mp z)) (fun z=>⟨.ref a,H,I,rfl,q1 (r2.nil_iff.mp z)⟩) (fun z=>?_) (by rw [<- r1.length,<- r2.length]; exact hz)
 refine ⟨.ref s.heap.objs.size,_,I.laid (t':=s.toks) (o:=.tup (xs++ys)) (fun b ob q=>Heap.get?_push_of_some _ q) (Nat.le_refl _) ?_,rfl,q2 (fun w=>z (r2.nil_iff.mpr w)) _ (I.hok.fresh (Nat.le_refl _))⟩
 exact ⟨by rw [List.length_append]; exact hz,_,r1.append r2,IsTup.new _ _⟩
end
end L2
namespace L2
open PySem PySem.Spec PyProof.Rows
noncomputable def ixN (n:Nat) (i:Int):Option Nat:=if 0<=i then (if i < n then some i.toNat else none) else if -(n:Int)<=i then some (i+n).toNat else none
noncomputable def atI {α:Type} (xs:List α) (i:Int):Option α:=(ixN xs.length i).bind fun j=>xs[j]?
theorem yW {n:Nat} {i:Int} {j:Nat} (h:ixN n i=some j):seqIndex? i n=some j/\j < n /\ -(n:Int)<=i/\i < n:=by
 unfold ixN at h
 by_cases h0:0<=i
 ·rw [if_pos h0] at h
  by_cases h1:i < n
  ·rw [if_pos h1] at h
   have e:i.toNat=j:=Option.some.inj h
   exact ⟨by rw [seqIndex_of h0 h1,e],by omega,by omega,h1⟩
  ·rw [if_neg h1] at h; cases h
 ·rw [if_neg h0] at h
  by_cases h1 : -(n:Int)<=i
  ·rw [if_pos h1] at h
   have e:(i+n).toNat=j:=Option.some.inj h
   exact ⟨by rw [seqIndex_neg (by omega) h1,e],by omega,h1,by omega⟩
  ·rw [if_neg h1] at h; cases h
theorem sP {α:Type} {xs:List α} {i:Int} {v:α} (h:atI xs i=some v):∃ j,seqIndex? i xs.length=some j/\xs[j]?=some v/\j < xs.length /\ -(xs.length:Int)<=i/\i < xs.length:=by
 unfold atI at h
 cases e:ixN xs.length i with
 | none=>rw [e] at h; cases h
 | some j =>
  rw [e] at h
  obtain ⟨h1,h2,h3,h4⟩:=yW e
  exact ⟨j,h1,h,h2,h3,h4⟩
noncomputable def PlainIx (b:Expr):Prop:=∀ o i,subscripted b false o i=operate [o,i] (getItem o i)
noncomputable def IxR (X:Cx) (r:R2):Prop :=
 ∀ (value slice:Expr) (pins:List (Addr×Obj)) (s:Shared) (σ:St) (H:Hp) (x y:V) (v u:Value) (Q:VK),Inv X pins σ H s->RelV x v->RelV y u->r x y H Q ->
  subscripted slice false v u=operate [v,u] (getItem v u)->wpAny (model X.prog X.w) X.A (subscriptTail value slice v u) (EP X pins σ Q) X.xe s
noncomputable def MtR (X:Cx) (id:String) (r:V->List V->Hp->VK->Prop):Prop :=
 ∀ (pins:List (Addr×Obj)) (s:Shared) (σ:St) (H:Hp) (x:V) (xs:List V) (v:Value) (us:List Value) (Q:VK),Inv X pins σ H s->RelV x v->Vals xs us->r x xs H Q ->
  wpAny (model X.prog X.w) X.A (call (.builtin id) (v::us)) (EP X pins σ Q) X.xe s
section
variable {X:Cx} {a b:Expr} {ta tb:TE} {pos:Pos}
theorem IxR.or {r r':R2} (h:IxR X r) (h':IxR X r'):IxR X (fun x y H Q=>r x y H Q\/r' x y H Q):=by
 intro value slice pins s σ H x y v u Q I rx ry q hs
 rcases q with q | q
 ·exact h value slice pins s σ H x y v u Q I rx ry q hs
 ·exact h' value slice pins s σ H x y v u Q I rx ry q hs
theorem MtR.or {id:String} {r r':V->List V->Hp->VK->Prop} (h:MtR X id r) (h':MtR X id r'):MtR X id (fun x xs H Q=>r x xs H Q\/r' x xs H Q):=by
 intro pins s σ H x xs v us Q I rx rs q
 rcases q with q | q
 ·exact h pins s σ H x xs v us Q I rx rs q
 ·exact h' pins s σ H x xs v us Q I rx rs q
theorem aKx {r:R2} (hr:IxR X r) (ha:PE X a ta) (hb:PE X b tb) (hs:PlainIx b):PE X (.Subscript a b pos) (tOp r ta tb):=by
 intro pins s σ H Q I h
 exact Subscript_ (binT ha hb I h fun v u s2 x y H2 I2 rx ry q=>hr a b pins s2 σ H2 x y v u Q I2 rx ry q (hs _ _))
noncomputable def rIxL (K:PySem.W.Frag):R2:=fun x y H Q=>∃ p xs i v,x=.ref p/\y=.int i/\SqL K H p xs/\atI xs i=some v/\Q v H
noncomputable def rIxT (K:PySem.W.Frag):R2:=fun x y H Q=>∃ p xs i v,x=.ref p/\y=.int i/\SqT K H p xs/\atI xs i=some v/\Q v H
noncomputable def rIxS:R2:=fun x y H Q=>∃ z i c,x=.str z/\y=.int i/\z.length<=sizeLine/\atI z.cps.toList i=some c/\Q (.str ⟨#[c]⟩) H
theorem aDz:IxR X (rIxL X.K):=by
 intro value slice pins s σ H x y v u Q I rx ry h hs
 obtain ⟨p,xs,i,z,rfl,rfl,hq,he,q⟩:=h
 cases rx
 obtain ⟨t,rfl⟩:=ry
 obtain ⟨its,r,pl,hz⟩:=I.list hq
 obtain ⟨j,h1,h2,h3,h4,h5⟩:=sP he
 obtain ⟨w,ew,rw'⟩:=r.get h2
 have hl:=r.length
 have hn:=line63
 have fin:EP X pins σ Q w s:=⟨z,H,I,rw',q⟩
 by_cases h0:0<=i
 ·have hj:i.toNat=j:=by
   rw [seqIndex_of h0 h5] at h1
   exact Option.some.inj h1
  exact item_listR pl.isList h0 (by omega) (by rw [hj]; simpa using ew) fin hs
 ·have hj:(i+(its.toArray.size:Int)).toNat=j:=by
   rw [seqIndex_neg (by omega) h4] at h1
   rw [List.size_toArray,<- hl]
   exact Option.some.inj h1
  exact subscriptTail_builtinR (x:=w) pl.isList.typeIs slot_list_getitem.lookup
   (wpAny_getItem_list_neg (Q:=fun r s'=>r=w/\EP X pins σ Q r s') pl.isList (by omega) (by rw [List.size_toArray] <;> omega) (by omega) (by rw [hj]; simpa using ew) ⟨rfl,fin⟩) hs
theorem aHi:IxR X (rIxT X.K):=by
 intro value slice pins s σ H x y v u Q I rx ry h hs
 obtain ⟨p,xs,i,z,rfl,rfl,hq,he,q⟩:=h
 cases rx
 obtain ⟨t,rfl⟩:=ry
 obtain ⟨its,r,pl,hz⟩:=I.tuple hq
 obtain ⟨j,h1,h2,h3,h4,h5⟩:=sP he
 obtain ⟨w,ew,rw'⟩:=r.get h2
 have hl:=r.length
 have hn:=line63
 have fin:EP X pins σ Q w s:=⟨z,H,I,rw',q⟩
 exact subscriptTail_builtinR (x:=w) pl.typeIs slot_tuple_getitem.lookup
  (getItem_tuple (j:=j) (Q:=fun r s'=>r=w/\EP X pins σ Q r s') pl (by omega) (by omega) (by rw [List.size_toArray,<- hl]; exact h1) (by simpa using ew) ⟨rfl,fin⟩) hs
theorem aHr:IxR X rIxS:=by
 intro value slice pins s σ H x y v u Q I rx ry h hs
 obtain ⟨z,i,c,rfl,rfl,hz,he,q⟩:=h
 obtain ⟨t,rfl⟩:=rx
 obtain ⟨t',rfl⟩:=ry
 obtain ⟨j,h1,h2,h3,h4,h5⟩:=sP he
 have hl:z.cps.toList.length=z.length:=by simp [Str.length]
 rw [hl] at h1 h4 h5
 have hn:=line63
 exact tail_any (typeIs_str s z t) slot_str_getitem.lookup (getItem_str (c:=c) (by
  have e1:decide (i < -(2 ^ 63:Int))=false:=decide_eq_false (by omega)
  have e2:decide (i>=2 ^ 63)=false:=decide_eq_false (by omega)
  rw [e1,e2,Bool.or_false]) (by rw [h1]; simpa using h2) ⟨.str ⟨#[c]⟩,H,I.tok _,⟨_,rfl⟩,q⟩) hs
noncomputable def rIx (K:PySem.W.Frag):R2:=fun x y H Q=>rIxL K x y H Q\/rIxT K x y H Q\/rIxS x y H Q
theorem aJq:IxR X (rIx X.K):=aDz.or (aHi.or aHr)
theorem xN (its:List Value) (n j:Nat) (u:Value):Obj.mapSeq (·.setIfInBounds j u) { cls:=.type "list",data:=.seq its.toArray n }={ cls:=.type "list",data:=.seq (its.set j u).toArray n }:=by
 simp [Obj.mapSeq]
theorem Inv.lst {pins:List (Addr×Obj)} {σ:St} {H:Hp} {s:Shared} {p:Addr} {xs:List V} (I:Inv X pins σ H s) (h:H p=some (.lst xs)) :
  ∃ (its:List Value) (n:Nat),Vals xs its/\s.heap.get? p=some { cls:=.type "list",data:=.seq its.toArray n }/\xs.length<=sizeLine:=by
 obtain ⟨z,its,n,r,e⟩:=I.hok p _ h
 exact ⟨its,n,r,e,z⟩
theorem Inv.lstUpd {pins:List (Addr×Obj)} {σ:St} {H:Hp} {s:Shared} {p:Addr} {xs ys:List V} {its its':List Value} {n n':Nat} {f:Obj->Obj} (I:Inv X pins σ H s) (h:H p=some (.lst xs))
  (ho:s.heap.get? p=some { cls:=.type "list",data:=.seq its.toArray n }) (hf:f { cls:=.type "list",data:=.seq its.toArray n }={ cls:=.type "list",data:=.seq its'.toArray n' }) (r:Vals ys its') (hz:ys.length<=sizeLine) (t:Nat) :
  Inv X pins σ (upd H p (.lst ys)) { s with heap:=s.heap.update p f,toks:=t }:=by
 have e:(s.heap.update p f).get? p=some { cls:=.type "list",data:=.seq its'.toArray n' }:=by
  rw [Heap.get?_update_self f ho (by rw [hf] <;> rfl),hf]
 refine I.write (x:=p) (e:=p) (by rw [h]; trivial) (.inl rfl) (fun b u hb q=>(Heap.get?_update_other _ _ (Ne.symm hb)).trans q) ⟨_,e⟩ ?_
 exact ⟨hz,its',n',r,e⟩
noncomputable def rSetL:V->V->V->Hp->(Hp->Prop)->Prop:=fun o i v H Q=>∃ p xs k j,o=.ref p/\i=.int k/\H p=some (.lst xs)/\ixN xs.length k=some j/\Q (upd H p (.lst (xs.set j v)))
theorem aDm:PSet X rSetL:=by
 intro pins s σ H o i v ov iv u Q I ro ri rv h
 obtain ⟨p,xs,k,j,rfl,rfl,hp,hj,q⟩:=h
 cases ro
 obtain ⟨t,rfl⟩:=ri
 obtain ⟨its,n,r,ho,hz⟩:=I.lst hp
 obtain ⟨h1,h2,h3,h4⟩:=yW hj
 have hl:=r.length
 have hn:=line63
 have I':Inv X pins σ (upd H p (.lst (xs.set j v))) { s with heap:=s.heap.update p (Obj.mapSeq (·.setIfInBounds j u)) } :=
  I.lstUpd hp ho (xN its n j u) (r.set rv j) (by rw [List.length_set]; exact hz) s.toks
 by_cases h0:0<=k
 ·have hk:k.toNat=j:=by
   rw [seqIndex_of h0 h4] at h1
   exact Option.some.inj h1
  exact PySem.W.ki_setAt ho h0 (by omega) (by rw [List.size_toArray,<- hl]; exact h4) (by rw [hk]; exact ⟨_,I',q⟩)
 ·have hk:(k+(its.toArray.size:Int)).toNat=j:=by
   rw [seqIndex_neg (by omega) h3] at h1
   rw [List.size_toArray,<- hl]
   exact Option.some.inj h1
  exact PySem.W.ki_setBack ho (by omega) (by rw [List.size_toArray,<- hl]; exact h3) (by omega) (by rw [hk]; exact ⟨_,I',q⟩)
theorem uF (lo hi:Option Int) (n:Nat):(sliceBounds lo hi none n).1=((HT.sIx n 0 lo:Nat):Int)/\(sliceBounds lo hi none n).2.1=((HT.sIx n n hi:Nat):Int)/\(sliceBounds lo hi none n).2.2=1:=by
 refine ⟨?_,?_,rfl⟩
 ·cases lo with
  | none=>simp [sliceBounds,HT.sIx]
  | some i =>
   simp only [sliceBounds,HT.sIx,Option.getD_none,show (1:Int) > 0 by decide,if_true]
   by_cases h:i < 0
   ·simp only [h,if_true] <;> omega
   ·simp only [h,if_false] <;> omega
 ·cases hi with
  | none=>simp [sliceBounds,HT.sIx]
  | some i =>
   simp only [sliceBounds,HT.sIx,Option.getD_none,show (1:Int) > 0 by decide,if_true]
   by_cases h:i < 0
   ·simp only [h,if_true] <;> omega
   ·simp only [h,if_false] <;> omega
theorem rC (its:List Value) (lo hi:Option Int):slicePick its.toArray lo hi none=((its.drop (HT.sIx its.length 0 lo)).take (HT.sIx its.length its.length hi - HT.sIx its.length 0 lo)).toArray:=by
 obtain ⟨h1,h2,h3⟩:=uF lo hi its.toArray.size
 unfold slicePick
 rw [h1,h2,h3]
 simp only [sliceRange_one,pick_run,List.size_toArray] <;> rfl
noncomputable def rSlL (K:PySem.W.Frag):V->Option Int->Option Int->Hp->VK->Prop:=fun x lo hi H Q=>∃ a xs,x=.ref a/\SqL K H a xs/\∀ p,H p=none->Q (.ref p) (upd H p (.lst (cutV xs lo hi)))
theorem aFz:SlR X (rSlL X.K):=by
 intro pins s σ H x v vl vu lo hi sl Q I rx hs pl pu h
 obtain ⟨a,xs,rfl,hx,q⟩:=h
 cases rx
 obtain ⟨its,r,ht,hz⟩:=I.list hx
 have hlen:=r.length
 refine ⟨"list",_,slot_list_getitem.lookup,ht.isList.typeIs,?_⟩
 refine wpAny_getItem_list_slice ht.isList hs pl pu .none (by simp) ?_ (by rw [List.size_toArray] <;> omega)
 rw [rC,<- hlen]
 refine ⟨.ref s.heap.objs.size,_,I.laid (t':=s.toks) (o:=.lst (cutV xs lo hi)) (fun b ob q=>Heap.get?_push_of_some _ q) (Nat.le_refl _) ?_,rfl,q _ (I.hok.fresh (Nat.le_refl _))⟩
 exact ⟨Nat.le_trans (oM xs lo hi) hz,_,0,(r.drop (HT.sIx xs.length 0 lo)).take (HT.sIx xs.length xs.length hi - HT.sIx xs.length 0 lo),Heap.get?_push_size _ rfl⟩
noncomputable def flatV:V->Bool
 | .non=>true
 | .bl _=>true
 | .int _=>true
 | .str _=>true
 | _=>false
noncomputable def eqV:V->V->Bool
 | .non,.non=>true
 | .bl a,.bl b=>a==b
 | .bl a,.int b=>(if a then 1 else 0)==b
 | .int a,.bl b=>a==(if b then 1 else 0)
 | .int a,.int b=>a==b
 | .str a,.str b=>a==b
 | _,_=>false
theorem aBn {A:Around} {s:Shared} {y x:V} {u v:Value} (ry:RelV y u) (rx:RelV x v) (fy:flatV y=true) (fx:flatV x=true):SeqAt.EqAt A s u v (eqV y x):=by
 cases y with
 | non =>
  cases ry
  cases x with
  | non=>cases rx; exact SeqAt.EqAt.same _
  | bl b=>cases rx; exact SeqAt.EqAt.none_bool b
  | int b=>obtain ⟨t,rfl⟩:=rx; exact SeqAt.EqAt.none_int b t
  | str b=>obtain ⟨t,rfl⟩:=rx; exact SeqAt.EqAt.none_str b t
  | _=>exact absurd (show false=true from fx) Bool.false_ne_true
 | bl a =>
  cases ry
  cases x with
  | non=>cases rx; exact SeqAt.EqAt.bool_none a
  | bl b=>cases rx; exact SeqAt.EqAt.bool_bool a b
  | int b=>obtain ⟨t,rfl⟩:=rx; exact SeqAt.EqAt.bool_int a b t
  | str b=>obtain ⟨t,rfl⟩:=rx; exact SeqAt.EqAt.bool_str a b t
  | _=>exact absurd (show false=true from fx) Bool.false_ne_true
 | int a =>
  obtain ⟨t',rfl⟩:=ry
  cases x with
  | non=>cases rx; exact SeqAt.EqAt.int_none a t'
  | bl b=>cases rx; exact SeqAt.EqAt.int_bool a t' b
  | int b=>obtain ⟨t,rfl⟩:=rx; exact SeqAt.EqAt.int_int a t' b t
  | str b=>obtain ⟨t,rfl⟩:=rx; exact SeqAt.EqAt.int_str a t' b t
  | _=>exact absurd (show false=true from fx) Bool.false_ne_true
 | str a =>
  obtain ⟨t',rfl⟩:=ry
  cases x with
  | non=>cases rx; exact SeqAt.EqAt.str_none a t'
  | bl b=>cases rx; exact SeqAt.EqAt.str_bool a t' b
  | int b=>obtain ⟨t,rfl⟩:=rx; exact SeqAt.EqAt.str_int a t' b t
  | str b=>obtain ⟨t,rfl⟩:=rx; exact SeqAt.EqAt.str_str a t' b t
  | _=>exact absurd (show false=true from fx) Bool.false_ne_true
 | _=>exact absurd (show false=true from fy) Bool.false_ne_true
noncomputable def eqU (x:V) (u:Value):Bool:=match u with
 | .none=>eqV .non x
 | .bool b=>eqV (.bl b) x
 | .int i _=>eqV (.int i) x
 | .str z _=>eqV (.str z) x
 | _=>false
theorem aDq {x y:V} {u:Value} (r:RelV y u) (f:flatV y=true):eqU x u=eqV y x:=by
 cases y with
 | non=>cases r; rfl
 | bl b=>cases r; rfl
 | int i=>obtain ⟨t,rfl⟩:=r; rfl
 | str z=>obtain ⟨t,rfl⟩:=r; rfl
 | _=>exact absurd (show false=true from f) Bool.false_ne_true
theorem mL {x:V}:∀ {xs:List V} {us:List Value},Vals xs us->xs.all flatV=true->us.any (eqU x)=xs.any fun y=>eqV y x
 | _,_,.nil,_=>rfl
 | y::xs,u::us,.cons r t,f=>by
  rw [List.all_cons,Bool.and_eq_true] at f
  rw [List.any_cons,List.any_cons,aDq r f.1,mL t f.2]
theorem kC {A:Around} {s:Shared} {x:V} {v:Value} (rx:RelV x v) (fx:flatV x=true):∀ {xs:List V} {us:List Value},Vals xs us->xs.all flatV=true->∀ u∈us,SeqAt.EqAt A s u v (eqU x u)
 | _,_,.nil,_=>fun u hu=>by cases hu
 | y::xs,u::us,.cons r t,f=>fun u' hu=>by
  rw [List.all_cons,Bool.and_eq_true] at f
  rcases List.mem_cons.mp hu with rfl | hu
  ·rw [aDq r f.1]; exact aBn r rx f.1 fx
  ·exact kC rx fx t f.2 u' hu
noncomputable def inV (x:V) (xs:List V):Bool:=xs.any fun y=>eqV y x
noncomputable def rIn (K:PySem.W.Frag) (neg:Bool):R2:=fun x y H Q=>∃ p xs,y=.ref p/\(SqL K H p xs\/SqT K H p xs)/\flatV x=true/\xs.all flatV=true/\Q (.bl (if neg then !inV x xs else inV x xs)) H
theorem aAf:OpR X (compareOp .In) (rIn X.K false):=by
 intro pins s σ H x y v u Q I rx ry h
 obtain ⟨p,xs,rfl,hq,fx,fs,q⟩:=h
 cases ry
 rcases hq with hq | hq
 ·obtain ⟨its,r,pl,hz⟩:=I.list hq
  refine SeqAt.in_listAt (eqU x) pl.isList (fun w hw=>kC rx fx r fs w (by simpa using hw)) ⟨.bl _,H,I,rfl,?_⟩
  rw [show its.toArray.any (eqU x)=its.any (eqU x) by simp,mL r fs]
  exact q
 ·obtain ⟨its,r,pl,hz⟩:=I.tuple hq
  refine SeqAt.in_tupleAt (eqU x) pl (fun w hw=>kC rx fx r fs w (by simpa using hw)) ⟨.bl _,H,I,rfl,?_⟩
  rw [show its.toArray.any (eqU x)=its.any (eqU x) by simp,mL r fs]
  exact q
theorem tS:OpR X (compareOp .NotIn) (rIn X.K true):=by
 intro pins s σ H x y v u Q I rx ry h
 obtain ⟨p,xs,rfl,hq,fx,fs,q⟩:=h
 cases ry
 rcases hq with hq | hq
 ·obtain ⟨its,r,pl,hz⟩:=I.list hq
  refine SeqAt.notIn_listAt (eqU x) pl.isList (fun w hw=>kC rx fx r fs w (by simpa using hw)) ⟨.bl _,H,I,rfl,?_⟩
  rw [show its.toArray.any (eqU x)=its.any (eqU x) by simp,mL r fs]
  exact q
 ·obtain ⟨its,r,pl,hz⟩:=I.tuple hq
  refine SeqAt.notIn_tupleAt (eqU x) pl (fun w hw=>kC rx fx r fs w (by simpa using hw)) ⟨.bl _,H,I,rfl,?_⟩
  rw [show its.toArray.any (eqU x)=its.any (eqU x) by simp,mL r fs]
  exact q
theorem sY:CallR X (.builtin "len") (fun xs H Q=>∃ p ys,xs=[.ref p]/\(SqL X.K H p ys\/SqT X.K H p ys)/\Q (.int ys.length) H):=by
 intro pins s σ H xs us Q I r h
 obtain ⟨p,ys,rfl,hq,q⟩:=h
 obtain ⟨u,rfl,rx⟩:=vals1 r
 cases rx
 have hn:=line63
 rcases hq with hq | hq
 ·obtain ⟨its,r',pl,hz⟩:=I.list hq
  have hlen:=r'.length
  exact Calls.call_len_list pl.isList (by simp only [List.size_toArray] <;> omega) ⟨.int ys.length,H,I.tok _,⟨s.toks+1,by rw [List.size_toArray,hlen]⟩,q⟩
 ·obtain ⟨its,r',pl,hz⟩:=I.tuple hq
  have hlen:=r'.length
  exact len_tuple pl (by simp only [List.size_toArray] <;> omega) ⟨.int ys.length,H,I.tok _,⟨s.toks+1,by rw [List.size_toArray,hlen]⟩,q⟩
theorem tQ:CallR X (.builtin "len") (fun xs H Q=>∃ z,xs=[.str z]/\z.length<=sizeLine/\Q (.int z.length) H):=by
 intro pins s σ H xs us Q I r h
 obtain ⟨z,rfl,hz,q⟩:=h
 obtain ⟨u,rfl,t,rfl⟩:=vals1 r
 have hn:=line63
 exact len_str (by omega) ⟨.int z.length,H,I.tok _,⟨_,rfl⟩,q⟩
theorem CallR.or {f:Value} {r r':List V->Hp->VK->Prop} (h:CallR X f r) (h':CallR X f r'):CallR X f (fun xs H Q=>r xs H Q\/r' xs H Q):=by
 intro pins s σ H xs us Q I rs q
 rcases q with q | q
 ·exact h pins s σ H xs us Q I rs q
 ·exact h' pins s σ H xs us Q I rs q
theorem uI:CallR X (.type "list") (fun xs H Q=>∃ p ys,xs=[.ref p]/\(SqL X.K H p ys\/SqT X.K H p ys)/\∀ l,H l=none->Q (.ref l) (upd H l (.lst ys))):=by
 intro pins s σ H xs us Q I r h
 obtain ⟨p,ys,rfl,hq,q⟩:=h
 obtain ⟨u,rfl,rx⟩:=vals1 r
 cases rx
 have fin:∀ (its:List Value),Vals ys its->ys.length<=sizeLine->∀ (h':Heap) (c':Nat),(∀ b o',s.heap.get? b=some o'->h'.get? b=some o') ->
   h'.get? s.heap.objs.size=some { cls:=.type "list",dict:=none,data:=.seq its.toArray c',slots:=#[] }->EP X pins σ Q (.ref s.heap.objs.size) { s with heap:=h' }:=fun its r' hz h' c' kp e =>
  ⟨.ref s.heap.objs.size,_,I.laid (t':=s.toks) kp (Nat.le_refl _) (show ObjOk X.prog X.w _ h' _ (.lst ys) from ⟨hz,its,c',r',e⟩),rfl,q _ (I.hok.fresh (Nat.le_refl _))⟩
 rcases hq with hq | hq
 ·obtain ⟨its,r',pl,hz⟩:=I.list hq
  have hlen:=r'.length
  obtain ⟨o,ho,hc,n,hd⟩:=pl.isList
  exact call_list_seq p (.inl rfl) ho hc hd (fun h' c' kp e=>fin its r' hz h' c' kp e) (by simp only [List.size_toArray] <;> omega)
 ·obtain ⟨its,r',pl,hz⟩:=I.tuple hq
  have hlen:=r'.length
  obtain ⟨o,ho,hc,n,hd⟩:=pl
  exact call_list_seq p (.inr rfl) ho hc hd (fun h' c' kp e=>fin its r' hz h' c' kp e) (by simp only [List.size_toArray] <;> omega)
theorem rA:CallR X (.type "tuple") (fun xs H Q=>∃ p ys,xs=[.ref p]/\((SqL X.K H p ys/\∀ l,H l=none->Q (.ref l) (upd H l (.tup ys)))\/(SqT X.K H p ys/\Q (.ref p) H))):=by
 intro pins s σ H xs us Q I r h
 obtain ⟨p,ys,rfl,h⟩:=h
 obtain ⟨u,rfl,rx⟩:=vals1 r
 cases rx
 rcases h with ⟨hq,q⟩ | ⟨hq,q⟩
 ·obtain ⟨its,r',pl,hz⟩:=I.list hq
  have hlen:=r'.length
  refine call_tuple_list pl.isList (fun h' kp=>?_) (by simp only [List.size_toArray] <;> omega)
  have I1:Inv X pins σ H { s with heap:=h' }:=I.kept (t':=s.toks) kp
  have I2:Inv X pins σ (upd H h'.objs.size (.tup ys)) { s with heap:=h'.push { cls:=.type "tuple",data:=.seq its.toArray } } :=
   I1.laid (t':=s.toks) (fun b o e=>Heap.get?_push_of_some _ e) (Nat.le_refl _) (show ObjOk X.prog X.w _ _ _ (.tup ys) from ⟨hz,its,r',IsTup.new _ _⟩)
  exact ⟨.ref h'.objs.size,_,I2,rfl,q _ (I1.hok.fresh (Nat.le_refl _))⟩
 ·obtain ⟨its,r',pl,hz⟩:=I.tuple hq
  exact call_tuple_same pl ⟨.ref p,H,I,rfl,q⟩
noncomputable def tyV (K:PySem.W.Frag) (T:String) (x:V) (H:Hp):Prop:=match x with
 | .str _=>T="str"
 | .int _=>T="int"
 | .ref p=>(T="list"/\∃ xs,SqL K H p xs)\/(T="tuple"/\∃ o,K.lookup p=some o/\o.cls=.type "tuple"/\o.dict=none) \/
   (T="dict"/\((∃ kvs,H p=some (.dK kvs))\/∃ kvs,H p=some (.dT kvs)))\/(T="set"/\∃ S n,H p=some (.set S n))
 | _=>False
theorem aHe {pins:List (Addr×Obj)} {σ:St} {H:Hp} {s:Shared} {T:String} {x:V} {v:Value} (I:Inv X pins σ H s) (r:RelV x v) (ty:tyV X.K T x H) :
  s.TypeIs v T/\∀ a,v=.ref a->∃ ob,s.heap.get? a=some ob/\ob.dict=none:=by
 cases x with
 | str z =>
  obtain ⟨t,rfl⟩:=r
  cases (show T="str" from ty)
  exact ⟨typeIs_str s z t,fun _ e=>nomatch e⟩
 | int i =>
  obtain ⟨t,rfl⟩:=r
  cases (show T="int" from ty)
  exact ⟨typeIs_int s i t,fun _ e=>nomatch e⟩
 | ref p =>
  cases r
  rcases ty with ⟨rfl,xs,hq⟩ | ⟨rfl,o,hk,hc,hd⟩ | ⟨rfl,hk⟩ | ⟨rfl,S,n,hk⟩
  ·obtain ⟨its,_,pl,_⟩:=I.list hq
   refine ⟨pl.isList.typeIs,fun a e=>?_⟩
   cases e
   obtain ⟨o,n,e,c,hd,_⟩:=pl
   exact ⟨o,e,hd⟩
  ·refine ⟨⟨o,I.kIn p o hk,hc⟩,fun a e=>?_⟩
   cases e
   exact ⟨o,I.kIn _ o hk,hd⟩
  ·have z:∃ o,s.heap.get? p=some o/\o.ExactDict:=by
    rcases hk with ⟨kvs,hk⟩ | ⟨kvs,hk⟩
    ·obtain ⟨_,_,_,_,o,_,_,e,ex,_⟩:=I.hok p _ hk
     exact ⟨o,e,ex⟩
    ·obtain ⟨_,_,_,_,o,_,_,e,ex,_⟩:=I.hok p _ hk
     exact ⟨o,e,ex⟩
   obtain ⟨o,e,ex⟩:=z
   refine ⟨⟨o,e,ex.1⟩,fun a e2=>?_⟩
   cases e2
   exact ⟨o,e,ex.2.1⟩
  ·obtain ⟨o,_,_,_,e,ex,_⟩:=I.hok p _ hk
   refine ⟨⟨o,e,ex.1⟩,fun a e2=>?_⟩
   cases e2
   exact ⟨o,e,ex.2.1⟩
 | _=>exact False.elim ty
noncomputable def tBM (K:PySem.W.Frag) (T:String) (r:V->List V->Hp->VK->Prop) (to:TE) (t:TA):TE:=fun σ H Q=>to σ H fun x H1=>tyV K T x H1/\t σ H1 fun xs H2=>r x xs H2 Q
variable {o e:Expr} {es:List Expr} {to:TE} {t:TA} {name:Str} {apos cpos:Pos} {T id:String} {r:V->List V->Hp->VK->Prop}
theorem aGi (pa:PlainAttrs T) (slot:Slot T name id) (hty:typeOf (.builtin id)=pure (.type "method_descriptor")) (hm:MtR X id r) (ho:PE X o to) (ha:PA X (e::es) t)
  (hbase:attributeBase o name X.env (eval o X.env)=eval o X.env:=by rfl)
  (hfew:((backTo cpos (starEach (e::es) X.env)).all (fun x=>!x.1)&&(backToKw cpos (keywordEach [] X.env)).all (fun x=>x.1.isSome)
   && decide ((e::es).length+([]:List Keyword).length+(if ([]:List Keyword).isEmpty then 0 else 1) < 30))=true:=by rfl)
  (hline:(apos.endLine==cpos.line)=true:=by rfl) (hs:starEach (e::es) X.env=(false,eval e X.env)::starEach es X.env:=by rfl) (hplain:(backTo cpos (starEach es X.env)).any (·.1)=false:=by rfl) :
  PE X (.Call (.Attribute o name apos) (e::es) [] cpos) (tBM X.K T r to t):=by
 intro pins s σ H Q I h
 refine wpAny_Call_method_late hbase hfew hline rfl (thn (ho pins s σ H _ I h) fun v s1 ⟨x,H1,I1,r1,ty,q1⟩=>?_)
 obtain ⟨h1,h2⟩:=aHe I1 r1 ty
 refine ⟨T,id,pa,slot,hty,h1,h2,?_⟩
 have hA:=ha cpos pins s1 σ H1 _ I1 q1
 rw [hs] at hA ⊢
 refine Calls.callWith_builtin (by show (false || (backTo cpos (starEach es X.env)).any (·.1))=false; rw [hplain] <;> rfl) (Calls.evalArgs_plain ?_)
 exact thn hA fun us s2 ⟨vs,H2,I2,r2,q2⟩=>hm pins s2 σ H2 x vs v us Q I2 r1 r2 q2
/- xs.append(e),list.index on a module's tuple .. are MtR facts of 06m -/
end
end L2
namespace L2
open PySem PySem.Spec PyProof.Rows
noncomputable def MtM (X:Cx) (id:String) (r:V->List V->Hp->VK->Prop):Prop :=
 ∀ (pins:List (Addr×Obj)) (s:Shared) (σ:St) (H:Hp) (x:V) (xs:List V) (v:Value) (us:List Value) (Q:VK),Inv X pins σ H s->RelV x v->Vals xs us->r x xs H Q ->
  wpAny (model X.prog X.w) X.A (call (.builtin id) (v::us)) (EP X pins σ Q) X.xe s
theorem Vals.one:∀ {x:V} {us:List Value},Vals [x] us->∃ u,us=[u]/\RelV x u
 | _,_,.cons r .nil=>⟨_,rfl,r⟩
theorem Vals.two:∀ {x y:V} {us:List Value},Vals [x,y] us->∃ u v,us=[u,v]/\RelV x u/\RelV y v
 | _,_,_,.cons r (.cons q .nil)=>⟨_,_,rfl,r,q⟩
theorem Vals.zero:∀ {us:List Value},Vals [] us->us=[]
 | _,.nil=>rfl
theorem Vals.eraseIdx:∀ {xs:List V} {us:List Value} (i:Nat),Vals xs us->Vals (xs.eraseIdx i) (us.eraseIdx i)
 | _,_,_,.nil=>.nil
 | _,_,0,.cons _ t=>t
 | _,_,i+1,.cons r t=>.cons r (Vals.eraseIdx i t)
theorem Vals.reverse {xs:List V} {us:List Value} (h:Vals xs us):Vals xs.reverse us.reverse:=by
 induction h with
 | nil=>exact .nil
 | cons r t ih=>rw [List.reverse_cons,List.reverse_cons]; exact Vals.append ih (.cons r .nil)
theorem Vals.rep {xs:List V} {us:List Value} (h:Vals xs us):∀ k:Nat,Vals (List.replicate k xs).flatten (List.replicate k us).flatten
 | 0=>.nil
 | k+1=>by
  rw [List.replicate_succ,List.replicate_succ,List.flatten_cons,List.flatten_cons]
  exact Vals.append h (Vals.rep h k)
theorem sE {α:Type}:∀ (l:List α) (i:Nat),(l.eraseIdx i).length<=l.length
 | [],_=>Nat.le_refl _
 | _::_,0=>Nat.le_succ _
 | _::r,i+1=>Nat.succ_le_succ (sE r i)
theorem nE (its:List Value):∀ (k:Nat) (acc:List Value),
  List.foldl (fun x1 x2=>x1++x2) acc.toArray (List.replicate k its.toArray)=(acc++(List.replicate k its).flatten).toArray
 | 0,acc=>by simp
 | k+1,acc=>by
  have e:acc.toArray++its.toArray=(acc++its).toArray:=by simp
  have e2:(acc++its)++(List.replicate k its).flatten=acc++(List.replicate (k+1) its).flatten:=by
   rw [List.replicate_succ,List.flatten_cons,List.append_assoc]
  rw [<- e2,<- nE its k (acc++its),<- e,List.replicate_succ,List.foldl_cons]
section
variable {X:Cx} {pins:List (Addr×Obj)} {σ:St} {H:Hp} {s:Shared} {l b:Addr} {xs ys zs:List V}
theorem Inv.lset {its its':List Value} {n:Nat} {f:Array Value->Array Value} {t':Nat} (I:Inv X pins σ H s) (hH:H l=some (.lst xs))
  (e:s.heap.get? l=some { cls:=.type "list",data:=.seq its.toArray n }) (hf:f its.toArray=its'.toArray) (hv:Vals ys its') (hz:ys.length<=sizeLine) :
  Inv X pins σ (upd H l (.lst ys)) { s with heap:=s.heap.update l (Obj.mapSeq f),toks:=t' }:=by
 have q:=PySem.IsL.update e f
 rw [hf] at q
 refine I.write (x:=l) (e:=l) (by rw [hH]; exact trivial) (.inl rfl) (fun b' u hb hu=>(Heap.get?_update_other s.heap (Obj.mapSeq f) (Ne.symm hb)).trans hu) ⟨_,q⟩ ?_
 exact ⟨hz,its',_,hv,q⟩
theorem Inv.lnew {its:List Value} {t':Nat} (I:Inv X pins σ H s) (hv:Vals ys its) (hz:ys.length<=sizeLine) :
  Inv X pins σ (upd H s.heap.objs.size (.lst ys)) { s with heap:=s.heap.push { cls:=.type "list",data:=.seq its.toArray },toks:=t' } :=
 I.laid (fun _ _ q=>Heap.get?_push_of_some _ q) (Nat.le_refl _) ⟨hz,its,0,hv,Heap.get?_push_size _ rfl⟩
theorem Inv.fresh (I:Inv X pins σ H s):H s.heap.objs.size=none:=I.hok.fresh (Nat.le_refl _)
theorem Inv.lstM (I:Inv X pins σ H s) (hH:H l=some (.lst xs)):xs.length<=sizeLine/\∃ (its:List Value) (n:Nat),Vals xs its/\xs.length=its.length/\s.heap.get? l=some { cls:=.type "list",data:=.seq its.toArray n }:=by
 obtain ⟨z,its,n,r,e⟩:=I.hok l _ hH
 exact ⟨z,its,n,r,r.length,e⟩
theorem notLongL {n:Nat} (h:n<=sizeLine):Builtin.List.listTooLong n=false:=by
 unfold Builtin.List.listTooLong
 exact decide_eq_false (by omega)
end
section
variable {X:Cx}
noncomputable def rAppend:V->List V->Hp->VK->Prop:=fun x vs H Q=>∃ l xs y,x=.ref l/\vs=[y]/\H l=some (.lst xs)/\xs.length < sizeLine/\Q .non (upd H l (.lst (xs++[y])))
theorem rQ:MtM X "list.append" rAppend:=by
 intro pins s σ H x vs v us Q I rx rv h
 obtain ⟨l,xs,y,rfl,rfl,hH,hz,q⟩:=h
 cases rx
 obtain ⟨u,rfl,ru⟩:=rv.one
 obtain ⟨z,its,n,r,hl,e⟩:=I.lstM hH
 refine call_meets F.slot_list_append ⟨_,e,rfl⟩ F.entry_list_append (F.args_list_append_2 _ _) (PySem.list_append l its.toArray n u (by rw [List.size_toArray]; omega)) ⟨e,?_⟩
 refine ⟨.non,_,I.lset (its':=its++[u]) hH e (by simp) (r.append (.cons ru .nil)) ?_,rfl,q⟩
 rw [List.length_append,List.length_singleton]
 omega
noncomputable def rPopAt:V->List V->Hp->VK->Prop:=fun x vs H Q=>∃ l xs i k y,x=.ref l/\vs=[.int i]/\H l=some (.lst xs) /\ -(2 ^ 63)<=i/\i < 2 ^ 63/\seqIndex? i xs.length=some k/\xs[k]?=some y/\Q y (upd H l (.lst (xs.eraseIdx k)))
theorem aCv:MtM X "list.pop" rPopAt:=by
 intro pins s σ H x vs v us Q I rx rv h
 obtain ⟨l,xs,i,k,y,rfl,rfl,hH,h1,h2,hk,hy,q⟩:=h
 cases rx
 obtain ⟨u,rfl,ru⟩:=rv.one
 obtain ⟨t,rfl⟩:=ru
 obtain ⟨z,its,n,r,hl,e⟩:=I.lstM hH
 obtain ⟨w,hw,rw'⟩:=r.get hy
 refine call_meets F.slot_list_pop ⟨_,e,rfl⟩ F.entry_list_pop (F.args_list_pop_2 _ _)
  (MeetsSeq.list_pop_at l its.toArray n i t k w (fitsIndex_both h1 h2) (by rw [List.size_toArray,<- hl]; exact hk) (by rw [<- Array.getElem?_toList]; exact hw) (by rw [List.size_toArray]; omega)) ⟨e,?_⟩
 refine ⟨y,_,I.lset (its':=its.eraseIdx k) hH e ?_ (r.eraseIdx k) ?_,rw',q⟩
 ·show its.toArray.eraseIdxIfInBounds k=(its.eraseIdx k).toArray
  rw [List.eraseIdxIfInBounds_toArray]
 ·have:=sE xs k
  omega
noncomputable def rCat:R2:=fun x y H Q=>∃ l b xs zs,x=.ref l/\y=.ref b/\H l=some (.lst xs)/\H b=some (.lst zs)/\xs.length+zs.length<=sizeLine/\∀ p,H p=none->Q (.ref p) (upd H p (.lst (xs++zs)))
theorem aJp:OpR X (binaryOp .Add) rCat:=by
 intro pins s σ H x y v u Q I rx ry h
 obtain ⟨l,b,xs,zs,rfl,rfl,hH,hB,hz,q⟩:=h
 cases rx
 cases ry
 obtain ⟨z,its,n,r,hl,e⟩:=I.lstM hH
 obtain ⟨z2,its2,n2,r2,hl2,e2⟩:=I.lstM hB
 refine PySem.P.add_list e e2 ?_ (by rw [List.size_toArray,List.size_toArray]; omega)
 have ea:its.toArray++its2.toArray=(its++its2).toArray:=by simp
 rw [ea]
 exact ⟨.ref _,_,I.lnew (t':=s.toks) (r.append r2) (by rw [List.length_append]; omega),rfl,q _ I.fresh⟩
noncomputable def rRep:R2:=fun x y H Q=>∃ l k xs,x=.ref l/\y=.int k/\H l=some (.lst xs) /\ -(2 ^ 63)<=k/\k < 2 ^ 63/\xs.length*k.toNat<=sizeLine /\
 ∀ p,H p=none->Q (.ref p) (upd H p (.lst (List.replicate k.toNat xs).flatten))
theorem tU {α:Type} (xs:List α) (k:Nat):(List.replicate k xs).flatten.length=k*xs.length:=by
 induction k with
 | zero=>simp
 | succ k ih=>rw [List.replicate_succ,List.flatten_cons,List.length_append,ih,Nat.succ_mul,Nat.add_comm]
theorem aIh:OpR X (binaryOp .Mult) rRep:=by
 intro pins s σ H x y v u Q I rx ry h
 obtain ⟨l,k,xs,rfl,rfl,hH,h1,h2,hz,q⟩:=h
 cases rx
 obtain ⟨t,rfl⟩:=ry
 obtain ⟨z,its,n,r,hl,e⟩:=I.lstM hH
 have hlen:its.toArray.size*k.toNat<=sizeLine:=by rw [List.size_toArray,<- hl]; exact hz
 have hcap:¬ its.toArray.size*k.toNat > (2 ^ 63 - 1) / 8:=by
  have:(sizeLine:Nat)<=(2 ^ 63 - 1) / 8:=by decide
  omega
 have hfit:¬ (!Builtin.List.listFitsIndex k)=true:=by
  rw [fitsIndex_both h1 h2]
  exact Bool.false_ne_true
 have hlong:¬ Builtin.List.listTooLong (its.toArray.size*k.toNat)=true:=by
  rw [notLongL hlen]
  exact Bool.false_ne_true
 have hnew:List.foldl (fun x1 x2=>x1++x2) #[] (List.replicate (if its.toArray.isEmpty=true then 0 else k.toNat) its.toArray)=(List.replicate k.toNat its).flatten.toArray:=by
  have f0:∀ m:Nat,List.foldl (fun x1 x2=>x1++x2) #[] (List.replicate m its.toArray)=(List.replicate m its).flatten.toArray:=fun m=>by
   have:=nE its m []
   rw [List.nil_append] at this
   exact this
  rw [f0]
  cases its with
  | nil=>simp
  | cons a r'=>rw [if_neg (by simp)]
 refine wpAny_binaryOp_repeat_ref (T:="list") (U:="int") (by decide) ⟨_,e,rfl⟩ (fun s'=>typeIs_int s' k t) noFill_list_mul F.fills_int_mul F.slot_int_rmul repeat_list F.slot_int_index.lookup
  (call_meets F.slot_int_rmul (typeIs_int s k t) F.entry_int_rmul (F.args_int_rmul_2 _ _) (int___rmul___int_list k t l its.toArray n)
   ⟨e,rfl,⟨_,e,rfl⟩,call_meets F.slot_list_mul ⟨_,e,rfl⟩ F.entry_list_mul (F.args_list_mul_2 _ _) (AutoListH.list___mul___list_int_3 l its.toArray n k t hfit hcap hlong) ⟨e,?_⟩⟩)
 rw [hnew]
 exact ⟨.ref _,_,I.lnew (t':=s.toks) (r.rep k.toNat) (by rw [tU,Nat.mul_comm]; exact hz),rfl,q _ I.fresh⟩
end
section
variable {prog:Program} {w:World} {A:Around} {E:Value->Shared->Prop} {s:Shared}
set_option maxRecDepth 100000 in
end
section
variable {X:Cx}
end
end L2
namespace Att
open PySem PySem.W PySem.Calls PyProof.Rows
theorem oY {P:Params} {h:Heap}:∀ (ns:List Int) (vs:List Value),WellAll P h vs (ns.map WData.int)->IntsAre vs ns:=by
 intro ns
 induction ns with
 | nil =>
  intro vs w
  rw [List.map_nil] at w
  cases w
  exact .nil
 | cons n ns ih =>
  intro vs w
  rw [List.map_cons] at w
  cases w with
  | cons a b =>
   cases a
   exact .cons _ _ (ih _ b)
theorem aAq {l:OpenLaw} {n:Nat} (hn:l.most=some n) {P:Params} {h:Heap} {args:List WData} {vals:List Value}
  (hpre:l.row.toRowW.claim.pre args=true) (hwl:WellAll P h vals args) :
  ∃ a vs ns,vals=[Value.ref a]/\args=[WData.list (ns.map WData.int)]/\h.get? a=some { cls:=.type "list",data:=.seq vs.toArray }/\IntsAre vs ns/\ns.length<=n:=by
 have hsh:WShape.hasAll [] args [.list .int]=true:=(pre_splitW hpre).1
 have hc:l.pre.holds [] { args:=args }=true:=(pre_splitW hpre).2
 obtain ⟨d,r,rfl,h1,h2⟩:=hasAllW_cons hsh
 obtain rfl:=hasAllW_nil h2
 obtain ⟨xs,rfl,h3⟩:=hasW_list h1
 obtain ⟨ns,rfl⟩:=items_int h3
 have hlen:ns.length<=n:=by
  unfold OpenLaw.pre at hc
  have h4:(WTm.not (.lt (.lit (.int (n:Int))) (.len (.arg 0)))).holds [] { args:=[.list (ns.map .int)] }=true:=by
   have h4:=(holds_andW hc).1
   rw [hn] at h4
   exact h4
  have h5:=condW_of h4 (w_not (w_lt w_lit (w_len_list (w_arg rfl))))
  rw [List.length_map] at h5
  refine Nat.le_of_not_lt fun q=>?_
  have q':(n:Int) < ((ns.length:Nat):Int):=by omega
  first
   | (rw [decide_eq_true q'] at h5; exact absurd h5 (by decide))
   | (simp at h5; omega)
 cases hwl with
 | cons w1 w2 =>
  cases w2
  cases w1 with
  | list ho hall=>exact ⟨_,_,ns,rfl,rfl,ho,oY ns _ hall,hlen⟩
theorem zJ (l:OpenLaw) (args:List WData):l.row.toRowW.claim.post args (.bool true) args=true :=
 postW_of (r:=l.row.toRowW) (X:=(true==true))
  (show WShape.has [] (.bool true) .bool=true by first | rfl | decide | simp [WShape.has,WShape.arms,WShape.armsAll])
  (show (WTm.eq .res (.lit (.bool true))).value [] { args:=args,res:=some (.bool true),after:=args }=some (.bool (true==true)) from w_eq_bool (w_res rfl) w_lit) rfl
theorem attach_call {l:OpenLaw} {n:Nat} {q:Program} {loose:List Str} {XP:(Str->Option Value)->Heap->Prop} {YP:World->Heap->Prop} {d:DefRec}
  (hn:l.most=some n) (hdf:d.params.defaults=[])
  (call:∀ (w:World) (s₀ s₁:Shared) (mg mb:Str->Option Value) (fa:Addr) (o:Obj) (pm cd doc:Value) (a:Addr) (vs:List Value) (ns:List Int),
   Ground q loose [] XP w s₀ mg mb s₁.heap->YP w s₁.heap ->
   s₁.heap.get? fa=some o->o.data=.func (docDef d.name d.params d.body d.scope pm cd doc)->s₁.heap.CodeRec cd d.name->mg d.name=some (.ref fa) ->
   s₁.heap.get? a=some { cls:=.type "list",data:=.seq vs.toArray }->IntsAre vs ns->ns.length<=n->s₁.gens=#[] ->
   codeAny (model l.prog w) callerA (.call (.ref fa) ⟨[.ref a],[]⟩) (fun r s'=>r=.ok (.ret (.bool true))/\OldK s₁.heap s'.heap/\s'.os=s₁.os/\AllBare s'.gens) s₁) :
  WalkO q loose XP YP l.row.toRowW d [] (fun f vs=>PySem.call f vs):=by
 intro w s₀ s₁ mg mb G Y fa o pm cd doc dV kV ho hd hcd hD hmg hg args vals as hpre hlay hrd hwl hlo
 obtain rfl:dV=.none:=Dflts.none hD hdf
 obtain rfl:kV=.none:=Dflts.noKw hD
 obtain ⟨a,vs,ns,rfl,rfl,hobj,hints,hlen⟩:=aAq hn hpre hwl
 refine enter_call (codeAny_mono (call w s₀ s₁ mg mb fa o pm cd doc a vs ns G Y ho (fd_plain hd) hcd hmg hobj hints hlen hg) fun r s' hq=>?_)
 obtain ⟨rfl,h2,h3,h4⟩:=hq
 exact ⟨.inl ⟨.bool true,.bool true,[],rfl,fun _=>rfl,.bool true,zJ l _,fun _=>⟨List.Pairwise.nil,fun _ hm=>(nomatch hm)⟩⟩,h2,h3,h4⟩
section
variable {prog:Program} {w:World} {A:Around} {E:Value->Shared->Prop} {s:Shared} {K:Frag}
noncomputable def ledger (h:Heap) (L d:Addr):List (Addr×Obj):=(List.range h.objs.size).filterMap fun a=>if a=L\/a=d then none else (h.get? a).map fun o=>(a,o)
end
end Att
namespace L2
open PySem PySem.Spec PyProof.Rows
theorem kZ:∀ {vs:List Value} {ns:List Int},IntsAre vs ns->Vals (ns.map V.int) vs
 | _,_,.nil=>.nil
 | _,_,.cons n t h=>.cons ⟨t,rfl⟩ (kZ h)
noncomputable def Only (H:Hp):Prop:=∀ b,H b=none\/∃ o xs,H b=some (.frz o (.lst xs))
theorem aBw {P:Program} {w:World} {K:PySem.W.Frag} {mg mb:Str->Option Value} {CX:CXT} {k:Nat} {fa a:Addr} {fd:FuncData} {x:Str} {sp:Sp} {s₁:Shared} {vs:List Value} {ns:List Int}
  (KX:K.In s₁.heap) (hns:s₁.heap.Ns mainGlobals mg) (hb:s₁.heap.Ns builtinsNs mb) (hbb:∀ x:Str,x≠"__name__"->mb x=bootBuiltins x) (hlim:s₁.heap.NoLimit) (hg:s₁.gens=#[])
  (ha:s₁.heap.get? a=some { cls:=.type "list",data:=.seq vs.toArray }) (hi:IntsAre vs ns) (hl:ns.length<=sizeLine) (hr:Room k callerA)
  (F:∀ base:Heap,K.In base->base.Ns mainGlobals mg->FnOk P w K mg base CX k fa fd [x] sp) (hbind:∀ (s:Shared) (u:Value),BindsTo s fd ⟨[u],[]⟩ [(x,u)])
  (hsp:∀ H:Hp,Only H->SqL K H a (ns.map V.int)->sp [.ref a] H (fun v _=>v=.bl true) fun _ _ _=>False)
  (hCX:∀ H e s',CX [] H s₁ (fun _ _ _=>False) e s'->False) :
  codeAny (model P w) callerA (.call (.ref fa) ⟨[.ref a],[]⟩) (fun r s'=>r=.ok (.ret (.bool true))/\OldK s₁.heap s'.heap/\s'.os=s₁.os/\AllBare s'.gens) s₁:=by
 have rv:=kZ hi
 have lenV:=hi.length
 -- from an abstract heap in which nothing but the script may be tracked
 have core:∀ H:Hp,Only H->SqL K H a (ns.map V.int)->HOk P w H s₁.heap->(∀ b,H b≠none->b=a)->(H a≠none->K.lookup a=none) ->
   codeAny (model P w) callerA (.call (.ref fa) ⟨[.ref a],[]⟩) (fun r s'=>r=.ok (.ret (.bool true))/\OldK s₁.heap s'.heap/\s'.os=s₁.os/\AllBare s'.gens) s₁:=by
  intro H hO hS hok hA hK
  have base_of:∀ {b:Addr} {o:Obj},s₁.heap.get? b=some o->H b=none->(hidT s₁.heap H).get? b=some o:=fun e n=>aBr e n
  have noA:∀ {b:Addr} {o:Obj} {es:Array DictEntry} {ep:Nat},s₁.heap.get? b=some o->o.data=.dict es ep->H b=none:=fun {b o es ep} e d=>by
   cases q:H b with
   | none=>rfl
   | some u =>
    have e':b=a:=hA b (by rw [q]; simp)
    subst e'
    rw [ha] at e; cases e
    have d':Data.seq vs.toArray _=Data.dict es ep:=d
    cases d'
  have nsK:∀ {b:Addr} {m:Str->Option Value},s₁.heap.Ns b m->(hidT s₁.heap H).Ns b m:=fun {b m} ⟨o,es,ep,e,d,r⟩=>⟨o,es,ep,base_of e (noA e d),d,r⟩
  have hKb:K.In (hidT s₁.heap H):=fun b o e=>base_of (KX b o e) (by
   cases q:H b with
   | none=>rfl
   | some u =>
    have e':b=a:=hA b (by rw [q]; simp)
    subst e'
    rw [hK (by rw [q]; simp)] at e; cases e)
  have hM:Mod K mg (hidT s₁.heap H):=⟨hKb,nsK hns,⟨mb,nsK hb,hbb⟩,let ⟨mc,h1,h2⟩:=hlim; ⟨mc,nsK h1,h2⟩⟩
  have e0:Env0 P w K mg (hidT s₁.heap H) callerA [] s₁ H:=⟨rfl,hM,fun b o e=>aEj e,Nat.le_of_eq (aAg _ _),trivial,fun b hb=>absurd (show b∈([]:List Addr) from hb) (by simp),hok,.of_eq hg⟩
  refine codeAny_mono ((F _ hKb (nsK hns)).run callerA [] s₁ H ⟨[.ref a],[]⟩ [.ref a] [.ref a] _ _ hr e0 (hbind s₁ (.ref a)) (.cons rfl .nil) (hsp H hO hS)) fun r s' h=>?_
  cases r with
  | error e=>exact (hCX H e s' h).elim
  | ok fl =>
   cases fl with
   | next=>exact False.elim h
   | brk=>exact False.elim h
   | cont=>exact False.elim h
   | ret u =>
    obtain ⟨v,H',os,bare,un,hok',r',q⟩:=h
    have q':v=.bl true:=q
    subst q'
    obtain rfl:u=Value.bool true:=r'
    refine ⟨rfl,OldK.of_keep fun b o e=>?_,os,bare⟩
    cases q:H b with
    | none=>exact un.keep b o e q (by intro z; exact absurd (show b∈([]:List Addr) from z) (by simp)) (by simp)
    | some u =>
     rcases hO b with z | ⟨ob,xs,z⟩
     ·rw [q] at z; cases z
     ·have z2:=un.frzs b ob _ z
      obtain ⟨e1,_⟩:=hok b _ z
      obtain ⟨e2,_⟩:=hok' b _ z2
      rw [e] at e1; cases e1
      exact e2
 cases hk:K.lookup a with
 | some o =>
  -- the script is one of the module's own objects
  have e:=KX a o hk
  rw [ha] at e
  cases e
  refine core (fun _=>none) (fun _=>.inl rfl) (.inr ⟨_,vs.toArray,_,hk,rfl,rfl,rfl,by rw [List.size_toArray,lenV]; exact hl,by simpa using rv⟩) (fun b u z=>by have z':(none:Option HO)=some u:=z; cases z') (fun b z=>absurd rfl z) fun z=>absurd rfl z
 | none =>
  refine core (fun b=>if b=a then some (.frz { cls:=.type "list",data:=.seq vs.toArray } (.lst (ns.map V.int))) else none) (fun b=>?_) (.inl (.inr ⟨{ cls:=.type "list",data:=.seq vs.toArray },if_pos rfl⟩)) (fun b u z=>?_) (fun b z=>?_) fun _=>hk
  ·by_cases hb:b=a
   ·exact .inr ⟨_,_,if_pos hb⟩
   ·exact .inl (if_neg hb)
  ·by_cases hb:b=a
   ·have z':=(if_pos hb).symm.trans z
    cases z'
    subst hb
    exact ⟨ha,by rw [List.length_map]; exact hl,vs,_,rv,ha⟩
   ·have z':=(if_neg hb).symm.trans z
    cases z'
  ·by_cases hb:b=a
   ·exact hb
   ·exact absurd (if_neg hb) z
end L2
namespace L2
open PySem PySem.Spec PyProof.Rows
noncomputable abbrev KOf {K:PySem.W.Frag} {h:Heap} (_:K.In h):PySem.W.Frag:=K
theorem yI {l:PySem.W.OpenLaw} {n k:Nat} {q:Program} {loose:List Str} {XP:(Str->Option Value)->Heap->Prop} {YP:World->Heap->Prop} {d:DefRec} {K:Params->PySem.W.Frag} {CX:World->CXT} {sp:World->Sp} {x:Str}
  (hn:l.most=some n) (hn2:n<=sizeLine) (hdf:d.params.defaults=[]) (hr:Room k callerA)
  (hY:∀ (w:World) (h:Heap),YP w h->(K w.params).In h)
  (F:∀ (w:World) (mg:Str->Option Value) (fa:Addr) (h:Heap),(K w.params).In h->h.Ns mainGlobals mg->mg d.name=some (.ref fa) ->
   ∃ fd:FuncData,(∀ (s:Shared) (u:Value),BindsTo s fd ⟨[u],[]⟩ [(x,u)]) /\
    ∀ base:Heap,(K w.params).In base->base.Ns mainGlobals mg->FnOk l.prog w (K w.params) mg base (CX w) k fa fd [x] (sp w))
  (hsp:∀ (w:World) (H:Hp) (a:Addr) (ns:List Int),ns.length<=n->Only H->SqL (K w.params) H a (ns.map V.int)->sp w [.ref a] H (fun v _=>v=.bl true) fun _ _ _=>False)
  (hCX:∀ (w:World) (H:Hp) (s:Shared) (e:Value) (s':Shared),CX w [] H s (fun _ _ _=>False) e s'->False) :
  PySem.W.WalkO q loose XP YP l.row.toRowW d [] (fun f vs=>PySem.call f vs):=by
 refine Att.attach_call hn hdf fun w s₀ s₁ mg mb fa o pm cd doc a vs ns G Y ho hd hcd hmg hobj hints hlen hg=>?_
 have KX:=hY w _ Y
 obtain ⟨fd,hb,hF⟩:=F w mg fa _ KX G.T.g hmg
 exact aBw KX G.T.g G.T.b G.T.builtins G.T.nolimit hg hobj hints (Nat.le_trans hlen hn2) hr hF hb (fun H hO hS=>hsp w H a ns hlen hO hS) fun H e s'=>hCX w H s₁ e s'
end L2
/- THE LAST THEOREM (shape; LID,My.* are yours):
  My.Adr: a structure of the addresses that your layer names (classes,functions); My.Txt K t: a structure (Prop) of the equations over K;
  My.txt_mk:{K} {implicit addresses ..} (e1:nsIn K mainGlobals "law"=some (some (.ref f))) (e2:K.lookup f=some ⟨oc,od,.func (fnOf "law" "law" params body scope dV kV doc pm an cdv ct),sl⟩) (e3:codeIn K cdv "law"=true) ..:∃ t,My.Txt K t
set_option maxRecDepth 100000 in
set_option maxHeartbeats 0 in
theorem PySem.Challenge.cw_LID_holds : PySem.Challenge.rw_LID.Holds := by
 w_on; o_law; k_head; (case hw=>w_witness2)
 k_fill
 refine L2.yI (l:=PySem.Challenge.rw_LID) (n:=63) (k:=40) (x:="script") (CX:=fun w=>..) (sp:=fun _=>My.sp_law) rfl (by decide) rfl ⟨rfl,by decide,by decide⟩ (fun w h Y=>PySem.W.kIn_of Y) ?F ?S ?C
 case F =>
  intro w mg fa h KX G hmg
  have T:∃ t,My.Txt (L2.KOf KX) t:=by
   dsimp only [L2.KOf]                          -- K must stand as «<heap const> w.params» for k_is
   refine' My.txt_mk ?e1 ?e2 ?e3 ..
   (case e1=>PySem.W.k_is)                    -- in the order: a name->its address->its object->its parts
   (case e2=>PySem.W.k_is)
   ..
  obtain ⟨t,T⟩:=T
  have e0:=hmg.symm.trans (PySem.W.mg_of KX G T.law)
  cases e0                                       -- fa is the law's own address
  exact ⟨_,fun s u=>.of_eq rfl,fun base kb nb=>My.law_fn T kb nb⟩     -- if «.of_eq rfl» comes too early: refine' ⟨_,?b,fun base kb nb=>My.law_fn T kb nb⟩; exact fun s u=>.of_eq rfl
 case S=>exact fun w H a ns hl hO hS=>..
 case C=>exact ..
(the tactic k_is has no namespace: write k_is) -/
namespace L2
open PySem PySem.Spec PyProof.Rows
noncomputable def inClass (s:Stmt) (j:Nat):Stmt:=match s with
 | .ClassDef _ _ _ body _ _ _ _ _ _ _=>body.getD j (.Pass ⟨0,0,0,0⟩)
 | _=>.Pass ⟨0,0,0,0⟩
noncomputable def defArgs (s:Stmt):Arguments:=match s with
 | .FunctionDef _ a _ _ _ _ _ _ _ _=>a
 | _=>{ posonlyargs:=[],args:=[],vararg:=none,kwonlyargs:=[],kw_defaults:=[],kwarg:=none,defaults:=[] }
noncomputable def defBody (s:Stmt):List Stmt:=match s with
 | .FunctionDef _ _ b _ _ _ _ _ _ _=>b
 | _=>[]
noncomputable def defScope (s:Stmt):Scope:=match s with
 | .FunctionDef _ _ _ _ _ _ sc _ _ _=>sc
 | _=>{ kind:=.function,names:=[],isGenerator:=false,isCoroutine:=false }
noncomputable abbrev CX0:CXT:=fun _ _ _ _ _ _=>False
noncomputable abbrev E0:XK:=fun _ _ _=>False
theorem pass0 {X:Cx}:Passes CX0 X E0:=fun _ _ _ _ _ _ _ h=>h.elim
structure Fun (K:PySem.W.Frag) (x qual:Str) (st:Stmt) (f:Addr) (fd:FuncData):Prop where
 ex:∃ (oc:Value) (od:Option Addr) (kV doc pm:Value) (an:Option Addr) (cdv ct:Value) (osl:Array (Option Value)),
  fd=PySem.W.fnOf x qual (defArgs st) (defBody st) (defScope st) .none kV doc pm an cdv ct/\K.lookup f=some ⟨oc,od,.func fd,osl⟩/\PySem.W.codeIn K cdv qual=true
 kp:PySem.W.keepIn K (.ref f)=true
section
variable {P:Program} {w:World} {K:PySem.W.Frag} {mg:Str->Option Value} {base:Heap}
theorem Fun.ok {x qual:Str} {st:Stmt} {f:Addr} {fd:FuncData} {N ps:List Str} {k:Nat} {sp:Sp} (F:Fun K x qual st f fd) (S:FnScope N ps (defScope st)) (len:∀ vs H Q E,sp vs H Q E->vs.length=ps.length)
  (hbody:∀ (cdv:Value) (A:Around) (outer:List Env) (s:Shared) (H:Hp) (vs:List V) (Q:VK) (E:XK),Room k (A.deeper (envOfC qual (defScope st) s.heap.objs.size f cdv))->sp vs H Q E ->
   ∃ t,PSs (cxOf CX0 P w K mg base N qual (defScope st) f cdv A outer s H E).nox (defBody st) t/\t { nx:=fun _ H'=>Q .non H',rt:=Q } (start N vs) H):FnOk P w K mg base CX0 (k+1) f fd ps sp:=by
 obtain ⟨oc,od,kV,doc,pm,an,cdv,ct,osl,rfl,lk,hcd⟩:=F.ex
 refine aBi lk hcd S len fun A outer s H vs Q E hr hsp=>?_
 obtain ⟨t,h,q⟩:=hbody cdv A outer s H vs Q E hr hsp
 exact ⟨t,h.nox,q⟩
theorem Fun.binds {x qual:Str} {st:Stmt} {f:Addr} {fd:FuncData} {ps:List Str} (F:Fun K x qual st f fd)
  (h:∀ (kV doc pm:Value) (an:Option Addr) (cdv ct:Value) (us:List Value),us.length=ps.length->bindArgs (PySem.W.fnOf x qual (defArgs st) (defBody st) (defScope st) .none kV doc pm an cdv ct) ⟨us,[]⟩=pure (ps.zip us)):Binds K fd ps []:=by
 obtain ⟨oc,od,kV,doc,pm,an,cdv,ct,osl,rfl,lk,hcd⟩:=F.ex
 exact .all (h kV doc pm an cdv ct)
theorem aR {x qual:Str} {st:Stmt} {f:Addr} {oc:Value} {od an:Option Addr} {osl:Array (Option Value)} {kV doc pm cdv ct:Value} (l:K.lookup f=some ⟨oc,od,.func (PySem.W.fnOf x qual (defArgs st) (defBody st) (defScope st) .none kV doc pm an cdv ct),osl⟩)
  (c:PySem.W.codeIn K cdv qual=true) (k:PySem.W.keepIn K (.ref f)=true):Fun K x qual st f (PySem.W.fnOf x qual (defArgs st) (defBody st) (defScope st) .none kV doc pm an cdv ct):=⟨⟨oc,od,kV,doc,pm,an,cdv,ct,osl,rfl,l,c⟩,k⟩
end
theorem small1000 {n:Nat} (h:n<=1000):n < sizeLine:=Nat.lt_of_le_of_lt h (by decide)
section
variable {X:Cx}
theorem pv (i:Nat) {x:Str} {pos:Pos} (hN:X.N[i]?=some x:=by rfl) (hv:Vis X.env.scope x:=by first | exact Or.inl rfl | exact Or.inr (Or.inl rfl) | exact Or.inr (Or.inr rfl)) (hd:(x==("__debug__":Str))=false:=by decide)
  (hcd:(x==("__classdict__":Str))=false:=by decide):PE X (.Name x pos) (tVar i):=aDr hN hv hd hcd
end
noncomputable def Same (H H':Hp):Prop:=∀ b o,H b=some o->H' b=some o
theorem Same.refl (H:Hp):Same H H:=fun _ _ h=>h
theorem Same.trans {H H1 H2:Hp} (a:Same H H1) (b:Same H1 H2):Same H H2:=fun c o h=>b c o (a c o h)
theorem Same.free {H H':Hp} (e:Same H H') {l:Addr} (h:H' l=Option.none):H l=Option.none:=by
 cases q:H l with
 | none=>rfl
 | some o =>
  rw [e l o q] at h
  cases h
theorem Same.seq {K:PySem.W.Frag} {H H':Hp} {a:Addr} {xs:List V} (e:Same H H') (h:SqL K H a xs):SqL K H' a xs:=by
 rcases h with (h | ⟨o,h⟩) | h
 ·exact .inl (.inl (e _ _ h))
 ·exact .inl (.inr ⟨o,e _ _ h⟩)
 ·exact .inr h
end L2
set_option maxHeartbeats 4000000
namespace L2
open PySem PySem.Spec PyProof.Rows
section
variable {X:Cx} {tg:Expr}
noncomputable def CDivW (_ j:Int):Prop:=0 < j/\j < 18446744073709551616
theorem aAi {n:Nat} (h:n < 18446744073709551616):n.log2 < 9000:=by
 by_cases h0:n=0
 ·subst h0; decide
 ·have:n.log2 < 64:=(Nat.log2_lt h0).2 (by simpa using h)
  omega
theorem aDh:OpR X (binaryOp .FloorDiv) (rI CDivW fun i j=>.int (i / j)):=opI fun i j _ _ _ _ _ hc q=>by
 have h1:(0:Int) < j:=hc.1
 have h2:j < 18446744073709551616:=hc.2
 exact floordiv_int (by omega) (by rw [Int.fdiv_eq_ediv_of_nonneg i (by omega)]; exact q) (.inl (PyProof.noPylong_of_log2 (aAi (by omega))))
noncomputable def Itv (K:PySem.W.Frag) (a:Addr) (xs:List V):It :=
 ⟨fun i H=>SqL K H a xs/\i < xs.length,fun i H x H'=>H'=H/\xs[xs.length - 1 - i]?=some x,fun i _=>xs.length<=i⟩
theorem aBt {P:Program} {w:World} {K:PySem.W.Frag} {tg:Expr} (a it:Addr) (xs:List V):Turn P w K tg (Itv K a xs) [it] it (fun i h=>i<=xs.length/\h.IsRevIter it a ((xs.length:Int) - 1 - (i:Int))) where
 mem:=by simp
 obj:=fun i h st b hb=>by
  have e:b=it:=by simpa using hb
  subst e
  obtain ⟨o,e,c,d⟩:=st.2
  exact ⟨o,e,fun v z=>by rw [d] at z; cases z⟩
 keep:=fun i h h' st k=>⟨st.1,st.2.at fun o e=>k it (by simp) o e⟩
 item:=by
  intro X hP hw hK hc i pins s σ H E I hf st hg
  subst hP hw hK
  obtain ⟨hq,hx⟩:=hg
  obtain ⟨its,rv,p,hz⟩:=I.list hq
  have hlt:xs.length - 1 - i < xs.length:=by omega
  have hx':xs[xs.length - 1 - i]?=some xs[xs.length - 1 - i]:=List.getElem?_eq_getElem hlt
  obtain ⟨u,hu,ru⟩:=rv.get hx'
  obtain ⟨f0,f1,f2,f3,f4,f5⟩:=hf it (by simp)
  have st2:=st.2
  have e1:(xs.length:Int) - 1 - (i:Int)=((xs.length - 1 - i:Nat):Int):=by omega
  rw [e1] at st2
  refine wpAny_pyNext_rev_item st2 p.isList (x:=u) (by simpa using hu) fun h' st' sb=>?_
  have I1:Inv X pins σ H { s with heap:=h' }:=I.turned (t':=s.toks) (fun b o hb e=>(sb.2 b hb).trans e) f0 f1 f3 f4 f5
  have e2:((xs.length - 1 - i:Nat):Int) - 1=(xs.length:Int) - 1 - ((i+1:Nat):Int):=by omega
  rw [e2] at st'
  obtain ⟨o,e,c,d⟩:=id st'
  exact ⟨u,rfl,vS (s:={ s with heap:=h' }) e c d (by decide) ⟨_,H,I1,ru,⟨rfl,hx'⟩,⟨hx,st'⟩,fun b hb=>(hf b hb).1⟩⟩
 done:=by
  intro X hP hw hK hc i pins s σ H E I hf st hg
  subst hP hw hK
  have hx:xs.length<=i:=hg
  obtain ⟨f0,f1,f2,f3,f4,f5⟩:=hf it (by simp)
  have st2:=st.2
  have h1:=st.1
  have e1:(xs.length:Int) - 1 - (i:Int) = -1:=by omega
  rw [e1] at st2
  exact wpAny_pyNext_rev_end (I.ok.hd hc) st2 fun h' eb=>⟨rfl,I.turned (t':=s.toks) (fun b o hb e=>eb b o hb e) f0 f1 f3 f4 f5⟩
 self:=fun _ _ _ _ _ st h=>wpAny_pyIter_revIter st.2 h
theorem vV:bootBuiltins "reversed"=some (.type "reversed"):=by first | rfl | kernel_rfl
inductive IntsE:List Expr->List Int->Prop where
 | nil:IntsE [] []
 | cons {i:Int} {j:Nat} {p:Pos} {r:List Expr} {ns:List Int} (h:IntsE r ns):IntsE (.Constant (.int i) j p::r) (i::ns)
theorem aEz {es:List Expr} {ns:List Int} (h:IntsE es ns):PA X es (fun _ H Q=>Q (ns.map V.int) H):=by
 induction h with
 | nil=>exact iJ
 | cons h ih=>exact fL aBa ih
structure JE (X:Cx) (e:Expr) (t:TE):Prop where
 h:PE X e t
structure JS (X:Cx) (st:Stmt) (t:TS):Prop where
 h:PS X st t
structure JSs (X:Cx) (sts:List Stmt) (t:TS):Prop where
 h:PSs X sts t
end
end L2
namespace L2
open PySem PySem.Spec PyProof.Rows
theorem kJ {env:Env} {f:Str×NameKind->List (Str×Addr)->Sem (ForInStep (List (Str×Addr)))}
  (hf:∀ y acc c,y.2=NameKind.free->env.cells.lookup y.1=some c->f y acc=pure (.yield ((y.1,c)::acc))) (hf':∀ y acc,y.2≠NameKind.free->f y acc=pure (.yield acc)) :
  ∀ (names:List (Str×NameKind)) (acc:List (Str×Addr)),(∀ y∈names,y.2=NameKind.free->∃ c,env.cells.lookup y.1=some c)->(∀ x c,acc.lookup x=some c->env.cells.lookup x=some c) ->
   ∃ cl,forIn names acc f=(pure cl:Sem (List (Str×Addr)))/\(∀ x c,cl.lookup x=some c->env.cells.lookup x=some c)/\(∀ y∈names,y.2=NameKind.free->∃ c,cl.lookup y.1=some c)/\(∀ x c,acc.lookup x=some c->∃ c',cl.lookup x=some c')
 | [],acc,_,ha=>⟨acc,rfl,ha,(fun _ h=>nomatch h),fun x c h=>⟨c,h⟩⟩
 | y::r,acc,hn,ha=>by
  by_cases hy:y.2=NameKind.free
  ·obtain ⟨c,hc⟩:=hn y List.mem_cons_self hy
   have ha':∀ x d,((y.1,c)::acc).lookup x=some d->env.cells.lookup x=some d:=fun x d h=>by
    rw [List.lookup_cons] at h
    cases e:x==y.1 with
    | true =>
     rw [e] at h
     have:x=y.1:=by simpa using e
     subst this
     cases h
     exact hc
    | false=>rw [e] at h; exact ha x d h
   obtain ⟨cl,h1,h2,h3,h4⟩:=kJ hf hf' r _ (fun z hz=>hn z (List.mem_cons_of_mem _ hz)) ha'
   have hyl:∃ c',cl.lookup y.1=some c':=h4 y.1 c (by rw [List.lookup_cons]; simp)
   refine ⟨cl,?_,h2,fun z hz hzf=>?_,fun x d hx=>?_⟩
   ·rw [List.forIn_cons,hf y acc c hy hc]
    exact h1
   ·rcases List.mem_cons.mp hz with rfl | hz
    ·exact hyl
    ·exact h3 z hz hzf
   ·by_cases e:x=y.1
    ·rw [e]; exact hyl
    ·have e':(x==y.1)=false:=by simpa using e
     exact h4 x d (by rw [List.lookup_cons,e']; exact hx)
  ·obtain ⟨cl,h1,h2,h3,h4⟩:=kJ hf hf' r acc (fun z hz=>hn z (List.mem_cons_of_mem _ hz)) ha
   refine ⟨cl,?_,h2,fun z hz hzf=>?_,h4⟩
   ·rw [List.forIn_cons,hf' y acc hy]
    exact h1
   ·rcases List.mem_cons.mp hz with rfl | hz
    ·exact absurd hzf hy
    ·exact h3 z hz hzf
theorem lQ {scope:Scope} {env:Env} (h:∀ y∈scope.names,y.2=NameKind.free->∃ c,env.cells.lookup y.1=some c) :
  ∃ cl,closureFor scope env=pure cl/\(∀ x c,cl.lookup x=some c->env.cells.lookup x=some c)/\(∀ y∈scope.names,y.2=NameKind.free->∃ c,cl.lookup y.1=some c):=by
 obtain ⟨cl,h1,h2,h3,_⟩:=kJ (env:=env) (f:=fun x cs=>match x with
   | (name,kind)=>if (kind==NameKind.free)=true then do
      let a <- cellOf env name
      pure (ForInStep.yield ((name,a)::cs))
     else pure (ForInStep.yield cs)) (fun y acc c hy hc=>by
    obtain ⟨n,k⟩:=y
    simp only at hy hc
    subst hy
    simp only [beq_self_eq_true,if_true,cellOf,hc]
    rfl) (fun y acc hy=>by
    obtain ⟨n,k⟩:=y
    simp only at hy
    have:(k==NameKind.free)=false:=by simpa using hy
    simp only [this,Bool.false_eq_true,if_false]) scope.names [] h (fun _ _ z=>by simp at z)
 refine ⟨cl,?_,h2,h3⟩
 show (forIn scope.names [] _ >>= fun cs=>pure cs)=pure cl
 exact (congrArg (· >>= fun cs=>(pure cs:Sem (List (Str×Addr)))) h1).trans rfl
theorem iA {env:Env} (hk:env.scope.kind=.function):∀ {names:List (Str×NameKind)} {x:Str},names.lookup x=some .free->env.kindOf x=some .cell ->
  (names.map fun (n,k)=>if (k==NameKind.free&&env.scope.kind==.function&&env.kindOf n==some .cell) then (n,NameKind.cell) else (n,k)).lookup x=some .cell
 | [],_,h,_=>by simp at h
 | (n,k)::r,x,h,hx=>by
  rw [List.map_cons]
  rw [List.lookup_cons] at h
  cases e:x==n with
  | true =>
   rw [e] at h
   have:x=n:=by simpa using e
   subst this
   cases h
   simp [hk,hx,List.lookup_cons]
  | false =>
   rw [e] at h
   have ih:=iA hk h hx
   simp only
   split <;> (rw [List.lookup_cons,e]; exact ih)
theorem gH {env:Env}:∀ {names:List (Str×NameKind)} {x:Str} {k':NameKind},
  (names.map fun (n,k)=>if (k==NameKind.free&&env.scope.kind==.function&&env.kindOf n==some .cell) then (n,NameKind.cell) else (n,k)).lookup x=some k'->k'=.cell\/k'=.free ->
  ∃ k,(x,k)∈names/\(k=.cell\/k=.free)
 | [],_,_,h,_=>by simp at h
 | (n,k)::r,x,k',h,hk=>by
  rw [List.map_cons] at h
  simp only at h
  cases e:x==n with
  | true =>
   have:x=n:=by simpa using e
   subst this
   refine ⟨k,List.mem_cons_self,?_⟩
   split at h
   ·rename_i hc
    simp only [Bool.and_eq_true] at hc
    exact .inr (by simpa using hc.1.1)
   ·rw [List.lookup_cons,e] at h
    cases h
    exact hk
  | false =>
   have h':(r.map fun (n,k)=>if (k==NameKind.free&&env.scope.kind==.function&&env.kindOf n==some .cell) then (n,NameKind.cell) else (n,k)).lookup x=some k':=by
    split at h <;> (rw [List.lookup_cons,e] at h; exact h)
   obtain ⟨k1,h1,h2⟩:=gH h' hk
   exact ⟨k1,List.mem_cons_of_mem _ h1,h2⟩
noncomputable def compCx (X:Cx) (Nc:List Str) (scope:Scope) (cl:List (Str×Addr)) (C:Addr) (fp:List Addr) (pins:List (Addr×Obj)) (s₂:Shared) (H₂:Hp):Cx where
 prog:=X.prog
 w:=X.w
 K:=X.K
 mg:=X.mg
 base:=X.base
 A:=X.A
 N:=Nc
 s₀:=s₂
 H₀:=H₂
 env:=compEnvC scope cl C X.env
 outer:=X.stack
 stack:=X.stack
 ex:=fp
 fn:=fun _=>false
 calm:=true
 pn:=X.pn++pins
 xe:=fun _ _=>False
structure CompOk (N0:List Str) (sc0:Scope) (scope:Scope) (Nc:List Str) (js:List (Option Nat)):Prop where
 kind:scope.kind=.function
 nocell:∀ y∈scope.names,y.2≠.cell
 names:∀ y∈scope.names,y.2=.local->scope.names.lookup y.1=some .local
 free:∀ y∈scope.names,y.2=.free->sc0.names.lookup y.1=some .cell
 len:js.length=Nc.length
 slots:∀ p∈Nc.zip js,∀ j∈p.2,N0[j]?=some p.1/\scope.names.lookup p.1=some .free/\sc0.names.lookup p.1=some .cell
noncomputable def outσ (js:List (Option Nat)) (σ:St):St:=js.map fun o=>o.bind fun j=>(σ[j]?).join
section
variable {X:Cx} {pins:List (Addr×Obj)} {σ:St} {H₂:Hp} {s₂:Shared} {fp:List Addr} {Nc:List Str} {scope:Scope} {js:List (Option Nat)} {cl:List (Str×Addr)} {C:Addr}
theorem aEk (I:Inv X pins σ H₂ s₂) (hc:X.calm=true) (T:CompOk X.N X.env.scope scope Nc js) (hcl:∀ x c,cl.lookup x=some c->X.env.cells.lookup x=some c) (hfr:∀ y∈scope.names,y.2=.free->∃ c,cl.lookup y.1=some c)
  (hC:s₂.heap.objs.size<=C) (hf:∀ b∈fp,FpOk X pins H₂ b) (ho:∀ b∈fp,∃ o,s₂.heap.get? b=some o):(compCx X Nc scope cl C fp pins s₂ H₂).Ok where
 mod:=I.ok.mod
 kind:=T.kind
 glob:=I.ok.glob
 blt:=I.ok.blt
 above:=hC
 inj:=fun x y c h1 h2=>I.ok.inj x y c (hcl x c h1) (hcl y c h2)
 has:=fun x hx=>by
  have hx':∃ k',(relabel scope X.env).names.lookup x=some k'/\(k'=.cell\/k'=.free):=by
   rcases hx with h | h
   ·exact ⟨_,h,.inl rfl⟩
   ·exact ⟨_,h,.inr rfl⟩
  obtain ⟨k',h1,h2⟩:=hx'
  obtain ⟨k,h3,h4⟩:=gH h1 h2
  rcases h4 with rfl | rfl
  ·exact absurd rfl (T.nocell _ h3)
  ·exact hfr _ h3 rfl
 cab:=fun x c h=>by cases h
 hd:=fun _=>I.ok.hd hc
 frames:=I.ok.frames
 stk:=.inl rfl
 exf:=fun b hb=>by
  obtain ⟨f0,f1,f2,f3,f4,f5⟩:=hf b hb
  obtain ⟨o,e⟩:=ho b hb
  exact ⟨Nat.ne_of_lt (Nat.lt_of_lt_of_le (Heap.lt_size e) hC),fun x c h=>f4 x c (hcl x c h)⟩
 bs:=fun b o e=>I.bs b o e
 bsz:=Nat.le_trans I.ok.bsz I.sz
 noex:=fun b o e hb=>by
  obtain ⟨f0,f1,f2,f3,f4,f5⟩:=hf b hb
  rcases f3 with z | z
  ·exact I.ok.noex b o e z
  ·exact absurd (Nat.lt_of_lt_of_le (Heap.lt_size (I.ok.bs b o e).1) z) (Nat.lt_irrefl _)
 exfs:=fun b hb z=>by
  obtain ⟨f0,f1,f2,f3,f4,f5⟩:=hf b hb
  rcases List.mem_cons.mp (I.stkSub b z) with q | q
  ·exact f1 q
  ·exact f2 q
 funs:=I.stack
 frf:=I.stkFree
theorem xP (I:Inv X pins σ H₂ s₂) (hc:X.calm=true) (T:CompOk X.N X.env.scope scope Nc js) (hcl:∀ x c,cl.lookup x=some c->X.env.cells.lookup x=some c) (hfr:∀ y∈scope.names,y.2=.free->∃ c,cl.lookup y.1=some c)
  (hf:∀ b∈fp,FpOk X pins H₂ b) (ho:∀ b∈fp,∃ o,s₂.heap.get? b=some o) {h₁:Heap} {m:Str->Option Value} {tk:Nat} {n:Nat} (hC:C=s₂.heap.objs.size+1) (old:∀ b u,s₂.heap.get? b=some u->h₁.get? b=some u)
  (hns:h₁.Ns C m) (hD:h₁.get? s₂.heap.objs.size=some { cls:=.type "list",data:=.seq #[] n }) :
  Inv (compCx X Nc scope cl C fp pins s₂ H₂) [] (outσ js σ) (upd H₂ s₂.heap.objs.size (.lst [])) { s₂ with heap:=h₁,toks:=tk }:=by
 have lt:∀ b o,s₂.heap.get? b=some o->b < s₂.heap.objs.size:=fun b o e=>Heap.lt_size e
 have hle:s₂.heap.objs.size<=C:=by rw [hC]; exact Nat.le_succ _
 have cellc:∀ x c,cl.lookup x=some c->c < s₂.heap.objs.size:=fun x c h=>by
  obtain ⟨v,o,e,_⟩:=I.cell x c (hcl x c h)
  exact lt c o e
 have new:ObjOk X.prog X.w (upd H₂ s₂.heap.objs.size (.lst [])) h₁ s₂.heap.objs.size (.lst []):=⟨Nat.zero_le _,[],n,.nil,hD⟩
 refine ⟨aEk I hc T hcl hfr hle hf ho,rfl,I.bare,?_,⟨m,hns,fun i x v e1 e2 e3=>?_⟩,fun x c h=>?_,?_,fun x c h=>?_,fun p hp=>?_,I.hok.laid old (Nat.le_refl _) new,?_⟩
 ·exact Un.laid old (Nat.le_refl _) (I.hok.fresh (Nat.le_refl _))
 ·have e1:Nc[i]?=some x:=e1
  have e2':∃ j,js[i]?=some (some j)/\σ[j]?=some (some v):=by
   unfold outσ at e2
   rw [List.getElem?_map] at e2
   cases hj:js[i]? with
   | none=>rw [hj] at e2; cases e2
   | some o =>
    rw [hj] at e2
    cases o with
    | none=>cases e2
    | some j =>
     refine ⟨j,rfl,?_⟩
     have e2:(σ[j]?).join=some v:=Option.some.inj e2
     cases hq:σ[j]? with
     | none=>rw [hq] at e2; cases e2
     | some o=>rw [hq] at e2; exact congrArg some e2
  obtain ⟨j,hj,hv⟩:=e2'
  have hz:(x,some j)∈Nc.zip js:=by
   refine List.mem_of_getElem? (i:=i) ?_
   rw [List.getElem?_zip_eq_some]
   exact ⟨e1,hj⟩
  obtain ⟨t1,t2,t3⟩:=T.slots _ hz j rfl
  obtain ⟨m0,hn0,hl0⟩:=I.loc
  obtain ⟨u,ru,lk⟩:=hl0 j x v t1 hv (.inr (.inl t3))
  refine ⟨u,ru,.inr ⟨.inl (iA I.ok.kind t2 t3),?_⟩⟩
  rcases lk with ⟨k,_⟩ | ⟨_,c,hcc,hcell⟩
  ·have k:X.env.scope.names.lookup x=some .local:=k
   rw [t3] at k; cases k
  ·have hm:(x,NameKind.free)∈scope.names:=by
    have:∀ (l:List (Str×NameKind)),l.lookup x=some .free->(x,NameKind.free)∈l:=fun l=>by
     induction l with
     | nil=>intro h; simp at h
     | cons y r ih =>
      obtain ⟨n',k'⟩:=y
      intro h
      rw [List.lookup_cons] at h
      cases e:x==n' with
      | true =>
       rw [e] at h
       have:x=n':=by simpa using e
       subst this
       cases h
       exact List.mem_cons_self
      | false=>rw [e] at h; exact List.mem_cons_of_mem _ (ih h)
    exact this _ t2
   obtain ⟨c',hc'⟩:=hfr _ hm rfl
   have hc'':=hcl x c' hc'
   rw [hcc] at hc''
   cases hc''
   obtain ⟨o,ho,hd⟩:=hcell
   exact ⟨c,hc',o,old c o ho,hd⟩
 ·obtain ⟨v,o,e,d⟩:=I.cell x c (hcl x c h)
  exact ⟨v,o,old c o e,d⟩
 ·show upd H₂ _ _ C=none
  rw [bF (by rw [hC]; exact Nat.ne_of_gt (Nat.lt_succ_self _))]
  exact I.hok.fresh hle
 ·show upd H₂ _ _ c=none
  rw [bF (Nat.ne_of_lt (cellc x c h))]
  exact I.freeC x c (hcl x c h)
 ·have hp:p∈X.pn++pins:=by
   have hp:p∈(X.pn++pins)++[]:=hp
   rwa [List.append_nil] at hp
  obtain ⟨e,n0,ne,nf,d⟩:=I.pin p hp
  have hlt:=lt _ _ e
  refine ⟨old _ _ e,?_,?_,fun z=>?_,d⟩
  ·show upd H₂ _ _ p.1=none
   rw [bF (Nat.ne_of_lt hlt)]; exact n0
  ·show p.1≠C
   exact Nat.ne_of_lt (Nat.lt_of_lt_of_le hlt hle)
  ·rcases List.mem_cons.mp (I.stkSub _ z) with q | q
   ·exact ne q
   ·exact nf q
 ·show (outσ js σ).length=Nc.length
  unfold outσ
  rw [List.length_map]
  exact T.len
end
end L2
namespace L2
open PySem PySem.Spec PyProof.Rows
noncomputable def tTurns (J:It) (g:TG) (ti:TT) (te:TE) (D:Addr) (σ0:St) (H0:Hp) (Q:Hp->Prop):Prop :=
 ∃ W:Nat->Nat->St->Hp->Prop,(∃ m,W 0 m σ0 H0)/\∀ i m σ' H',W i m σ' H' ->
  (J.stop i H'/\Q H')\/(J.go i H'/\∃ Nn:St->Hp->Prop,(∀ σ'' H'',Nn σ'' H''->∃ m',m' < m/\W (i+1) m' σ'' H'') /\
   ∀ x H'',J.yld i H' x H''->g x σ' H'' fun σ2 H2=>ti σ2 H2 fun ok H3=>if ok=true then te σ2 H3 fun y H4=>∃ ys,H4 D=some (.lst ys)/\ys.length < sizeLine/\Nn σ2 (upd H4 D (.lst (ys++[y]))) else Nn σ2 H3)
noncomputable def tComp (js:List (Option Nat)) (wi:TI) (g:TG) (ti:TT) (te:TE):TE:=fun σ H Q=>wi σ H fun J H1=>∀ D,H1 D=none->tTurns J g ti te D (outσ js σ) (upd H1 D (.lst [])) fun H'=>Q (.ref D) H'
noncomputable def PIf (X:Cx) (ifs:List Expr) (ti:TT):Prop :=
 ∀ (pins:List (Addr×Obj)) (s:Shared) (σ:St) (H:Hp) (Q:Bool->Hp->Prop),Inv X pins σ H s->ti σ H Q ->
  wpAny (model X.prog X.w) X.A (forIn ifs true fun c r=>if r=true then do let ok <- isTrue c X.env (eval c X.env); pure (ForInStep.yield ok) else pure (ForInStep.yield r)) (TP X pins σ Q) X.xe s
noncomputable def tYes:TT:=fun _ H Q=>Q true H
theorem aEw {X:Cx}:PIf X [] tYes:=fun _ _ _ H _ I h=>wpAny_tests_nil ⟨H,I,h⟩
theorem aFx {X:Cx} {c:Expr} {tc:TT} (h:PT X c tc):PIf X [c] tc:=fun pins s σ H Q I hq=>wpAny_tests_one (h pins s σ H Q I hq)
theorem thnE {α:Type} {t:Sem α} {Q Q':α->Shared->Prop} {M:Model} {A:Around} {E0 E:Value->Shared->Prop} {s:Shared} (hE:∀ e s,¬ E0 e s) (h:wpAny M A t Q E0 s) (hQ:∀ a s,Q a s->Q' a s):wpAny M A t Q' E s:=wpAny_mono h hQ fun e s z=>(hE e s z).elim
theorem zX {Y:Cx} {tg iter elt:Expr} {ifs:List Expr} {scope:Scope} {pos:Pos} {J:It} {fp:List Addr} {it:Addr} {tn:Nat->Heap->Prop} {g:TG} {ti:TT} {te:TE} {D:Addr} {R:Result->Shared->Prop} {σ0:St} {H0:Hp} {s:Shared} {Q:Hp->Prop}
  (hc:Y.calm=true) (hx:∀ e s,¬ Y.xe e s) (T:Turn Y.prog Y.w Y.K tg J fp it tn) (hg:PG Y tg g) (hi:PIf Y ifs ti) (he:PE Y elt te)
  (stat:∀ H',(∀ b∈fp,H' b=none)->∀ b∈fp,FpOk Y [] H' b) (I0:Inv Y [] σ0 H0 s) (st0:tn 0 s.heap) (fr0:∀ b∈fp,H0 b=none) (h:tTurns J g ti te D σ0 H0 Q)
  (hR:∀ σ' H' s',Inv Y [] σ' H' s'->Q H'->R (.ok .next) s') :
  codeAny (model Y.prog Y.w) Y.A (.compLoop (.ListComp elt [⟨tg,iter,ifs,0⟩] scope pos) 0 (.ref it) (.ref D) Y.env) R s:=by
 obtain ⟨W,⟨m0,w0⟩,turn⟩:=h
 refine codeAny_loop rfl (fun n s'=>∃ i σ' H',Inv Y [] σ' H' s'/\tn i s'.heap/\(∀ b∈fp,H' b=none)/\W i n σ' H') (fun n s' hI=>?_) m0 ⟨0,σ0,H0,I0,st0,fr0,w0⟩
 show wpAny _ Y.A ((compTurn (.ListComp elt [⟨tg,iter,ifs,0⟩] scope pos) 0 (.ref it) (.ref D) Y.env).onRaise (fun x=>do noteFrame x Y.env; theTreesLotGoes x)) _ _ s'
 refine wpAny_noted ?_
 rw [compTurn_list]
 obtain ⟨i,σ3,H3,I3,st3,fr3,w3⟩:=hI
 refine wpAny_bind (wpAny_standAt (wpAny_bind ?_))
 rcases turn i n σ3 H3 w3 with ⟨stop,qn⟩ | ⟨go,Nn,hN,step⟩
 ·refine wpAny_mono (T.done Y rfl rfl rfl hc i [] s' σ3 H3 _ I3 (stat H3 fr3) st3 stop) (fun r s4 ⟨hr,I4⟩=>?_) (fun _ _ h=>h)
  subst hr
  exact wpAny_pure (hR σ3 H3 s4 I4 qn)
 ·refine wpAny_mono (T.item Y rfl rfl rfl hc i [] s' σ3 H3 _ I3 (stat H3 fr3) st3 go) (fun r s4 ⟨u,hr,h4⟩=>?_) (fun _ _ h=>h)
  subst hr
  refine wpAny_bind (wpAny_mono h4 (fun _ s5 ⟨x,H5,I5,r5,y5,st5,fr5⟩=>?_) fun _ _ h=>h)
  have I5':=I5.pinned (stat H5 fr5) (T.obj _ _ st5)
  refine wpAny_bind (thnE hx (hg _ s5 σ3 H5 x u _ I5' r5 (step x H5 y5)) fun _ s6 ⟨σ6,H6,I6,q6⟩=>?_)
  refine wpAny_bind (thnE hx (hi _ s6 σ6 H6 _ I6 q6) fun ok s7 ⟨H7,I7,q7⟩=>?_)
  have again:∀ {σ7:St} {H7:Hp} {s7:Shared},Inv Y ([]++pinsAt fp s5.heap) σ7 H7 s7->Nn σ7 H7->∃ m,m < n/\∃ i σ' H',Inv Y [] σ' H' s7/\tn i s7.heap/\(∀ b∈fp,H' b=none)/\W i m σ' H':=fun {σ7 H7 s7} I7 n7=>by
   obtain ⟨m',hm,w7⟩:=hN σ7 H7 n7
   refine ⟨m',hm,i+1,σ7,H7,I7.unpinned,T.keep _ _ _ st5 fun b hb o e=>(I7.pin (b,o) (List.mem_append_right _ (List.mem_append_right _ (jK hb e)))).1,fun b hb=>?_,w7⟩
   obtain ⟨o,e,d⟩:=T.obj _ _ st5 b hb
   exact (I7.pin (b,o) (List.mem_append_right _ (List.mem_append_right _ (jK hb e)))).2.1
  cases ok with
  | false=>exact wpAny_pure ⟨rfl,again I7 q7⟩
  | true =>
   refine wpAny_bind (wpAny_bind (thnE hx (he _ s7 σ6 H7 _ I7 q7) fun y s8 ⟨yv,H8,I8,r8,ys,hD,hz,n8⟩=>wpAny_bind ?_))
   refine thnE hx (rQ _ s8 σ6 H8 (.ref D) [yv] (.ref D) [y] (fun _ H9=>Nn σ6 H9) I8 rfl (.cons r8 .nil) ⟨D,ys,yv,rfl,rfl,hD,hz,n8⟩) fun _ s9 ⟨_,H9,I9,_,q9⟩=>?_
   exact wpAny_pure (wpAny_pure ⟨rfl,again I9 q9⟩)
section
variable {X:Cx} {tg iter elt:Expr} {ifs:List Expr} {scope:Scope} {pos:Pos} {Nc:List Str} {js:List (Option Nat)} {g:TG} {ti:TT} {te:TE} {wi:TI}
structure CompEnd (X:Cx) (pins:List (Addr×Obj)) (σ:St) (H':Hp) (C:Addr) (s':Shared):Prop where
 inv:Inv X pins σ H' s'
 ns:∃ m,s'.heap.Ns C m
 no:H' C=none
 ne:C≠X.env.locals
 ge:X.s₀.heap.objs.size<=C
 nc:∀ x c,X.env.cells.lookup x=some c->c≠C
 np:∀ p∈X.pn++pins,p.1≠C
theorem CompEnd.go {X:Cx} {pins:List (Addr×Obj)} {σ σ':St} {H':Hp} {C:Addr} {s' t:Shared} (e:CompEnd X pins σ H' C s') (I:Inv X pins σ' H' t) {h':Heap} (hs:Heap.SameBut C t.heap h'):Inv X pins σ' H' { t with heap:=h' } :=
 I.turned (t':=t.toks) (it:=C) (fun b o hb q=>(hs.2 b hb).trans q) e.no e.ne (.inr e.ge) e.nc e.np
theorem pU {pins:List (Addr×Obj)} {σ:St} {H₂:Hp} {s₂:Shared} {fp:List Addr} {it:Addr} {J:It} {tn:Nat->Heap->Prop} {cl:List (Str×Addr)} {E:Value->Shared->Prop} {RR:Value->Addr->Result->Shared->Prop} {Q':Addr->Hp->Prop}
  (hc:X.calm=true) (T:CompOk X.N X.env.scope scope Nc js) (hcl:∀ x c,cl.lookup x=some c->X.env.cells.lookup x=some c) (hfr:∀ y∈scope.names,y.2=.free->∃ c,cl.lookup y.1=some c)
  (hg:∀ cl C fp pins s₂ H₂,PG (compCx X Nc scope cl C fp pins s₂ H₂) tg g) (hi:∀ cl C fp pins s₂ H₂,PIf (compCx X Nc scope cl C fp pins s₂ H₂) ifs ti) (he:∀ cl C fp pins s₂ H₂,PE (compCx X Nc scope cl C fp pins s₂ H₂) elt te)
  (I2:Inv X pins σ H₂ s₂) (Tn:Turn X.prog X.w X.K tg J fp it tn) (st2:tn 0 s₂.heap) (f2:∀ b∈fp,FpOk X pins H₂ b)
  (q:∀ D,H₂ D=none->tTurns J g ti te D (outσ js σ) (upd H₂ D (.lst [])) (Q' D))
  (hRR:∀ D C H' s',CompEnd X pins σ H' C s'->Q' D H'->RR (.ref D) C (.ok .next) s') :
  wpAny (model X.prog X.w) X.A (newList []) (fun acc s₃=>wpAny (model X.prog X.w) X.A (newFunctionEnv scope X.env.globals cl [] X.env.qual none .none (some X.env)) (fun cenv s₄ =>
   codeAny (model X.prog X.w) X.A (.compStart (.ListComp elt [⟨tg,iter,ifs,0⟩] scope pos) 0 (.ref it) acc { cenv with scope:=relabel scope X.env }) (RR acc cenv.locals) s₄) E s₃) E s₂:=by
 refine wpAny_newObj_type (wpAny_newFunctionEnv T.nocell (by intro y hy; simp at hy) (fun h₁ hns₁ hsb₁=>?_) T.kind)
 dsimp only at hns₁ hsb₁ ⊢
 generalize hH2:s₂.heap.push { cls:=.type "list",dict:=none,data:=.seq ([]:List Value).toArray }=Hx at hns₁ hsb₁ ⊢
 have hC:Hx.objs.size=s₂.heap.objs.size+1:=by rw [<- hH2,Heap.size_push]
 have below:∀ b,b < s₂.heap.objs.size->b≠Hx.objs.size:=fun b hb=>by rw [hC]; exact Nat.ne_of_lt (Nat.lt_succ_of_lt hb)
 have old:∀ b o,s₂.heap.get? b=some o->h₁.get? b=some o:=fun b o e=>hsb₁.extBut b o (below b (Heap.lt_size e)) (Heap.get?_push_of_some _ (hH2▸Heap.get?_push_of_some _ e))
 have hD:h₁.get? s₂.heap.objs.size=some { cls:=.type "list",data:=.seq #[] }:=hsb₁.extBut _ _ (by rw [hC]; exact Nat.ne_of_lt (Nat.lt_succ_self _)) (Heap.get?_push_of_some _ (hH2▸Heap.get?_push_size _ rfl))
 have ho:∀ b∈fp,∃ o,s₂.heap.get? b=some o:=fun b hb=>let ⟨o,e,_⟩:=Tn.obj _ _ st2 b hb; ⟨o,e⟩
 have hDn:H₂ s₂.heap.objs.size=none:=I2.hok.fresh (Nat.le_refl _)
 have hle:s₂.heap.objs.size<=Hx.objs.size:=by rw [hC]; exact Nat.le_succ _
 have st1:tn 0 h₁:=Tn.keep _ _ _ st2 fun b _ o e=>old b o e
 have fr1:∀ b∈fp,upd H₂ s₂.heap.objs.size (.lst []) b=none:=fun b hb=>by
  obtain ⟨o,e⟩:=ho b hb
  rw [bF (Nat.ne_of_lt (Heap.lt_size e))]
  exact (f2 b hb).1
 have stat:∀ H',(∀ b∈fp,H' b=none)->∀ b∈fp,FpOk (compCx X Nc scope cl Hx.objs.size fp pins s₂ H₂) [] H' b:=fun H' hn b hb=>by
  obtain ⟨g0,g1,g2,g3,g4,g5⟩:=f2 b hb
  obtain ⟨o,e⟩:=ho b hb
  refine ⟨hn b hb,below b (Heap.lt_size e),fun z=>?_,.inl hb,fun x c h=>g4 x c (hcl x c h),fun p hp=>g5 p ?_⟩
  ·rcases List.mem_cons.mp (I2.stkSub b z) with y | y
   ·exact g1 y
   ·exact g2 y
  ·have hp:p∈(X.pn++pins)++[]:=hp
   rwa [List.append_nil] at hp
 have loop:∀ tk,codeAny (model X.prog X.w) X.A (.compLoop (.ListComp elt [⟨tg,iter,ifs,0⟩] scope pos) 0 (.ref it) (.ref s₂.heap.objs.size) (compEnvC scope cl Hx.objs.size X.env)) (RR (.ref s₂.heap.objs.size) Hx.objs.size) { s₂ with heap:=h₁,toks:=tk }:=fun tk=>by
  refine zX (Y:=compCx X Nc scope cl Hx.objs.size fp pins s₂ H₂) rfl (fun _ _ z=>z) Tn (hg _ _ _ _ _ _) (hi _ _ _ _ _ _) (he _ _ _ _ _ _) stat
   (xP (tk:=tk) I2 hc T hcl hfr f2 ho hC old hns₁ hD) st1 fr1 (q _ hDn) fun σ' H' s' I' qQ=>?_
  obtain ⟨m,hm,_⟩:=I'.loc
  refine hRR _ _ H' s' ⟨?_,⟨m,hm⟩,I'.free,Nat.ne_of_gt (Nat.lt_of_lt_of_le I2.lt hle),Nat.le_trans I2.sz hle,fun x c h=>?_,fun p hp=>?_⟩ qQ
  ·exact I2.call' (ch:=fp) I'.os I'.base I'.hok I'.bare fun b hb=>let ⟨g0,g1,g2,g3,g4,g5⟩:=f2 b hb; ⟨g3,g1,g4,g5⟩
  ·obtain ⟨v,o,e,_⟩:=I2.cell x c h
   exact below c (Heap.lt_size e)
  ·exact below _ (Heap.lt_size (I2.pin p hp).1)
 exact codeAny_compStart_list (loop _) (Tn.self _ _ _ _ _ st1 (loop _))
theorem aDu (hc:X.calm=true) (T:CompOk X.N X.env.scope scope Nc js) (hit:PI X tg iter wi)
  (hg:∀ cl C fp pins s₂ H₂,PG (compCx X Nc scope cl C fp pins s₂ H₂) tg g) (hi:∀ cl C fp pins s₂ H₂,PIf (compCx X Nc scope cl C fp pins s₂ H₂) ifs ti) (he:∀ cl C fp pins s₂ H₂,PE (compCx X Nc scope cl C fp pins s₂ H₂) elt te)
  (hs:∀ x,foldedSetIterable iter X.env x=pure x:=by intro _; rfl):PE X (.ListComp elt [⟨tg,iter,ifs,0⟩] scope pos) (tComp js wi g ti te):=by
 intro pins s σ H Q I h
 rw [eval_ListComp]
 obtain ⟨cl,hcl0,hcl,hfr⟩:=lQ (scope:=scope) (env:=X.env) (fun y hy hf=>I.ok.has y.1 (.inl (T.free y hy hf)))
 refine wpAny_comprehension_free (use:=none) rfl hs hcl0 T.kind T.names (thn (hit pins s σ H _ I h) fun xv s1 h1=>thn h1 fun itv s2 h2=>?_)
 obtain ⟨it,fp,tn,J,H2,e,I2,Tn,st2,f2,q⟩:=h2
 subst e
 refine pU (RR:=fun acc C=>compPost (model X.prog X.w) X.A X.xe none (EP X pins σ Q) acc C) hc T hcl hfr hg hi he I2 Tn st2 f2 q fun D C H' s' ce qD=>?_
 obtain ⟨m,hm⟩:=ce.ns
 exact ⟨m,hm,fun h' hs'=>⟨.ref D,H',ce.go ce.inv hs',rfl,qD⟩⟩
theorem xT {i:Nat} {y:Str} {py spos:Pos} (hN:X.N.Nodup) (hyi:X.N[i]?=some y) (hy:X.env.scope.names.lookup y=some .local) (hc:X.calm=true) (T:CompOk X.N X.env.scope scope Nc js) (hit:PI X tg iter wi)
  (hg:∀ cl C fp pins s₂ H₂,PG (compCx X Nc scope cl C fp pins s₂ H₂) tg g) (hi:∀ cl C fp pins s₂ H₂,PIf (compCx X Nc scope cl C fp pins s₂ H₂) ifs ti) (he:∀ cl C fp pins s₂ H₂,PE (compCx X Nc scope cl C fp pins s₂ H₂) elt te)
  (hsw:swapsWith (.ListComp elt [⟨tg,iter,ifs,0⟩] scope pos) (some (.Name y py)) spos.line X.env=pure true:=by rfl)
  (hs:∀ x,foldedSetIterable iter X.env x=pure x:=by intro _; rfl):PS X (.Assign [.Name y py] (.ListComp elt [⟨tg,iter,ifs,0⟩] scope pos) spos) (tAsg (tComp js wi g ti te) (gName i)):=by
 intro pins s σ H D0 I h
 rw [exec_Assign_Name_used _ _ _ _ hsw]
 obtain ⟨cl,hcl0,hcl,hfr⟩:=lQ (scope:=scope) (env:=X.env) (fun y hy hf=>I.ok.has y.1 (.inl (T.free y hy hf)))
 refine wpAny_bind (wpAny_standAt (wpAny_bind ?_))
 show wpAny _ X.A (do let _ <- comprehension (.ListComp elt [⟨tg,iter,ifs,0⟩] scope pos) scope X.env _ (newList []) false (eval iter X.env) (some (assign (.Name y py) X.env))) _ _ s
 refine wpAny_bind (wpAny_mono (wpAny_comprehension_free (use:=some (assign (.Name y py) X.env)) (Q:=fun _ s'=>SP X pins D0 .next s') rfl hs hcl0 T.kind T.names
  (thn (hit pins s σ H _ I h) fun xv s1 h1=>thn h1 fun itv s2 h2=>?_)) (fun _ s' hq=>wpAny_pure (wpAny_pure hq)) fun _ _ e=>e)
 obtain ⟨it,fp,tn,J,H2,e,I2,Tn,st2,f2,q⟩:=h2
 subst e
 refine pU (RR:=fun acc C=>compPost (model X.prog X.w) X.A X.xe (some (assign (.Name y py) X.env)) (fun _ s'=>SP X pins D0 .next s') acc C) hc T hcl hfr hg hi he I2 Tn st2 f2 q fun D C H' s' ce qD=>?_
 obtain ⟨m,hm⟩:=ce.ns
 show wpAny _ _ (assign (.Name y py) X.env (.ref D)) _ _ _
 refine wpAny_assign_Name (rX (v:=.ref D) ce.inv hN hyi (.inl hy) rfl (fun s'' I'' ⟨a,sb,ha⟩=>?_) (.inr hy))
 have hCa:C≠a:=by
  rcases ha with rfl | ha
  ·exact ce.ne
  ·exact fun z=>ce.nc y a ha z.symm
 exact ⟨m,hm.sameBut sb hCa,fun h' hs'=>⟨_,H',ce.go I'' hs',qD⟩⟩
end
end L2
namespace L2
open PySem PySem.Spec PyProof.Rows
noncomputable def compOkB (N0:List Str) (sc0 scope:Scope) (Nc:List Str) (js:List (Option Nat)):Bool :=
 decide (scope.kind=.function)&&scope.names.all (fun y=>y.2 != .cell)&&scope.names.all (fun y=>y.2 != .local || scope.names.lookup y.1==some .local)&&scope.names.all (fun y=>y.2 != .free || sc0.names.lookup y.1==some .cell) &&
  (js.length==Nc.length)&&(Nc.zip js).all (fun p=>match p.2 with | none=>true | some j=>N0[j]?==some p.1&&scope.names.lookup p.1==some .free&&sc0.names.lookup p.1==some .cell)
theorem CompOk.of {N0:List Str} {sc0 scope:Scope} {Nc:List Str} {js:List (Option Nat)} (h:compOkB N0 sc0 scope Nc js=true):CompOk N0 sc0 scope Nc js:=by
 unfold compOkB at h
 simp only [Bool.and_eq_true,List.all_eq_true,beq_iff_eq,decide_eq_true_eq] at h
 obtain ⟨⟨⟨⟨⟨h1,h2⟩,h3⟩,h4⟩,h5⟩,h6⟩:=h
 refine ⟨h1,fun y hy=>by simpa using h2 y hy,fun y hy e=>?_,fun y hy e=>?_,h5,fun p hp j hj=>?_⟩
 ·have:=h3 y hy
  simpa [e] using this
 ·have:=h4 y hy
  simpa [e] using this
 ·have:=h6 p hp
  have hj:p.2=some j:=hj
  rw [hj] at this
  simpa [and_assoc] using this
section
variable {g:TG} {ti:TT} {te:TE} {D:Addr} {σ0:St} {H0:Hp} {Q:Hp->Prop}
end
section
variable {X:Cx} {a b:Expr} {rest:List Expr} {ta tb:TE} {pos:Pos} {tg:Expr}
end
end L2
namespace L2
open PySem PySem.Spec PyProof.Rows
section
variable {prog:Program} {w:World} {A:Around} {E:Value->Shared->Prop} {s:Shared}
end
section
variable {X:Cx} {tg:Expr}
theorem vP:CallR X (.type "range") (fun xs H Q=>∃ j,xs=[.int j]/\∀ p,H p=none->Q (.ref p) (upd H p (.rng 0 j))):=by
 intro pins s σ H xs us Q I r h
 obtain ⟨j,e,q⟩:=h
 subst e
 obtain ⟨u,rfl,r1⟩:=vals1 r
 obtain ⟨t,rfl⟩:=r1
 refine call_range_1 ⟨.ref s.heap.objs.size,upd H s.heap.objs.size (.rng 0 j),?_,rfl,q _ (I.hok.fresh (Nat.le_refl _))⟩
 exact I.laid (fun b u e=>Heap.get?_push_of_some _ e) (Nat.le_refl _) ⟨_,_,_,Heap.get?_push_size _ rfl⟩
end
end L2
namespace L2
open PySem PySem.Spec PyProof.Rows
section
variable {X:Cx} {st:Stmt} {rest:List Stmt} {t u:TS}
end
theorem nT:bootBuiltins "int"=some (.type "int"):=by decide +kernel
theorem xE:bootBuiltins "max"=some (.builtin "max"):=by decide +kernel
theorem aDf:bootBuiltins "min"=some (.builtin "min"):=by decide +kernel
theorem fZ:bootBuiltins "tuple"=some (.type "tuple"):=by decide +kernel
theorem aEi:bootBuiltins "list"=some (.type "list"):=by decide +kernel
theorem lD:bootBuiltins "sorted"=some (.builtin "sorted"):=by decide +kernel
end L2
namespace L2
open PySem
noncomputable def Scr (K:PySem.W.Frag) (H:Hp) (a:Addr) (xs:List V):Prop:=(∃ o,H a=some (.frz o (.lst xs)))\/∀ H',SqL K H' a xs
theorem Scr.sq {K:PySem.W.Frag} {H:Hp} {a:Addr} {xs:List V} (h:Scr K H a xs):SqL K H a xs:=by
 rcases h with ⟨o,h⟩ | h
 ·exact .inl (.inr ⟨o,h⟩)
 ·exact h H
theorem Scr.of {K:PySem.W.Frag} {H:Hp} {a:Addr} {xs:List V} (hO:Only H) (h:SqL K H a xs):Scr K H a xs:=by
 rcases h with (h | ⟨o,h⟩) | h
 ·rcases hO a with z | ⟨o,ys,z⟩
  ·rw [h] at z; cases z
  ·rw [h] at z; cases z
 ·exact .inl ⟨o,h⟩
 ·exact .inr fun _=>.inr h
noncomputable def SB (l:Addr) (H H':Hp):Prop:=∀ x o,x≠l->H x=some o->H' x=some o
theorem Scr.sb {K:PySem.W.Frag} {H H':Hp} {a l:Addr} {xs ys:List V} (h:Scr K H a xs) (hl:H l=some (.lst ys)) (s:SB l H H'):Scr K H' a xs:=by
 rcases h with ⟨o,h⟩ | h
 ·exact .inl ⟨o,s _ _ (aKg h hl (by intro z; cases z)) h⟩
 ·exact .inr h
theorem Scr.same {K:PySem.W.Frag} {H H':Hp} {a:Addr} {xs:List V} (h:Scr K H a xs) (s:Same H H'):Scr K H' a xs:=by
 rcases h with ⟨o,h⟩ | h
 ·exact .inl ⟨o,s _ _ h⟩
 ·exact .inr h
theorem SB.trans {l:Addr} {H H1 H2:Hp} (s:SB l H H1) (t:SB l H1 H2):SB l H H2:=fun x u n e=>t x u n (s x u n e)
open PySem.Spec PyProof.Rows
section
variable {X:Cx}
end
end L2
namespace Com
open PySem L2
structure IW (n k high low past now:Int):Prop where
 h0:0<=high
 hb:high<=1000000
 l0:0<=low
 lb:low<=1000000
 g:Int.gcd high low=Int.gcd n (k % n)
 d1:n ∣ k*past - high
 d2:n ∣ k*now - low
structure PV (n k e told square left:Int):Prop where
 t0:0<=told
 t1:told < n
 s0:0<=square
 s1:square < n
 l0:0<=left
 eq:told*square ^ left.toNat % n=k ^ e.toNat % n
noncomputable def bitsN:List Int->Nat
 | []=>0
 | b::r=>b.toNat+2*bitsN r
structure DG (e0 e:Int) (ds:List Int):Prop where
 nn:0<=e
 bit:∀ d∈ds,d=0\/d=1
 len:∃ m:Nat,e.toNat < 2 ^ m/\ds.length+m=62
 val:∀ r,bitsN r=e.toNat->bitsN (ds++r)=e0.toNat
noncomputable def BoxAt (H:Hp) (b:Addr):Prop:=∃ c s t:Int,H b=some (.lst [.int c,.int s,.int t])
noncomputable def Keep (b:Addr) (H H':Hp):Prop:=(∀ a o,a≠b->H a=some o->H' a=some o)/\BoxAt H' b
theorem Keep.trans {b:Addr} {H H1 H2:Hp} (x:Keep b H H1) (y:Keep b H1 H2):Keep b H H2:=⟨fun a o n e=>y.1 a o n (x.1 a o n e),y.2⟩
theorem Keep.same {b:Addr} {H H1 H2:Hp} (x:Keep b H H1) (y:Same H1 H2):Keep b H H2:=⟨fun a o n e=>y a o (x.1 a o n e),by obtain ⟨c,s,t,h⟩:=x.2; exact ⟨c,s,t,y _ _ h⟩⟩
theorem small {n:Nat} (h:n<=1000):n<=sizeLine:=Nat.le_of_lt (small1000 h)
end Com
namespace L2
open PySem PySem.Spec PyProof.Rows
section
variable {X:Cx} {K:PySem.W.Frag}
end
end L2
namespace L2
open PySem PySem.Spec PyProof.Rows
section
variable {P:Program} {W:World} {Ar:Around} {Ex:Value->Shared->Prop} {hp:Heap} {gn:Array GenState} {dr:Drawn} {tk:Nat} {oz:OsState}
variable {nm qn:Str} {C N:Addr} {bs bm bmB:List Value} {hdct:Bool} {sn:List Str} {sub:List Value} {ab:Bool} {col:Option Bool} {dd:Option Addr} {k0 k1 k2 k3 k5:Option Value} {B newId initId:String}
theorem tX (F:ExcBaseFacts B newId initId bmB) (T:OwnTail hp bmB bm) {mN:Str->Option Value} {rs:List Value} {fI:Addr} {oI:Obj} {Q:Fin->Shared->Prop}
  (hC:hp.get? C=some (excClassObj nm qn C N bs bm hdct sn sub ab col dd k0 k1 k2 k3 k5 newId)) (nsN:hp.Ns N mN) (iN:mN "__init__"=some (.ref fI)) (gI:hp.get? fI=some oI) (cI:oI.cls=.type "function")
  (go:∀ h' e,Heap.MadeExcOf hp h' e (.ref C) rs->wpAny (model P W) Ar (call (.ref fI) (.ref e::rs)) (fun r s'=>r=.none/\Q (.done (.ret (.ref e))) s') Ex ⟨h',gn,dr,tk,oz⟩) (few:rs.length<=sizeLine:=by size_fits) :
  wpAny (model P W) Ar (Builtin.«type.__call__» ⟨.ref C::rs,[]⟩) Q Ex ⟨hp,gn,dr,tk,oz⟩:=by
 repeat (first | with_reducible refine wpAny_loadPart_at hC ?_ | with_reducible refine wpAny_madeBy_exc hC ?_ | wp_step)
 refine codeAny_call_builtin_code (Code.quiet_builtin _ F.quiet) (wpAny_check_new_subT F T hC (codeAny_exc_new_subT F T hC ?_ few))
 show wpAny _ _ _ _ _ _
 generalize eO1:({ cls:=.type "tuple",data:=.seq rs.toArray }:Obj)=O1
 generalize eO2:({ cls:=.ref C,data:=.fields #[.ref hp.objs.size,.none,.none,.none,.bool false,.none] }:Obj)=O2
 have keep:∀ b o,hp.get? b=some o->((hp.push O1).push O2).get? b=some o:=fun b o e=>Heap.get?_push_of_some _ (Heap.get?_push_of_some _ e)
 have at2:((hp.push O1).push O2).get? (hp.objs.size+1)=some O2:=by subst eO1 eO2; heap_get
 have own:(Value.ref C::bm).contains (.ref C)=true:=by simp
 have C1:=keep _ _ hC
 unfold isInstance
 have c2:O2.cls=.ref C:=by subst eO2; rfl
 repeat (first | (with_reducible refine wpAny_loadPart_at at2 ?_; rw [c2]) | (with_reducible refine wpAny_isSubtype_exc C1 ?_; rw [own]) | wp_step)
 refine wpAny_typeLookup_tail C1 (nsN.keeps keep) (T.keeps keep) F.mroIs F.init.lookup ?_
 rw [iN]
 unfold bindSpecial
 refine wpAny_holding (wpAny_bind (wpAny_bind (wpAny_typeOf (T:="function") ⟨_,keep _ _ gI,cI⟩ ?_)))
 rw [if_pos (by decide)]
 have made:Heap.MadeExcOf hp ((hp.push O1).push O2) (hp.objs.size+1) (.ref C) rs :=
  ⟨keep,Heap.get?_none_of_le (Nat.le_succ _),hp.objs.size,by rw [at2,<- eO2],Heap.get?_none_of_le (Nat.le_refl _),by subst eO1; exact Heap.get?_push_of_some _ (Heap.get?_push_at rfl rfl)⟩
 refine wpAny_pure (wpAny_bind (wpAny_mono (go _ _ made) (fun r s' z=>?_) fun _ _ x=>x))
 obtain ⟨rfl,z⟩:=z
 wp_walk
 exact z
theorem xL (F:ExcBaseFacts B newId initId bmB) (T:OwnTail hp bmB bm) {mN:Str->Option Value} {rs:List Value} {fI:Addr} {oI:Obj} {Q:Value->Shared->Prop}
  (hC:hp.get? C=some (excClassObj nm qn C N bs bm hdct sn sub ab col dd k0 k1 k2 k3 k5 newId)) (nsN:hp.Ns N mN) (iN:mN "__init__"=some (.ref fI)) (gI:hp.get? fI=some oI) (cI:oI.cls=.type "function")
  (go:∀ h' e,Heap.MadeExcOf hp h' e (.ref C) rs->wpAny (model P W) (Ar.under (.builtin "type.__call__" ⟨.ref C::rs,[]⟩)) (call (.ref fI) (.ref e::rs)) (fun r s'=>r=.none/\Q (.ref e) s') Ex ⟨h',gn,dr,tk,oz⟩) (few:rs.length<=sizeLine:=by size_fits) :
  wpAny (model P W) Ar (call (.ref C) rs) Q Ex ⟨hp,gn,dr,tk,oz⟩:=by
 have f1:=tc_lookup
 have f2:=tc_bind (.ref C)
 have ty:(⟨hp,gn,dr,tk,oz⟩:Shared).TypeIs (.ref C) "type":=⟨_,hC,rfl⟩
 refine wpAny_call (codeAny_of_tree (show wpAny _ _ (callAny (.ref C) _) _ _ _ from ?_))
 repeat (any_goals (first | assumption | with_reducible refine wpAny_loadPart_at hC ?_ | wp_step))
 exact ⟨rfl,codeAny_call_builtin_at (Code.quiet_builtin _ (by decide +kernel)) entry_typeCall (wpAny_check_type_call_sub hC (tX (few:=few) F T hC nsN iN gI cI go))⟩
end
end L2
namespace L2
open PySem PySem.Spec PyProof.Rows
noncomputable def XRec (P:Addr->Prop) (H:Hp) (h:Heap) (e C:Addr) (d:Option Addr):Prop :=
 ∃ vs sl,h.get? e=some ⟨.ref C,d,.fields vs,sl⟩/\1 < vs.size /\
  (vs[1]?=some .none\/∃ T cT dT ts sT,vs[1]?=some (.ref T)/\P T/\H T=none/\h.get? T=some ⟨cT,dT,.fields ts,sT⟩/\3 < ts.size)
theorem XRec.imp {P P':Addr->Prop} {H:Hp} {h:Heap} {e C:Addr} {d:Option Addr} (x:XRec P H h e C d) (i:∀ T,P T->P' T):XRec P' H h e C d:=by
 obtain ⟨vs,sl,h1,h2,h3 | ⟨T,cT,dT,ts,sT,a1,a2,a3⟩⟩:=x
 ·exact ⟨vs,sl,h1,h2,.inl h3⟩
 ·exact ⟨vs,sl,h1,h2,.inr ⟨T,cT,dT,ts,sT,a1,i T a2,a3⟩⟩
section
variable {M:Model} {A A':Around} {E:Value->Shared->Prop} {s:Shared} {env:Env} {outer:List Env} {base:Heap} {L e C:Addr} {d:Option Addr} {H:Hp} {P:Addr->Prop} {Q:Unit->Shared->Prop}
theorem dP {h:Heap} {a:Addr} {c:Value} {d:Option Addr} {vs:Array Value} {sl:Array (Option Value)} {i:Nat} {x:Value} (ha:h.get? a=some ⟨c,d,.fields vs,sl⟩) :
  (h.update a (Obj.mapFields (·.setIfInBounds i x))).get? a=some ⟨c,d,.fields (vs.setIfInBounds i x),sl⟩:=Heap.get?_update_self _ ha rfl
theorem bJ {h:Heap} {a b:Addr} {f:Obj->Obj} (n:b≠a):(h.update a f).get? b=h.get? b:=Heap.get?_update_other _ _ (Ne.symm n)
theorem qW {vs:Array Value} {sl:Array (Option Value)} {head:Value} {hb:Bool} (hfr:A.frames=some (env::outer)) (hl:s.heap.FunFrames base (env::outer)) (hf:env.frame=some L)
  (he:s.heap.get? e=some ⟨.ref C,d,.fields vs,sl⟩) (hz:1 < vs.size) (hP:∀ T,s.heap.objs.size<=T->P T) (hN:∀ T,s.heap.objs.size<=T->H T=none)
  (hQ:∀ h',(∀ b o,b≠e->b∉frs (env::outer)->s.heap.get? b=some o->h'.get? b=some o)->(∀ b o,b∈frs (env::outer)->s.heap.get? b=some o->∃ sl,h'.get? b=some { o with slots:=sl }) ->
   XRec P H h' e C d->Q () { s with heap:=h' }) :
  wpAny M A (do let a <- frameOf env; let pl <- entryPlaceOf L hb; let t <- EntryCells.newEntry head a .none (rawInt L) .none pl; setField (.ref e) 1 t) (fun _ s₂=>wpAny M A' (setFlight (.ref e) none) Q E s₂) E s:=by
 have nfr:e∉frs (env::outer):=fun z=>by
  obtain ⟨_,o,q,n⟩:=hl.mem z
  rw [he] at q; cases q; exact n vs rfl
 refine wpAny_bind (wpAny_frameOf_fun hfr hl hf fun h1 so=>?_)
 refine wpAny_bind (wpAny_entryPlaceOf fun pl isp=>wpAny_bind ?_)
 unfold EntryCells.newEntry newFields
 refine wpAny_newObj_type ?_ (isp.sizeOk5 _ _ _ _ _)
 generalize eT:([head,Value.ref L,.none,rawInt L,.none]++(if pl.isEmpty then List.replicate 6 Value.none else pl)).toArray=tv
 have hsz:3 < tv.size:=by rw [<- eT]; simp only [List.size_toArray,List.length_append,List.length_cons]; omega
 have e1:h1.get? e=some ⟨.ref C,d,.fields vs,sl⟩:=(so.2.1 e nfr).trans he
 have ne:e≠h1.objs.size:=Nat.ne_of_lt (Heap.lt_size e1)
 generalize eo:({ cls:=.type "traceback",dict:=none,data:=.fields tv }:Obj)=oT
 have e2:(h1.push oT).get? e=some ⟨.ref C,d,.fields vs,sl⟩:=Heap.get?_push_of_some _ e1
 refine wpAny_setField e2 rfl hz ?_
 have e3:=dP (i:=1) (x:=.ref h1.objs.size) e2
 have t3:((h1.push oT).update e (Obj.mapFields (·.setIfInBounds 1 (.ref h1.objs.size)))).get? h1.objs.size=some ⟨.type "traceback",none,.fields tv,#[]⟩:=by
  rw [bJ (Ne.symm ne),<- eo]; exact Heap.get?_push_size h1 rfl
 unfold setFlight
 refine wpAny_bind (wpAny_field e3 rfl (x:=.ref h1.objs.size) (by simp [hz]) ?_)
 rw [if_pos (by simp)]
 refine wpAny_setField t3 rfl hsz (hQ _ (fun b o nb nf q=>?_) (fun b o bf q=>?_) ?_)
 ·have q1:=(so.2.1 b nf).trans q
  rw [bJ (Nat.ne_of_lt (Heap.lt_size q1)),bJ nb]
  exact Heap.get?_push_of_some _ q1
 ·obtain ⟨sl',q1⟩:=so.2.2 b o q
  have nb:b≠e:=fun z=>nfr (z▸bf)
  exact ⟨sl',by rw [bJ (Nat.ne_of_lt (Heap.lt_size q1)),bJ nb]; exact Heap.get?_push_of_some _ q1⟩
 ·refine ⟨_,sl,by rw [bJ ne]; exact e3,by simpa using hz,.inr ⟨h1.objs.size,_,_,_,_,by simp [hz],hP _ (by rw [so.1]; exact Nat.le_refl _),hN _ (by rw [so.1]; exact Nat.le_refl _),dP t3,?_⟩⟩
  simp [hsz]
theorem flight (hfr:A.frames=some (env::outer)) (hl:s.heap.FunFrames base (env::outer)) (hf:env.frame=some L) (x:XRec P H s.heap e C d) (he:H e≠none)
  (hP:∀ T,s.heap.objs.size<=T->P T) (hN:∀ T,s.heap.objs.size<=T->H T=none)
  (hQ:∀ (h':Heap) (ch:List Addr),(∀ b∈ch,P b/\H b=none/\b∉frs (env::outer))->(∀ b o,b≠e->b∉frs (env::outer)->b∉ch->s.heap.get? b=some o->h'.get? b=some o)->(∀ b o,b∈frs (env::outer)->s.heap.get? b=some o->∃ sl,h'.get? b=some { o with slots:=sl }) ->
   (∀ b o,s.heap.get? b=some o->∃ o',h'.get? b=some o')->XRec P H h' e C d->Q () { s with heap:=h' }) :
  wpAny M A (noteFrame (.ref e) env) (fun _ s₂=>wpAny M A' (setFlight (.ref e) none) Q E s₂) E s:=by
 obtain ⟨vs,sl,h1,h2,h3 | ⟨T,cT,dT,ts,sT,a1,a2,a3,a4,a5⟩⟩:=x
 ·unfold noteFrame
  simp only [hf]
  refine wpAny_bind (wpAny_field h1 rfl h3 ?_)
  rw [if_neg (by decide)]
  refine qW (P:=P) (H:=H) hfr hl hf h1 h2 hP hN fun h' k1 k2 r=>hQ h' [] (fun _ z=>nomatch z) (fun b o n nf _ q=>k1 b o n nf q) k2 (fun b o q=>?_) r
  by_cases hb:b∈frs (env::outer)
  ·obtain ⟨sl,q⟩:=k2 b o hb q; exact ⟨_,q⟩
  ·by_cases hbe:b=e
   ·subst hbe; obtain ⟨_,_,r,_⟩:=r; exact ⟨_,r⟩
   ·exact ⟨_,k1 b o hbe hb q⟩
 ·have ne:e≠T:=fun z=>he (z▸a3)
  have nfr:T∉frs (env::outer):=fun z=>by
   obtain ⟨_,o,q,n⟩:=hl.mem z
   rw [a4] at q; cases q; exact n ts rfl
  unfold noteFrame
  simp only [hf]
  refine wpAny_bind (wpAny_field h1 rfl a1 ?_)
  rw [if_pos (show (Value.ref T != Value.none)=true by simp)]
  refine wpAny_bind (wpAny_field a4 rfl (Array.getElem?_eq_getElem a5) ?_)
  by_cases here:(ts[3]==rawInt L)=true
  ·rw [if_pos here]
   refine wpAny_pure ?_
   unfold setFlight
   refine wpAny_bind (wpAny_field h1 rfl a1 ?_)
   rw [if_pos (show (Value.ref T != Value.none)=true by simp)]
   refine wpAny_setField a4 rfl a5 (hQ _ [T] (fun b hb=>?_) (fun b o _ _ nb q=>(bJ fun z=>nb (by simp [z])).trans q) (fun b o hb q=>⟨o.slots,(bJ (a:=T) (fun (z:b=T)=>nfr (z▸hb))).trans q⟩) (fun b o q=>?_) ⟨vs,sl,(bJ ne).trans h1,h2,.inr ⟨T,cT,dT,_,sT,a1,a2,a3,dP a4,by simpa using a5⟩⟩)
   ·rw [List.mem_singleton] at hb; subst hb; exact ⟨a2,a3,nfr⟩
   ·by_cases z:b=T
    ·subst z; exact ⟨_,dP a4⟩
    ·exact ⟨o,(bJ z).trans q⟩
  rw [if_neg here]
  refine wpAny_bind (wpAny_setField a4 rfl a5 ?_)
  have hsz:(s.heap.update T (Obj.mapFields (·.setIfInBounds 3 Value.none))).objs.size=s.heap.objs.size:=Heap.size_after_update ..
  refine qW (P:=P) (H:=H) hfr (hl.of_keeps fun b o q n=>⟨o,(bJ fun z=>?_).trans q,rfl⟩) hf ((bJ ne).trans h1) h2 (fun U hU=>hP U (by rw [<- hsz]; exact hU)) (fun U hU=>hN U (by rw [<- hsz]; exact hU)) fun h' k1 k2 r=>hQ h' [T] (fun b hb=>?_) (fun b o n nf nc q=>k1 b o n nf ((bJ fun z=>nc (by simp [z])).trans q)) (fun b o bf q=>k2 b o bf ((bJ (a:=T) (fun (z:b=T)=>nfr (z▸bf))).trans q)) (fun b o q=>?_) r
  ·subst z; rw [a4] at q; cases q; exact n ts rfl
  ·rw [List.mem_singleton] at hb; subst hb; exact ⟨a2,a3,nfr⟩
  ·have:∃ o1,(s.heap.update T (Obj.mapFields (·.setIfInBounds 3 Value.none))).get? b=some o1:=by
    by_cases z:b=T
    ·subst z; exact ⟨_,dP a4⟩
    ·exact ⟨o,(bJ z).trans q⟩
   obtain ⟨o1,q⟩:=this
   by_cases hb:b∈frs (env::outer)
   ·obtain ⟨sl,q⟩:=k2 b o1 hb q; exact ⟨_,q⟩
   ·by_cases hbe:b=e
    ·subst hbe; obtain ⟨_,_,r,_⟩:=r; exact ⟨_,r⟩
    ·exact ⟨_,k1 b o1 hbe hb q⟩
theorem wU (x:XRec P H s.heap e C d) (he:H e≠none) 
  (hQ:∀ (h':Heap) (ch:List Addr),(∀ b∈ch,P b/\H b=none)->(∀ b o,b∉ch->s.heap.get? b=some o->h'.get? b=some o)->(∀ b o,s.heap.get? b=some o->∃ o',h'.get? b=some o')->XRec P H h' e C d->Q () { s with heap:=h' }) :
  wpAny M A (setFlight (.ref e) none) Q E s:=by
 obtain ⟨vs,sl,h1,h2,h3 | ⟨T,cT,dT,ts,sT,a1,a2,a3,a4,a5⟩⟩:=x
 ·unfold setFlight
  refine wpAny_bind (wpAny_field h1 rfl h3 ?_)
  rw [if_neg (by decide)]
  exact wpAny_pure (hQ s.heap [] (fun _ z=>nomatch z) (fun _ _ _ q=>q) (fun b o q=>⟨o,q⟩) ⟨vs,sl,h1,h2,.inl h3⟩)
 ·have ne:e≠T:=fun z=>he (z▸a3)
  have hz3:=a5
  unfold setFlight
  refine wpAny_bind (wpAny_field h1 rfl a1 ?_)
  rw [if_pos (show (Value.ref T != Value.none)=true by simp)]
  refine wpAny_setField a4 rfl hz3 (hQ _ [T] (fun b hb=>?_) (fun b o nb q=>(bJ fun z=>nb (by simp [z])).trans q) (fun b o q=>?_) ⟨vs,sl,(bJ ne).trans h1,h2,.inr ⟨T,cT,dT,_,sT,a1,a2,a3,dP a4,?_⟩⟩)
  ·rw [List.mem_singleton] at hb; subst hb; exact ⟨a2,a3⟩
  ·by_cases z:b=T
   ·subst z; exact ⟨_,dP a4⟩
   ·exact ⟨o,(bJ z).trans q⟩
  ·simp [hz3]
end
end L2
namespace L2
open PySem PySem.Spec PyProof.Rows
noncomputable def XO (e C:Addr) (d:Option Addr):HO:=.ext fun h=>∃ vs sl,h.get? e=some ⟨.ref C,d,.fields vs,sl⟩
theorem XO.ok {P:Program} {w:World} {H:Hp} {h:Heap} {e C:Addr} {d:Option Addr} {vs:Array Value} {sl:Array (Option Value)} (q:h.get? e=some ⟨.ref C,d,.fields vs,sl⟩):ObjOk P w H h e (XO e C d) :=
 ⟨⟨vs,sl,q⟩,⟨_,q⟩,fun h1 h2 ⟨vs,sl,z⟩ k=>⟨vs,sl,k _ z⟩⟩
theorem XO.at {P:Program} {w:World} {H:Hp} {h:Heap} {e C:Addr} {d:Option Addr} (x:HOk P w H h) (q:H e=some (XO e C d)):∃ vs sl,h.get? e=some ⟨.ref C,d,.fields vs,sl⟩:=(x e _ q).1
noncomputable def Free (X:Cx) (pins:List (Addr×Obj)) (T:Addr):Prop:=X.s₀.heap.objs.size<=T/\T≠X.env.locals/\(∀ x c,X.env.cells.lookup x=some c->c≠T)/\∀ p∈X.pn++pins,p.1≠T
section
variable {X:Cx} {pins:List (Addr×Obj)} {σ:List (Option V)} {H H':Hp} {s s':Shared} {e C:Addr} {d:Option Addr} {M:Model} {A A':Around} {E:Value->Shared->Prop} {Q:Unit->Shared->Prop}
theorem Inv.freeNew (I:Inv X pins σ H s) {T:Addr} (h:s.heap.objs.size<=T):Free X pins T:=by
 refine ⟨Nat.le_trans I.sz h,Nat.ne_of_gt (Nat.lt_of_lt_of_le I.lt h),fun x c q=>?_,fun p hp=>?_⟩
 ·obtain ⟨v,o,ho,_⟩:=I.cell x c q
  exact Nat.ne_of_lt (Nat.lt_of_lt_of_le (Heap.lt_size ho) h)
 ·exact Nat.ne_of_lt (Nat.lt_of_lt_of_le (Heap.lt_size (I.pin p hp).1) h)
theorem Inv.moved {h':Heap} {ch:List Addr} (I:Inv X pins σ H s) (he:H e=some (XO e C d)) (hst:X.stack=X.env::X.outer) (hfm:X.env.frame=some X.env.locals)
  (hc:∀ b∈ch,Free X pins b/\H b=none) (k1:∀ b o,b≠e->b∉frs (X.env::X.outer)->b∉ch->s.heap.get? b=some o->h'.get? b=some o)
  (k2:∀ b o,b∈frs (X.env::X.outer)->s.heap.get? b=some o->∃ sl,h'.get? b=some { o with slots:=sl }) (k3:∀ b o,s.heap.get? b=some o->∃ o',h'.get? b=some o')
  {vs:Array Value} {sl:Array (Option Value)} (new:h'.get? e=some ⟨.ref C,d,.fields vs,sl⟩):Inv X pins σ H { s with heap:=h' }:=by
 have hfr:∀ b,b∈frs (X.env::X.outer) ↔ b=X.env.locals\/b∈X.fs:=fun b=>by
  unfold frs; rw [List.filterMap_cons,hfm]; exact List.mem_cons
 have ne:∀ b,H b=none->b≠e:=fun b n z=>by subst z; rw [he] at n; cases n
 have hsf:=I.stkFree
 rw [hst] at hsf
 refine I.step (g':=s.gens) (d':=s.drawn) (t':=s.toks) (ch:=ch) (fun b hb=>⟨.inr (hc b hb).1.1,(hc b hb).1.2⟩) (fun b o nL nf nc q n=>k1 b o (ne b n) (fun z=>((hfr b).mp z).elim nL nf) nc q)
  (fun b o nL bf nc q n=>k2 b o ((hfr b).mpr (.inr bf)) q) (fun _ _ _ _ n=>n) (fun b o _ q=>k3 b o q) (fun _ _ q=>q) (fun _ _ _ q=>q) (fun b ps q=>⟨#[],by rw [q]; simp⟩) (fun m hm=>?_) (fun a o q=>?_) I.bare
 ·obtain ⟨o,es,ep,ho,r⟩:=hm
  obtain ⟨sl,q⟩:=k2 _ o ((hfr _).mpr (.inl rfl)) ho
  exact ⟨_,es,ep,q,r⟩
 ·by_cases ha:a=e
  ·subst ha; rw [he] at q; cases q; exact XO.ok new
  ·refine (I.hok a o q).stay (fun b u hb q'=>k1 b u ?_ ?_ ?_ q') (fun _ z=>z) fun _ _ z=>z
   ·rcases hb with rfl | hb
    ·exact ha
    ·rintro rfl; rw [he] at hb; cases hb
   ·intro z
    have n:=hsf b z
    rcases hb with rfl | hb
    ·rw [q] at n; cases n
    ·rw [hb] at n; cases n
   ·intro z
    have n:=(hc b z).2
    rcases hb with rfl | hb
    ·rw [q] at n; cases n
    ·rw [hb] at n; cases n
theorem Inv.flight (I:Inv X pins σ H s) (hst:X.stack=X.env::X.outer) (hfm:X.env.frame=some X.env.locals) (hA:A.frames=some X.stack) (x:XRec (Free X pins) H s.heap e C d) (he:H e=some (XO e C d))
  (hQ:∀ h',Inv X pins σ H { s with heap:=h' }->XRec (Free X pins) H h' e C d->Q () { s with heap:=h' }) :
  wpAny M A (noteFrame (.ref e) X.env) (fun _ s₂=>wpAny M A' (setFlight (.ref e) none) Q E s₂) E s:=by
 have hl:=I.stack
 rw [hst] at hl hA
 refine L2.flight hA hl hfm x (by rw [he]; simp) (fun T hT=>I.freeNew hT) (fun T hT=>I.hok.fresh hT) fun h' ch hc k1 k2 k3 r=>?_
 obtain ⟨vs,sl,q,_⟩:=id r
 exact hQ h' (I.moved he hst hfm (fun b hb=>⟨(hc b hb).1,(hc b hb).2.1⟩) k1 k2 k3 q) r
theorem Inv.again (I:Inv X pins σ H s) (hst:X.stack=X.env::X.outer) (hfm:X.env.frame=some X.env.locals) (x:XRec (Free X pins) H s.heap e C d) (he:H e=some (XO e C d))
  (hQ:∀ h',Inv X pins σ H { s with heap:=h' }->XRec (Free X pins) H h' e C d->Q () { s with heap:=h' }) :
  wpAny M A (setFlight (.ref e) none) Q E s:=by
 refine wU x (by rw [he]; simp) fun h' ch hc k1 k3 r=>?_
 obtain ⟨vs,sl,q,_⟩:=id r
 have k2:∀ b o,b∈frs (X.env::X.outer)->s.heap.get? b=some o->∃ sl,h'.get? b=some { o with slots:=sl }:=fun b o hb q=>by
  refine ⟨o.slots,k1 b o (fun z=>?_) q⟩
  have hl:=I.stack
  rw [hst] at hl
  rcases List.mem_cons.mp (show b∈X.env.locals::X.fs by unfold frs at hb; rw [List.filterMap_cons,hfm] at hb; exact hb) with rfl | hb'
  ·exact (hc _ z).1.2.1 rfl
  ·obtain ⟨_,o',ho',_⟩:=I.ok.funs.mem hb'
   exact absurd (Heap.lt_size ho') (Nat.not_lt.mpr (hc b z).1.1)
 exact hQ h' (I.moved he hst hfm hc (fun b o _ _ nc q=>k1 b o nc q) k2 k3 q) r
end
noncomputable def CX1 (P:Program) (w:World):CXT:=fun outer H s E ev s'=>∃ a H' C d,ev=.ref a/\s'.os=s.os/\AllBare s'.gens/\Un (frs outer) [] H H' s.heap s'.heap/\HOk P w H' s'.heap /\
 XRec (fun T=>s.heap.objs.size<=T) H' s'.heap a C d/\H' a=some (XO a C d)/\E (.ref a) none H'
noncomputable def XE (X:Cx) (pins:List (Addr×Obj)) (σ:List (Option V)) (R:Addr->Hp->Prop) (ev:Value) (s':Shared):Prop :=
 ∃ a H' C d,ev=.ref a/\Inv X pins σ H' s'/\XRec (Free X pins) H' s'.heap a C d/\H' a=some (XO a C d)/\R a H'
structure Xz (X:Cx) (R:Addr->Hp->Prop):Prop where
 go:∀ pins σ ev s',XE X pins σ R ev s'->X.xe ev s'
theorem XE.imp {X:Cx} {pins:List (Addr×Obj)} {σ:List (Option V)} {R R':Addr->Hp->Prop} {ev:Value} {s':Shared} (x:XE X pins σ R ev s') (h:∀ a H,R a H->R' a H):XE X pins σ R' ev s' :=
 let ⟨a,H',C,d,x1,x2,x3,x4,x5⟩:=x
 ⟨a,H',C,d,x1,x2,x3,x4,h _ _ x5⟩
theorem XE.call {X:Cx} {pins:List (Addr×Obj)} {σ:List (Option V)} {H:Hp} {s:Shared} {E:XK} {ev:Value} {s':Shared} (I:Inv X pins σ H s) (h:CX1 X.prog X.w X.stack H s E ev s'):XE X pins σ (fun a H'=>E (.ref a) none H') ev s':=by
 obtain ⟨a,H',C,d,rfl,os,ba,un,hok,x,he,q⟩:=h
 exact ⟨a,H',C,d,rfl,I.call' os un hok ba (fun b z=>nomatch z),x.imp fun T hT=>I.freeNew hT,he,q⟩
theorem uN {X:Cx} {R:Addr->Hp->Prop} (h:∀ a H,¬ R a H):Xz X R:=⟨fun _ _ _ _ ⟨_,_,_,_,_,_,_,_,q⟩=>(h _ _ q).elim⟩
theorem aKf {P:Program} {w:World} {K:PySem.W.Frag} {mg:Str->Option Value} {base:Heap} {N:List Str} {qual:Str} {scope:Scope} {f:Addr} {cd:Value} {A:Around} {outer:List Env} {s:Shared} {H:Hp} {E:XK} :
  Xz (cxOf (CX1 P w) P w K mg base N qual scope f cd A outer s H E) (fun a H'=>E (.ref a) none H'):=by
 refine ⟨fun pins σ ev s' ⟨a,H',C,d,e1,I,x,he,q⟩=>?_⟩
 subst e1
 refine wpAny_bind (I.flight rfl rfl I.ok.frames x he fun h' I' x'=>?_)
 exact ⟨a,H',C,d,rfl,I'.os,I'.bare,I'.base,I'.hok,x'.imp fun T hT=>hT.1,he,q⟩
theorem nG {X:Cx} {P:Program} {w:World} {E:XK} (hP:X.prog=P) (hw:X.w=w) (z:Xz X (fun a H'=>E (.ref a) none H')):Passes (CX1 P w) X E:=fun pins σ H s e s' I h=>by
 subst hP hw
 exact z.go pins σ e s' (XE.call I h)
end L2
namespace L2
open PySem PySem.Spec PySem.W PySem.Calls PyProof.Rows Builtin Builtin.ObjectAttr
noncomputable abbrev vb:List Value:=[.type "ValueError",.type "Exception",.type "BaseException",.type "object"]
section
variable {prog:Program} {w:World} {A:Around} {E:Value->Shared->Prop} {s:Shared} {K:Frag} {x C LE:Addr} {vs:Array Value} {sl:Array (Option Value)} {cd:ClassData} {name:Str} {v:Value}
theorem zS {M:Model} {h:Heap} (X:K.In h) (hc:clsIn K C=some cd) (hm:cd.mro=.ref C::.ref LE::vb) (b:Value):Looks M h (isSubtype (.ref C) b) ((Value.ref C::.ref LE::vb).contains b):=by
 refine looks_mroIn X ?_
 unfold mroIn
 rw [hc,Option.bind_some,hm]
 rfl
theorem xset {Q:Unit->Shared->Prop} (X:K.In s.heap) (hx:s.heap.get? x=some ⟨.ref C,none,.fields vs,sl⟩) (hc:clsIn K C=some cd) (hm:cd.mro=.ref C::.ref LE::vb) (hd:cd.hasDict=true)
  (hs:findIn K (.ref C) "__setattr__"=some (some (.builtin "object.__setattr__"))) (hn:findIn K (.ref C) name=some none)
  (hq:∀ h' tk',h'.get? x=some ⟨.ref C,some s.heap.objs.size,.fields vs,sl⟩->h'.Ns1 s.heap.objs.size (fun y=>if y=name then some v else none)->(∀ b o,b≠x->s.heap.get? b=some o->h'.get? b=some o) ->
   Q () { s with heap:=h',toks:=tk' }):wpAny (model prog w) A (setAttr (.ref x) name v) Q E s:=by
 obtain ⟨hp,gn,dr,tk,oz⟩:=s
 dsimp only at X hx hq
 have I:InstAt hp x ⟨.ref C,none,.fields vs,sl⟩ C none:=⟨hx,rfl,rfl,trivial⟩
 have SF:=PySem.F.store_object
 have hsub:Looks (model prog w) hp (isInstance (.ref x) (.type "object")) true:=I.type.andThen (zS X hc hm _)
 refine set_plain X I hs (codeAny_call_builtin SF.slot.plain SF.entry (@check_slot (model prog w) _ _ ⟨hp,gn,dr,tk+1,oz⟩ "object.__setattr__" "object" "__setattr__" (.ref x) [.str name tk,v] [] _ SF.kind SF.split hsub (SF.args (.ref x) (.str name tk) v) ?_))
 have hmro:Looks (model prog w) hp (mroOf (.ref C)) (.ref C::.ref LE::vb):=hm▸(looks_clsIn X hc).andThen .now
 rw [osa_eq,refuse_eq]
 refine wpAny_bind (wpAny_bind (I.type.at (wpAny_bind (hmro.at ?_))))
 rw [refuseLoop_ref,refuseLoop_ref,PySem.F.store_ValueError.passes (.ref x)]
 refine wpAny_pure (wpAny_bind (I.type.at (wpAny_bind ((looks_findIn X hn).at (wpAny_bind (wpAny_pure ?_))))))
 show wpAny _ _ (storeInOwnDict (.ref x) (.ref C) (.str name tk) name v false) _ _ _
 unfold storeInOwnDict ownDictForStores instanceDict
 refine wpAny_bind (wpAny_pure ?_)
 refine wpAny_bind (wpAny_bind (wpAny_loadPart hx ?_))
 dsimp only
 refine wpAny_bind ((looks_clsIn X hc).at ?_)
 rw [hd]
 simp only [Bool.not_true,Bool.false_eq_true,if_false,Bool.false_or,typeHasDict]
 have hne:x≠hp.objs.size:=Nat.ne_of_lt (Heap.lt_size hx)
 refine wpAny_bind (wpAny_alloc' (wpAny_bind (wpAny_update' (Heap.get?_push_of_some _ hx) (wpAny_bind (wpAny_pure (wpAny_pure ?_))))))
 generalize eh:(hp.push { cls:=Value.type "dict",data:=Data.dict #[] }).update x (fun o=>{ o with dict:=some hp.objs.size })=h1
 have hd1:h1.get? hp.objs.size=some { cls:=.type "dict",data:=.dict #[] }:=by
  rw [<- eh,bJ (Ne.symm hne)]; exact Heap.get?_push_at rfl rfl
 have hx1:h1.get? x=some ⟨.ref C,some hp.objs.size,.fields vs,sl⟩:=by
  rw [<- eh]; exact Heap.get?_update_self _ (Heap.get?_push_of_some _ hx) rfl
 have k1:∀ b o,b≠x->hp.get? b=some o->h1.get? b=some o:=fun b o nb q=>by
  rw [<- eh,bJ nb]; exact Heap.get?_push_of_some _ q
 have n1:h1.Ns1 hp.objs.size (fun _=>none):=Heap.Ns1.of_empty ⟨_,#[],_,hd1,rfl,fun e he=>absurd he (by simp),fun _=>rfl⟩
 show wpAny _ _ (storeInDict hp.objs.size (.str name tk) name v) _ _ _
 unfold storeInDict newKeyGuard
 refine wpAny_bind (wpAny_pure (wpAny_bind (wpAny_nsSet1 n1 fun h2 n2 same=>?_)))
 obtain ⟨oD,es,ep,q1,q2,q3⟩:=n2.count (Within.cons name v Within.nil)
 refine wpAny_bind (wpAny_lookBehind q1 (by rw [q2]; exact pastItsLine_dict (Nat.le_trans q3 (by rw [List.length_cons,List.length_nil,sizeLine_eq]; omega))) ?_)
 refine wpAny_pure (hq h2 _ ((same.2 x hne).trans hx1) n2 fun b o nb q=>(same.2 b (Nat.ne_of_lt (Heap.lt_size q))).trans (k1 b o nb q))
end
end L2
namespace L2
open PySem PySem.Spec PySem.W PySem.Calls PyProof.Rows Builtin Builtin.ObjectAttr
section
variable {prog:Program} {w:World} {A:Around} {E:Value->Shared->Prop} {s:Shared} {K:Frag} {x C LE dx:Addr} {vs:Array Value} {sl:Array (Option Value)} {cd:ClassData} {name:Str} {v:Value} {mA:Str->Option Value}
theorem xinit {hp:Heap} {gn:Array GenState} {dr:Drawn} {tk:Nat} {oz:OsState} {e:Addr} {u:Value} {nm qn:Str} {N:Addr} {bs bm:List Value} {hdct:Bool} {sn:List Str} {sub:List Value} {ab:Bool} {col:Option Bool} {dd:Option Addr} {k0 k1 k2 k3 k5:Option Value} {Q:Value->Shared->Prop}
  (T:OwnTail hp vb bm) (hC:hp.get? C=some (excClassObj nm qn C N bs bm hdct sn sub ab col dd k0 k1 k2 k3 k5 "ValueError.__new__"))
  (he:hp.get? e=some ⟨.ref C,none,.fields vs,sl⟩) {t0:Addr} (h0:vs[0]?=some (.ref t0))
  (hq:∀ h',h'.get? e=some ⟨.ref C,none,.fields (vs.setIfInBounds 0 (.ref hp.objs.size)),sl⟩->(∀ b o,b≠e->hp.get? b=some o->h'.get? b=some o)->Q .none ⟨h',gn,dr,tk,oz⟩) :
  wpAny (model prog w) A (call (.builtin "ValueError.__init__") [.ref e,u]) Q E ⟨hp,gn,dr,tk,oz⟩:=by
 have F:=PySem.F.excBase_ValueError
 refine wpAny_call (codeAny_call_builtin F.init.plain F.initEntry (wpAny_check_init_subT F T hC he rfl ?_))
 have ne:e≠hp.objs.size:=Nat.ne_of_lt (Heap.lt_size he)
 have he2:(hp.push { cls:=.type "tuple",data:=.seq #[u] }).get? e=some ⟨.ref C,none,.fields vs,sl⟩:=Heap.get?_push_of_some _ he
 have key:=hq ((hp.push { cls:=.type "tuple",data:=.seq #[u] }).update e (Obj.mapFields (·.setIfInBounds 0 (.ref hp.objs.size)))) (dP he2) fun b o nb q=>(bJ nb).trans (Heap.get?_push_of_some _ q)
 wp_walk
 rw [h0]
 refine wpAny_pure (wpAny_bind (wpAny_setField he2 rfl (Array.getElem?_eq_some_iff.mp h0).1 ?_))
 wp_walk
 exact key
end
end L2
namespace L2
open PySem PySem.Spec PySem.W PySem.Calls PyProof.Rows Builtin Builtin.ObjectAttr
noncomputable def xcB (K:Frag) (C:Addr) (bm0:List Value) (ini:Option Value):Bool:=match K.lookup C with
 | some ⟨.type "type",_,.cls cd,sl⟩=>(match cd.mro,sl.toList with
  | .ref C'::bm,[_,_,_,_,some (.builtin n),_]=>C'==C&&bm==bm0&&n=="ValueError.__new__"&&!cd.hasDel&&nsOkIn K cd.ns&&nsIn K cd.ns "__init__"==some ini
  | _,_=>false)
 | _=>false
structure Xc (K:Frag) (c:Str) (C LE:Addr):Prop where
 nm:nsIn K mainGlobals c=some (some (.ref C))
 cd:∃ cd,clsIn K C=some cd/\cd.name=c/\cd.mro=.ref C::.ref LE::vb
 le:∃ cl,clsIn K LE=some cl/\cl.name="LentError"
 leN:nsIn K mainGlobals "LentError"=some (some (.ref LE))
 ne:c≠"LentError"
 hd:hasDictIn K C=true
 ga:findIn K (.ref C) "__getattribute__"=some (some (.builtin "BaseException.__getattribute__"))
 gh:findIn K (.ref C) "__getattr__"=some none
 cl:findIn K (.ref C) "__class__"=some (some (.builtin "object.__class__"))
 ob:∃ ini,xcB K C (.ref LE::vb) ini=true
 leO:xcB K LE vb none=true
structure XcO (h:Heap) (C:Addr) (bm:List Value) (ini:Option Value):Prop where
 ex:∃ nm q N bs hdct sn sub ab col dd k0 k1 k2 k3 k5,h.get? C=some (excClassObj nm q C N bs bm hdct sn sub ab col dd k0 k1 k2 k3 k5 "ValueError.__new__")/\∃ mN,h.Ns N mN/\mN "__init__"=ini
theorem uZ {K:Frag} {h:Heap} {N:Addr} {x:Str} {r:Option Value} (X:K.In h) (e:nsOkIn K N=true) (q:nsIn K N x=some r):h.nsMap N x=r:=by
 cases r with
 | none=>exact nsMap_none_of_in X e q
 | some v =>
  obtain ⟨o,es,ep,ho,hd,_,hf⟩:=Heap.Ns.of_isNs (isNs_of_in X e)
  unfold nsIn at q
  split at q
  ·rename_i c d es' n' sl z
   have:=X _ _ z
   rw [ho] at this
   cases this
   cases hd
   split at q
   ·rename_i en he
    cases q
    rw [<- hf]
    unfold nsFind findBy
    rw [<- Array.find?_toList,he]
    rfl
   ·split at q <;> cases q
  ·cases q
theorem qI {K:Frag} {h:Heap} {C:Addr} {bm:List Value} {ini:Option Value} (X:K.In h) (q:xcB K C bm ini=true):XcO h C bm ini:=by
 unfold xcB at q
 split at q
 ·rename_i dd cd sl ho
  split at q
  ·rename_i C' bm k0 k1 k2 k3 n k5 hm hs
   simp only [Bool.and_eq_true,beq_iff_eq,Bool.not_eq_true'] at q
   obtain ⟨⟨⟨⟨⟨rfl,rfl⟩,rfl⟩,hdel⟩,hok⟩,hni⟩:=q
   obtain ⟨nm,bs,mro,ns,qn,hd,sn,sub,ab,col,del⟩:=cd
   dsimp only at hm hdel hok hni
   subst hm hdel
   have hsl:sl=#[k0,k1,k2,k3,some (.builtin "ValueError.__new__"),k5]:=by
    obtain ⟨l⟩:=sl
    simp only at hs
    rw [hs]
   subst hsl
   exact ⟨nm,qn,ns,bs,hd,sn,sub,ab,col,dd,k0,k1,k2,k3,k5,X _ _ ho,_,.of_isNs (isNs_of_in X hok),uZ X hok hni⟩
  ·cases q
 ·cases q
section
variable {M:Model} {A:Around} {E:Value->Shared->Prop} {s:Shared} {env:Env} {C:Addr} {bm:List Value} {ini:Option Value} {Q:Flow->Shared->Prop}
theorem aEc {x:Sem Value} (hB:bm.contains (.type "BaseException")=true) (hh:A.handled=none)
  (h:wpAny M A x (fun v s₁=>∃ e d vs sl,v=.ref e/\XcO s₁.heap C bm ini/\s₁.heap.get? e=some ⟨.ref C,d,.fields vs,sl⟩/\vs[1]?=some .none/\E (.ref e) s₁) E s):wpAny M A (raiseStmt env (some x) none) Q E s:=by
 unfold raiseStmt
 refine wpAny_bind (wpAny_mono h (fun v s₁ h₁=>?_) fun _ _ z=>z)
 obtain ⟨e,d,vs,sl,rfl,⟨nm,q,N,bs,hdct,sn,sub,ab,col,dd,k0,k1,k2,k3,k5,hC,_⟩,he,h1,hE⟩:=h₁
 have hcB:(Value.ref C::bm).contains (.type "BaseException")=true:=by rw [List.contains_cons,hB,Bool.or_true]
 obtain ⟨hp,g,dr,tk,os⟩:=s₁
 dsimp only at hC he
 repeat (first | with_reducible refine wpAny_loadPart_at he ?_ | with_reducible refine wpAny_loadPart_at hC ?_ | (with_reducible refine wpAny_isSubtype_exc hC ?_; rw [hcB]) | wp_step)
 rw [h1]
 refine wpAny_pure ?_
 rw [if_neg (by decide)]
 exact wpAny_pure (wpAny_raiseNew_none hh hE)
end
end L2
namespace L2
open PySem PySem.Spec PySem.W PySem.Calls PyProof.Rows Builtin Builtin.ObjectAttr
noncomputable def XN (e C:Addr) (d:Option Addr):HO:=.ext fun h=>∃ vs sl t0,h.get? e=some ⟨.ref C,d,.fields vs,sl⟩/\vs[1]?=some .none/\vs[0]?=some (.ref t0)
section
variable {P:Program} {w:World} {H:Hp} {h h':Heap} {e C a:Addr} {d:Option Addr} {o:HO}
theorem XN.ok {vs:Array Value} {sl:Array (Option Value)} {t0:Addr} (q:h.get? e=some ⟨.ref C,d,.fields vs,sl⟩) (q1:vs[1]?=some .none) (q0:vs[0]?=some (.ref t0)):ObjOk P w H h e (XN e C d) :=
 ⟨⟨vs,sl,t0,q,q1,q0⟩,⟨_,q⟩,fun h1 h2 ⟨vs,sl,t0,z,z'⟩ k=>⟨vs,sl,t0,k _ z,z'⟩⟩
theorem XN.at (x:HOk P w H h) (q:H e=some (XN e C d)):∃ vs sl t0,h.get? e=some ⟨.ref C,d,.fields vs,sl⟩/\vs[1]?=some .none/\vs[0]?=some (.ref t0):=(x e _ q).1
theorem aBf (q:H a=some o):upd H a o=H:=by
 funext b
 by_cases z:b=a
 ·subst z; rw [cB,q]
 ·rw [bF z]
theorem ObjOk.here (x:ObjOk P w H h a o):∃ u,h.get? a=some u:=by
 cases o with
 | lst xs=>obtain ⟨_,_,_,_,e⟩:=x; exact ⟨_,e⟩
 | tup xs=>obtain ⟨_,_,_,p⟩:=x; obtain ⟨u,e,_⟩:=p; exact ⟨_,e⟩
 | dK kvs=>obtain ⟨_,_,_,_,o,_,_,e,_⟩:=x; exact ⟨_,e⟩
 | dT kvs=>obtain ⟨_,_,_,_,o,_,_,e,_⟩:=x; exact ⟨_,e⟩
 | set S n=>obtain ⟨o,_,_,_,e,_⟩:=x; exact ⟨_,e⟩
 | ins C dx fs=>obtain ⟨_,_,_,e,_⟩:=x; exact ⟨_,e⟩
 | own y=>exact x
 | xd fs=>obtain ⟨_,⟨_,_,_,e,_⟩,_⟩:=x; exact ⟨_,e⟩
 | rng lo hi=>obtain ⟨_,_,_,e⟩:=x; exact ⟨_,e⟩
 | frz ob u=>obtain ⟨e,_⟩:=x; exact ⟨_,e⟩
 | tbl ps=>exact ⟨_,(show h.get? a=some _ from x)⟩
 | met f y=>exact ⟨_,(show h.get? a=some _ from x)⟩
 | ext φ=>exact x.2.1
theorem HOk.none_of (x:HOk P w H h) (n:h.get? a=none):H a=none:=by
 cases q:H a with
 | none=>rfl
 | some o=>obtain ⟨u,z⟩:=(x a o q).here; rw [n] at z; cases z
end
section
variable {X:Cx} {pins:List (Addr×Obj)} {σ:List (Option V)} {H:Hp} {s:Shared} {h':Heap} {e C a:Addr} {d:Option Addr} {o:HO}
theorem Inv.laid0 {t':Nat} (I:Inv X pins σ H s) (k:∀ b u,s.heap.get? b=some u->h'.get? b=some u) (hn:s.heap.get? a=none) (new:ObjOk X.prog X.w (upd H a o) h' a o):Inv X pins σ (upd H a o) { s with heap:=h',toks:=t' }:=by
 have hH:=I.hok.none_of hn
 have ne:∀ b u,s.heap.get? b=some u->b≠a:=fun b u q z=>by subst z; rw [hn] at q; cases q
 refine I.un ⟨fun b u q _ _ _=>k b u q,fun b u q _ _ _=>⟨u.slots,k b u q⟩,fun b u q n _=>by rw [bF (ne b u q)]; exact n,fun b u q _=>⟨u,k b u q⟩,fun b xs q=>by rw [bF (cA q hH)]; exact q,fun b u xs q=>by rw [bF (cA q hH)]; exact q,fun b ps q=>⟨#[],by rw [bF (cA q hH),q]; simp⟩⟩ fun b u q=>?_
 by_cases z:b=a
 ·subst z; rw [cB] at q; cases q; exact new
 ·rw [bF z] at q
  exact (I.hok b u q).stay (fun c v _ q=>k c v q) (fun c q=>by rw [bF (cA q hH)]; exact q) fun c xs q=>by rw [bF (cA q hH)]; exact q
theorem Inv.gotDict {t':Nat} {dx:Addr} {y:V} {u:Value} {f:Str} {vs:Array Value} {sl:Array (Option Value)} {t0:Addr} (I:Inv X pins σ H s) (he:H e=some (XN e C none)) (hn:s.heap.get? dx=none) (k:∀ b u,b≠e->s.heap.get? b=some u->h'.get? b=some u)
  (q:h'.get? e=some ⟨.ref C,some dx,.fields vs,sl⟩) (q1:vs[1]?=some .none) (q0:vs[0]?=some (.ref t0)) (ns:h'.Ns1 dx (fun z=>if z=f then some u else none)) (r:RelV y u) :
  Inv X pins σ (upd (upd H dx (.xd [(f,y)])) e (XN e C (some dx))) { s with heap:=h',toks:=t' }:=by
 have hH:=I.hok.none_of hn
 have ned:dx≠e:=fun z=>by subst z; rw [hH] at he; cases he
 have nd:∀ b u,s.heap.get? b=some u->b≠dx:=fun b u qq z=>by subst z; rw [hn] at qq; cases qq
 have ne:∀ b,H b=none->b≠e:=fun b n z=>by subst z; rw [he] at n; cases n
 have old:∀ b o,H b=some o->b≠e->upd (upd H dx (.xd [(f,y)])) e (XN e C (some dx)) b=some o:=fun b o q z=>by rw [bF z,bF (cA q hH)]; exact q
 have hx:∀ b u,H b=some u->(∀ φ,u≠.ext φ)->b≠e:=fun b u qq n z=>by subst z; rw [he] at qq; cases qq; exact n _ rfl
 refine I.un ⟨fun b u q n _ _=>k b u (ne b n) q,fun b u q n _ _=>⟨u.slots,k b u (ne b n) q⟩,fun b u q n _=>by rw [bF (ne b n),bF (nd b u q)]; exact n,fun b u q _=>?_,fun b xs q=>old b _ q (hx b _ q fun _ z=>nomatch z),fun b u xs q=>old b _ q (hx b _ q fun _ z=>nomatch z),fun b ps q=>⟨#[],by rw [old b _ q (hx b _ q fun _ z=>nomatch z)]; simp⟩⟩ fun b u z=>?_
 ·by_cases z:b=e
  ·subst z; exact ⟨_,‹h'.get? b=some _›⟩
  ·exact ⟨u,k b u z q⟩
 ·by_cases hb:b=e
  ·subst hb; rw [cB] at z; cases z; exact XN.ok q q1 q0
  ·rw [bF hb] at z
   by_cases hd:b=dx
   ·subst hd; rw [cB] at z; cases z
    refine ⟨_,ns,fun g=>?_⟩
    by_cases hg:g=f
    ·subst hg; simp [List.lookup,RelO,r]
    ·have:(g==f)=false:=by simpa using hg
     simp [List.lookup,RelO,hg,this]
   ·rw [bF hd] at z
    refine (I.hok b u z).stay (fun c v hc q'=>k c v ?_ q') (fun c q'=>old c _ q' (hx c _ q' fun _ z=>nomatch z)) fun c xs q'=>old c _ q' (hx c _ q' fun _ z=>nomatch z)
    rcases hc with rfl | hc
    ·exact hb
    ·exact hx c _ hc fun _ z=>nomatch z
theorem Inv.flies (I:Inv X pins σ (upd H e (XN e C d)) s):Inv X pins σ (upd H e (XO e C d)) s/\XRec (Free X pins) (upd H e (XO e C d)) s.heap e C d:=by
 obtain ⟨vs,sl,t0,q,q1,q0⟩:=XN.at I.hok cB
 refine ⟨?_,vs,sl,q,(Array.getElem?_eq_some_iff.mp q1).1,.inl q1⟩
 have:=I.write (x:=e) (e:=e) (o:=XO e C d) (h':=s.heap) (t':=s.toks) (by rw [cB]; trivial) (.inl rfl) (fun _ _ _ q=>q) ⟨_,q⟩ (XO.ok q)
 rw [aEy] at this
 exact this
end
structure LeF (K:Frag) (LE:Addr):Prop where
 rd:readsIn K LE (.type "type")=true
 ga:specialIn K (.ref LE) "__getattribute__"=some (some (.builtin "type.__getattribute__"))
 ini:findCls K (.ref LE) (.type "type") "__init__"=some (.val (.builtin "ValueError.__init__"))
 tl:tailIn K vb (.ref LE::vb)=true
section
variable {X:Cx} {C LE fI:Addr} {e1 e2 o v:Expr} {t:TA} {to tv:TE} {p1 ap cp pos pos':Pos} {f:Str}
noncomputable def tBinit (C:Addr) (t:TA):TE:=fun σ H Q=>t σ H fun vs H1=>∃ e u,vs=[.ref e,u]/\H1 e=some (XN e C none)/\Q .non H1
theorem aDc {ini:Option Value} {pl:Sem Bool} (F:LeF X.K LE) (hm:X.mg "LentError"=some (.ref LE)) (hC:xcB X.K C (.ref LE::vb) ini=true) (ha:PA X [e1,e2] t) (hg:Gl X "LentError":=by rfl)
  (hs:starEach [e1,e2] X.env=[(false,eval e1 X.env),(false,eval e2 X.env)]:=by rfl)
  (hev:eval (.Call (.Attribute (.Name "LentError" p1) "__init__" ap) [e1,e2] [] cp) X.env=(do
   let ov <- eval (.Name "LentError" p1) X.env
   standAt ap.atName
   let (f,first) <- holding [ov] (getMethod ov "__init__" pl)
   callWith cp f first (backTo cp (starEach [e1,e2] X.env)) (backToKw cp (keywordEach [] X.env))):=by rfl) :
  PE X (.Call (.Attribute (.Name "LentError" p1) "__init__" ap) [e1,e2] [] cp) (tBinit C t):=by
 intro pins s σ H Q I h
 refine methodCall_KW (pl:=pl) (mR I hg hm ?_) hev
 refine method_cls I.kIn F.ga (cls_value I.kIn F.rd F.ini rfl ?_)
 have hA:=ha cp pins _ σ H _ (I.tok (s.toks+1)) h
 rw [hs] at hA ⊢
 refine Calls.callWith_builtin rfl (Calls.evalArgs_plain (thn hA fun us s1 ⟨vs,H1,I1,r,e,u,ev,he,q⟩=>?_))
 subst ev
 obtain ⟨a,b,rfl,ra,rb⟩:=Vals.two r
 cases (show a=Value.ref e from ra)
 obtain ⟨vs',sl,t0,z,z1,z0⟩:=XN.at I1.hok he
 obtain ⟨nm,qn,N,bs,hdct,sn,sub,ab,col,dd,k0,k1,k2,k3,k5,oC,_⟩:=qI I1.kIn hC
 obtain ⟨hp,gn,dr,tk,oz⟩:=s1
 refine xinit (tail_of_in I1.kIn F.tl) oC z z0 fun h' zn k=>?_
 have J:=I1.write (x:=e) (e:=e) (o:=XN e C none) (h':=h') (t':=tk) (by rw [he]; trivial) (.inl rfl) (fun b u n q=>k b u n q) ⟨_,zn⟩ (XN.ok (t0:=hp.objs.size) zn (by rw [Array.getElem?_setIfInBounds_ne (by decide)]; exact z1) (by simp [(Array.getElem?_eq_some_iff.mp z0).1]))
 rw [aBf he] at J
 exact ⟨.non,H1,J,rfl,q⟩
noncomputable def sXfld (K:Frag) (C:Addr) (to tv:TE) (f:Str):TS:=fun D σ H=>tv σ H fun y H1=>to σ H1 fun x H2=>∃ e,x=.ref e/\H2 e=some (XN e C none)/\∀ dx,H2 dx=none->dx≠e->D.nx σ (upd (upd H2 dx (.xd [(f,y)])) e (XN e C (some dx)))
theorem aFf {cd:ClassData} (hc:clsIn X.K C=some cd) (hm:cd.mro=.ref C::.ref LE::vb) (hd:cd.hasDict=true) (hsa:findIn X.K (.ref C) "__setattr__"=some (some (.builtin "object.__setattr__"))) (hn:findIn X.K (.ref C) f=some none)
  (ho:PE X o to) (hv:PE X v tv) (hs:swapsWith v (some (.Attribute o f pos')) pos.line X.env=pure false:=by rfl):PS X (.Assign [.Attribute o f pos'] v pos) (sXfld X.K C to tv f):=by
 intro pins s σ H D I h
 refine plainObj_wpAny_Assign_Attribute (thn (hv pins s σ H _ I h) fun u s1 ⟨y,H1,I1,ry,q⟩=>thn (ho pins s1 σ H1 _ I1 q) fun ov s2 ⟨x,H2,I2,rx,e,ex,he,q2⟩=>?_) hs
 subst ex
 cases (show ov=Value.ref e from rx)
 obtain ⟨vs,sl,t0,z,z1,z0⟩:=XN.at I2.hok he
 have fresh:s2.heap.get? s2.heap.objs.size=none:=Heap.get?_none_of_le (Nat.le_refl _)
 refine xset I2.kIn z hc hm hd hsa hn fun h' tk' w1 w2 w3=>?_
 exact ⟨σ,_,I2.gotDict (t':=tk') he fresh w3 w1 z1 z0 w2 ry,q2 _ (I2.hok.none_of fresh) (Nat.ne_of_gt (Heap.lt_size z))⟩
end
end L2
namespace L2
open PySem PySem.Spec PySem.W PySem.Calls PyProof.Rows Builtin Builtin.ObjectAttr
theorem aEd {H:Hp} {e dx:Addr} {o p o':HO} (n:dx≠e):upd (upd (upd H e o) dx p) e o'=upd (upd H dx p) e o':=by
 funext b
 unfold upd
 by_cases h1:b=e
 ·simp [h1]
 ·by_cases h2:b=dx
  ·simp [h2,n]
  ·simp [h1,h2]
noncomputable def spXI (C:Addr) (f:Str):Sp:=fun vs H Q _=>∃ e y,vs=[.ref e,y]/\H e=some (XN e C none)/\∀ dx,H dx=none->dx≠e->Q .non (upd (upd H dx (.xd [(f,y)])) e (XN e C (some dx)))
theorem Fun.okN {P:Program} {w:World} {K:PySem.W.Frag} {mg:Str->Option Value} {base:Heap} {CX:CXT} {x qual:Str} {st:Stmt} {f:Addr} {fd:FuncData} {N ps:List Str} {k:Nat} {sp:Sp} (F:Fun K x qual st f fd) (S:FnScope N ps (defScope st)) (len:∀ vs H Q E,sp vs H Q E->vs.length=ps.length)
  (hbody:∀ (cdv:Value) (A:Around) (outer:List Env) (s:Shared) (H:Hp) (vs:List V) (Q:VK) (E:XK),Room k (A.deeper (envOfC qual (defScope st) s.heap.objs.size f cdv))->sp vs H Q E ->
   ∃ t,PSs (cxOf CX P w K mg base N qual (defScope st) f cdv A outer s H E).nox (defBody st) t/\t { nx:=fun _ H'=>Q .non H',rt:=Q } (start N vs) H):FnOk P w K mg base CX (k+1) f fd ps sp:=by
 obtain ⟨oc,od,kV,doc,pm,an,cdv,ct,osl,rfl,lk,hcd⟩:=F.ex
 refine aBi lk hcd S len fun A outer s H vs Q E hr hsp=>?_
 obtain ⟨t,h,q⟩:=hbody cdv A outer s H vs Q E hr hsp
 exact ⟨t,h.nox,q⟩
theorem aEt {P:Program} {w:World} {K:PySem.W.Frag} {mg:Str->Option Value} {base:Heap} {CX:CXT} {qual:Str} {st:Stmt} {fI C:Addr} {fd:FuncData} {p f txt:Str} (F:Fun K "__init__" qual st fI fd) (S:FnScope ["self",p] ["self",p] (defScope st))
  (hb:∀ (cdv:Value) (A:Around) (outer:List Env) (s:Shared) (H:Hp) (E:XK),PSs (cxOf CX P w K mg base ["self",p] qual (defScope st) fI cdv A outer s H E).nox (defBody st) (tSeq (tDrop (tBinit C (tCons (tVar 0) (tCons (tC (.str txt)) tNil)))) (sXfld K C (tVar 0) (tVar 1) f))) :
  FnOk P w K mg base CX 1 fI fd ["self",p] (spXI C f):=by
 refine F.okN (k:=0) S (fun vs H Q E ⟨e,y,h,_⟩=>by rw [h]; rfl) fun cdv A outer s H vs Q E _ ⟨e,y,hv,he,hq⟩=>⟨_,hb cdv A outer s H E,?_⟩
 subst hv
 exact ⟨.ref e,rfl,e,.str txt,rfl,he,y,rfl,.ref e,rfl,e,rfl,he,hq⟩
section
variable {X:Cx} {CX:CXT} {k:Nat} {C LE fI:Addr} {fd:FuncData} {ps:List Str} {E:XK} {f x:Str} {p pos:Pos} {e:Expr} {es:List Expr} {t:TA} {pins:List (Addr×Obj)} {σ:St} {H:Hp} {s:Shared} {Q:VK} {us:List Value} {vs:List V}
theorem zF (hxo:xcB X.K C (.ref LE::vb) (some (.ref fI))=true) (F:LeF X.K LE) (hf:typeIn X.K (.ref fI)=some (.type "function")) (G:FnOk X.prog X.w X.K X.mg X.base CX k fI fd ps (spXI C f)) (hr:Room (k+1) X.A) (hb:Binds X.K fd ps []) (hx:Passes CX X E)
  (I:Inv X pins σ H s) (r:Vals vs us) (h:∃ y,vs=[y]/\∀ e dx,H e=none->H dx=none->dx≠e->Q (.ref e) (upd (upd H dx (.xd [(f,y)])) e (XN e C (some dx)))) :
  wpAny (model X.prog X.w) X.A (call (.ref C) us) (EP X pins σ Q) X.xe s:=by
 obtain ⟨y,rfl,h⟩:=h
 obtain ⟨u,rfl,ru⟩:=Vals.one r
 obtain ⟨nm,qn,N,bs,hdct,sn,sub,ab,col,dd,k0,k1,k2,k3,k5,oC,mN,nsN,iN⟩:=qI I.kIn hxo
 have gI:∃ oI,s.heap.get? fI=some oI/\oI.cls=.type "function":=by
  obtain ⟨o,z,zc⟩:=Option.map_eq_some_iff.mp hf
  exact ⟨o,I.kIn _ _ z,zc⟩
 obtain ⟨oI,gI,cI⟩:=gI
 obtain ⟨hp,gn,dr,tk,oz⟩:=s
 refine xL (few:=by show 1<=sizeLine; decide) PySem.F.excBase_ValueError (tail_of_in I.kIn F.tl) oC nsN iN gI cI fun h' a mk=>?_
 obtain ⟨t0,ea,_,_⟩:=mk.there
 have hn:=I.hok.none_of mk.new
 have I2:Inv X pins σ (upd H a (XN a C none)) ⟨h',gn,dr,tk,oz⟩:=I.laid0 (t':=tk) mk.keeps mk.new (XN.ok (t0:=t0) ea rfl rfl)
 have sp:spXI C f [.ref a,y] (upd H a (XN a C none)) (fun v H2=>v=.non/\Q (.ref a) H2) E:=⟨a,y,rfl,cB,fun dx hd ne=>⟨rfl,by rw [aEd ne]; exact h a dx hn (by rw [bF ne] at hd; exact hd) ne⟩⟩
 have r2:Vals [V.ref a,y] [Value.ref a,u]:=.cons rfl (.cons ru .nil)
 have hl:([Value.ref a,u]++[]).length=ps.length:=by have:=G.len _ _ _ _ sp; simpa using this
 refine wpAny_call (codeAny_mono (G.run _ X.stack _ _ ⟨[.ref a,u],[]⟩ [.ref a,u] _ _ E (hr.make C [u] []) (I2.env0.make C [u] []) (hb _ [.ref a,u] I2.kIn hl) r2 sp) fun r s' hq'=>?_)
 cases r with
 | error e=>exact hx pins σ _ _ e s' I2 hq'
 | ok fl =>
  cases fl with
  | ret u =>
   obtain ⟨v,H',I3,rv,ev,q3⟩:=I2.after hq'
   subst ev
   exact ⟨rv,⟨V.ref a,H',I3,rfl,q3⟩⟩
  | next=>exact False.elim hq'
  | brk=>exact False.elim hq'
  | cont=>exact False.elim hq'
noncomputable def tXmake (C:Addr) (f:Str) (t:TA):TE:=fun σ H Q=>t σ H fun vs H1=>∃ y,vs=[y]/\∀ e dx,H1 e=none->H1 dx=none->dx≠e->Q (.ref e) (upd (upd H1 dx (.xd [(f,y)])) e (XN e C (some dx)))
theorem aCl (hxo:xcB X.K C (.ref LE::vb) (some (.ref fI))=true) (F:LeF X.K LE) (hf:typeIn X.K (.ref fI)=some (.type "function")) (G:FnOk X.prog X.w X.K X.mg X.base CX k fI fd ps (spXI C f)) (hr:Room (k+1) X.A) (hb:Binds X.K fd ps []) (hx:Passes CX X E)
  (hm:X.mg x=some (.ref C)) (hk:keepIn X.K (.ref C)=true) (ha:PA X (e::es) t) (hg:Gl X x:=by rfl) (hdb:(x==("__debug__":Str))=false:=by decide) (he:starEach (e::es) X.env=(false,eval e X.env)::starEach es X.env:=by rfl) (hpl:(backTo pos (starEach es X.env)).any (·.1)=false:=by rfl) :
  PE X (.Call (.Name x p) (e::es) [] pos) (tXmake C f t):=by
 intro pins s σ H Q I h
 refine wpAny_Call_Name_kw (mR I hg hm ?_ hdb)
 refine PySem.W.callWith_K (h₀:=X.base) I.ok.mod.kin hk (thn (ha pos pins s σ H _ I h) fun us s1 ⟨vs,H1,I1,r,q⟩=>⟨I1.kIn,?_⟩) he hpl
 exact zF hxo F hf G hr hb hx I1 r q
noncomputable def tRaise (C:Addr) (R:Addr->Hp->Prop) (te:TE):TS:=fun _ σ H=>te σ H fun v H1=>∃ e d H0,v=.ref e/\H1=upd H0 e (XN e C d)/\R e (upd H0 e (XO e C d))
theorem aDg {R:Addr->Hp->Prop} {ini:Option Value} {te:TE} (hxo:xcB X.K C (.ref LE::vb) ini=true) (hc:X.calm=true) (hz:Xz X R) (he:PE X e te):PS X (.Raise (some e) none pos) (tRaise C R te):=by
 intro pins s σ H D I h
 rw [arm_exec_Raise]
 refine wpAny_bind (wpAny_standAt ?_)
 show wpAny _ _ (raiseStmt X.env (some (do let v <- eval e X.env; standAt pos; pure v)) none) _ _ s
 refine aEc (C:=C) (bm:=.ref LE::vb) (ini:=ini) rfl (I.ok.hd hc) (wpAny_bind (thn (he pins s σ H _ I h) fun v s1 ⟨x,H1,I1,rx,a,d,H0,ex,eH,q⟩=>wpAny_bind (wpAny_standAt (wpAny_pure ?_))))
 subst ex eH
 cases (show v=Value.ref a from rx)
 obtain ⟨vs,sl,t0,z,z1,z0⟩:=XN.at I1.hok cB
 obtain ⟨I2,x2⟩:=I1.flies
 exact ⟨a,d,vs,sl,rfl,qI I1.kIn hxo,z,z1,hz.go pins σ _ _ ⟨a,_,C,d,rfl,I2,x2,cB,q⟩⟩
end
end L2
namespace L2
open PySem PySem.Spec PySem.W PySem.Calls PyProof.Rows Builtin Builtin.ObjectAttr
section
variable {M:Model} {A:Around} {E:Value->Shared->Prop} {h:Heap} {g:Array GenState} {dr:Drawn} {t:Nat} {os:OsState} {C D e:Addr} {oe:Obj} {bm bmD:List Value} {ini iniD:Option Value} {Q:Bool->Shared->Prop}
theorem excM (hC:XcO h C bm ini) (he:h.get? e=some oe) (hcls:oe.cls=.ref C) (hD:XcO h D bmD iniD) (hB:bmD.contains (.type "BaseException")=true) (hsub:(Value.ref C::bm).contains (.ref D)=true) (hq:Q true ⟨h,g,dr,t,os⟩) :
  wpAny M A (excMatches (.ref e) (.ref D)) Q E ⟨h,g,dr,t,os⟩:=by
 obtain ⟨nm,qn,N,bs,hdct,sn,sub,ab,col,dd,k0,k1,k2,k3,k5,oC,_⟩:=hC
 obtain ⟨nm',qn',N',bs',hdct',sn',sub',ab',col',dd',k0',k1',k2',k3',k5',oD,_⟩:=hD
 have hcB:(Value.ref D::bmD).contains (.type "BaseException")=true:=by rw [List.contains_cons,hB,Bool.or_true]
 have f:=tc_notTuple
 unfold excMatches
 repeat (first | (with_reducible refine wpAny_loadPart_at he ?_; rw [hcls]) | with_reducible refine wpAny_loadPart_at oD ?_ | (with_reducible refine wpAny_isSubtype_exc oD ?_; rw [hcB]) | (with_reducible refine wpAny_isSubtype_exc oC ?_; rw [hsub]) | wp_step)
 exact hq
end
noncomputable def PEx (X:Cx) (e:Expr) (t:St->Hp->VK->(Addr->Hp->Prop)->Prop):Prop :=
 ∀ (pins:List (Addr×Obj)) (s:Shared) (σ:St) (H:Hp) (Q:VK) (R:Addr->Hp->Prop),Inv X pins σ H s->t σ H Q R->wpAny (model X.prog X.w) X.A (eval e X.env) (EP X pins σ Q) (XE X pins σ R) s
noncomputable def PBx (X:Cx) (b:List Stmt) (t:Ends->(Addr->Hp->Prop)->St->Hp->Prop):Prop :=
 ∀ (pins:List (Addr×Obj)) (s:Shared) (σ:St) (H:Hp) (D:Ends) (R:Addr->Hp->Prop),Inv X pins σ H s->t D R σ H->wpAny (model X.prog X.w) X.A (execs b X.env) (SP X pins D) (XE X pins σ R) s
noncomputable abbrev Cx.hnd (X:Cx) (e:Addr):Cx:={ X with A:=X.A.mark (some (.ref e)),calm:=false,xe:=fun _ _=>False }
theorem Cx.Ok.hnd {X:Cx} (ok:X.Ok) (e:Addr):(X.hnd e).Ok :=
 ⟨ok.mod,ok.kind,ok.glob,ok.blt,ok.above,ok.inj,ok.has,ok.cab,(fun z=>nomatch z),ok.frames,ok.stk,ok.exf,ok.bs,ok.bsz,ok.noex,ok.exfs,ok.funs,ok.frf⟩
section
variable {X:Cx} {pins:List (Addr×Obj)} {σ:St} {H:Hp} {s:Shared} {e:Addr}
theorem Inv.hnd (I:Inv X pins σ H s) (e:Addr):Inv (X.hnd e) pins σ H s:=⟨I.ok.hnd e,I.os,I.bare,I.base,I.loc,I.cell,I.free,I.freeC,I.pin,I.hok,I.len⟩
theorem Inv.unhnd (ok:X.Ok) (I:Inv (X.hnd e) pins σ H s):Inv X pins σ H s:=⟨ok,I.os,I.bare,I.base,I.loc,I.cell,I.free,I.freeC,I.pin,I.hok,I.len⟩
theorem SP.unhnd {D:Ends} {f:Flow} {s':Shared} (ok:X.Ok) (h:SP (X.hnd e) pins D f s'):SP X pins D f s':=by
 cases f with
 | next=>obtain ⟨σ',H',I,q⟩:=h; exact ⟨σ',H',I.unhnd ok,q⟩
 | brk=>obtain ⟨σ',H',I,q⟩:=h; exact ⟨σ',H',I.unhnd ok,q⟩
 | cont=>obtain ⟨σ',H',I,q⟩:=h; exact ⟨σ',H',I.unhnd ok,q⟩
 | ret u=>obtain ⟨v,σ',H',I,r,q⟩:=h; exact ⟨v,σ',H',I.unhnd ok,r,q⟩
end
structure XM (K:Frag) (C D:Addr):Prop where
 c:∃ bm ini,xcB K C bm ini=true/\(Value.ref C::bm).contains (.ref D)=true
 d:∃ bm ini,xcB K D bm ini=true/\bm.contains (.type "BaseException")=true
section
variable {X:Cx} {body:List Stmt} {b₀:Stmt} {suite:List Stmt} {cn:Str} {Dc:Addr} {np pos hpos:Pos} {tb:Ends->(Addr->Hp->Prop)->St->Hp->Prop} {ts:TS}
noncomputable def tTry (K:Frag) (Dc:Addr) (tb:Ends->(Addr->Hp->Prop)->St->Hp->Prop) (ts:TS):TS:=fun D σ H=>tb D (fun a H'=>(∃ C d,H' a=some (XO a C d)/\XM K C Dc)/\ts D σ H') σ H
theorem aDt {P:Program} {w:World} {H:Hp} {h:Heap} {a C C':Addr} {d d':Option Addr} (ok:HOk P w H h) (q:H a=some (XO a C d)) (q':H a=some (XO a C' d')):C=C'/\d=d':=by
 obtain ⟨_,_,z⟩:=XO.at ok q
 obtain ⟨_,_,z'⟩:=XO.at ok q'
 rw [z] at z'; cases z'; exact ⟨rfl,rfl⟩
theorem aHw (hb:PBx X body tb) (hs:∀ a,PSs (X.hnd a) (b₀::suite) ts) (hm:X.mg cn=some (.ref Dc)) (hg:Gl X cn:=by rfl) (hst:X.stack=X.env::X.outer:=by rfl) (hfm:X.env.frame=some X.env.locals:=by rfl) (hdb:(cn==("__debug__":Str))=false:=by decide) :
  PS X (.Try body [.ExceptHandler (some (.Name cn np)) none (b₀::suite) hpos] [] [] pos) (tTry X.K Dc tb ts):=by
 intro pins s σ H D I h
 refine wpAny_Try_except (wpAny_mono (hb pins s σ H D _ I h) (fun f s1 q=>?_) fun ev s1 ⟨a,H1,C,d,ee,I1,x1,hx,⟨C',d',hx',xm⟩,q⟩=>?_)
 ·cases f with
  | next=>exact wpAny_execs_nil q
  | brk=>exact q
  | cont=>exact q
  | ret u=>exact q
 ·subst ee
  obtain ⟨rfl,rfl⟩:=aDt I1.hok hx hx'
  refine I1.flight hst hfm I1.ok.frames x1 hx fun h2 I2 x2=>?_
  refine wpAny_handleBy_cons (codeAny_handlers_test (mR (X:=X.hnd a) (I2.hnd a) hg hm ?_ hdb)) (by intro q; cases q)
  obtain ⟨bm,ini,c1,c2⟩:=xm.c
  obtain ⟨bmD,iniD,d1,d2⟩:=xm.d
  obtain ⟨vs,sl,z⟩:=XO.at I2.hok hx
  refine excM (qI I2.kIn c1) z rfl (qI I2.kIn d1) d2 c2 ?_
  refine codeAny_handlers_suite (I2.again hst hfm x2 hx fun h3 I3 x3=>?_)
  exact wpAny_mono ((hs a) pins _ σ H1 D (I3.hnd a) q) (fun f s4 q4=>q4.unhnd I3.ok) fun _ _ z=>z.elim
end
end L2
namespace L2
open PySem PySem.Spec PySem.W PySem.Calls PyProof.Rows Builtin Builtin.ObjectAttr
section
variable {prog:Program} {w:World} {A:Around} {E:Value->Shared->Prop} {s:Shared} {K:Frag} {x C LE:Addr} {c name:Str}
theorem Xc.mro (F:Xc K c C LE) (b:Value):mroIn K C b=some ((Value.ref C::.ref LE::vb).contains b):=by
 obtain ⟨cd,h1,_,h2⟩:=F.cd
 unfold mroIn
 rw [h1,Option.bind_some,h2]
 rfl
end
noncomputable def clV:V->Option Value
 | .ref a=>some (.ref a)
 | .ty n=>some (.type n)
 | _=>none
section
variable {X:Cx} {pins:List (Addr×Obj)} {σ:List (Option V)} {H:Hp} {s:Shared}
end
end L2
namespace EV
open PySem PySem.Spec PyProof.Rows L2
noncomputable abbrev St:=L2.St
inductive D where
 | non | bl (b:Bool) | int (i:Int) | str (x:Str) | tup (xs:List D) | lst (xs:List D) | fz (xs:List D)
 | exn (c f:Str) (xs:List D)
inductive W where
 | d (x:D) | ref (i:Nat)
noncomputable abbrev Lc:=List (Option W)
noncomputable abbrev Mm:=List (List D)
noncomputable abbrev Exn:=D
inductive Oc (α:Type) where
 | ok (a:α) (M:Mm) | ex (x:Exn) (M:Mm) | bad
noncomputable def Oc.bind {α β:Type} (o:Oc α) (k:α->Mm->Oc β):Oc β:=match o with
 | .ok a M=>k a M
 | .ex x M=>.ex x M
 | .bad=>.bad
@[simp] theorem eZ {α β:Type} (a:α) (M:Mm) (k:α->Mm->Oc β):(Oc.ok a M).bind k=k a M:=rfl
@[simp] theorem aFm {α β:Type} (x:Exn) (M:Mm) (k:α->Mm->Oc β):(Oc.ex x M:Oc α).bind k=.ex x M:=rfl
@[simp] theorem aKa {α β:Type} (k:α->Mm->Oc β):(Oc.bad:Oc α).bind k=.bad:=rfl
section
variable (K:PySem.W.Frag) (μ:List Addr) (H:Hp)
noncomputable def FzL (a:Addr) (vs:List V):Prop:=(∃ o,H a=some (.frz o (.lst vs))) \/
 ∃ (o:Obj) (its:Array Value) (n:Nat),K.lookup a=some o/\o.cls=.type "list"/\o.dict=none/\o.data=.seq its n/\its.size<=sizeLine/\Vals vs its.toList
noncomputable def XFl (C:Addr) (f:Str) (d:Option Addr) (vs:List V):Prop:=(d=none/\vs=[])\/∃ dx u,d=some dx/\vs=[u]/\H dx=some (.xd [(f,u)])/\PySem.W.findIn K (.ref C) f=some none
mutual
noncomputable def Rp:D->V->Prop
 | .non,v=>v=.non
 | .bl b,v=>v=.bl b
 | .int i,v=>v=.int i
 | .str x,v=>v=.str x
 | .tup ds,v=>∃ a vs,v=.ref a/\H a=some (.tup vs)/\Rps ds vs
 | .lst ds,v=>∃ a vs,v=.ref a/\H a=some (.lst vs)/\a∉μ/\Rps ds vs
 | .fz ds,v=>∃ a vs,v=.ref a/\FzL K H a vs/\Rps ds vs
 | .exn c f ds,v=>∃ a vs C LE d,v=.ref a/\H a=some (XO a C d)/\Xc K c C LE/\XFl K H C f d vs/\Rps ds vs
noncomputable def Rps:List D->List V->Prop
 | [],vs=>vs=[]
 | d::ds,vs=>∃ v r,vs=v::r/\Rp d v/\Rps ds r
end
noncomputable def Rw:W->V->Prop
 | .d x,v=>Rp K μ H x v
 | .ref i,v=>∃ a,μ[i]?=some a/\v=.ref a
noncomputable def Rws:List W->List V->Prop
 | [],vs=>vs=[]
 | d::ds,vs=>∃ v r,vs=v::r/\Rw K μ H d v/\Rws ds r
structure HR (M:Mm):Prop where
 len:μ.length=M.length
 nd:μ.Nodup
 ent:∀ (i:Nat) (a:Addr) (ds:List D),μ[i]?=some a->M[i]?=some ds->∃ vs,H a=some (.lst vs)/\Rps K μ H ds vs
structure LR (L:Lc) (σ:St):Prop where
 len:L.length=σ.length
 ent:∀ (i:Nat) (w:W),L[i]?=some (some w)->∃ v,σ[i]?=some (some v)/\Rw K μ H w v
end
structure Ext (μ:List Addr) (H:Hp) (μ':List Addr) (H':Hp):Prop where
 keep:∀ a o,a∉μ->H a=some o->H' a=some o
 new:∀ a,a∈μ'->a∈μ\/H a=none
 pre:∀ (i:Nat) (a:Addr),μ[i]?=some a->μ'[i]?=some a
section
variable {K:PySem.W.Frag} {μ μ1 μ2:List Addr} {H H1 H2:Hp} {M:Mm}
theorem FzL.sq {a:Addr} {vs:List V} (h:FzL K H a vs):SqL K H a vs:=by
 rcases h with ⟨o,h⟩ | h
 ·exact .inl (.inr ⟨o,h⟩)
 ·exact .inr h
theorem Ext.refl:Ext μ H μ H:=⟨fun _ _ _ h=>h,fun _ h=>.inl h,fun _ _ h=>h⟩
theorem Ext.out (e:Ext μ H μ1 H1) {a:Addr} {o:HO} (h:H a=some o) (n:a∉μ):a∉μ1:=fun z=>by
 rcases e.new a z with z | z
 ·exact n z
 ·rw [h] at z; cases z
theorem Ext.trans (e:Ext μ H μ1 H1) (f:Ext μ1 H1 μ2 H2):Ext μ H μ2 H2 where
 keep:=fun a o n h=>f.keep a o (e.out h n) (e.keep a o n h)
 new:=fun a h=>by
  rcases f.new a h with h | h
  ·exact e.new a h
  ·by_cases n:a∈μ
   ·exact .inl n
   ·cases q:H a with
    | none=>exact .inr rfl
    | some o=>rw [e.keep a o n q] at h; cases h
 pre:=fun i a h=>f.pre i a (e.pre i a h)
noncomputable def Lsts (μ:List Addr) (H:Hp):Prop:=∀ a∈μ,∃ vs,H a=some (.lst vs)
theorem HR.lsts (h:HR K μ H M):Lsts μ H:=fun a ha=>by
 obtain ⟨i,hi,e⟩:=List.mem_iff_getElem.mp ha
 have hM:i < M.length:=h.len▸hi
 obtain ⟨vs,q,_⟩:=h.ent i a M[i] (by rw [List.getElem?_eq_getElem hi,e]) (by simp [hM])
 exact ⟨vs,q⟩
theorem Rd.ext {a:Addr} {u:HO} (hu:∀ vs,u≠.lst vs) (l:Lsts μ H) (e:Ext μ H μ1 H1) (h:Rd H a u):Rd H1 a u:=by
 rcases h with h | ⟨o,h⟩
 ·exact .inl (e.keep a _ (fun z=>by obtain ⟨vs,q⟩:=l a z; rw [h] at q; cases q; exact hu _ rfl) h)
 ·exact .inr ⟨o,e.keep a _ (fun z=>by obtain ⟨vs,q⟩:=l a z; rw [h] at q; cases q) h⟩
theorem SqT.ext {a:Addr} {vs:List V} (l:Lsts μ H) (e:Ext μ H μ1 H1) (h:SqT K H a vs):SqT K H1 a vs:=by
 rcases h with h | h
 ·exact .inl (Rd.ext (fun _ z=>by cases z) l e h)
 ·exact .inr h
theorem FzL.ext {a:Addr} {vs:List V} (l:Lsts μ H) (e:Ext μ H μ1 H1) (h:FzL K H a vs):FzL K H1 a vs:=by
 rcases h with ⟨o,h⟩ | h
 ·exact .inl ⟨o,e.keep a _ (fun z=>by obtain ⟨vs,q⟩:=l a z; rw [h] at q; cases q) h⟩
 ·exact .inr h
theorem XFl.ext {C:Addr} {f:Str} {d:Option Addr} {vs:List V} (l:Lsts μ H) (e:Ext μ H μ1 H1) (h:XFl K H C f d vs):XFl K H1 C f d vs:=by
 rcases h with h | ⟨dx,u,h1,h2,h3,h4⟩
 ·exact .inl h
 ·exact .inr ⟨dx,u,h1,h2,e.keep dx _ (fun z=>by obtain ⟨vs,q⟩:=l dx z; rw [h3] at q; cases q) h3,h4⟩
mutual
theorem Rp.ext (l:Lsts μ H) (e:Ext μ H μ1 H1):∀ (d:D) (v:V),Rp K μ H d v->Rp K μ1 H1 d v
 | .non,v,h=>by simpa [Rp] using h
 | .bl b,v,h=>by simpa [Rp] using h
 | .int b,v,h=>by simpa [Rp] using h
 | .str b,v,h=>by simpa [Rp] using h
 | .tup ds,v,h=>by
  simp only [Rp] at h ⊢
  obtain ⟨a,vs,e1,e2,e3⟩:=h
  exact ⟨a,vs,e1,e.keep _ _ (fun z=>by obtain ⟨us,q⟩:=l a z; rw [e2] at q; cases q) e2,Rps.ext l e ds vs e3⟩
 | .lst ds,v,h=>by
  simp only [Rp] at h ⊢
  obtain ⟨a,vs,e1,e2,n,e3⟩:=h
  exact ⟨a,vs,e1,e.keep _ _ n e2,e.out e2 n,Rps.ext l e ds vs e3⟩
 | .fz ds,v,h=>by
  simp only [Rp] at h ⊢
  obtain ⟨a,vs,e1,e2,e3⟩:=h
  exact ⟨a,vs,e1,FzL.ext l e e2,Rps.ext l e ds vs e3⟩
 | .exn c f ds,v,h=>by
  simp only [Rp] at h ⊢
  obtain ⟨a,vs,C,LE,d,e1,e2,e3,e4,e5⟩:=h
  exact ⟨a,vs,C,LE,d,e1,e.keep _ _ (fun z=>by obtain ⟨us,q⟩:=l a z; rw [e2] at q; cases q) e2,e3,XFl.ext l e e4,Rps.ext l e ds vs e5⟩
theorem Rps.ext (l:Lsts μ H) (e:Ext μ H μ1 H1):∀ (ds:List D) (vs:List V),Rps K μ H ds vs->Rps K μ1 H1 ds vs
 | [],vs,h=>by simpa [Rps] using h
 | d::ds,vs,h=>by
  simp only [Rps] at h ⊢
  obtain ⟨v,r,e1,e2,e3⟩:=h
  exact ⟨v,r,e1,Rp.ext l e d v e2,Rps.ext l e ds r e3⟩
end
theorem Rw.ext (l:Lsts μ H) (e:Ext μ H μ1 H1) {w:W} {v:V} (h:Rw K μ H w v):Rw K μ1 H1 w v:=by
 cases w with
 | d x=>exact Rp.ext l e x v h
 | ref i=>obtain ⟨a,h1,h2⟩:=h; exact ⟨a,e.pre i a h1,h2⟩
theorem Rws.ext (l:Lsts μ H) (e:Ext μ H μ1 H1):∀ {ws:List W} {vs:List V},Rws K μ H ws vs->Rws K μ1 H1 ws vs
 | [],_,h=>h
 | _::_,_,⟨v,r,e1,e2,e3⟩=>⟨v,r,e1,Rw.ext l e e2,Rws.ext l e e3⟩
theorem LR.ext (l:Lsts μ H) (e:Ext μ H μ1 H1) {L:Lc} {σ:St} (h:LR K μ H L σ):LR K μ1 H1 L σ :=
 ⟨h.len,fun i w q=>let ⟨v,q1,q2⟩:=h.ent i w q; ⟨v,q1,Rw.ext l e q2⟩⟩
theorem Rps.length:∀ {ds:List D} {vs:List V},Rps K μ H ds vs->ds.length=vs.length
 | [],_,h=>by simp only [Rps] at h; subst h; rfl
 | _::_,_,h=>by simp only [Rps] at h; obtain ⟨v,r,e1,_,e3⟩:=h; subst e1; simp [Rps.length e3]
theorem Rps.get:∀ {ds:List D} {vs:List V} {i:Nat} {d:D},Rps K μ H ds vs->ds[i]?=some d->∃ v,vs[i]?=some v/\Rp K μ H d v
 | [],_,_,_,_,q=>by simp at q
 | _::_,_,0,_,h,q=>by simp only [Rps] at h; obtain ⟨v,r,e1,e2,e3⟩:=h; simp at q; subst q e1; exact ⟨v,rfl,e2⟩
 | _::_,_,i+1,_,h,q=>by
  simp only [Rps] at h; obtain ⟨v,r,e1,e2,e3⟩:=h; subst e1
  obtain ⟨u,q1,q2⟩:=Rps.get (i:=i) e3 (by simpa using q)
  exact ⟨u,by simpa using q1,q2⟩
theorem Rps.nil:Rps K μ H [] []:=by simp [Rps]
theorem Rps.cons {d:D} {v:V} {ds:List D} {vs:List V} (h:Rp K μ H d v) (t:Rps K μ H ds vs):Rps K μ H (d::ds) (v::vs):=by simp only [Rps]; exact ⟨v,vs,rfl,h,t⟩
theorem Rps.append:∀ {ds es:List D} {vs us:List V},Rps K μ H ds vs->Rps K μ H es us->Rps K μ H (ds++es) (vs++us)
 | [],_,_,_,h,t=>by simp only [Rps] at h; subst h; exact t
 | _::_,_,_,_,h,t=>by simp only [Rps] at h; obtain ⟨v,r,e1,e2,e3⟩:=h; subst e1; exact .cons e2 (Rps.append e3 t)
theorem Rps.drop:∀ {ds:List D} {vs:List V} (n:Nat),Rps K μ H ds vs->Rps K μ H (ds.drop n) (vs.drop n)
 | _,_,0,h=>by simpa using h
 | [],_,n+1,h=>by simp only [Rps] at h; subst h; exact .nil
 | _::_,_,n+1,h=>by simp only [Rps] at h; obtain ⟨v,r,e1,e2,e3⟩:=h; subst e1; simpa using Rps.drop n e3
theorem Rps.take:∀ {ds:List D} {vs:List V} (n:Nat),Rps K μ H ds vs->Rps K μ H (ds.take n) (vs.take n)
 | _,_,0,h=>by simpa using Rps.nil
 | [],_,n+1,h=>by simp only [Rps] at h; subst h; exact .nil
 | _::_,_,n+1,h=>by simp only [Rps] at h; obtain ⟨v,r,e1,e2,e3⟩:=h; subst e1; simpa using Rps.cons e2 (Rps.take n e3)
theorem Rps.set {d:D} {v:V} (q:Rp K μ H d v):∀ {ds:List D} {vs:List V} (n:Nat),Rps K μ H ds vs->Rps K μ H (ds.set n d) (vs.set n v)
 | [],_,n,h=>by simp only [Rps] at h; subst h; simpa using Rps.nil
 | _::_,_,0,h=>by simp only [Rps] at h; obtain ⟨u,r,e1,e2,e3⟩:=h; subst e1; simpa using Rps.cons q e3
 | _::_,_,n+1,h=>by simp only [Rps] at h; obtain ⟨u,r,e1,e2,e3⟩:=h; subst e1; simpa using Rps.cons e2 (Rps.set q n e3)
theorem Rps.eraseIdx:∀ {ds:List D} {vs:List V} (n:Nat),Rps K μ H ds vs->Rps K μ H (ds.eraseIdx n) (vs.eraseIdx n)
 | [],_,n,h=>by simp only [Rps] at h; subst h; simpa using Rps.nil
 | _::_,_,0,h=>by simp only [Rps] at h; obtain ⟨u,r,e1,e2,e3⟩:=h; subst e1; simpa using e3
 | _::_,_,n+1,h=>by simp only [Rps] at h; obtain ⟨u,r,e1,e2,e3⟩:=h; subst e1; simpa using Rps.cons e2 (Rps.eraseIdx n e3)
theorem Rps.reverse {ds:List D}:∀ {vs:List V},Rps K μ H ds vs->Rps K μ H ds.reverse vs.reverse:=by
 induction ds with
 | nil=>intro vs h; simp only [Rps] at h; subst h; exact .nil
 | cons d ds ih=>intro vs h; simp only [Rps] at h; obtain ⟨u,r,e1,e2,e3⟩:=h; subst e1; simpa using (ih e3).append (.cons e2 .nil)
theorem Rps.rep {ds:List D} {vs:List V} (h:Rps K μ H ds vs):∀ k:Nat,Rps K μ H (List.replicate k ds).flatten (List.replicate k vs).flatten
 | 0=>by simpa using Rps.nil
 | k+1=>by simpa [List.replicate_succ] using h.append (h.rep k)
theorem Rps.ints {ns:List Int}:Rps K μ H (ns.map D.int) (ns.map V.int):=by
 induction ns with
 | nil=>exact .nil
 | cons n r ih=>exact .cons (by simp [Rp]) ih
theorem Rws.length:∀ {ws:List W} {vs:List V},Rws K μ H ws vs->ws.length=vs.length
 | [],_,h=>by cases h; rfl
 | _::_,_,⟨v,r,e1,_,e3⟩=>by subst e1; simp [Rws.length e3]
theorem Rws.get:∀ {ws:List W} {vs:List V} {i:Nat} {w:W},Rws K μ H ws vs->ws[i]?=some w->∃ v,vs[i]?=some v/\Rw K μ H w v
 | [],_,_,_,_,q=>by simp at q
 | _::_,_,0,_,⟨v,r,e1,e2,e3⟩,q=>by simp at q; subst q e1; exact ⟨v,rfl,e2⟩
 | _::_,_,i+1,_,⟨v,r,e1,e2,e3⟩,q=>by
  subst e1
  obtain ⟨u,q1,q2⟩:=Rws.get (i:=i) e3 (by simpa using q)
  exact ⟨u,by simpa using q1,q2⟩
theorem HR.out (h:HR K μ H M) {p:Addr} (hp:H p=none):p∉μ:=fun z=>by
 obtain ⟨vs,q⟩:=h.lsts p z
 rw [hp] at q; cases q
theorem jR (h:HR K μ H M) {p:Addr} {o:HO} (hp:H p=none):Ext μ H μ (upd H p o) :=
 ⟨fun a u n q=>by rw [bF (cA q hp)]; exact q,fun a q=>.inl q,fun _ _ q=>q⟩
theorem HR.lay (h:HR K μ H M) {p:Addr} {o:HO} (hp:H p=none):HR K μ (upd H p o) M where
 len:=h.len
 nd:=h.nd
 ent:=fun i a ds q1 q2=>by
  obtain ⟨vs,q3,q4⟩:=h.ent i a ds q1 q2
  exact ⟨vs,by rw [bF (cA q3 hp)]; exact q3,Rps.ext h.lsts (jR h hp) _ _ q4⟩
theorem pK (h:HR K μ H M) {p:Addr} {vs:List V} (hp:H p=none):Ext μ H (μ++[p]) (upd H p (.lst vs)) where
 keep:=fun a u n q=>by rw [bF (cA q hp)]; exact q
 new:=fun a q=>by
  rcases List.mem_append.mp q with q | q
  ·exact .inl q
  ·rw [List.mem_singleton] at q; subst q; exact .inr hp
 pre:=fun i a q=>by
  rw [List.getElem?_append_left (List.getElem?_eq_some_iff.mp q).1]; exact q
theorem HR.new (h:HR K μ H M) {p:Addr} {ds:List D} {vs:List V} (hp:H p=none) (r:Rps K μ H ds vs):HR K (μ++[p]) (upd H p (.lst vs)) (M++[ds]) where
 len:=by simp [h.len]
 nd:=List.nodup_append.mpr ⟨h.nd,by simp,fun a ha b hb=>by rw [List.mem_singleton] at hb; subst hb; rintro rfl; exact h.out hp ha⟩
 ent:=fun i a es q1 q2=>by
  have x:=pK (vs:=vs) h hp
  by_cases hi:i < μ.length
  ·rw [List.getElem?_append_left hi] at q1
   rw [List.getElem?_append_left (by rw [<- h.len]; exact hi)] at q2
   obtain ⟨us,q3,q4⟩:=h.ent i a es q1 q2
   exact ⟨us,by rw [bF (cA q3 hp)]; exact q3,Rps.ext h.lsts x _ _ q4⟩
  ·have:i=μ.length:=by
    have:=(List.getElem?_eq_some_iff.mp q1).1
    simp at this; omega
   subst this
   rw [List.getElem?_append_right (Nat.le_refl _)] at q1
   rw [h.len,List.getElem?_append_right (Nat.le_refl _)] at q2
   simp at q1 q2
   subst q1 q2
   exact ⟨vs,cB,Rps.ext h.lsts x _ _ r⟩
theorem gF {i:Nat} {a:Addr} {o:HO} (q:μ[i]?=some a):Ext μ H μ (upd H a o) :=
 ⟨fun b u n q'=>by rw [bF (fun z=>n (by subst z; exact List.mem_of_getElem? q))]; exact q',fun a q=>.inl q,fun _ _ q=>q⟩
theorem HR.set (h:HR K μ H M) {i:Nat} {a:Addr} {ds:List D} {vs:List V} (q:μ[i]?=some a) (r:Rps K μ H ds vs):HR K μ (upd H a (.lst vs)) (M.set i ds) where
 len:=by simp [h.len]
 nd:=h.nd
 ent:=fun j b es q1 q2=>by
  have x:=gF (H:=H) (o:=.lst vs) q
  by_cases hj:i=j
  ·subst hj
   rw [q] at q1; cases q1
   have hlt:i < M.length:=by rw [<- h.len]; exact (List.getElem?_eq_some_iff.mp q).1
   rw [List.getElem?_set_self hlt] at q2; cases q2
   exact ⟨vs,cB,Rps.ext h.lsts x _ _ r⟩
  ·rw [List.getElem?_set_ne hj] at q2
   obtain ⟨us,q3,q4⟩:=h.ent j b es q1 q2
   have hb:b≠a:=by
    rintro rfl
    have h1:=(List.getElem?_eq_some_iff.mp q).1
    have h2:=(List.getElem?_eq_some_iff.mp q1).1
    have e1:=(List.getElem?_eq_some_iff.mp q).2
    have e2:=(List.getElem?_eq_some_iff.mp q1).2
    have pw:=List.pairwise_iff_getElem.mp h.nd
    rcases Nat.lt_or_gt_of_ne hj with l | l
    ·exact pw i j h1 h2 l (e1.trans e2.symm)
    ·exact pw j i h2 h1 l (e2.trans e1.symm)
   exact ⟨us,by rw [bF hb]; exact q3,Rps.ext h.lsts x _ _ q4⟩
theorem HR.at (h:HR K μ H M) {i:Nat} {ds:List D} (q:M[i]?=some ds):∃ a vs,μ[i]?=some a/\H a=some (.lst vs)/\Rps K μ H ds vs:=by
 have hlt:i < μ.length:=by rw [h.len]; exact (List.getElem?_eq_some_iff.mp q).1
 obtain ⟨vs,q1,q2⟩:=h.ent i μ[i] ds (by simp [hlt]) q
 exact ⟨μ[i],vs,by simp [hlt],q1,q2⟩
end
structure Zt where
 z:Exn->Mm->List Addr->Hp->Prop
 mono:∀ {x M μ H μ' H'},Ext μ H μ' H'->z x M μ H->z x M μ' H'
noncomputable def Z0:Zt:=⟨fun _ _ _ _=>False,fun _ h=>h⟩
noncomputable def Pst {α:Type} (K:PySem.W.Frag) (Z:Zt) (μ:List Addr) (H:Hp) (o:Oc α) (Q:List Addr->Hp->Mm->α->Prop):Prop:=match o with
 | .ok a M'=>∀ μ' H',Ext μ H μ' H'->HR K μ' H' M'->Q μ' H' M' a
 | .ex x M'=>Z.z x M' μ H
 | .bad=>False
section
variable {α β:Type} {K:PySem.W.Frag} {Z:Zt} {μ μ1:List Addr} {H H1:Hp} {o:Oc α} {Q Q':List Addr->Hp->Mm->α->Prop}
theorem Pst.mono (e:Ext μ H μ1 H1) (h:Pst K Z μ H o Q):Pst K Z μ1 H1 o Q:=by
 cases o with
 | ok a M=>exact fun μ' H' e' hr=>h μ' H' (e.trans e') hr
 | ex x M=>exact Z.mono e h
 | bad=>exact h
theorem Pst.imp (h:Pst K Z μ H o Q) (f:∀ μ' H' M' a,Ext μ H μ' H'->HR K μ' H' M'->o=.ok a M'->Q μ' H' M' a->Q' μ' H' M' a):Pst K Z μ H o Q':=by
 cases o with
 | ok a M=>exact fun μ' H' e' hr=>f μ' H' M a e' hr rfl (h μ' H' e' hr)
 | ex x M=>exact h
 | bad=>exact h
theorem Pst.bind {k:α->Mm->Oc β} {R:List Addr->Hp->Mm->β->Prop} (h:Pst K Z μ H (o.bind k) R):Pst K Z μ H o (fun μ' H' M' a=>Pst K Z μ' H' (k a M') R):=by
 cases o with
 | ok a M=>exact fun μ' H' e' hr=>Pst.mono e' h
 | ex x M=>exact h
 | bad=>exact h
end
noncomputable abbrev FE:=Lc->Mm->Oc W
noncomputable abbrev FT:=Lc->Mm->Oc Bool
noncomputable abbrev FA:=Lc->Mm->Oc (List W)
inductive Out where
 | nx (L:Lc) | bk (L:Lc) | ct (L:Lc) | rt (w:W)
noncomputable abbrev FS:=Lc->Mm->Oc Out
noncomputable abbrev FG:=W->Lc->Mm->Oc Lc
noncomputable abbrev FGs:=List D->Lc->Mm->Oc Lc
noncomputable abbrev Fn:=List W->Mm->Oc W
section
variable (K:PySem.W.Frag) (Z:Zt)
noncomputable def lift (f:FE):TE:=fun σ H Q=>∃ μ M L,HR K μ H M/\LR K μ H L σ/\Pst K Z μ H (f L M) fun μ' H' _ w=>∀ v,Rw K μ' H' w v->Q v H'
noncomputable def liftT (f:FT):TT:=fun σ H Q=>∃ μ M L,HR K μ H M/\LR K μ H L σ/\Pst K Z μ H (f L M) fun μ' H' M' b=>Q b H'
noncomputable def liftA (f:FA):TA:=fun σ H Q=>∃ μ M L,HR K μ H M/\LR K μ H L σ/\Pst K Z μ H (f L M) fun μ' H' _ ws=>∀ vs,Rws K μ' H' ws vs->Q vs H'
end
end EV
namespace EV
open PySem PySem.Spec PyProof.Rows L2
section
variable (X:Cx) (K:PySem.W.Frag) (Z:Zt)
noncomputable abbrev Sk (K:PySem.W.Frag) (E:Ends) (μ':List Addr) (H':Hp) (_:Mm) (o:Out):Prop:=match o with
 | .nx L'=>∀ σ',LR K μ' H' L' σ'->E.nx σ' H'
 | .bk L'=>∀ σ',LR K μ' H' L' σ'->E.bk σ' H'
 | .ct L'=>∀ σ',LR K μ' H' L' σ'->E.ct σ' H'
 | .rt w=>∀ v,Rw K μ' H' w v->E.rt v H'
noncomputable def liftS (F:FS):TS:=fun E σ H=>∃ μ M L,HR K μ H M/\LR K μ H L σ/\Pst K Z μ H (F L M) (Sk K E)
noncomputable def liftG (g:FG):TG:=fun v σ H Q=>∃ μ M L w,HR K μ H M/\LR K μ H L σ/\Rw K μ H w v/\Pst K Z μ H (g w L M) fun μ' H' _ L'=>∀ σ',LR K μ' H' L' σ'->Q σ' H'
noncomputable def liftGs (g:FGs):TGs:=fun vs σ H Q=>∃ μ M L ds,HR K μ H M/\LR K μ H L σ/\Rps K μ H ds vs/\Pst K Z μ H (g ds L M) fun μ' H' _ L'=>∀ σ',LR K μ' H' L' σ'->Q σ' H'
structure Ev (e:Expr) (f:FE):Prop where
 k:X.K=K
 h:PE X e (lift K Z f)
structure Et (e:Expr) (f:FT):Prop where
 k:X.K=K
 h:PT X e (liftT K Z f)
structure Ew (e:Expr) (f:FT):Prop where
 k:X.K=K
 h:PW X e (liftT K Z f)
structure Ea (es:List Expr) (f:FA):Prop where
 k:X.K=K
 h:PA X es (liftA K Z f)
structure Es (st:Stmt) (F:FS):Prop where
 k:X.K=K
 h:PS X st (liftS K Z F)
structure Ess (st:List Stmt) (F:FS):Prop where
 k:X.K=K
 h:PSs X st (liftS K Z F)
structure Eg (tg:Expr) (g:FG):Prop where
 k:X.K=K
 h:PG X tg (liftG K Z g)
structure Egs (tg:List Expr) (g:FGs):Prop where
 k:X.K=K
 h:PGs X tg (liftGs K Z g)
end
section
variable {X:Cx} {K:PySem.W.Frag} {Z:Zt} {e a b:Expr} {es:List Expr} {pos:Pos} {f fa fb fc:FE} {t ta tb:FT} {fs:FA}
theorem cqE {t t':TE} (h:PE X e t) (i:∀ σ H Q,t' σ H Q->t σ H Q):PE X e t':=fun pins s σ H Q I q=>h pins s σ H Q I (i _ _ _ q)
theorem cqT {t t':TT} (h:PT X e t) (i:∀ σ H Q,t' σ H Q->t σ H Q):PT X e t':=fun pins s σ H Q I q=>h pins s σ H Q I (i _ _ _ q)
theorem cqW {t t':TT} (h:PW X e t) (i:∀ σ H Q,t' σ H Q->t σ H Q):PW X e t':=fun wh pins s σ H Q I q=>h wh pins s σ H Q I (i _ _ _ q)
theorem cqA {t t':TA} (h:PA X es t) (i:∀ σ H Q,t' σ H Q->t σ H Q):PA X es t':=fun p pins s σ H Q I q=>h p pins s σ H Q I (i _ _ _ q)
theorem cqS {st:Stmt} {t t':TS} (h:PS X st t) (i:∀ E σ H,t' E σ H->t E σ H):PS X st t':=fun pins s σ H E I q=>h pins s σ H E I (i _ _ _ q)
theorem cqSs {st:List Stmt} {t t':TS} (h:PSs X st t) (i:∀ E σ H,t' E σ H->t E σ H):PSs X st t':=fun pins s σ H E I q=>h pins s σ H E I (i _ _ _ q)
theorem cqG {t t':TG} (h:PG X e t) (i:∀ v σ H Q,t' v σ H Q->t v σ H Q):PG X e t':=fun pins s σ H v u Q I r q=>h pins s σ H v u Q I r (i _ _ _ _ q)
theorem cqGs {t t':TGs} (h:PGs X es t) (i:∀ v σ H Q,t' v σ H Q->t v σ H Q):PGs X es t':=fun pins s σ H v u Q I r q=>h pins s σ H v u Q I r (i _ _ _ _ q)
noncomputable def eV (i:Nat):FE:=fun L M=>match L[i]? with
 | some (some w)=>.ok w M
 | _=>.bad
noncomputable def eC (d:D):FE:=fun _ M=>.ok (.d d) M
theorem aD (i:Nat) {x:Str} (hN:X.N[i]?=some x:=by rfl) (hk:X.K=K:=by rfl) (hv:Vis X.env.scope x:=by first | exact Or.inl rfl | exact Or.inr (Or.inl rfl) | exact Or.inr (Or.inr rfl))
  (hd:(x==("__debug__":Str))=false:=by decide) (hcd:(x==("__classdict__":Str))=false:=by decide):Ev X K Z (.Name x pos) (eV i) :=
 ⟨hk,cqE (aDr hN hv hd hcd) fun σ H Q ⟨μ,M,L,hr,lr,p⟩=>by
  unfold eV at p
  cases q:L[i]? with
  | none=>rw [q] at p; exact p.elim
  | some o =>
   cases o with
   | none=>rw [q] at p; exact p.elim
   | some w =>
    rw [q] at p
    obtain ⟨v,q1,q2⟩:=lr.ent i w q
    exact ⟨v,q1,p μ H .refl hr v q2⟩⟩
theorem aDv {d:D} {v:V} (hd:∀ K μ H,Rp K μ H d v) (hk:X.K=K) (h:PE X e (tC v)):Ev X K Z e (eC d) :=
 ⟨hk,cqE h fun σ H Q ⟨μ,M,L,hr,lr,p⟩=>p μ H .refl hr v (hd K μ H)⟩
theorem aE {i:Int} {j:Nat} (hk:X.K=K:=by rfl):Ev X K Z (.Constant (.int i) j pos) (eC (.int i)):=aDv (fun _ _ _=>by simp [Rp]) hk aBa
theorem iU {i:Bool} {j:Nat} (hk:X.K=K:=by rfl):Ev X K Z (.Constant (.bool i) j pos) (eC (.bl i)):=aDv (fun _ _ _=>by simp [Rp]) hk aLg
theorem pZ {j:Nat} (hk:X.K=K:=by rfl):Ev X K Z (.Constant .none j pos) (eC .non):=aDv (fun _ _ _=>by simp [Rp]) hk aIs
theorem aZ {x:Str} {j:Nat} (hk:X.K=K:=by rfl):Ev X K Z (.Constant (.str x) j pos) (eC (.str x)):=aDv (fun _ _ _=>by simp [Rp]) hk aCc
noncomputable def e1 (g:W->Mm->Oc W) (f:FE):FE:=fun L M=>(f L M).bind g
noncomputable def e2 (g:W->W->Mm->Oc W) (f1 f2:FE):FE:=fun L M=>(f1 L M).bind fun x M1=>(f2 L M1).bind fun y M2=>g x y M2
noncomputable abbrev Wk (K:PySem.W.Frag) (Q:VK):List Addr->Hp->Mm->W->Prop:=fun μ' H' _ w=>∀ v,Rw K μ' H' w v->Q v H'
noncomputable def Op2 (K:PySem.W.Frag) (Z:Zt) (r:R2) (g:W->W->Mm->Oc W):Prop :=
 ∀ (μ:List Addr) (H:Hp) (M:Mm) (x y:W) (v u:V) (Q:VK),HR K μ H M->Rw K μ H x v->Rw K μ H y u->Pst K Z μ H (g x y M) (Wk K Q)->r v u H Q
noncomputable def OpG (X:Cx) (K:PySem.W.Frag) (Z:Zt) (f:Value->Value->Sem Value) (g:W->W->Mm->Oc W):Prop:=X.K=K->∃ r,OpR X f r/\Op2 K Z r g
theorem lift2 {r:R2} {g:W->W->Mm->Oc W} (hg:Op2 K Z r g):∀ σ H Q,lift K Z (e2 g fa fb) σ H Q->tOp r (lift K Z fa) (lift K Z fb) σ H Q:=by
 rintro σ H Q ⟨μ,M,L,hr,lr,p⟩
 refine ⟨μ,M,L,hr,lr,p.bind.imp fun μ1 H1 M1 x e1 hr1 _ p1 v rx=>?_⟩
 refine ⟨μ1,M1,L,hr1,lr.ext hr.lsts e1,p1.bind.imp fun μ2 H2 M2 y e2 hr2 _ p2 u ry=>?_⟩
 exact hg μ2 H2 M2 x y v u Q hr2 (rx.ext hr1.lsts e2) ry p2
theorem aJ {op:Operator} {g:W->W->Mm->Oc W} (ho:OpG X K Z (binaryOp op) g) (ha:Ev X K Z a fa) (hb:Ev X K Z b fb):Ev X K Z (.BinOp a op b pos) (e2 g fa fb):=by
 obtain ⟨r,h1,h2⟩:=ho ha.k
 exact ⟨ha.k,cqE (aKk h1 ha.h hb.h) (lift2 h2)⟩
theorem jQ {op:CmpOp} {g:W->W->Mm->Oc W} (ho:OpG X K Z (compareOp op) g) (ha:Ev X K Z a fa) (hb:Ev X K Z b fb) (hm:behindInMarks op b=false):Ev X K Z (.Compare a [op] [b] pos) (e2 g fa fb):=by
 obtain ⟨r,h1,h2⟩:=ho ha.k
 exact ⟨ha.k,cqE (aEr h1 ha.h hb.h hm) (lift2 h2)⟩
noncomputable def tB (f:FE):FT:=fun L M=>(f L M).bind fun w M1=>match w with
 | .d (.bl b)=>.ok b M1
 | _=>.bad
theorem aW {op:CmpOp} {g:W->W->Mm->Oc W} (ho:OpG X K Z (compareOp op) g) (ha:Ev X K Z a fa) (hb:Ev X K Z b fb) (hm:behindInMarks op b=false):Et X K Z (.Compare a [op] [b] pos) (tB (e2 g fa fb)):=by
 obtain ⟨r,h1,h2⟩:=ho ha.k
 refine ⟨ha.k,cqT (aFr h1 ha.h hb.h hm) ?_⟩
 rintro σ H Q ⟨μ,M,L,hr,lr,p⟩
 refine lift2 h2 σ H _ ⟨μ,M,L,hr,lr,p.bind.imp fun μ1 H1 M1 x e1 hr1 _ p1 v rx=>?_⟩
 cases x with
 | d y=>cases y with
  | bl c=>exact ⟨c,by simpa [Rw,Rp] using rx,p1 μ1 H1 .refl hr1⟩
  | _=>exact p1.elim
 | ref i=>exact p1.elim
noncomputable def tru (M:Mm):W->Option Bool
 | .d .non=>some false
 | .d (.bl b)=>some b
 | .d (.int i)=>some (i != 0)
 | .d (.str x)=>if x.length<=16777216 then some (x.length != 0) else none
 | .d (.tup xs)=>some (!xs.isEmpty)
 | .d (.lst xs)=>some (!xs.isEmpty)
 | .d (.fz xs)=>some (!xs.isEmpty)
 | .d (.exn _ _ _)=>none
 | .ref i=>(M[i]?).map fun xs=>!xs.isEmpty
noncomputable def tV (f:FE):FT:=fun L M=>(f L M).bind fun w M1=>match tru M1 w with
 | some b=>.ok b M1
 | none=>.bad
theorem emp {μ:List Addr} {H:Hp} {ds:List D} {vs:List V} (r:Rps K μ H ds vs):(!ds.isEmpty)=!vs.isEmpty:=by
 have:=r.length
 cases ds <;> cases vs <;> simp_all
theorem aKc {μ:List Addr} {H:Hp} {M:Mm} {w:W} {v:V} {b:Bool} (hr:HR K μ H M) (r:Rw K μ H w v) (h:tru M w=some b):TruV K v H b:=by
 cases w with
 | ref i =>
  obtain ⟨a,q,rfl⟩:=r
  simp only [tru,Option.map_eq_some_iff] at h
  obtain ⟨xs,h1,rfl⟩:=h
  obtain ⟨a',vs,q1,q2,q3⟩:=hr.at h1
  rw [q] at q1; cases q1
  exact .inl ⟨vs,SqL.of q2,emp q3⟩
 | d x =>
  cases x with
  | non=>simp only [Rw,Rp] at r; subst r; simp only [tru,Option.some.injEq] at h; exact h.symm
  | bl c=>simp only [Rw,Rp] at r; subst r; simp only [tru,Option.some.injEq] at h; exact h.symm
  | int i=>simp only [Rw,Rp] at r; subst r; simp only [tru,Option.some.injEq] at h; exact h.symm
  | str z =>
   simp only [Rw,Rp] at r; subst r
   simp only [tru] at h
   split at h
   ·rename_i hz
    cases h
    refine ⟨by rw [sizeLine_eq]; exact hz,?_⟩
    rw [Bool.eq_iff_iff]; simp
   ·cases h
  | tup xs=>simp only [Rw,Rp] at r; obtain ⟨a,vs,rfl,q1,q2⟩:=r; simp only [tru,Option.some.injEq] at h; subst h; exact .inr (.inl ⟨vs,SqT.of q1,emp q2⟩)
  | lst xs=>simp only [Rw,Rp] at r; obtain ⟨a,vs,rfl,q1,_,q2⟩:=r; simp only [tru,Option.some.injEq] at h; subst h; exact .inl ⟨vs,SqL.of q1,emp q2⟩
  | fz xs=>simp only [Rw,Rp] at r; obtain ⟨a,vs,rfl,q1,q2⟩:=r; simp only [tru,Option.some.injEq] at h; subst h; exact .inl ⟨vs,q1.sq,emp q2⟩
  | exn c f xs=>simp [tru] at h
theorem lT (ha:Ev X K Z a f) (he:∀ whole,isTrue a X.env whole=(do let v <- whole; standAt a.pos; holding [v] (truthy v)):=by intro _; rfl):Et X K Z a (tV f):=by
 refine ⟨ha.k,cqT (aBe ha.h he) ?_⟩
 rintro σ H Q ⟨μ,M,L,hr,lr,p⟩
 refine ⟨μ,M,L,hr,lr,p.bind.imp fun μ1 H1 M1 x e1 hr1 _ p1 v rx=>?_⟩
 cases q:tru M1 x with
 | none=>rw [q] at p1; exact p1.elim
 | some k=>rw [q] at p1; exact ⟨k,by rw [ha.k]; exact aKc hr1 rx q,p1 μ1 H1 .refl hr1⟩
noncomputable def tNot (t:FT):FT:=fun L M=>(t L M).bind fun b M1=>.ok (!b) M1
noncomputable def tAnd (t u:FT):FT:=fun L M=>(t L M).bind fun b M1=>if b=true then u L M1 else .ok false M1
noncomputable def tOr (t u:FT):FT:=fun L M=>(t L M).bind fun b M1=>if b=true then .ok true M1 else u L M1
theorem aHk (ha:Et X K Z a ta):Et X K Z (.UnaryOp .Not a pos) (tNot ta):=by
 refine ⟨ha.k,cqT (aGp ha.h) ?_⟩
 rintro σ H Q ⟨μ,M,L,hr,lr,p⟩
 exact ⟨μ,M,L,hr,lr,p.bind.imp fun μ1 H1 M1 x e1 hr1 _ p1=>p1 μ1 H1 .refl hr1⟩
variable {rest:List Expr}
theorem kQ (ha:Et X K Z a ta):Ew X K Z (.BoolOp .And [a] pos) ta:=⟨ha.k,aEm ha.h⟩
theorem nO (ha:Et X K Z a ta):Ew X K Z (.BoolOp .Or [a] pos) ta:=⟨ha.k,aGn ha.h⟩
theorem mB (ha:Et X K Z a ta) (hb:Ew X K Z (.BoolOp .And (b::rest) pos) tb):Ew X K Z (.BoolOp .And (a::b::rest) pos) (tAnd ta tb):=by
 refine ⟨ha.k,cqW (aHl ha.h hb.h) ?_⟩
 rintro σ H Q ⟨μ,M,L,hr,lr,p⟩
 refine ⟨μ,M,L,hr,lr,p.bind.imp fun μ1 H1 M1 x e1 hr1 _ p1=>?_⟩
 cases x with
 | true=>exact ⟨μ1,M1,L,hr1,lr.ext hr.lsts e1,p1⟩
 | false=>exact p1 μ1 H1 .refl hr1
theorem oR (ha:Et X K Z a ta) (hb:Ew X K Z (.BoolOp .Or (b::rest) pos) tb):Ew X K Z (.BoolOp .Or (a::b::rest) pos) (tOr ta tb):=by
 refine ⟨ha.k,cqW (aKn ha.h hb.h) ?_⟩
 rintro σ H Q ⟨μ,M,L,hr,lr,p⟩
 refine ⟨μ,M,L,hr,lr,p.bind.imp fun μ1 H1 M1 x e1 hr1 _ p1=>?_⟩
 cases x with
 | true=>exact p1 μ1 H1 .refl hr1
 | false=>exact ⟨μ1,M1,L,hr1,lr.ext hr.lsts e1,p1⟩
theorem pB (h:Ew X K Z a ta):Et X K Z a ta:=⟨h.k,h.h.pt⟩
end
end EV
namespace EV
open PySem PySem.Spec PyProof.Rows L2
noncomputable def lv (M:Mm):W->Option (List D)
 | .d (.lst xs)=>some xs
 | .ref i=>M[i]?
 | _=>none
noncomputable def lr (M:Mm):W->Option (List D)
 | .d (.fz xs)=>some xs
 | w=>lv M w
noncomputable def sv (M:Mm):W->Option (List D)
 | .d (.tup xs)=>some xs
 | w=>lr M w
noncomputable def okD (d:D) (M:Mm):Oc W:=.ok (.d d) M
@[simp] theorem aLi (d:D) (M:Mm):okD d M=.ok (.d d) M:=rfl
section
variable {X:Cx} {K:PySem.W.Frag} {Z:Zt} {μ:List Addr} {H:Hp} {M:Mm} {e a b:Expr} {es:List Expr} {pos:Pos} {f fa fb:FE} {fs:FA}
theorem OpR.or {F:Value->Value->Sem Value} {r r':R2} (h:OpR X F r) (h':OpR X F r'):OpR X F (fun x y H Q=>r x y H Q\/r' x y H Q):=by
 intro pins s σ H x y v u Q I rx ry q
 rcases q with q | q
 ·exact h pins s σ H x y v u Q I rx ry q
 ·exact h' pins s σ H x y v u Q I rx ry q
theorem yA {w:W} {v:V} {ds:List D} (hr:HR K μ H M) (r:Rw K μ H w v) (h:lv M w=some ds):∃ a vs,v=.ref a/\H a=some (.lst vs)/\Rps K μ H ds vs:=by
 cases w with
 | ref i =>
  obtain ⟨a,q,rfl⟩:=r
  obtain ⟨a',vs,q1,q2,q3⟩:=hr.at h
  rw [q] at q1; cases q1
  exact ⟨a,vs,rfl,q2,q3⟩
 | d x =>
  cases x with
  | lst xs=>simp only [lv,Option.some.injEq] at h; subst h; simp only [Rw,Rp] at r; obtain ⟨a,vs,e,q1,_,q2⟩:=r; exact ⟨a,vs,e,q1,q2⟩
  | _=>simp [lv] at h
theorem xS {w:W} {v:V} {ds:List D} (hr:HR K μ H M) (r:Rw K μ H w v) (h:lr M w=some ds):∃ a vs,v=.ref a/\SqL K H a vs/\Rps K μ H ds vs:=by
 by_cases hf:∃ xs,w=.d (.fz xs)
 ·obtain ⟨xs,rfl⟩:=hf
  simp only [lr,Option.some.injEq] at h; subst h
  simp only [Rw,Rp] at r; obtain ⟨a,vs,e,q1,q2⟩:=r
  exact ⟨a,vs,e,q1.sq,q2⟩
 ·have:lr M w=lv M w:=by
   cases w with
   | ref i=>rfl
   | d x=>cases x <;> first | rfl | exact (hf ⟨_,rfl⟩).elim
  rw [this] at h
  obtain ⟨a,vs,e,q1,q2⟩:=yA hr r h
  exact ⟨a,vs,e,SqL.of q1,q2⟩
theorem qF {w:W} {v:V} {ds:List D} (hr:HR K μ H M) (r:Rw K μ H w v) (h:sv M w=some ds):∃ a vs,v=.ref a/\(SqL K H a vs\/SqT K H a vs)/\Rps K μ H ds vs:=by
 by_cases hf:∃ xs,w=.d (.tup xs)
 ·obtain ⟨xs,rfl⟩:=hf
  simp only [sv,Option.some.injEq] at h; subst h
  simp only [Rw,Rp] at r; obtain ⟨a,vs,e,q1,q2⟩:=r
  exact ⟨a,vs,e,.inr (SqT.of q1),q2⟩
 ·have:sv M w=lr M w:=by
   cases w with
   | ref i=>rfl
   | d x=>cases x <;> first | rfl | exact (hf ⟨_,rfl⟩).elim
  rw [this] at h
  obtain ⟨a,vs,e,q1,q2⟩:=xS hr r h
  exact ⟨a,vs,e,.inl q1,q2⟩
theorem lG {Q:VK} {ds:List D} {vs:List V} (hr:HR K μ H M) (r:Rps K μ H ds vs) (p:Pst K Z μ H (okD (.tup ds) M) (Wk K Q)):∀ q,H q=none->Q (.ref q) (upd H q (.tup vs)):=fun q hq =>
 p μ _ (jR hr hq) (hr.lay hq) (.ref q) (by simp only [Rw,Rp]; exact ⟨q,vs,rfl,cB,Rps.ext hr.lsts (jR hr hq) _ _ r⟩)
theorem jT {Q:VK} {ds:List D} {vs:List V} (hr:HR K μ H M) (r:Rps K μ H ds vs) (p:Pst K Z μ H (okD (.lst ds) M) (Wk K Q)):∀ q,H q=none->Q (.ref q) (upd H q (.lst vs)):=fun q hq =>
 p μ _ (jR hr hq) (hr.lay hq) (.ref q) (by simp only [Rw,Rp]; exact ⟨q,vs,rfl,cB,hr.out hq,Rps.ext hr.lsts (jR hr hq) _ _ r⟩)
theorem tJ {Q:VK} {ds:List D} {vs:List V} (hr:HR K μ H M) (r:Rps K μ H ds vs) (p:Pst K Z μ H (.ok (.ref M.length) (M++[ds])) (Wk K Q)):∀ q,H q=none->Q (.ref q) (upd H q (.lst vs)):=fun q hq =>
 p _ _ (pK hr hq) (hr.new hq r) (.ref q) ⟨q,by rw [<- hr.len]; simp,rfl⟩
noncomputable def rCatA (K:PySem.W.Frag):R2:=fun x y H Q=>∃ a b xs ys,x=.ref a/\y=.ref b/\SqT K H a xs/\SqT K H b ys/\xs.length+ys.length<=sizeLine /\
 (xs=[]->Q (.ref b) H)/\(ys=[]->Q (.ref a) H)/\(∀ p,H p=none->Q (.ref p) (upd H p (.tup (xs++ys))))
theorem aEq:OpR X (binaryOp .Add) (rCatA X.K):=by
 intro pins s σ H x y v u Q I rx ry h
 obtain ⟨a,b,xs,ys,rfl,rfl,ha,hb,hz,q0,q1,q2⟩:=h
 by_cases hx:xs=[]
 ·subst hx
  cases rx
  cases ry
  obtain ⟨its,r1,p1,_⟩:=I.tuple ha
  obtain ⟨its2,r2,p2,_⟩:=I.tuple hb
  have hv:its=[]:=r1.nil_iff.mpr rfl
  subst hv
  obtain ⟨⟨cls,dd,data,sl⟩,ho,hc,n,hd⟩:=id p1
  obtain ⟨⟨cls2,dd2,data2,sl2⟩,ho2,hc2,n2,hd2⟩:=id p2
  simp only at hc hd hc2 hd2
  subst hc hd hc2 hd2
  exact concat_meets ⟨_,ho,rfl⟩ ⟨_,ho2,rfl⟩ noFill_tuple_add seq_tuple_add PySem.F.slot_tuple_add PySem.F.entry_tuple_add (PySem.F.args_tuple_add_2 _ _)
   (tuple_addW0 a b _ its2.toArray n n2 dd dd2 sl sl2 (by simp)) ⟨ho,ho2,⟨.ref b,H,I,rfl,q0 rfl⟩⟩
 ·exact aEl pins s σ H _ _ v u Q I rx ry ⟨a,b,xs,ys,rfl,rfl,ha,hb,hx,hz,q1,fun _=>q2⟩
noncomputable def pAdd (x y:W) (M:Mm):Oc W:=match x,y with
 | .d (.int i),.d (.int j)=>.ok (.d (.int (i+j))) M
 | .d (.tup xs),.d (.tup ys)=>if xs.length+ys.length<=16777216 then .ok (.d (.tup (xs++ys))) M else .bad
 | .d (.str i),.d (.str j)=>if i.length+j.length<=16777216 then .ok (.d (.str (i++j))) M else .bad
 | x,y=>match lv M x,lv M y with
  | some xs,some ys=>if xs.length+ys.length<=16777216 then .ok (.d (.lst (xs++ys))) M else .bad
  | _,_=>.bad
theorem xB {x y:W} {v u:V} {Q:VK} (hr:HR K μ H M) (rx:Rw K μ H x v) (ry:Rw K μ H y u) (p:Pst K Z μ H (match lv M x,lv M y with
  | some xs,some ys=>if xs.length+ys.length<=16777216 then .ok (.d (.lst (xs++ys))) M else .bad
  | _,_=>.bad) (Wk K Q)):rCat v u H Q:=by
 cases q1:lv M x with
 | none=>rw [q1] at p; exact p.elim
 | some xs =>
  cases q2:lv M y with
  | none=>rw [q1,q2] at p; exact p.elim
  | some ys =>
   rw [q1,q2] at p
   simp only at p
   split at p
   ·rename_i hz
    obtain ⟨a,vs,rfl,h1,r1⟩:=yA hr rx q1
    obtain ⟨b,us,rfl,h2,r2⟩:=yA hr ry q2
    exact ⟨a,b,vs,us,rfl,rfl,h1,h2,by rw [<- r1.length,<- r2.length,sizeLine_eq]; exact hz,jT hr (r1.append r2) p⟩
   ·exact p.elim
theorem opAdd:OpG X K Z (binaryOp .Add) pAdd:=fun hk=>by
 refine ⟨_,OpR.or (OpR.or aIn (hk▸aEq)) (OpR.or aJp xI),?_⟩
 intro μ H M x y v u Q hr rx ry p
 have gen:=fun p=>xB (Q:=Q) (K:=K) (Z:=Z) hr rx ry p
 cases x with
 | ref i=>exact .inr (.inl (gen p))
 | d x =>
  cases y with
  | ref j=>exact .inr (.inl (gen (by cases x <;> exact p)))
  | d y =>
   cases x <;> cases y <;> first
    | exact .inr (.inl (gen p))
    | skip
   ·simp only [Rw,Rp] at rx ry; exact .inl (.inl ⟨_,_,rx,ry,p μ H .refl hr _ (by simp [Rw,Rp])⟩)
   ·simp only [Rw,Rp] at rx ry
    simp only [pAdd] at p
    split at p
    ·rename_i hz
     exact .inr (.inr ⟨_,_,rx,ry,by rw [sizeLine_eq]; exact hz,p μ H .refl hr _ (by simp [Rw,Rp])⟩)
    ·exact p.elim
   ·rename_i xs ys
    have rx':=rx
    have ry':=ry
    simp only [Rw,Rp] at rx ry
    obtain ⟨a,vs,rfl,h1,r1⟩:=rx
    obtain ⟨b,us,rfl,h2,r2⟩:=ry
    simp only [pAdd] at p
    split at p
    ·rename_i hz
     refine .inl (.inr ⟨a,b,vs,us,rfl,rfl,SqT.of h1,SqT.of h2,by rw [<- r1.length,<- r2.length,sizeLine_eq]; exact hz,fun e=>?_,fun e=>?_,lG hr (r1.append r2) p⟩)
     ·subst e
      have:xs=[]:=by have:=r1.length; simpa using this
      subst this
      exact p μ H .refl hr _ (by simpa using ry')
     ·subst e
      have:ys=[]:=by have:=r2.length; simpa using this
      subst this
      exact p μ H .refl hr _ (by simpa using rx')
    ·exact p.elim
noncomputable def pI (c:Int->Int->Bool) (g:Int->Int->D) (x y:W) (M:Mm):Oc W:=match x,y with
 | .d (.int i),.d (.int j)=>if c i j=true then .ok (.d (g i j)) M else .bad
 | _,_=>.bad
theorem opI {F:Value->Value->Sem Value} {C:Int->Int->Prop} {c:Int->Int->Bool} {g:Int->Int->D} {gv:Int->Int->V} (h:OpR X F (rI C gv)) (hc:∀ i j,c i j=true->C i j) (hg:∀ K μ H i j,Rp K μ H (g i j) (gv i j)) :
  OpG X K Z F (pI c g):=fun hk=>⟨_,h,by
 intro μ H M x y v u Q hr rx ry p
 cases x with
 | ref i=>exact p.elim
 | d x=>cases y with
  | ref j=>cases x <;> exact p.elim
  | d y=>cases x <;> cases y <;> first
   | exact p.elim
   | (simp only [Rw,Rp] at rx ry
      simp only [pI] at p
      split at p
      ·rename_i hz; exact ⟨_,_,rx,ry,hc _ _ hz,p μ H .refl hr _ (hg K μ H _ _)⟩
      ·exact p.elim)⟩
theorem opI0 {F:Value->Value->Sem Value} {g:Int->Int->D} {gv:Int->Int->V} (h:OpR X F (rI0 gv)) (hg:∀ K μ H i j,Rp K μ H (g i j) (gv i j)):OpG X K Z F (pI (fun _ _=>true) g):=fun hk=>⟨_,h,by
 intro μ H M x y v u Q hr rx ry p
 cases x with
 | ref i=>exact p.elim
 | d x=>cases y with
  | ref j=>cases x <;> exact p.elim
  | d y=>cases x <;> cases y <;> first
   | exact p.elim
   | (simp only [Rw,Rp] at rx ry
      exact ⟨_,_,rx,ry,p μ H .refl hr _ (hg K μ H _ _)⟩)⟩
noncomputable abbrev pSub:=pI (fun _ _=>true) fun i j=>.int (i - j)
noncomputable abbrev pLt:=pI (fun _ _=>true) fun i j=>.bl (decide (i < j))
noncomputable abbrev pGt:=pI (fun _ _=>true) fun i j=>.bl (decide (j < i))
noncomputable abbrev pGe:=pI (fun _ _=>true) fun i j=>.bl (decide (j<=i))
noncomputable abbrev pMod:=pI (fun _ j=>decide (0 < j)) fun i j=>.int (i % j)
noncomputable abbrev pDiv:=pI (fun _ j=>decide (0 < j/\j < 18446744073709551616)) fun i j=>.int (i / j)
noncomputable abbrev pPow:=pI (fun i j=>decide (0<=j/\j<=1000000/\i.natAbs < 18446744073709551616)) fun i j=>.int (i ^ j.toNat)
theorem opSub:OpG X K Z (binaryOp .Sub) pSub:=opI0 aIf fun _ _ _ _ _=>by simp [Rp]
theorem opLt:OpG X K Z (compareOp .Lt) pLt:=opI0 aLc fun _ _ _ _ _=>by simp [Rp]
theorem opGt:OpG X K Z (compareOp .Gt) pGt:=opI0 aKs fun _ _ _ _ _=>by simp [Rp]
theorem opGe:OpG X K Z (compareOp .GtE) pGe:=opI0 aLd fun _ _ _ _ _=>by simp [Rp]
theorem opMod:OpG X K Z (binaryOp .Mod) pMod:=opI aJh (fun _ _ h=>of_decide_eq_true h) fun _ _ _ _ _=>by simp [Rp]
theorem opDiv:OpG X K Z (binaryOp .FloorDiv) pDiv:=opI aDh (fun _ _ h=>by simp only [decide_eq_true_eq] at h; exact h) fun _ _ _ _ _=>by simp [Rp]
theorem opPow:OpG X K Z (binaryOp .Pow) pPow:=opI aGm (fun _ _ h=>by simp only [decide_eq_true_eq] at h; exact h) fun _ _ _ _ _=>by simp [Rp]
noncomputable def isN:W->Bool
 | .d .non=>true
 | _=>false
noncomputable def pIsNot (x y:W) (M:Mm):Oc W:=match y with
 | .d .non=>.ok (.d (.bl (!isN x))) M
 | _=>.bad
theorem aKq {x:W} {v:V} (r:Rw K μ H x v):decide (v=.non)=isN x:=by
 cases x with
 | ref i=>obtain ⟨a,_,rfl⟩:=r; simp [isN]
 | d x=>cases x with
  | non=>simp only [Rw,Rp] at r; subst r; simp [isN]
  | bl b=>simp only [Rw,Rp] at r; subst r; simp [isN]
  | int b=>simp only [Rw,Rp] at r; subst r; simp [isN]
  | str b=>simp only [Rw,Rp] at r; subst r; simp [isN]
  | tup b=>simp only [Rw,Rp] at r; obtain ⟨a,vs,rfl,_⟩:=r; simp [isN]
  | lst b=>simp only [Rw,Rp] at r; obtain ⟨a,vs,rfl,_⟩:=r; simp [isN]
  | fz b=>simp only [Rw,Rp] at r; obtain ⟨a,vs,rfl,_⟩:=r; simp [isN]
  | exn c f b=>simp only [Rw,Rp] at r; obtain ⟨a,vs,_,_,_,rfl,_⟩:=r; simp [isN]
theorem opIsNot:OpG X K Z (compareOp .IsNot) pIsNot:=fun hk=>⟨_,aFp,by
 intro μ H M x y v u Q hr rx ry p
 cases y with
 | ref j=>exact p.elim
 | d y=>cases y with
  | non=>simp only [Rw,Rp] at ry; exact ⟨ry,p μ H .refl hr _ (by simp only [Rw,Rp]; rw [aKq rx])⟩
  | _=>exact p.elim⟩
end
end EV
namespace EV
open PySem PySem.Spec PyProof.Rows L2
section
variable {X:Cx} {K:PySem.W.Frag} {Z:Zt} {μ:List Addr} {H:Hp} {M:Mm} {e a b:Expr} {es:List Expr} {pos:Pos} {f fa fb:FE} {fs:FA}
mutual
noncomputable def eqD:D->D->Bool
 | .non,.non=>true
 | .bl a,.bl b=>a==b
 | .bl a,.int b=>(if a then 1 else 0)==b
 | .int a,.bl b=>a==(if b then 1 else 0)
 | .int a,.int b=>a==b
 | .str a,.str b=>a==b
 | .tup xs,.tup ys=>eqDs xs ys
 | .lst xs,.lst ys=>eqDs xs ys
 | .lst xs,.fz ys=>eqDs xs ys
 | .fz xs,.lst ys=>eqDs xs ys
 | .fz xs,.fz ys=>eqDs xs ys
 | .exn c f xs,.exn c' f' ys=>c==c'&&f==f'&&eqDs xs ys
 | _,_=>false
noncomputable def eqDs:List D->List D->Bool
 | [],[]=>true
 | x::xs,y::ys=>eqD x y&&eqDs xs ys
 | _,_=>false
end
mutual
noncomputable def dep:D->Nat
 | .tup xs=>deps xs+1
 | .lst xs=>deps xs+1
 | .fz xs=>deps xs+1
 | .exn _ _ _=>1000
 | _=>0
noncomputable def deps:List D->Nat
 | []=>0
 | x::xs=>max (dep x) (deps xs)
end
theorem vE:∀ {xs:List D} {i:Nat} {x:D},xs[i]?=some x->dep x<=deps xs
 | [],_,_,h=>by simp at h
 | y::xs,0,x,h=>by simp at h; subst h; simp only [deps]; omega
 | y::xs,i+1,x,h=>by
  have:=vE (xs:=xs) (i:=i) (x:=x) (by simpa using h)
  simp only [deps]; omega
theorem mQ:∀ (xs ys:List D),eqDs xs ys=((List.range (min xs.length ys.length)).all (fun i=>eqD (xs.getD i .non) (ys.getD i .non))&&xs.length==ys.length)
 | [],[]=>rfl
 | [],y::ys=>by simp [eqDs]
 | x::xs,[]=>by simp [eqDs]
 | x::xs,y::ys=>by
  simp only [eqDs]
  rw [mQ xs ys]
  have:min (x::xs).length (y::ys).length=min xs.length ys.length+1:=by simp
  rw [this,List.range_succ_eq_map,List.all_cons]
  simp only [List.getD_cons_zero,List.all_map,Bool.and_assoc,List.length_cons]
  congr 1
  congr 1
  rw [Bool.eq_iff_iff]; simp
variable {pins:List (Addr×Obj)} {σ:L2.St} {s:Shared}
theorem xZ {i:Nat} {ds:List D} {vs:List V} {its:List Value} (r:Rps K μ H ds vs) (rv:Vals vs its) (h:i < its.toArray.size):∃ d v,ds[i]?=some d/\Rp K μ H d v/\RelV v its.toArray[i]:=by
 have h1:i < its.length:=by simpa using h
 have h2:i < vs.length:=by rw [rv.length]; exact h1
 have h3:i < ds.length:=by rw [r.length]; exact h2
 obtain ⟨v,q1,q2⟩:=r.get (i:=i) (d:=ds[i]) (by simp [h3])
 obtain ⟨u,q3,q4⟩:=rv.get q1
 refine ⟨ds[i],v,by simp [h3],q2,?_⟩
 rw [List.getElem?_eq_getElem h1] at q3
 cases q3
 simpa using q4
theorem yE {ds:List D} {i:Nat} {d:D} (h:ds[i]?=some d):ds.getD i .non=d:=by rw [List.getD_eq_getElem?_getD,h]; rfl
noncomputable abbrev Eqs (K:PySem.W.Frag) (μ:List Addr) (H:Hp) (s:Shared) (A:Around) (xs:List D):Prop :=
 ∀ (j:Nat) (d:D),xs[j]?=some d->∀ (d2:D) (v1 v2:V) (u1 u2:Value),dep d2<=100->Rp K μ H d v1->Rp K μ H d2 v2->RelV v1 u1->RelV v2 u2->SeqAt.EqAt A s u1 u2 (eqD d d2)
theorem nA {A:Around} {xs ys:List D} {vs us:List V} {its its2:List Value} (r1:Rps K μ H xs vs) (r2:Rps K μ H ys us) (q1:Vals vs its) (q2:Vals us its2) (n2:deps ys<=100) (ih:Eqs K μ H s A xs) :
  ∀ j (h1:j < its.toArray.size) (h2:j < its2.toArray.size),SeqAt.EqAt A s its.toArray[j] its2.toArray[j] ((fun i=>eqD (xs.getD i .non) (ys.getD i .non)) j):=by
 intro j h1 h2
 obtain ⟨d,v,e1,e2,e3⟩:=xZ r1 q1 h1
 obtain ⟨d',v',e1',e2',e3'⟩:=xZ r2 q2 h2
 simp only [yE e1,yE e1']
 exact ih j d e1 d' v v' _ _ (Nat.le_trans (vE e1') n2) e2 e2' e3 e3'
theorem nD {xs ys:List D} {vs us:List V} {its its2:List Value} (r1:Rps K μ H xs vs) (r2:Rps K μ H ys us) (q1:Vals vs its) (q2:Vals us its2):its.toArray.size=xs.length/\its2.toArray.size=ys.length:=by
 simp [r1.length,r2.length,q1.length,q2.length]
theorem aJj {A:Around} {xs ys:List D} {vs us:List V} {a b:Addr} (I:Inv X pins σ H s) (h1:SqT X.K H a vs) (h2:SqT X.K H b us) (r1:Rps K μ H xs vs) (r2:Rps K μ H ys us) (hu:A.units < cLine) (n2:deps ys<=100) (ih:Eqs K μ H s A.in1 xs) :
  SeqAt.RcAt A s (.ref a) (.ref b) (eqDs xs ys):=by
 obtain ⟨its,q1,p1,_⟩:=I.tuple h1
 obtain ⟨its2,q2,p2,_⟩:=I.tuple h2
 have:=SeqAt.RcAt.tuples p1 p2 hu (nA r1 r2 q1 q2 n2 ih)
 obtain ⟨e1,e2⟩:=nD r1 r2 q1 q2
 rw [e1,e2] at this
 rw [mQ]; exact this
theorem aCd {A:Around} {xs ys:List D} {vs us:List V} {a b:Addr} (I:Inv X pins σ H s) (h1:SqT X.K H a vs) (h2:SqT X.K H b us) (r1:Rps K μ H xs vs) (r2:Rps K μ H ys us) (hu:A.units < cLine) (n2:deps ys<=100) (ih:Eqs K μ H s A.in1 xs) :
  SeqAt.RcNeAt A s (.ref a) (.ref b) (!eqDs xs ys):=by
 obtain ⟨its,q1,p1,_⟩:=I.tuple h1
 obtain ⟨its2,q2,p2,_⟩:=I.tuple h2
 have:=SeqAt.RcNeAt.tuples p1 p2 hu (nA r1 r2 q1 q2 n2 ih)
 obtain ⟨e1,e2⟩:=nD r1 r2 q1 q2
 rw [e1,e2] at this
 rw [mQ]; exact this
theorem uQ {xs ys:List D} (h:xs.length≠ys.length):eqDs xs ys=false:=by
 rw [mQ]
 have:(xs.length==ys.length)=false:=by simpa using h
 rw [this,Bool.and_false]
theorem sJ {xs ys:List D} (h:xs.length=ys.length):eqDs xs ys=(List.range xs.length).all (fun i=>eqD (xs.getD i .non) (ys.getD i .non)):=by
 rw [mQ,<- h]; simp
theorem tF {A:Around} {xs ys:List D} {vs us:List V} {a b:Addr} (I:Inv X pins σ H s) (h1:SqL X.K H a vs) (h2:SqL X.K H b us) (r1:Rps K μ H xs vs) (r2:Rps K μ H ys us) (hu:A.units < cLine) (n2:deps ys<=100) (ih:Eqs K μ H s A.in1 xs) :
  SeqAt.RcAt A s (.ref a) (.ref b) (eqDs xs ys):=by
 obtain ⟨its,q1,p1,_⟩:=I.list h1
 obtain ⟨its2,q2,p2,_⟩:=I.list h2
 obtain ⟨e1,e2⟩:=nD r1 r2 q1 q2
 by_cases hl:xs.length=ys.length
 ·have:=SeqAt.RcAt.lists p1.isList p2.isList (by rw [e1,e2,hl]) hu (nA r1 r2 q1 q2 n2 ih)
  rw [e1] at this
  rw [sJ hl]; exact this
 ·rw [uQ hl]
  exact SeqAt.RcAt.lists_lengths p1.isList p2.isList (by rw [e1,e2]; simpa using hl) hu
theorem mZ {A:Around} {xs ys:List D} {vs us:List V} {a b:Addr} (I:Inv X pins σ H s) (h1:SqL X.K H a vs) (h2:SqL X.K H b us) (r1:Rps K μ H xs vs) (r2:Rps K μ H ys us) (hu:A.units < cLine) (n2:deps ys<=100) (ih:Eqs K μ H s A.in1 xs) :
  SeqAt.RcNeAt A s (.ref a) (.ref b) (!eqDs xs ys):=by
 obtain ⟨its,q1,p1,_⟩:=I.list h1
 obtain ⟨its2,q2,p2,_⟩:=I.list h2
 obtain ⟨e1,e2⟩:=nD r1 r2 q1 q2
 by_cases hl:xs.length=ys.length
 ·have:=SeqAt.RcNeAt.lists p1.isList p2.isList (by rw [e1,e2,hl]) hu (nA r1 r2 q1 q2 n2 ih)
  rw [e1] at this
  rw [sJ hl]; exact this
 ·rw [uQ hl]
  exact SeqAt.RcNeAt.lists_lengths p1.isList p2.isList (by rw [e1,e2]; simpa using hl) hu
noncomputable def fv:D->Option V
 | .non=>some .non
 | .bl b=>some (.bl b)
 | .int i=>some (.int i)
 | .str x=>some (.str x)
 | _=>none
theorem rW {d:D} {v u:V} (h:fv d=some u) (r:Rp K μ H d v):v=u/\flatV u=true:=by
 cases d <;> simp only [fv,Option.some.injEq,reduceCtorEq] at h <;> (simp only [Rp] at r; subst h; exact ⟨r,rfl⟩)
theorem aCw {d e:D} {u w:V} (h:fv d=some u) (h':fv e=some w):eqV u w=eqD d e:=by
 cases d <;> simp only [fv,Option.some.injEq,reduceCtorEq] at h <;> (cases e <;> simp only [fv,Option.some.injEq,reduceCtorEq] at h' <;> (subst h; subst h'; simp [eqV,eqD]))
theorem aJv {d:D} {v:V} (r:Rp K μ H d v) (h:flatV v=true):fv d=some v:=by
 cases d with
 | non=>simp only [Rp] at r; subst r; rfl
 | bl b=>simp only [Rp] at r; subst r; rfl
 | int b=>simp only [Rp] at r; subst r; rfl
 | str b=>simp only [Rp] at r; subst r; rfl
 | tup b=>simp only [Rp] at r; obtain ⟨a,vs,rfl,_⟩:=r; cases h
 | lst b=>simp only [Rp] at r; obtain ⟨a,vs,rfl,_⟩:=r; cases h
 | fz b=>simp only [Rp] at r; obtain ⟨a,vs,rfl,_⟩:=r; cases h
 | exn c f b=>simp only [Rp] at r; obtain ⟨a,vs,_,_,_,rfl,_⟩:=r; cases h
theorem aBo {v:V} (h:flatV v=true):eqV v v=true:=by cases v <;> first | (cases h; done) | rfl | (simp [eqV]; done)
theorem mM {d d':D} {v:V} {u:V} (hf:fv d=some u) (h:Rp K μ H d v) (h':Rp K μ H d' v):eqD d d'=true:=by
 obtain ⟨rfl,fl⟩:=rW hf h
 rw [<- aCw hf (aJv h' fl)]
 exact aBo fl
inductive At (K:PySem.W.Frag) (μ:List Addr) (H:Hp):D->Addr->List D->Bool->Prop where
 | tup {a vs ds}:SqT K H a vs->Rps K μ H ds vs->At K μ H (.tup ds) a ds true
 | lst {a vs ds}:SqL K H a vs->Rps K μ H ds vs->At K μ H (.lst ds) a ds false
 | fz {a vs ds}:SqL K H a vs->Rps K μ H ds vs->At K μ H (.fz ds) a ds false
theorem pM {a:Addr} {vs us:List V} (I:Inv X pins σ H s) (h1:SqT X.K H a vs) (h2:SqL X.K H a us):False:=by
 obtain ⟨its,q1,p1,_⟩:=I.tuple h1
 obtain ⟨its2,q2,p2,_⟩:=I.list h2
 exact SeqAt.ne_of_list_tuple p2.isList p1 rfl
mutual
theorem aDb (I:Inv X pins σ H s) (hk:X.K=K):∀ (d d':D) (v:V),dep d<=100->dep d'<=100->Rp K μ H d v->Rp K μ H d' v->eqD d d'=true
 | .non,d',v,n,n',h,h'=>mM rfl h h'
 | .bl x,d',v,n,n',h,h'=>mM rfl h h'
 | .int x,d',v,n,n',h,h'=>mM rfl h h'
 | .str x,d',v,n,n',h,h'=>mM rfl h h'
 | .tup xs,d',v,n,n',h,h'=>by
  simp only [Rp] at h
  obtain ⟨a,vs,rfl,h1,r1⟩:=h
  cases d' with
  | tup ys =>
   simp only [Rp] at h'
   obtain ⟨b,us,e,h2,r2⟩:=h'
   cases e
   cases I.tuple_inj (SqT.of (K:=X.K) h1) (SqT.of h2)
   simp only [eqD]
   exact lH I hk xs ys vs (by simp only [dep] at n; omega) (by simp only [dep] at n'; omega) r1 r2
  | lst ys=>simp only [Rp] at h'; obtain ⟨b,us,e,h2,_,r2⟩:=h'; cases e; exact (pM I (SqT.of h1) (SqL.of h2)).elim
  | fz ys=>simp only [Rp] at h'; obtain ⟨b,us,e,h2,r2⟩:=h'; cases e; exact (pM I (SqT.of h1) (hk▸h2.sq)).elim
  | exn c f ys=>simp [dep] at n'
  | _=>simp only [Rp] at h'; cases h'
 | .lst xs,d',v,n,n',h,h'=>by
  simp only [Rp] at h
  obtain ⟨a,vs,rfl,h1,_,r1⟩:=h
  cases d' with
  | tup ys=>simp only [Rp] at h'; obtain ⟨b,us,e,h2,r2⟩:=h'; cases e; exact (pM I (SqT.of h2) (SqL.of h1)).elim
  | lst ys =>
   simp only [Rp] at h'; obtain ⟨b,us,e,h2,_,r2⟩:=h'; cases e
   cases I.list_inj (SqL.of h1) (SqL.of h2)
   simp only [eqD]
   exact lH I hk xs ys vs (by simp only [dep] at n; omega) (by simp only [dep] at n'; omega) r1 r2
  | fz ys =>
   simp only [Rp] at h'; obtain ⟨b,us,e,h2,r2⟩:=h'; cases e
   cases I.list_inj (SqL.of h1) (hk▸h2.sq)
   simp only [eqD]
   exact lH I hk xs ys vs (by simp only [dep] at n; omega) (by simp only [dep] at n'; omega) r1 r2
  | exn c f ys=>simp [dep] at n'
  | _=>simp only [Rp] at h'; cases h'
 | .fz xs,d',v,n,n',h,h'=>by
  simp only [Rp] at h
  obtain ⟨a,vs,rfl,h1,r1⟩:=h
  cases d' with
  | tup ys=>simp only [Rp] at h'; obtain ⟨b,us,e,h2,r2⟩:=h'; cases e; exact (pM I (SqT.of h2) (hk▸h1.sq)).elim
  | lst ys =>
   simp only [Rp] at h'; obtain ⟨b,us,e,h2,_,r2⟩:=h'; cases e
   cases I.list_inj (hk▸h1.sq) (SqL.of h2)
   simp only [eqD]
   exact lH I hk xs ys vs (by simp only [dep] at n; omega) (by simp only [dep] at n'; omega) r1 r2
  | fz ys =>
   simp only [Rp] at h'; obtain ⟨b,us,e,h2,r2⟩:=h'; cases e
   cases I.list_inj (hk▸h1.sq) (hk▸h2.sq)
   simp only [eqD]
   exact lH I hk xs ys vs (by simp only [dep] at n; omega) (by simp only [dep] at n'; omega) r1 r2
  | exn c f ys=>simp [dep] at n'
  | _=>simp only [Rp] at h'; cases h'
 | .exn c f xs,d',v,n,n',h,h'=>by simp [dep] at n
theorem lH (I:Inv X pins σ H s) (hk:X.K=K):∀ (xs ys:List D) (vs:List V),deps xs<=100->deps ys<=100->Rps K μ H xs vs->Rps K μ H ys vs->eqDs xs ys=true
 | [],ys,vs,n,n',h,h'=>by simp only [Rps] at h; subst h; cases ys with | nil=>rfl | cons y ys=>simp only [Rps] at h'; obtain ⟨_,_,e,_⟩:=h'; cases e
 | x::xs,ys,vs,n,n',h,h'=>by
  simp only [Rps] at h
  obtain ⟨v,r,rfl,e2,e3⟩:=h
  cases ys with
  | nil=>simp only [Rps] at h'; cases h'
  | cons y ys =>
   simp only [Rps] at h'
   obtain ⟨v',r',e,e2',e3'⟩:=h'
   cases e
   simp only [deps] at n n'
   simp only [eqDs,aDb I hk x y v (by omega) (by omega) e2 e2',lH I hk xs ys r (by omega) (by omega) e3 e3',Bool.and_self]
end
theorem kW {d:D} {v:V} (h:fv d=none) (n:dep d<=100) (r:Rp K μ H d v):∃ a ds k,v=.ref a/\At K μ H d a ds k:=by
 cases d with
 | tup xs=>simp only [Rp] at r; obtain ⟨a,vs,e,q1,q2⟩:=r; exact ⟨a,xs,true,e,.tup (SqT.of q1) q2⟩
 | lst xs=>simp only [Rp] at r; obtain ⟨a,vs,e,q1,_,q2⟩:=r; exact ⟨a,xs,false,e,.lst (SqL.of q1) q2⟩
 | fz xs=>simp only [Rp] at r; obtain ⟨a,vs,e,q1,q2⟩:=r; exact ⟨a,xs,false,e,.fz q1.sq q2⟩
 | exn c f xs=>simp [dep] at n
 | _=>simp [fv] at h
theorem aFa {A:Around} {d d2:D} {v1 v2 w w2:V} {u1 u2:Value} (n1:fv d=some w) (n2:fv d2=some w2) (h1:Rp K μ H d v1) (h2:Rp K μ H d2 v2) (q1:RelV v1 u1) (q2:RelV v2 u2) :
  (SeqAt.RcAt A s u1 u2 (eqD d d2)/\SeqAt.RcNeAt A s u1 u2 (!eqD d d2)):=by
 cases d with
 | non =>
  simp only [Rp] at h1; subst h1; cases q1
  cases d2 with
  | non=>simp only [Rp] at h2; subst h2; cases q2; simp only [eqD]; exact ⟨SeqAt.RcAt.none_none,SeqAt.RcNeAt.none_none⟩
  | bl y=>simp only [Rp] at h2; subst h2; cases q2; simp only [eqD]; exact ⟨SeqAt.RcAt.none_bool y,SeqAt.RcNeAt.none_bool y⟩
  | int y=>simp only [Rp] at h2; subst h2; obtain ⟨t2,rfl⟩:=q2; simp only [eqD]; exact ⟨SeqAt.RcAt.none_int y t2,SeqAt.RcNeAt.none_int y t2⟩
  | str y=>simp only [Rp] at h2; subst h2; obtain ⟨t2,rfl⟩:=q2; simp only [eqD]; exact ⟨SeqAt.RcAt.none_str y t2,SeqAt.RcNeAt.none_str y t2⟩
  | _=>simp [fv] at n2
 | bl x =>
  simp only [Rp] at h1; subst h1; cases q1
  cases d2 with
  | non=>simp only [Rp] at h2; subst h2; cases q2; simp only [eqD]; exact ⟨SeqAt.RcAt.bool_none x,SeqAt.RcNeAt.bool_none x⟩
  | bl y=>simp only [Rp] at h2; subst h2; cases q2; simp only [eqD]; exact ⟨SeqAt.RcAt.bool_bool x y,SeqAt.RcNeAt.bool_bool x y⟩
  | int y=>simp only [Rp] at h2; subst h2; obtain ⟨t2,rfl⟩:=q2; simp only [eqD]; exact ⟨SeqAt.RcAt.bool_int x y t2,SeqAt.RcNeAt.bool_int x y t2⟩
  | str y=>simp only [Rp] at h2; subst h2; obtain ⟨t2,rfl⟩:=q2; simp only [eqD]; exact ⟨SeqAt.RcAt.bool_str x y t2,SeqAt.RcNeAt.bool_str x y t2⟩
  | _=>simp [fv] at n2
 | int x =>
  simp only [Rp] at h1; subst h1; obtain ⟨t,rfl⟩:=q1
  cases d2 with
  | non=>simp only [Rp] at h2; subst h2; cases q2; simp only [eqD]; exact ⟨SeqAt.RcAt.int_none x t,SeqAt.RcNeAt.int_none x t⟩
  | bl y=>simp only [Rp] at h2; subst h2; cases q2; simp only [eqD]; exact ⟨SeqAt.RcAt.int_bool x t y,SeqAt.RcNeAt.int_bool x t y⟩
  | int y=>simp only [Rp] at h2; subst h2; obtain ⟨t2,rfl⟩:=q2; simp only [eqD]; exact ⟨SeqAt.RcAt.int_int x t y t2,SeqAt.RcNeAt.int_int x t y t2⟩
  | str y=>simp only [Rp] at h2; subst h2; obtain ⟨t2,rfl⟩:=q2; simp only [eqD]; exact ⟨SeqAt.RcAt.int_str x t y t2,SeqAt.RcNeAt.int_str x t y t2⟩
  | _=>simp [fv] at n2
 | str x =>
  simp only [Rp] at h1; subst h1; obtain ⟨t,rfl⟩:=q1
  cases d2 with
  | non=>simp only [Rp] at h2; subst h2; cases q2; simp only [eqD]; exact ⟨SeqAt.RcAt.str_none x t,SeqAt.RcNeAt.str_none x t⟩
  | bl y=>simp only [Rp] at h2; subst h2; cases q2; simp only [eqD]; exact ⟨SeqAt.RcAt.str_bool x t y,SeqAt.RcNeAt.str_bool x t y⟩
  | int y=>simp only [Rp] at h2; subst h2; obtain ⟨t2,rfl⟩:=q2; simp only [eqD]; exact ⟨SeqAt.RcAt.str_int x t y t2,SeqAt.RcNeAt.str_int x t y t2⟩
  | str y=>simp only [Rp] at h2; subst h2; obtain ⟨t2,rfl⟩:=q2; simp only [eqD]; exact ⟨SeqAt.RcAt.str_str x t y t2,SeqAt.RcNeAt.str_str x t y t2⟩
  | _=>simp [fv] at n2
 | _=>simp [fv] at n1
theorem wY {A:Around} {d2:D} {a:Addr} {its:Array Value} {v2 w2:V} {u2:Value} (pl:s.heap.IsTuple a its) (hu:A.units < cLine) (n2:fv d2=some w2) (h2:Rp K μ H d2 v2) (q2:RelV v2 u2) :
  SeqAt.EqAt A s (.ref a) u2 false/\SeqAt.EqAt A s u2 (.ref a) false/\SeqAt.RcAt A s (.ref a) u2 false/\SeqAt.RcNeAt A s (.ref a) u2 true/\SeqAt.RcAt A s u2 (.ref a) false/\SeqAt.RcNeAt A s u2 (.ref a) true:=by
 cases d2 with
 | non=>simp only [Rp] at h2; subst h2; cases q2; exact ⟨SeqAt.EqAt.tuple_none pl hu,SeqAt.EqAt.none_tuple pl hu,SeqAt.RcAt.tuple_none pl hu,SeqAt.RcNeAt.tuple_none pl hu,SeqAt.RcAt.none_tuple pl hu,SeqAt.RcNeAt.none_tuple pl hu⟩
 | bl y=>simp only [Rp] at h2; subst h2; cases q2; exact ⟨SeqAt.EqAt.tuple_bool y pl hu,SeqAt.EqAt.bool_tuple y pl hu,SeqAt.RcAt.tuple_bool y pl hu,SeqAt.RcNeAt.tuple_bool y pl hu,SeqAt.RcAt.bool_tuple y pl hu,SeqAt.RcNeAt.bool_tuple y pl hu⟩
 | int y=>simp only [Rp] at h2; subst h2; obtain ⟨t2,rfl⟩:=q2; exact ⟨SeqAt.EqAt.tuple_int y t2 pl hu,SeqAt.EqAt.int_tuple y t2 pl hu,SeqAt.RcAt.tuple_int y t2 pl hu,SeqAt.RcNeAt.tuple_int y t2 pl hu,SeqAt.RcAt.int_tuple y t2 pl hu,SeqAt.RcNeAt.int_tuple y t2 pl hu⟩
 | str y=>simp only [Rp] at h2; subst h2; obtain ⟨t2,rfl⟩:=q2; exact ⟨SeqAt.EqAt.tuple_str y t2 pl hu,SeqAt.EqAt.str_tuple y t2 pl hu,SeqAt.RcAt.tuple_str y t2 pl hu,SeqAt.RcNeAt.tuple_str y t2 pl hu,SeqAt.RcAt.str_tuple y t2 pl hu,SeqAt.RcNeAt.str_tuple y t2 pl hu⟩
 | _=>simp [fv] at n2
theorem sG {A:Around} {d2:D} {a:Addr} {its:Array Value} {v2 w2:V} {u2:Value} (pl:s.heap.IsList a its) (hu:A.units < cLine) (n2:fv d2=some w2) (h2:Rp K μ H d2 v2) (q2:RelV v2 u2) :
  SeqAt.EqAt A s (.ref a) u2 false/\SeqAt.EqAt A s u2 (.ref a) false/\SeqAt.RcAt A s (.ref a) u2 false/\SeqAt.RcNeAt A s (.ref a) u2 true/\SeqAt.RcAt A s u2 (.ref a) false/\SeqAt.RcNeAt A s u2 (.ref a) true:=by
 cases d2 with
 | non=>simp only [Rp] at h2; subst h2; cases q2; exact ⟨SeqAt.EqAt.list_none pl hu,SeqAt.EqAt.none_list pl hu,SeqAt.RcAt.list_none pl hu,SeqAt.RcNeAt.list_none pl hu,SeqAt.RcAt.none_list pl hu,SeqAt.RcNeAt.none_list pl hu⟩
 | bl y=>simp only [Rp] at h2; subst h2; cases q2; exact ⟨SeqAt.EqAt.list_bool y pl hu,SeqAt.EqAt.bool_list y pl hu,SeqAt.RcAt.list_bool y pl hu,SeqAt.RcNeAt.list_bool y pl hu,SeqAt.RcAt.bool_list y pl hu,SeqAt.RcNeAt.bool_list y pl hu⟩
 | int y=>simp only [Rp] at h2; subst h2; obtain ⟨t2,rfl⟩:=q2; exact ⟨SeqAt.EqAt.list_int y t2 pl hu,SeqAt.EqAt.int_list y t2 pl hu,SeqAt.RcAt.list_int y t2 pl hu,SeqAt.RcNeAt.list_int y t2 pl hu,SeqAt.RcAt.int_list y t2 pl hu,SeqAt.RcNeAt.int_list y t2 pl hu⟩
 | str y=>simp only [Rp] at h2; subst h2; obtain ⟨t2,rfl⟩:=q2; exact ⟨SeqAt.EqAt.list_str y t2 pl hu,SeqAt.EqAt.str_list y t2 pl hu,SeqAt.RcAt.list_str y t2 pl hu,SeqAt.RcNeAt.list_str y t2 pl hu,SeqAt.RcAt.str_list y t2 pl hu,SeqAt.RcNeAt.str_list y t2 pl hu⟩
 | _=>simp [fv] at n2
theorem pG {A:Around} {d d2:D} {a:Addr} {xs:List D} {k:Bool} {v2 w2:V} {u2:Value} (I:Inv X pins σ H s) (hk:X.K=K) (hu:A.units < cLine) (h1:At K μ H d a xs k) (n2:fv d2=some w2) (h2:Rp K μ H d2 v2) (q2:RelV v2 u2) :
  SeqAt.EqAt A s (.ref a) u2 false/\SeqAt.EqAt A s u2 (.ref a) false/\SeqAt.RcAt A s (.ref a) u2 false/\SeqAt.RcNeAt A s (.ref a) u2 true/\SeqAt.RcAt A s u2 (.ref a) false/\SeqAt.RcNeAt A s u2 (.ref a) true:=by
 cases h1 with
 | tup h r=>obtain ⟨its,r',pl,_⟩:=I.tuple (hk▸h); exact wY pl hu n2 h2 q2
 | lst h r=>obtain ⟨its,r',pl,_⟩:=I.list (hk▸h); exact sG pl.isList hu n2 h2 q2
 | fz h r=>obtain ⟨its,r',pl,_⟩:=I.list (hk▸h); exact sG pl.isList hu n2 h2 q2
theorem jS {d d2:D} {w:V} (n1:fv d=none) (n2:fv d2=some w):eqD d d2=false/\eqD d2 d=false:=by
 cases d <;> simp only [fv,reduceCtorEq] at n1 <;> (cases d2 <;> simp only [fv,reduceCtorEq] at n2 <;> exact ⟨rfl,rfl⟩)
theorem aGh {A:Around} {d d2:D} {a b:Addr} {xs ys:List D} {k k2:Bool} (I:Inv X pins σ H s) (hk:X.K=K) (hu:A.units < cLine) (h1:At K μ H d a xs k) (h2:At K μ H d2 b ys k2) (n2:dep d2<=100) (ih:Eqs K μ H s A.in1 xs) :
  SeqAt.RcAt A s (.ref a) (.ref b) (eqD d d2)/\SeqAt.RcNeAt A s (.ref a) (.ref b) (!eqD d d2):=by
 cases h1 with
 | tup h r=>cases h2 with
  | tup h' r'=>exact ⟨aJj I (hk▸h) (hk▸h') r r' hu (by simp only [dep] at n2; omega) ih,aCd I (hk▸h) (hk▸h') r r' hu (by simp only [dep] at n2; omega) ih⟩
  | lst h' r' =>
   obtain ⟨_,_,pl,_⟩:=I.tuple (hk▸h); obtain ⟨_,_,pl',_⟩:=I.list (hk▸h')
   exact ⟨.tuple_list pl pl'.isList hu,.tuple_list pl pl'.isList hu⟩
  | fz h' r' =>
   obtain ⟨_,_,pl,_⟩:=I.tuple (hk▸h); obtain ⟨_,_,pl',_⟩:=I.list (hk▸h')
   exact ⟨.tuple_list pl pl'.isList hu,.tuple_list pl pl'.isList hu⟩
 | lst h r=>cases h2 with
  | tup h' r' =>
   obtain ⟨_,_,pl,_⟩:=I.list (hk▸h); obtain ⟨_,_,pl',_⟩:=I.tuple (hk▸h')
   exact ⟨.list_tuple pl.isList pl' hu,.list_tuple pl.isList pl' hu⟩
  | lst h' r'=>exact ⟨tF I (hk▸h) (hk▸h') r r' hu (by simp only [dep] at n2; omega) ih,mZ I (hk▸h) (hk▸h') r r' hu (by simp only [dep] at n2; omega) ih⟩
  | fz h' r'=>exact ⟨tF I (hk▸h) (hk▸h') r r' hu (by simp only [dep] at n2; omega) ih,mZ I (hk▸h) (hk▸h') r r' hu (by simp only [dep] at n2; omega) ih⟩
 | fz h r=>cases h2 with
  | tup h' r' =>
   obtain ⟨_,_,pl,_⟩:=I.list (hk▸h); obtain ⟨_,_,pl',_⟩:=I.tuple (hk▸h')
   exact ⟨.list_tuple pl.isList pl' hu,.list_tuple pl.isList pl' hu⟩
  | lst h' r'=>exact ⟨tF I (hk▸h) (hk▸h') r r' hu (by simp only [dep] at n2; omega) ih,mZ I (hk▸h) (hk▸h') r r' hu (by simp only [dep] at n2; omega) ih⟩
  | fz h' r'=>exact ⟨tF I (hk▸h) (hk▸h') r r' hu (by simp only [dep] at n2; omega) ih,mZ I (hk▸h) (hk▸h') r r' hu (by simp only [dep] at n2; omega) ih⟩
theorem jU {A:Around} {d d2:D} {v1 v2:V} {u1 u2:Value} (I:Inv X pins σ H s) (hk:X.K=K) (hu:A.units < cLine) (h1:Rp K μ H d v1) (h2:Rp K μ H d2 v2) (q1:RelV v1 u1) (q2:RelV v2 u2) (m1:dep d<=100) (m2:dep d2<=100)
  (ih:∀ a xs k,At K μ H d a xs k->Eqs K μ H s A.in1 xs):SeqAt.EqAt A s u1 u2 (eqD d d2):=by
 cases n1:fv d with
 | some w =>
  cases n2:fv d2 with
  | some w2 =>
   obtain ⟨rfl,f1⟩:=rW n1 h1
   obtain ⟨rfl,f2⟩:=rW n2 h2
   rw [<- aCw n1 n2]
   exact aBn q1 q2 f1 f2
  | none =>
   obtain ⟨a,ds,k,rfl,at2⟩:=kW n2 m2 h2
   cases q2
   rw [(jS n2 n1).2]
   exact (pG I hk hu at2 n1 h1 q1).2.1
 | none =>
  cases n2:fv d2 with
  | some w2 =>
   obtain ⟨a,ds,k,rfl,at1⟩:=kW n1 m1 h1
   cases q1
   rw [(jS n1 n2).1]
   exact (pG I hk hu at1 n2 h2 q2).1
  | none =>
   obtain ⟨a,xs,k,rfl,at1⟩:=kW n1 m1 h1
   obtain ⟨b,ys,k2,rfl,at2⟩:=kW n2 m2 h2
   cases q1
   cases q2
   by_cases hab:a=b
   ·subst hab
    rw [aDb I hk d d2 _ m1 m2 h1 h2]
    exact .same _
   ·exact .of_refs hab (aGh I hk hu at1 at2 m2 (ih a xs k at1)).1
mutual
theorem aCy (I:Inv X pins σ H s) (hk:X.K=K):∀ (d:D) (A:Around) (d2:D) (v1 v2:V) (u1 u2:Value),A.units+dep d < cLine->dep d<=100->dep d2<=100->Rp K μ H d v1->Rp K μ H d2 v2->RelV v1 u1->RelV v2 u2->SeqAt.EqAt A s u1 u2 (eqD d d2)
 | .non,A,d2,v1,v2,u1,u2,hu,m1,m2,h1,h2,q1,q2=>jU I hk (by omega) h1 h2 q1 q2 m1 m2 fun a xs k z=>nomatch z
 | .bl x,A,d2,v1,v2,u1,u2,hu,m1,m2,h1,h2,q1,q2=>jU I hk (by omega) h1 h2 q1 q2 m1 m2 fun a xs k z=>nomatch z
 | .int x,A,d2,v1,v2,u1,u2,hu,m1,m2,h1,h2,q1,q2=>jU I hk (by omega) h1 h2 q1 q2 m1 m2 fun a xs k z=>nomatch z
 | .str x,A,d2,v1,v2,u1,u2,hu,m1,m2,h1,h2,q1,q2=>jU I hk (by omega) h1 h2 q1 q2 m1 m2 fun a xs k z=>nomatch z
 | .tup xs,A,d2,v1,v2,u1,u2,hu,m1,m2,h1,h2,q1,q2=>jU I hk (by omega) h1 h2 q1 q2 m1 m2 fun a ys k z=>by
  have e:xs=ys:=by cases z; rfl
  subst e
  exact mT I hk xs A.in1 (by simp only [dep] at hu; show A.units+1+deps xs < cLine; omega) (by simp only [dep] at m1; omega)
 | .lst xs,A,d2,v1,v2,u1,u2,hu,m1,m2,h1,h2,q1,q2=>jU I hk (by omega) h1 h2 q1 q2 m1 m2 fun a ys k z=>by
  have e:xs=ys:=by cases z; rfl
  subst e
  exact mT I hk xs A.in1 (by simp only [dep] at hu; show A.units+1+deps xs < cLine; omega) (by simp only [dep] at m1; omega)
 | .fz xs,A,d2,v1,v2,u1,u2,hu,m1,m2,h1,h2,q1,q2=>jU I hk (by omega) h1 h2 q1 q2 m1 m2 fun a ys k z=>by
  have e:xs=ys:=by cases z; rfl
  subst e
  exact mT I hk xs A.in1 (by simp only [dep] at hu; show A.units+1+deps xs < cLine; omega) (by simp only [dep] at m1; omega)
 | .exn c f xs,A,d2,v1,v2,u1,u2,hu,m1,m2,h1,h2,q1,q2=>by simp [dep] at m1
theorem mT (I:Inv X pins σ H s) (hk:X.K=K):∀ (xs:List D) (A:Around),A.units+deps xs < cLine->deps xs<=100->Eqs K μ H s A xs
 | [],A,hu,m=>fun j d h=>by simp at h
 | x::xs,A,hu,m=>fun j d h=>match j,h with
  | 0,h=>fun d2 v1 v2 u1 u2 m2 r1 r2 q1 q2=>by
   have e:d=x:=by simpa using h.symm
   rw [e] at r1 ⊢
   exact aCy I hk x A d2 v1 v2 u1 u2 (by simp only [deps] at hu; omega) (by simp only [deps] at m; omega) m2 r1 r2 q1 q2
  | j+1,h=>fun d2 v1 v2 u1 u2 m2 r1 r2 q1 q2=>mT I hk xs A (by simp only [deps] at hu; omega) (by simp only [deps] at m; omega) j d (by simpa using h) d2 v1 v2 u1 u2 m2 r1 r2 q1 q2
end
noncomputable def wd (M:Mm):W->Option D
 | .d x=>some x
 | .ref i=>(M[i]?).map D.lst
noncomputable def Rq (K:PySem.W.Frag) (μ:List Addr) (H:Hp) (d:D) (v:V):Prop:=Rp K μ H d v\/∃ a ds vs,d=.lst ds/\v=.ref a/\H a=some (.lst vs)/\Rps K μ H ds vs
theorem xX {w:W} {v:V} {d:D} (hr:HR K μ H M) (r:Rw K μ H w v) (h:wd M w=some d):Rq K μ H d v:=by
 cases w with
 | d x=>simp only [wd,Option.some.injEq] at h; subst h; exact .inl r
 | ref i =>
  simp only [wd,Option.map_eq_some_iff] at h
  obtain ⟨ds,h1,rfl⟩:=h
  obtain ⟨a,q,rfl⟩:=r
  obtain ⟨a',vs,q1,q2,q3⟩:=hr.at h1
  rw [q] at q1; cases q1
  exact .inr ⟨a,ds,vs,rfl,rfl,q2,q3⟩
theorem sX {d:D} {v:V} (n:fv d=none) (m:dep d<=100) (h:Rq K μ H d v):∃ a ds k,v=.ref a/\At K μ H d a ds k:=by
 rcases h with h | ⟨a,ds,vs,rfl,rfl,q1,q2⟩
 ·exact kW n m h
 ·exact ⟨a,ds,false,rfl,.lst (SqL.of q1) q2⟩
theorem aBz {d:D} {v w:V} (n:fv d=some w) (h:Rq K μ H d v):Rp K μ H d v:=by
 rcases h with h | ⟨a,ds,vs,rfl,rfl,q1,q2⟩
 ·exact h
 ·cases n
theorem aId {d:D} {a:Addr} {xs:List D} {k:Bool} (h:At K μ H d a xs k):dep d=deps xs+1:=by cases h <;> rfl
noncomputable def pEq (x y:W) (M:Mm):Oc W:=match wd M x,wd M y with
 | some d,some e=>if dep d<=100/\dep e<=100 then .ok (.d (.bl (eqD d e))) M else .bad
 | _,_=>.bad
noncomputable def pNe (x y:W) (M:Mm):Oc W:=match wd M x,wd M y with
 | some d,some e=>if dep d<=100/\dep e<=100 then .ok (.d (.bl (!eqD d e))) M else .bad
 | _,_=>.bad
noncomputable def rEqD (K:PySem.W.Frag) (neg:Bool):R2:=fun v u H Q=>∃ μ d e,Rq K μ H d v/\Rq K μ H e u/\(dep d<=100/\dep e<=100)/\Q (.bl (if neg=true then !eqD d e else eqD d e)) H
theorem aLa (I:Inv X pins σ H s) (hk:X.K=K) {A:Around} {d d2:D} {v1 v2:V} {u1 u2:Value} (hu:A.units+dep d+1 < cLine) (m1:dep d<=100) (m2:dep d2<=100) (h1:Rq K μ H d v1) (h2:Rq K μ H d2 v2) (q1:RelV v1 u1) (q2:RelV v2 u2) :
  (SeqAt.RcAt A s u1 u2 (eqD d d2)/\SeqAt.RcNeAt A s u1 u2 (!eqD d d2)):=by
 have hu0:A.units < cLine:=by omega
 cases n1:fv d with
 | some w =>
  have h1:=aBz n1 h1
  cases n2:fv d2 with
  | some w2=>exact aFa n1 n2 h1 (aBz n2 h2) q1 q2
  | none =>
   obtain ⟨b,ys,k2,rfl,at2⟩:=sX n2 m2 h2
   cases q2
   rw [(jS n2 n1).2]
   obtain ⟨_,_,_,_,x,y⟩:=pG I hk hu0 at2 n1 h1 q1
   exact ⟨x,y⟩
 | none =>
  obtain ⟨a,xs,k,rfl,at1⟩:=sX n1 m1 h1
  cases q1
  cases n2:fv d2 with
  | some w2 =>
   rw [(jS n1 n2).1]
   obtain ⟨_,_,x,y,_⟩:=pG I hk hu0 at1 n2 (aBz n2 h2) q2
   exact ⟨x,y⟩
  | none =>
   obtain ⟨b,ys,k2,rfl,at2⟩:=sX n2 m2 h2
   cases q2
   have:=aId at1
   exact aGh I hk hu0 at1 at2 m2 (mT I hk xs A.in1 (by show A.units+1+deps xs < cLine; omega) (by omega))
theorem aGu (hu:X.A.units+101 < cLine):OpR X (compareOp .Eq) (rEqD X.K false):=by
 intro pins s σ H x y v u Q I rx ry h
 obtain ⟨μ,d,e,h1,h2,h3,q⟩:=h
 exact (aLa I rfl (A:=X.A) (by omega) h3.1 h3.2 h1 h2 rx ry).1 _ _ _ _ ⟨.bl _,H,I,rfl,q⟩
theorem aGy (hu:X.A.units+101 < cLine):OpR X (compareOp .NotEq) (rEqD X.K true):=by
 intro pins s σ H x y v u Q I rx ry h
 obtain ⟨μ,d,e,h1,h2,h3,q⟩:=h
 exact (aLa I rfl (A:=X.A) (by omega) h3.1 h3.2 h1 h2 rx ry).2 _ _ _ _ ⟨.bl _,H,I,rfl,q⟩
theorem opEq (hu:X.A.units+101 < cLine):OpG X K Z (compareOp .Eq) pEq:=fun hk=>⟨_,hk▸aGu hu,by
 intro μ H M x y v u Q hr rx ry p
 unfold pEq at p
 cases q1:wd M x with
 | none=>rw [q1] at p; exact p.elim
 | some d=>cases q2:wd M y with
  | none=>rw [q1,q2] at p; exact p.elim
  | some e =>
   rw [q1,q2] at p
   simp only at p
   split at p
   ·exact ⟨μ,d,e,xX hr rx q1,xX hr ry q2,by assumption,p μ H .refl hr _ (by simp [Rw,Rp])⟩
   ·exact p.elim⟩
theorem opNe (hu:X.A.units+101 < cLine):OpG X K Z (compareOp .NotEq) pNe:=fun hk=>⟨_,hk▸aGy hu,by
 intro μ H M x y v u Q hr rx ry p
 unfold pNe at p
 cases q1:wd M x with
 | none=>rw [q1] at p; exact p.elim
 | some d=>cases q2:wd M y with
  | none=>rw [q1,q2] at p; exact p.elim
  | some e =>
   rw [q1,q2] at p
   simp only at p
   split at p
   ·exact ⟨μ,d,e,xX hr rx q1,xX hr ry q2,by assumption,p μ H .refl hr _ (by simp [Rw,Rp])⟩
   ·exact p.elim⟩
end
end EV
namespace EV
open PySem PySem.Spec PyProof.Rows L2
section
variable {X:Cx} {K:PySem.W.Frag} {Z:Zt} {μ:List Addr} {H:Hp} {M:Mm} {e a b o:Expr} {es:List Expr} {pos:Pos} {f fa fb fo:FE} {fs:FA}
@[irreducible] noncomputable def lid:Nat:=2 ^ 4096
theorem vA {i:Int} (h:i.natAbs < lid):Builtin.Int.intBits i<=4096:=by unfold lid at h; exact intBits_le_iff.mpr h
theorem aIy {i:Int} {m:Nat} (h:i.natAbs < 2 ^ m) (hm:m<=4096):i.natAbs < lid:=by unfold lid; exact Nat.lt_of_lt_of_le h (Nat.pow_le_pow_right (by omega) hm)
noncomputable def mulOk (i j:Int):Bool:=decide ((-18446744073709551616 < i/\i < 18446744073709551616)\/(-18446744073709551616 < j/\j < 18446744073709551616)\/(i.natAbs < lid/\j.natAbs < lid))
theorem aFw:OpR X (binaryOp .Mult) (rI (fun i j=>CMul i j\/(i.natAbs < lid/\j.natAbs < lid)) fun i j=>.int (i*j)):=L2.opI fun _ _ _ _ _ _ _ hc q=>mul_int q (by
 rcases hc with hc | ⟨h1,h2⟩
 ·exact hc.ok
 ·exact mulOk_of_bits (vA h1) (vA h2) (by omega))
noncomputable def pMul (x y:W) (M:Mm):Oc W:=match x,y with
 | .d (.int i),.d (.int j)=>if mulOk i j=true then .ok (.d (.int (i*j))) M else .bad
 | x,.d (.int k)=>match lv M x with
  | some xs=>if xs.length*k.toNat<=16777216/\k < 9223372036854775808 /\ -9223372036854775808<=k then .ok (.d (.lst (List.replicate k.toNat xs).flatten)) M else .bad
  | none=>.bad
 | _,_=>.bad
theorem uJ {x:W} {v:V} {k:Int} {Q:VK} (hr:HR K μ H M) (rx:Rw K μ H x v) (p:Pst K Z μ H (match lv M x with
  | some xs=>if xs.length*k.toNat<=16777216/\k < 9223372036854775808 /\ -9223372036854775808<=k then .ok (.d (.lst (List.replicate k.toNat xs).flatten)) M else .bad
  | none=>.bad) (Wk K Q)):rRep v (.int k) H Q:=by
 cases q1:lv M x with
 | none=>rw [q1] at p; exact p.elim
 | some xs =>
  rw [q1] at p
  simp only at p
  split at p
  ·rename_i hz
   obtain ⟨a,vs,rfl,h1,r1⟩:=yA hr rx q1
   exact ⟨a,k,vs,rfl,rfl,h1,hz.2.2,hz.2.1,by rw [<- r1.length,sizeLine_eq]; exact hz.1,jT hr (r1.rep k.toNat) p⟩
  ·exact p.elim
theorem opMul:OpG X K Z (binaryOp .Mult) pMul:=fun hk=>by
 refine ⟨_,OpR.or aFw aIh,?_⟩
 intro μ H M x y v u Q hr rx ry p
 cases y with
 | ref j=>cases x with
  | ref i=>exact p.elim
  | d x=>cases x <;> exact p.elim
 | d y=>cases y with
  | int k =>
   have ry':u=.int k:=by simpa only [Rw,Rp] using ry
   subst ry'
   cases x with
   | ref i=>exact .inr (uJ hr rx p)
   | d x=>cases x with
    | int i =>
     simp only [pMul] at p
     simp only [Rw,Rp] at rx
     split at p
     ·rename_i hz
      refine .inl ⟨i,k,rx,rfl,?_,p μ H .refl hr _ (by simp [Rw,Rp])⟩
      simp only [mulOk,decide_eq_true_eq] at hz
      rcases hz with hz | hz | hz
      ·exact .inl (.inl hz)
      ·exact .inl (.inr hz)
      ·exact .inr hz
     ·exact p.elim
    | _=>exact .inr (uJ hr rx p)
  | _=>cases x with
   | ref i=>exact p.elim
   | d x=>cases x <;> exact p.elim
noncomputable def pNeg (x:W) (M:Mm):Oc W:=match x with
 | .d (.int i)=>.ok (.d (.int (-i))) M
 | _=>.bad
theorem wP (ha:Ev X K Z a fa):Ev X K Z (.UnaryOp .USub a pos) (e1 pNeg fa):=by
 refine ⟨ha.k,cqE (aKu aHd ha.h) ?_⟩
 rintro σ H Q ⟨μ,M,L,hr,lr,p⟩
 refine ⟨μ,M,L,hr,lr,p.bind.imp fun μ1 H1 M1 x e1 hr1 _ p1 v rx=>?_⟩
 cases x with
 | ref i=>exact p1.elim
 | d x=>cases x with
  | int i=>simp only [Rw,Rp] at rx; exact ⟨i,rx,p1 μ1 H1 .refl hr1 _ (by simp [Rw,Rp])⟩
  | _=>exact p1.elim
variable {rest:List Expr}
noncomputable def eIf (t:FT) (f g:FE):FE:=fun L M=>(t L M).bind fun c M1=>if c=true then f L M1 else g L M1
theorem aGg {c:Expr} {t:FT} (hc:Et X K Z c t) (ha:Ev X K Z a fa) (hb:Ev X K Z b fb):Ev X K Z (.IfExp c a b pos) (eIf t fa fb):=by
 refine ⟨ha.k,cqE (aAu hc.h ha.h hb.h) ?_⟩
 rintro σ H Q ⟨μ,M,L,hr,lr,p⟩
 refine ⟨μ,M,L,hr,lr,p.bind.imp fun μ1 H1 M1 x e1 hr1 _ p1=>?_⟩
 cases x with
 | true=>exact ⟨μ1,M1,L,hr1,lr.ext hr.lsts e1,p1⟩
 | false=>exact ⟨μ1,M1,L,hr1,lr.ext hr.lsts e1,p1⟩
noncomputable def pIx (x y:W) (M:Mm):Oc W:=match y with
 | .d (.int i)=>match x with
  | .d (.str z)=>match atI z.cps.toList i with
   | some c=>if z.length<=16777216 then .ok (.d (.str ⟨#[c]⟩)) M else .bad
   | none=>.bad
  | x=>match sv M x with
   | some xs=>match atI xs i with
    | some d=>.ok (.d d) M
    | none=>.bad
   | none=>.bad
 | _=>.bad
theorem aHy {ds:List D} {vs:List V} {i:Int} {d:D} (r:Rps K μ H ds vs) (h:atI ds i=some d):∃ v,atI vs i=some v/\Rp K μ H d v:=by
 unfold atI at h ⊢
 rw [r.length] at h
 cases q:ixN vs.length i with
 | none=>rw [q] at h; cases h
 | some j=>rw [q] at h; exact r.get h
theorem yS {x:W} {v:V} {i:Int} {Q:VK} (hr:HR K μ H M) (rx:Rw K μ H x v) (p:Pst K Z μ H (match sv M x with
   | some xs=>match atI xs i with
    | some d=>Oc.ok (.d d) M
    | none=>.bad
   | none=>.bad) (Wk K Q)):rIx K v (.int i) H Q:=by
 cases q1:sv M x with
 | none=>rw [q1] at p; exact p.elim
 | some xs =>
  rw [q1] at p
  cases q2:atI xs i with
  | none=>simp only [q2] at p; exact p.elim
  | some d =>
   simp only [q2] at p
   obtain ⟨a,vs,rfl,h1,r1⟩:=qF hr rx q1
   obtain ⟨v,h2,r2⟩:=aHy r1 q2
   have q:=p μ H .refl hr v r2
   rcases h1 with h1 | h1
   ·exact .inl ⟨a,vs,i,v,rfl,rfl,h1,h2,q⟩
   ·exact .inr (.inl ⟨a,vs,i,v,rfl,rfl,h1,h2,q⟩)
theorem aHs:Op2 K Z (rIx K) pIx:=by
 intro μ H M x y v u Q hr rx ry p
 cases y with
 | ref j=>exact p.elim
 | d y=>cases y with
  | int i =>
   have:u=.int i:=by simpa only [Rw,Rp] using ry
   subst this
   cases x with
   | ref j=>exact yS hr rx p
   | d x=>cases x with
    | str z =>
     simp only [Rw,Rp] at rx
     simp only [pIx] at p
     cases q:atI z.cps.toList i with
     | none=>simp only [q] at p; exact p.elim
     | some c =>
      simp only [q] at p
      split at p
      ·exact .inr (.inr ⟨z,i,c,rx,rfl,by rw [sizeLine_eq]; assumption,q,p μ H .refl hr _ (by simp [Rw,Rp])⟩)
      ·exact p.elim
    | _=>exact yS hr rx p
  | _=>exact p.elim
theorem aI (ha:Ev X K Z a fa) (hb:Ev X K Z b fb) (hs:PlainIx b:=by intro _ _; rfl):Ev X K Z (.Subscript a b pos) (e2 pIx fa fb):=by
 have h:=aKx (pos:=pos) (aJq (X:=X)) ha.h hb.h hs
 rw [ha.k] at h
 exact ⟨ha.k,cqE h (lift2 aHs)⟩
noncomputable def aNil:FA:=fun _ M=>.ok [] M
noncomputable def aCons (f:FE) (g:FA):FA:=fun L M=>(f L M).bind fun w M1=>(g L M1).bind fun ws M2=>.ok (w::ws) M2
theorem aF (hk:X.K=K:=by rfl):Ea X K Z [] aNil:=⟨hk,cqA iJ fun σ H Q ⟨μ,M,L,hr,lr,p⟩=>p μ H .refl hr [] rfl⟩
theorem aC (ha:Ev X K Z e fa) (hr:Ea X K Z es fs) (hs:starEach (e::es) X.env=(false,eval e X.env)::starEach es X.env:=by rfl):Ea X K Z (e::es) (aCons fa fs):=by
 refine ⟨ha.k,cqA (fL ha.h hr.h hs) ?_⟩
 rintro σ H Q ⟨μ,M,L,hr,lr,p⟩
 refine ⟨μ,M,L,hr,lr,p.bind.imp fun μ1 H1 M1 x e1 hr1 _ p1 v rx=>?_⟩
 refine ⟨μ1,M1,L,hr1,lr.ext hr.lsts e1,p1.bind.imp fun μ2 H2 M2 y e2 hr2 _ p2 us ry=>?_⟩
 exact p2 μ2 H2 .refl hr2 (v::us) ⟨v,us,rfl,rx.ext hr1.lsts e2,ry⟩
noncomputable def allD:List W->Option (List D)
 | []=>some []
 | .d x::ws=>(allD ws).map (x::·)
 | .ref _::_=>none
theorem mS:∀ {ws:List W} {vs:List V} {ds:List D},Rws K μ H ws vs->allD ws=some ds->Rps K μ H ds vs
 | [],_,_,h,q=>by cases h; simp only [allD,Option.some.injEq] at q; subst q; exact .nil
 | .d x::ws,_,_,⟨v,r,e1,e2,e3⟩,q=>by
  simp only [allD,Option.map_eq_some_iff] at q
  obtain ⟨ds,q1,rfl⟩:=q
  subst e1
  exact .cons e2 (mS e3 q1)
 | .ref i::ws,_,_,_,q=>by simp [allD] at q
noncomputable def mkT (ws:List W) (M:Mm):Oc W:=match allD ws with
 | some ds=>if ds.length<=16777216 then okD (.tup ds) M else .bad
 | none=>.bad
noncomputable def mkL (ws:List W) (M:Mm):Oc W:=match allD ws with
 | some ds=>if ds.length<=16777216 then okD (.lst ds) M else .bad
 | none=>.bad
noncomputable def mkR (ws:List W) (M:Mm):Oc W:=match allD ws with
 | some ds=>if ds.length<=16777216 then .ok (.ref M.length) (M++[ds]) else .bad
 | none=>.bad
noncomputable def eA (g:List W->Mm->Oc W) (fs:FA):FE:=fun L M=>(fs L M).bind g
theorem aN {x1} (h:Ea X K Z es fs):Ev X K Z (.Tuple es x1 pos) (eA mkT fs):=by
 refine ⟨h.k,cqE (aHh h.h) ?_⟩
 rintro σ H Q ⟨μ,M,L,hr,lr,p⟩
 refine ⟨μ,M,L,hr,lr,p.bind.imp fun μ1 H1 M1 ws e1 hr1 _ p1 vs rx=>?_⟩
 unfold mkT at p1
 cases q:allD ws with
 | none=>rw [q] at p1; exact p1.elim
 | some ds =>
  rw [q] at p1
  simp only at p1
  split at p1
  ·have r:=mS rx q
   exact ⟨by rw [<- r.length,sizeLine_eq]; assumption,lG hr1 r p1⟩
  ·exact p1.elim
theorem fQ (h:Ea X K Z es fs):Ev X K Z (.List es pos) (eA mkL fs):=by
 refine ⟨h.k,cqE (wB h.h) ?_⟩
 rintro σ H Q ⟨μ,M,L,hr,lr,p⟩
 refine ⟨μ,M,L,hr,lr,p.bind.imp fun μ1 H1 M1 ws e1 hr1 _ p1 vs rx=>?_⟩
 unfold mkL at p1
 cases q:allD ws with
 | none=>rw [q] at p1; exact p1.elim
 | some ds =>
  rw [q] at p1
  simp only at p1
  split at p1
  ·have r:=mS rx q
   exact ⟨by rw [<- r.length,sizeLine_eq]; assumption,jT hr1 r p1⟩
  ·exact p1.elim
theorem yC (h:Ea X K Z es fs):Ev X K Z (.List es pos) (eA mkR fs):=by
 refine ⟨h.k,cqE (wB h.h) ?_⟩
 rintro σ H Q ⟨μ,M,L,hr,lr,p⟩
 refine ⟨μ,M,L,hr,lr,p.bind.imp fun μ1 H1 M1 ws e1 hr1 _ p1 vs rx=>?_⟩
 unfold mkR at p1
 cases q:allD ws with
 | none=>rw [q] at p1; exact p1.elim
 | some ds =>
  rw [q] at p1
  simp only at p1
  split at p1
  ·have r:=mS rx q
   exact ⟨by rw [<- r.length,sizeLine_eq]; assumption,tJ hr1 r p1⟩
  ·exact p1.elim
noncomputable def eInts (ns:List Int):FE:=fun _ M=>.ok (.d (.lst (ns.map D.int))) M
theorem aFl {ns:List Int} (h:IntsE es ns) (hn:ns.length<=16777216:=by decide) (hk:X.K=K:=by rfl):Ev X K Z (.List es pos) (eInts ns):=by
 refine ⟨hk,cqE (wB (aEz h)) ?_⟩
 rintro σ H Q ⟨μ,M,L,hr,lr,p⟩
 exact ⟨by rw [List.length_map,sizeLine_eq]; exact hn,jT hr Rps.ints p⟩
noncomputable def Cl (K:PySem.W.Frag) (Z:Zt) (r:List V->Hp->VK->Prop) (g:List W->Mm->Oc W):Prop :=
 ∀ (μ:List Addr) (H:Hp) (M:Mm) (ws:List W) (vs:List V) (Q:VK),HR K μ H M->Rws K μ H ws vs->Pst K Z μ H (g ws M) (Wk K Q)->r vs H Q
noncomputable def ClG (X:Cx) (K:PySem.W.Frag) (Z:Zt) (f:Value) (g:List W->Mm->Oc W):Prop:=X.K=K->∃ r,CallR X f r/\Cl K Z r g
theorem liftC {r:List V->Hp->VK->Prop} {g:List W->Mm->Oc W} (h:Cl K Z r g):∀ σ H Q,lift K Z (eA g fs) σ H Q->tCB r (liftA K Z fs) σ H Q:=by
 rintro σ H Q ⟨μ,M,L,hr,lr,p⟩
 exact ⟨μ,M,L,hr,lr,p.bind.imp fun μ1 H1 M1 ws e1 hr1 _ p1 vs rx=>h μ1 H1 M1 ws vs Q hr1 rx p1⟩
theorem bT {x:Str} {p:Pos} {id:String} {g:List W->Mm->Oc W} (hc:ClG X K Z (.builtin id) g) (hg:Gl X x) (hm:X.mg x=none) (hv:bootBuiltins x=some (.builtin id)) (ha:Ea X K Z (e::es) fs)
  (hn:x≠"__name__":=by decide) (hdb:(x==("__debug__":Str))=false:=by decide) (he:starEach (e::es) X.env=(false,eval e X.env)::starEach es X.env:=by rfl)
  (hpl:(backTo pos (starEach es X.env)).any (·.1)=false:=by rfl):Ev X K Z (.Call (.Name x p) (e::es) [] pos) (eA g fs):=by
 obtain ⟨r,h1,h2⟩:=hc ha.k
 exact ⟨ha.k,cqE (aBm h1 hg hm hv ha.h hn hdb he hpl) (liftC h2)⟩
theorem cQ {x:Str} {p:Pos} {T:String} {g:List W->Mm->Oc W} (hc:ClG X K Z (.type T) g) (hg:Gl X x) (hm:X.mg x=none) (hv:bootBuiltins x=some (.type T)) (ha:Ea X K Z (e::es) fs)
  (hn:x≠"__name__":=by decide) (hdb:(x==("__debug__":Str))=false:=by decide) (he:starEach (e::es) X.env=(false,eval e X.env)::starEach es X.env:=by rfl)
  (hpl:(backTo pos (starEach es X.env)).any (·.1)=false:=by rfl):Ev X K Z (.Call (.Name x p) (e::es) [] pos) (eA g fs):=by
 obtain ⟨r,h1,h2⟩:=hc ha.k
 exact ⟨ha.k,cqE (oA h1 hg hm hv ha.h hn hdb he hpl) (liftC h2)⟩
noncomputable def cLen (ws:List W) (M:Mm):Oc W:=match ws with
 | [.d (.str z)]=>if z.length<=16777216 then .ok (.d (.int z.length)) M else .bad
 | [w]=>match sv M w with
  | some xs=>.ok (.d (.int xs.length)) M
  | none=>.bad
 | _=>.bad
theorem uO {w:W} {v:V} {Q:VK} (hr:HR K μ H M) (rx:Rw K μ H w v) (p:Pst K Z μ H (match sv M w with
  | some xs=>Oc.ok (.d (.int xs.length)) M
  | none=>.bad) (Wk K Q)):∃ p ys,[v]=[V.ref p]/\(SqL K H p ys\/SqT K H p ys)/\Q (.int ys.length) H:=by
 cases q1:sv M w with
 | none=>rw [q1] at p; exact p.elim
 | some xs =>
  rw [q1] at p
  obtain ⟨a,vs,rfl,h1,r1⟩:=qF hr rx q1
  exact ⟨a,vs,rfl,h1,p μ H .refl hr _ (by simp [Rw,Rp,r1.length])⟩
theorem callLen:ClG X K Z (.builtin "len") cLen:=fun hk=>by
 refine ⟨_,CallR.or (hk▸sY) tQ,?_⟩
 intro μ H M ws vs Q hr rx p
 match ws,rx,p with
 | [],_,p=>exact p.elim
 | .ref i::[],⟨v,r,e1,e2,e3⟩,p=>cases e3; subst e1; exact .inl (uO hr e2 p)
 | .d x::[],⟨v,r,e1,e2,e3⟩,p =>
  cases e3; subst e1
  cases x with
  | str z =>
   simp only [cLen] at p
   simp only [Rw,Rp] at e2
   subst e2
   split at p
   ·exact .inr ⟨z,rfl,by rw [sizeLine_eq]; assumption,p μ H .refl hr _ (by simp [Rw,Rp])⟩
   ·exact p.elim
  | _=>exact .inl (uO hr e2 p)
 | .ref i::_::_,_,p=>exact p.elim
 | .d x::_::_,_,p=>cases x <;> exact p.elim
noncomputable def cInt (ws:List W) (M:Mm):Oc W:=match ws with
 | [.d (.int i)]=>.ok (.d (.int i)) M
 | [.d (.bl k)]=>.ok (.d (.int (if k=true then 1 else 0))) M
 | _=>.bad
theorem callInt:ClG X K Z (.type "int") cInt:=fun hk=>by
 refine ⟨_,zH,?_⟩
 intro μ H M ws vs Q hr rx p
 match ws,rx,p with
 | [],_,p=>exact p.elim
 | .ref i::_,_,p=>exact p.elim
 | .d x::[],⟨v,r,e1,e2,e3⟩,p =>
  cases e3; subst e1
  cases x with
  | int i=>simp only [Rw,Rp] at e2; subst e2; exact .inl ⟨i,rfl,p μ H .refl hr _ (by simp [Rw,Rp])⟩
  | bl k=>simp only [Rw,Rp] at e2; subst e2; exact .inr ⟨k,rfl,p μ H .refl hr _ (by simp [Rw,Rp])⟩
  | _=>exact p.elim
 | .d x::_::_,_,p=>cases x <;> exact p.elim
noncomputable def cMax2 (ws:List W) (M:Mm):Oc W:=match ws with
 | [.d (.int i),.d (.int j)]=>.ok (.d (.int (if j > i then j else i))) M
 | _=>.bad
noncomputable def cMin2 (ws:List W) (M:Mm):Oc W:=match ws with
 | [.d (.int i),.d (.int j)]=>.ok (.d (.int (if j < i then j else i))) M
 | _=>.bad
theorem callMax2 (hc:X.calm=true):ClG X K Z (.builtin "max") cMax2:=fun hk=>by
 refine ⟨_,aAb hc,?_⟩
 intro μ H M ws vs Q hr rx p
 unfold cMax2 at p
 split at p
 ·obtain ⟨v,r,e1,e2,v',r',e1',e2',e3⟩:=rx
  simp only [Rw,Rp] at e2 e2'
  cases e3; subst e1' e1 e2 e2'
  exact ⟨_,_,rfl,p μ H .refl hr _ (by simp [Rw,Rp])⟩
 ·exact p.elim
theorem callMin2 (hc:X.calm=true):ClG X K Z (.builtin "min") cMin2:=fun hk=>by
 refine ⟨_,zP hc,?_⟩
 intro μ H M ws vs Q hr rx p
 unfold cMin2 at p
 split at p
 ·obtain ⟨v,r,e1,e2,v',r',e1',e2',e3⟩:=rx
  simp only [Rw,Rp] at e2 e2'
  cases e3; subst e1' e1 e2 e2'
  exact ⟨_,_,rfl,p μ H .refl hr _ (by simp [Rw,Rp])⟩
 ·exact p.elim
noncomputable def cListR (ws:List W) (M:Mm):Oc W:=match ws with
 | [w]=>match sv M w with
  | some xs=>.ok (.ref M.length) (M++[xs])
  | none=>.bad
 | _=>.bad
noncomputable def cTup (ws:List W) (M:Mm):Oc W:=match ws with
 | [w]=>match sv M w with
  | some xs=>okD (.tup xs) M
  | none=>.bad
 | _=>.bad
theorem yL {g:List D->Oc W} {ws:List W} {vs:List V} {Q:List Addr->Hp->Mm->W->Prop} (hr:HR K μ H M) (rx:Rws K μ H ws vs) (p:Pst K Z μ H (match ws with
 | [w]=>match sv M w with
  | some xs=>g xs
  | none=>.bad
 | _=>.bad) Q):∃ w a us xs,ws=[w]/\vs=[.ref a]/\sv M w=some xs/\Rw K μ H w (.ref a)/\(SqL K H a us\/SqT K H a us)/\Rps K μ H xs us/\Pst K Z μ H (g xs) Q:=by
 match ws,rx,p with
 | [],_,p=>exact p.elim
 | [w],⟨v,r,e1,e2,e3⟩,p =>
  cases e3; subst e1
  simp only at p
  cases q:sv M w with
  | none=>rw [q] at p; exact p.elim
  | some xs =>
   rw [q] at p
   obtain ⟨a,us,rfl,h1,r1⟩:=qF hr e2 q
   exact ⟨w,a,us,xs,rfl,rfl,q,e2,h1,r1,p⟩
 | _::_::_,_,p=>exact p.elim
theorem callListR:ClG X K Z (.type "list") cListR:=fun hk=>by
 refine ⟨_,hk▸uI,?_⟩
 intro μ H M ws vs Q hr rx p
 obtain ⟨w,a,us,xs,rfl,rfl,q,e2,h1,r1,p⟩:=yL hr rx p
 exact ⟨a,us,rfl,h1,tJ hr r1 p⟩
theorem callTup:ClG X K Z (.type "tuple") cTup:=fun hk=>by
 refine ⟨_,hk▸rA,?_⟩
 intro μ H M ws vs Q hr rx p
 obtain ⟨w,a,us,xs,rfl,rfl,q,e2,h1,r1,p⟩:=yL hr rx p
 by_cases hw:∃ ys,w=.d (.tup ys)
 ·obtain ⟨ys,rfl⟩:=hw
  simp only [sv,Option.some.injEq] at q
  subst q
  have e2':=e2
  simp only [Rw,Rp] at e2
  obtain ⟨a',vs',ea,h1',r1'⟩:=e2
  cases ea
  exact ⟨a,vs',rfl,.inr ⟨SqT.of h1',p μ H .refl hr _ e2'⟩⟩
 ·have hl:lr M w=some xs:=by
   cases w with
   | ref i=>exact q
   | d x=>cases x <;> first | exact q | exact (hw ⟨_,rfl⟩).elim
  obtain ⟨a',vs',ea,h1',r1'⟩:=xS hr e2 hl
  cases ea
  exact ⟨a,vs',rfl,.inl ⟨h1',lG hr r1' p⟩⟩
end
end EV
namespace EV
open PySem PySem.Spec PyProof.Rows L2
section
variable {X:Cx} {K:PySem.W.Frag} {Z:Zt} {μ:List Addr} {H:Hp} {M:Mm} {e a b o:Expr} {es:List Expr} {pos:Pos} {f fa fb fo:FE} {fs:FA}
variable {st:Stmt} {rest:List Stmt} {F G:FS}
noncomputable def sNil:FS:=fun L M=>.ok (.nx L) M
noncomputable def sSeq (F G:FS):FS:=fun L M=>(F L M).bind fun o M1=>match o with
 | .nx L1=>G L1 M1
 | .bk L1=>.ok (.bk L1) M1
 | .ct L1=>.ok (.ct L1) M1
 | .rt w=>.ok (.rt w) M1
theorem aX (hk:X.K=K:=by rfl):Ess X K Z [] sNil:=⟨hk,cqSs aFq fun E σ H ⟨μ,M,L,hr,lr,p⟩=>p μ H .refl hr σ lr⟩
theorem aG (h1:Es X K Z st F) (h2:Ess X K Z rest G):Ess X K Z (st::rest) (sSeq F G):=by
 refine ⟨h1.k,cqSs (vQ h1.h h2.h) ?_⟩
 rintro E σ H ⟨μ,M,L,hr,lr,p⟩
 refine ⟨μ,M,L,hr,lr,p.bind.imp fun μ1 H1 M1 o e1 hr1 _ p1=>?_⟩
 cases o with
 | nx L1=>exact fun σ' lr'=>⟨μ1,M1,L1,hr1,lr',p1⟩
 | bk L1=>exact p1 μ1 H1 .refl hr1
 | ct L1=>exact p1 μ1 H1 .refl hr1
 | rt w=>exact p1 μ1 H1 .refl hr1
theorem aH (h1:Es X K Z st F):Ess X K Z [st] F:=⟨h1.k,xV h1.h⟩
noncomputable def sEx (f:FE):FS:=fun L M=>(f L M).bind fun _ M1=>.ok (.nx L) M1
theorem uA (h:Ev X K Z e f) (hs:swapsWith e none pos.line X.env=pure false:=by rfl):Es X K Z (.Expr e pos) (sEx f):=by
 refine ⟨h.k,cqS (yY h.h hs) ?_⟩
 rintro E σ H ⟨μ,M,L,hr,lr,p⟩
 exact ⟨μ,M,L,hr,lr,p.bind.imp fun μ1 H1 M1 x e1 hr1 _ p1 v rx=>p1 μ1 H1 .refl hr1 σ (lr.ext hr.lsts e1)⟩
noncomputable def sRt (f:FE):FS:=fun L M=>(f L M).bind fun w M1=>.ok (.rt w) M1
theorem aS (h:Ev X K Z e f):Es X K Z (.Return (some e) pos) (sRt f):=by
 refine ⟨h.k,cqS (aIj h.h) ?_⟩
 rintro E σ H ⟨μ,M,L,hr,lr,p⟩
 exact ⟨μ,M,L,hr,lr,p.bind.imp fun μ1 H1 M1 x e1 hr1 _ p1 v rx=>p1 μ1 H1 .refl hr1 v rx⟩
noncomputable def sIf (t:FT) (F G:FS):FS:=fun L M=>(t L M).bind fun b M1=>if b=true then F L M1 else G L M1
theorem bL {c:Expr} {p q:List Stmt} {t:FT} (hc:Et X K Z c t) (ha:Ess X K Z p F) (hb:Ess X K Z q G):Es X K Z (.If c p q pos) (sIf t F G):=by
 refine ⟨hc.k,cqS (aKy hc.h ha.h hb.h) ?_⟩
 rintro E σ H ⟨μ,M,L,hr,lr,p⟩
 refine ⟨μ,M,L,hr,lr,p.bind.imp fun μ1 H1 M1 x e1 hr1 _ p1=>?_⟩
 cases x with
 | true=>exact ⟨μ1,M1,L,hr1,lr.ext hr.lsts e1,p1⟩
 | false=>exact ⟨μ1,M1,L,hr1,lr.ext hr.lsts e1,p1⟩
noncomputable def gN (i:Nat):FG:=fun w L M=>.ok (L.set i (some w)) M
theorem LR.set {L:Lc} {σ:St} {i:Nat} {w:W} {v:V} (h:LR K μ H L σ) (r:Rw K μ H w v):LR K μ H (L.set i (some w)) (σ.set i (some v)) where
 len:=by simp [h.len]
 ent:=fun j u q=>by
  by_cases hj:i=j
  ·subst hj
   have hl:i < L.length:=by
    by_cases hl:i < L.length
    ·exact hl
    ·rw [List.set_eq_of_length_le (by omega)] at q
     rw [List.getElem?_eq_none (by omega)] at q; cases q
   rw [List.getElem?_set_self hl] at q
   cases q
   exact ⟨v,by rw [List.getElem?_set_self (by rw [<- h.len]; exact hl)],r⟩
  ·rw [List.getElem?_set_ne hj] at q
   obtain ⟨x,q1,q2⟩:=h.ent j u q
   exact ⟨x,by rw [List.getElem?_set_ne hj]; exact q1,q2⟩
theorem aQ {i:Nat} {x:Str} (hN:X.N.Nodup) (hi:X.N[i]?=some x:=by rfl) (hx:Loc X.env.scope x:=by first | exact Or.inl rfl | exact Or.inr rfl) (hk:X.K=K:=by rfl) (hf:X.fn x=true\/X.env.scope.names.lookup x=some .local:=by first | exact .inl rfl | exact .inr rfl | assumption) :
  Eg X K Z (.Name x pos) (gN i):=⟨hk,cqG (aDy hN hi hx hf) fun v σ H Q ⟨μ,M,L,w,hr,lr,rx,p⟩=>p μ H .refl hr _ (lr.set rx)⟩
noncomputable def gsNil:FGs:=fun ds L M=>match ds with
 | []=>.ok L M
 | _=>.bad
noncomputable def gsCons (g:FG) (gs:FGs):FGs:=fun ds L M=>match ds with
 | d::r=>(g (.d d) L M).bind fun L1 M1=>gs r L1 M1
 | []=>.bad
theorem eE (hk:X.K=K:=by rfl):Egs X K Z [] gsNil:=⟨hk,cqGs aFu fun vs σ H Q ⟨μ,M,L,ds,hr,lr,rx,p⟩=>by
 cases ds with
 | nil=>simp only [Rps] at rx; exact ⟨rx,p μ H .refl hr σ lr⟩
 | cons d r=>exact p.elim⟩
theorem bB {g:FG} {gs:FGs} (h1:Eg X K Z e g) (h2:Egs X K Z es gs) (hs:(assignEach (e::es) X.env).map (·.2)=assign e X.env::(assignEach es X.env).map (·.2):=by rfl):Egs X K Z (e::es) (gsCons g gs) :=
 ⟨h1.k,cqGs (aAy h1.h h2.h hs) fun vs σ H Q ⟨μ,M,L,ds,hr,lr,rx,p⟩=>by
  cases ds with
  | nil=>exact p.elim
  | cons d r =>
   simp only [Rps] at rx
   obtain ⟨v,vr,e1,rd,rr⟩:=rx
   refine ⟨v,vr,e1,μ,M,L,.d d,hr,lr,rd,p.bind.imp fun μ1 H1 M1 L1 e1 hr1 _ p1 σ1 lr1=>?_⟩
   exact ⟨μ1,M1,L1,r,hr1,lr1,Rps.ext hr.lsts e1 _ _ rr,p1⟩⟩
noncomputable def gT (n:Nat) (gs:FGs):FG:=fun w L M=>match w with
 | .d (.tup xs)=>if xs.length=n then gs xs L M else .bad
 | _=>.bad
theorem fP {k n:Nat} {gs:FGs} (hc:X.calm=true) (h:Egs X K Z es gs) (hn:(assignEach es X.env).length=n:=by rfl) (hst:(assignEach es X.env).findIdx? (·.1)=none:=by rfl):Eg X K Z (.Tuple es k pos) (gT n gs):=by
 have h':=aGx (k:=k) (pos:=pos) hc h.h hn hst
 rw [h.k] at h'
 refine ⟨h.k,cqG h' fun v σ H Q ⟨μ,M,L,w,hr,lr,rx,p⟩=>?_⟩
 cases w with
 | ref i=>exact p.elim
 | d x=>cases x with
  | tup xs =>
   simp only [gT] at p
   split at p
   ·simp only [Rw,Rp] at rx
    obtain ⟨a,vs,e1,q1,r1⟩:=rx
    exact ⟨a,vs,e1,SqT.of q1,by rw [<- r1.length]; assumption,μ,M,L,xs,hr,lr,r1,p⟩
   ·exact p.elim
  | _=>exact p.elim
noncomputable def gS (fo fi:FE):FG:=fun w L M=>(fo L M).bind fun o M1=>(fi L M1).bind fun i M2=>match o,i,w with
 | .ref k,.d (.int j),.d x=>match M2[k]? with
  | some xs=>match ixN xs.length j with
   | some t=>.ok L (M2.set k (xs.set t x))
   | none=>.bad
  | none=>.bad
 | _,_,_=>.bad
theorem qU {i:Expr} {fi:FE} (ho:Ev X K Z o fo) (hi:Ev X K Z i fi) (ha:∀ v,assign (.Subscript o i pos) X.env v=(do
   let ov <- holding [v] (eval o X.env)
   let iv <- holding [v,ov] (eval i X.env)
   standAt pos
   holding [v,ov,iv] (setItem ov iv v)
   release [v,ov,iv] []):=by intro _; rfl):Eg X K Z (.Subscript o i pos) (gS fo fi):=by
 refine ⟨ho.k,cqG (aGq ho.h hi.h aDm ha) fun v σ H Q ⟨μ,M,L,w,hr,lr,rx,p⟩=>?_⟩
 refine ⟨μ,M,L,hr,lr,p.bind.imp fun μ1 H1 M1 x e1 hr1 _ p1 vo ro=>?_⟩
 refine ⟨μ1,M1,L,hr1,lr.ext hr.lsts e1,p1.bind.imp fun μ2 H2 M2 y e2 hr2 _ p2 vi ri=>?_⟩
 cases x with
 | d x=>exact p2.elim
 | ref k=>cases y with
  | ref j=>exact p2.elim
  | d y=>cases y with
   | int j=>cases w with
    | ref q=>exact p2.elim
    | d z =>
     simp only at p2
     cases q1:M2[k]? with
     | none=>simp only [q1] at p2; exact p2.elim
     | some xs =>
      simp only [q1] at p2
      cases q2:ixN xs.length j with
      | none=>simp only [q2] at p2; exact p2.elim
      | some t =>
       simp only [q2] at p2
       have ro:=ro.ext hr1.lsts e2
       obtain ⟨a,qa,rfl⟩:=ro
       obtain ⟨a',vs,qa',h1,r1⟩:=hr2.at q1
       rw [qa] at qa'; cases qa'
       simp only [Rw,Rp] at ri
       subst ri
       have rz:=Rw.ext hr1.lsts e2 (Rw.ext hr.lsts e1 rx)
       refine ⟨a,vs,j,t,rfl,rfl,h1,by rw [<- r1.length]; exact q2,?_⟩
       exact p2 μ2 _ (gF qa) (hr2.set qa (Rps.set rz t r1)) σ ((lr.ext hr.lsts (e1.trans e2)).ext hr2.lsts (gF qa))
   | _=>exact p2.elim
noncomputable def sAs (f:FE) (g:FG):FS:=fun L M=>(f L M).bind fun w M1=>(g w L M1).bind fun L1 M2=>.ok (.nx L1) M2
theorem dW {tg:Expr} {g:FG} (he:Ev X K Z e f) (hg:Eg X K Z tg g) (hs:swapsWithSole [tg] e pos.line X.env=pure false:=by rfl) (hw:swappedStores [tg] e X.env=pure none:=by rfl)
  (h1:(assignEach [tg] X.env).map (·.2)=[assign tg X.env]:=by rfl):Es X K Z (.Assign [tg] e pos) (sAs f g):=by
 refine ⟨he.k,cqS (aIl he.h hg.h hs hw h1) ?_⟩
 rintro E σ H ⟨μ,M,L,hr,lr,p⟩
 refine ⟨μ,M,L,hr,lr,p.bind.imp fun μ1 H1 M1 x e1 hr1 _ p1 v rx=>?_⟩
 exact ⟨μ1,M1,L,x,hr1,lr.ext hr.lsts e1,rx,p1.bind.imp fun μ2 H2 M2 L2 e2 hr2 _ p2 σ2 lr2=>p2 μ2 H2 .refl hr2 σ2 lr2⟩
theorem aT {i:Nat} {x:Str} {pos':Pos} (hN:X.N.Nodup) (he:Ev X K Z e f) (hi:X.N[i]?=some x:=by rfl) (hx:Loc X.env.scope x:=by first | exact Or.inl rfl | exact Or.inr rfl) (hs:swapsWith e (some (.Name x pos')) pos.line X.env=pure false:=by rfl)
  (hf:X.fn x=true\/X.env.scope.names.lookup x=some .local:=by first | exact .inl rfl | exact .inr rfl | assumption):Es X K Z (.Assign [.Name x pos'] e pos) (sAs f (gN i)):=by
 refine ⟨he.k,cqS (aJe hN hi hx he.h hs hf) ?_⟩
 rintro E σ H ⟨μ,M,L,hr,lr,p⟩
 refine ⟨μ,M,L,hr,lr,p.bind.imp fun μ1 H1 M1 x e1 hr1 _ p1 v rx=>?_⟩
 exact p1 μ1 H1 .refl hr1 _ (LR.set (lr.ext hr.lsts e1) rx)
noncomputable def sPar (i j:Nat) (fs:FA):FS:=fun L M=>(fs L M).bind fun ws M1=>match ws with
 | [v,w]=>.ok (.nx ((L.set i (some v)).set j (some w))) M1
 | _=>.bad
end
end EV
namespace EV
open PySem PySem.Spec PyProof.Rows L2
section
variable {X:Cx} {K:PySem.W.Frag} {Z:Zt} {μ:List Addr} {H:Hp} {M:Mm} {e a b o:Expr} {es:List Expr} {pos:Pos} {f fa fb fo:FE} {fs:FA} {st:Stmt} {rest:List Stmt} {F G:FS}
theorem fN {i j:Nat} {x y:Str} {px py pt:Pos} {kt k2 pt2} (hc:X.calm=true) (hN:X.N.Nodup) (ha:Ea X K Z [a,b] fs) (hi:X.N[i]?=some x:=by rfl) (hj:X.N[j]?=some y:=by rfl) (hij:i≠j:=by decide)
  (hx:X.env.scope.names.lookup x=some .local:=by rfl) (hy:X.env.scope.names.lookup y=some .local:=by rfl)
  (hw:swappedStores [.Tuple [.Name x px,.Name y py] kt pt] (.Tuple [a,b] k2 pt2) X.env=pure (some [x,y]):=by rfl)
  (hs:swapsWithSole [.Tuple [.Name x px,.Name y py] kt pt] (.Tuple [a,b] k2 pt2) pos.line X.env=pure false:=by rfl) :
  Es X K Z (.Assign [.Tuple [.Name x px,.Name y py] kt pt] (.Tuple [a,b] k2 pt2) pos) (sPar i j fs):=by
 refine ⟨ha.k,cqS (aHo hc hN hi hj hij hx hy ha.h hw hs) ?_⟩
 rintro E σ H ⟨μ,M,L,hr,lr,p⟩
 refine ⟨μ,M,L,hr,lr,p.bind.imp fun μ1 H1 M1 ws e1 hr1 _ p1 vs rx=>?_⟩
 match ws,rx,p1 with
 | [],_,p1=>exact p1.elim
 | [_],_,p1=>exact p1.elim
 | [v,w],⟨v1,r,q1,q2,v2,r',q1',q2',q3⟩,p1 =>
  cases q3; subst q1' q1
  exact ⟨v1,v2,rfl,p1 μ1 H1 .refl hr1 _ (LR.set (LR.set (lr.ext hr.lsts e1) q2) q2')⟩
 | _::_::_::_,_,p1=>exact p1.elim
noncomputable def sAug (g:W->W->Mm->Oc W) (i:Nat) (f:FE):FS:=fun L M=>(eV i L M).bind fun x _=>(f L M).bind fun y M1=>(g x y M1).bind fun z M2=>.ok (.nx (L.set i (some z))) M2
theorem aFe {i:Nat} {x:Str} {op:Operator} {g:Int->Int->Int} {pos':Pos} (hN:X.N.Nodup) (ho:PIp X op (ipI g)) (he:Ev X K Z e f) (hi:X.N[i]?=some x:=by rfl) (hx:Loc X.env.scope x:=by first | exact Or.inl rfl | exact Or.inr rfl)
  (hf:X.fn x=true\/X.env.scope.names.lookup x=some .local:=by first | exact .inl rfl | exact .inr rfl | assumption):Es X K Z (.AugAssign (.Name x pos') op e pos) (sAug (pI (fun _ _=>true) fun i j=>.int (g i j)) i f):=by
 refine ⟨he.k,cqS (aIo hN hi hx he.h ho hf) ?_⟩
 rintro E σ H ⟨μ,M,L,hr,lr,p⟩
 unfold sAug eV at p
 cases q:L[i]? with
 | none=>rw [q] at p; exact p.elim
 | some o =>
  cases o with
  | none=>rw [q] at p; exact p.elim
  | some w =>
   rw [q] at p
   obtain ⟨v,q1,q2⟩:=lr.ent i w q
   refine ⟨v,q1,μ,M,L,hr,lr,(show Pst K Z μ H ((f L M).bind _) _ from p).bind.imp fun μ1 H1 M1 y e1 hr1 _ p1 u ru=>?_⟩
   cases w with
   | ref i=>exact p1.elim
   | d w=>cases y with
    | ref j=>cases w <;> exact p1.elim
    | d y=>cases w <;> cases y <;> first
     | exact p1.elim
     | (simp only [Rw,Rp] at q2 ru
        exact ⟨_,_,q2,ru,p1 μ1 H1 .refl hr1 _ (LR.set (lr.ext hr.lsts e1) (by simp [Rw,Rp]))⟩)
noncomputable def pAppend (x y:W) (M:Mm):Oc W:=match x,y with
 | .ref k,.d d=>match M[k]? with
  | some xs=>if xs.length < 16777216 then .ok (.d .non) (M.set k (xs++[d])) else .bad
  | none=>.bad
 | _,_=>.bad
theorem aCp {k:Nat} {v:V} (hr:HR K μ H M) (r:Rw K μ H (.ref k) v):tyV K "list" v H:=by
 obtain ⟨a,q,rfl⟩:=r
 obtain ⟨vs,h⟩:=hr.lsts a (List.mem_of_getElem? q)
 exact .inl ⟨rfl,vs,SqL.of h⟩
noncomputable def eM1 (g:W->W->Mm->Oc W) (fo fe:FE):FE:=fun L M=>(fo L M).bind fun x M1=>match x with
 | .ref k=>(fe L M1).bind fun y M2=>g (.ref k) y M2
 | _=>.bad
theorem oF {apos cpos:Pos} (ho:Ev X K Z o fo) (he:Ev X K Z e fa) (hbase:attributeBase o "append" X.env (eval o X.env)=eval o X.env:=by rfl)
  (hfew:((backTo cpos (starEach [e] X.env)).all (fun x=>!x.1)&&(backToKw cpos (keywordEach [] X.env)).all (fun x=>x.1.isSome)&&decide ([e].length+([]:List Keyword).length+(if ([]:List Keyword).isEmpty then 0 else 1) < 30))=true:=by rfl)
  (hline:(apos.endLine==cpos.line)=true:=by rfl) (hs:starEach [e] X.env=(false,eval e X.env)::starEach [] X.env:=by rfl) (hplain:(backTo cpos (starEach [] X.env)).any (·.1)=false:=by rfl) :
  Ev X K Z (.Call (.Attribute o "append" apos) [e] [] cpos) (eM1 pAppend fo fa):=by
 have h:=aGi PySem.F.plainAttrs_list PySem.F.slot_list_append PySem.F.type_list_append rQ ho.h (fL he.h iJ hs) hbase hfew hline hs hplain
 rw [ho.k] at h
 refine ⟨ho.k,cqE h ?_⟩
 rintro σ H Q ⟨μ,M,L,hr,lr,p⟩
 refine ⟨μ,M,L,hr,lr,p.bind.imp fun μ1 H1 M1 x e1 hr1 _ p1 v rx=>?_⟩
 cases x with
 | d x=>exact p1.elim
 | ref k =>
  refine ⟨aCp hr1 rx,μ1,M1,L,hr1,lr.ext hr.lsts e1,p1.bind.imp fun μ2 H2 M2 y e2 hr2 _ p2 u ry=>?_⟩
  cases y with
  | ref j=>exact p2.elim
  | d d =>
   simp only [pAppend] at p2
   cases q1:M2[k]? with
   | none=>simp only [q1] at p2; exact p2.elim
   | some xs =>
    simp only [q1] at p2
    split at p2
    ·rename_i hz
     obtain ⟨a,qa,rfl⟩:=rx.ext hr1.lsts e2
     obtain ⟨a',vs,qa',h1,r1⟩:=hr2.at q1
     rw [qa] at qa'; cases qa'
     refine ⟨a,vs,u,rfl,rfl,h1,by rw [<- r1.length,sizeLine_eq]; exact hz,?_⟩
     exact p2 μ2 _ (gF qa) (hr2.set qa (r1.append (.cons ry .nil))) _ (by simp [Rw,Rp])
    ·exact p2.elim
noncomputable def pPopAt (x y:W) (M:Mm):Oc W:=match x,y with
 | .ref k,.d (.int i)=>match M[k]? with
  | some xs=>match seqIndex? i xs.length with
   | some j=>match xs[j]? with
    | some d=>if -9223372036854775808<=i/\i < 9223372036854775808 then .ok (.d d) (M.set k (xs.eraseIdx j)) else .bad
    | none=>.bad
   | none=>.bad
  | none=>.bad
 | _,_=>.bad
theorem aDi {apos cpos:Pos} (ho:Ev X K Z o fo) (he:Ev X K Z e fa) (hbase:attributeBase o "pop" X.env (eval o X.env)=eval o X.env:=by rfl)
  (hfew:((backTo cpos (starEach [e] X.env)).all (fun x=>!x.1)&&(backToKw cpos (keywordEach [] X.env)).all (fun x=>x.1.isSome)&&decide ([e].length+([]:List Keyword).length+(if ([]:List Keyword).isEmpty then 0 else 1) < 30))=true:=by rfl)
  (hline:(apos.endLine==cpos.line)=true:=by rfl) (hs:starEach [e] X.env=(false,eval e X.env)::starEach [] X.env:=by rfl) (hplain:(backTo cpos (starEach [] X.env)).any (·.1)=false:=by rfl) :
  Ev X K Z (.Call (.Attribute o "pop" apos) [e] [] cpos) (eM1 pPopAt fo fa):=by
 have h:=aGi PySem.F.plainAttrs_list PySem.F.slot_list_pop PySem.F.type_list_pop aCv ho.h (fL he.h iJ hs) hbase hfew hline hs hplain
 rw [ho.k] at h
 refine ⟨ho.k,cqE h ?_⟩
 rintro σ H Q ⟨μ,M,L,hr,lr,p⟩
 refine ⟨μ,M,L,hr,lr,p.bind.imp fun μ1 H1 M1 x e1 hr1 _ p1 v rx=>?_⟩
 cases x with
 | d x=>exact p1.elim
 | ref k =>
  refine ⟨aCp hr1 rx,μ1,M1,L,hr1,lr.ext hr.lsts e1,p1.bind.imp fun μ2 H2 M2 y e2 hr2 _ p2 u ry=>?_⟩
  cases y with
  | ref j=>exact p2.elim
  | d y=>cases y with
   | int i =>
    simp only [Rw,Rp] at ry
    subst ry
    simp only [pPopAt] at p2
    cases q1:M2[k]? with
    | none=>simp only [q1] at p2; exact p2.elim
    | some xs =>
     simp only [q1] at p2
     cases q2:seqIndex? i xs.length with
     | none=>simp only [q2] at p2; exact p2.elim
     | some j =>
      simp only [q2] at p2
      cases q3:xs[j]? with
      | none=>simp only [q3] at p2; exact p2.elim
      | some d =>
       simp only [q3] at p2
       split at p2
       ·rename_i hz
        obtain ⟨a,qa,rfl⟩:=rx.ext hr1.lsts e2
        obtain ⟨a',vs,qa',h1,r1⟩:=hr2.at q1
        rw [qa] at qa'; cases qa'
        obtain ⟨w,q4,q5⟩:=r1.get q3
        refine ⟨a,vs,i,j,w,rfl,rfl,h1,hz.1,hz.2,by rw [<- r1.length]; exact q2,q4,?_⟩
        exact p2 μ2 _ (gF qa) (hr2.set qa (r1.eraseIdx j)) w (Rp.ext hr2.lsts (gF qa) _ _ q5)
       ·exact p2.elim
   | _=>exact p2.elim
noncomputable abbrev FO:=Lc->Mm->Oc (Option Int)
noncomputable def liftO (K:PySem.W.Frag) (Z:Zt) (f:FO):TO:=fun σ H Q=>∃ μ M L,HR K μ H M/\LR K μ H L σ/\Pst K Z μ H (f L M) fun μ' H' _ w=>Q w H'
structure Eo (X:Cx) (K:PySem.W.Frag) (Z:Zt) (e:Option Expr) (f:FO):Prop where
 k:X.K=K
 h:PO X e (liftO K Z f)
noncomputable def oNo:FO:=fun _ M=>.ok none M
noncomputable def oAt (f:FE):FO:=fun L M=>(f L M).bind fun w M1=>match w with
 | .d (.int i)=>.ok (some i) M1
 | _=>.bad
theorem cqO {oe:Option Expr} {t t':TO} (h:PO X oe t) (i:∀ σ H Q,t' σ H Q->t σ H Q):PO X oe t':=fun pins s σ H Q I q=>h pins s σ H Q I (i _ _ _ q)
theorem eG (hk:X.K=K:=by rfl):Eo X K Z none oNo:=⟨hk,cqO aFk fun σ H Q ⟨μ,M,L,hr,lr,p⟩=>p μ H .refl hr⟩
theorem cP (h:Ev X K Z e f):Eo X K Z (some e) (oAt f):=by
 refine ⟨h.k,cqO (aFc h.h) ?_⟩
 rintro σ H Q ⟨μ,M,L,hr,lr,p⟩
 refine ⟨μ,M,L,hr,lr,p.bind.imp fun μ1 H1 M1 x e1 hr1 _ p1 v rx=>?_⟩
 cases x with
 | ref i=>exact p1.elim
 | d x=>cases x with
  | int i=>simp only [Rw,Rp] at rx; exact ⟨i,rx,p1 μ1 H1 .refl hr1⟩
  | _=>exact p1.elim
noncomputable def cut {α:Type} (xs:List α) (lo hi:Option Int):List α:=(xs.drop (HT.sIx xs.length 0 lo)).take (HT.sIx xs.length xs.length hi - HT.sIx xs.length 0 lo)
noncomputable def pSl (x:W) (lo hi:Option Int) (M:Mm):Oc W:=match x with
 | .d (.tup xs)=>okD (.tup (cut xs lo hi)) M
 | x=>match lr M x with
  | some xs=>okD (.lst (cut xs lo hi)) M
  | none=>.bad
noncomputable def eSl (f:FE) (fl fh:FO):FE:=fun L M=>(f L M).bind fun x M1=>(fl L M1).bind fun lo M2=>(fh L M2).bind fun hi M3=>pSl x lo hi M3
theorem yB {ds:List D} {vs:List V} {lo hi:Option Int} (r:Rps K μ H ds vs):Rps K μ H (cut ds lo hi) (cutV vs lo hi):=by
 unfold cut cutV
 rw [r.length]
 exact (r.drop _).take _
end
end EV
namespace EV
open PySem PySem.Spec PyProof.Rows L2
theorem nQ:fillsNumberSlot (.type "tuple") "mul"=pure false :=
 PySem.fillsNumberSlot_seq (id:="tuple.__mul__") (r:=some (.builtin "tuple.__rmul__")) F.slot_tuple_mul.lookup (by decide +kernel) F.slot_tuple_rmul.lookup (by decide +kernel)
theorem sN:seqRepeat? (.type "tuple")=pure (some (.builtin "tuple.__mul__")):=by
 unfold seqRepeat?
 rw [PySem.seqSlot_of (T:="tuple") (name:="__mul__") (id:="tuple.__mul__") F.slot_tuple_mul.lookup (by decide +kernel),PySem.seqSlot_of (T:="tuple") (name:="__rmul__") (id:="tuple.__rmul__") F.slot_tuple_rmul.lookup (by decide +kernel)]
 rfl
theorem qJ (a:Int) (t:Tok) (l:Addr) (items:Array Value) (n:Nat) (dd:Option Addr) (sl:Array (Option Value)) :
  Meets (Builtin.«int.__rmul__» ⟨[.int a t,.ref l],[]⟩) (fun _ R s=>s.heap.get? l=some { cls:=.type "tuple",dict:=dd,data:=.seq items n,slots:=sl }/\R (.ok (.ret Value.notImplemented)) s) :=
 .of_wp fun prog w A R s h=>by obtain ⟨hp,g,d,tk,os⟩:=s; obtain ⟨hl,h⟩:=h; wp_walk using wpAny_loadPart' hl; exact ⟨_,rfl,h⟩
theorem xD (l:Addr) (items:Array Value) (n:Nat) (dd:Option Addr) (sl:Array (Option Value)) (x:Int) (u:Tok) (h1:(decide (x < -(2 ^ 63)) || decide (x>=2 ^ 63))=false) (h2:(items.isEmpty || x==1)=true) :
  Meets (Builtin.«tuple.__mul__» ⟨[.ref l,.int x u],[]⟩) (fun _ R s=>s.heap.get? l=some { cls:=.type "tuple",dict:=dd,data:=.seq items n,slots:=sl }/\R (.ok (.ret (Value.ref l))) s) :=
 .of_wp fun prog w A R s h=>by
  obtain ⟨hp,g,d,tk,os⟩:=s; obtain ⟨hl,h⟩:=h
  have f1:=AutoSeq1.idx_int
  wp_walk using wpAny_loadPart' hl
  refine wpAny_ite_false (by rw [h1]; rfl) ?_
  wp_walk using wpAny_loadPart' hl
  exact ⟨_,rfl,h⟩
theorem xA (l:Addr) (items:Array Value) (n:Nat) (dd:Option Addr) (sl:Array (Option Value)) (x:Int) (u:Tok) (h1:(decide (x < -(2 ^ 63)) || decide (x>=2 ^ 63))=false) (h2:(items.isEmpty || x==1)=false) (h3:(decide (x<=0) || items.isEmpty)=true) :
  Meets (Builtin.«tuple.__mul__» ⟨[.ref l,.int x u],[]⟩) (fun _ R s=>s.heap.get? l=some { cls:=.type "tuple",dict:=dd,data:=.seq items n,slots:=sl }/\R (.ok (.ret (Value.ref s.heap.objs.size))) { s with heap:=s.heap.push { cls:=Value.type "tuple",data:=Data.seq #[] },toks:=s.toks }) :=
 .of_wp fun prog w A R s h=>by
  obtain ⟨hp,g,d,tk,os⟩:=s; obtain ⟨hl,h⟩:=h
  have f1:=AutoSeq1.idx_int
  wp_walk using wpAny_loadPart' hl
  refine wpAny_ite_false (by rw [h1]; rfl) ?_
  wp_walk using wpAny_loadPart' hl
  exact ⟨_,rfl,h⟩
theorem wE (l:Addr) (items:Array Value) (n:Nat) (dd:Option Addr) (sl:Array (Option Value)) (x:Int) (u:Tok) (h1:(decide (x < -(2 ^ 63)) || decide (x>=2 ^ 63))=false) (h2:(items.isEmpty || x==1)=false) (h3:(decide (x<=0) || items.isEmpty)=false)
  (h4:¬ ((items.size:Int)*x > (2 ^ 63 - 1) / 8)) (h5:¬ Builtin.Tuple.tupleTooMany (items.size*x)=true) (hsz:(List.foldl (fun x1 x2=>x1++x2) #[] (List.replicate x.toNat items)).size<=sizeLine) :
  Meets (Builtin.«tuple.__mul__» ⟨[.ref l,.int x u],[]⟩) (fun _ R s=>s.heap.get? l=some { cls:=.type "tuple",dict:=dd,data:=.seq items n,slots:=sl }/\R (.ok (.ret (Value.ref s.heap.objs.size))) { s with heap:=s.heap.push { cls:=Value.type "tuple",data:=Data.seq (List.foldl (fun x1 x2=>x1++x2) #[] (List.replicate x.toNat items)) },toks:=s.toks }) :=
 .of_wp fun prog w A R s h=>by
  obtain ⟨hp,g,d,tk,os⟩:=s; obtain ⟨hl,h⟩:=h
  have f1:=AutoSeq1.idx_int
  wp_walk using wpAny_loadPart' hl
  refine wpAny_ite_false (by rw [h1]; rfl) ?_
  wp_walk using wpAny_loadPart' hl
  refine wpAny_ite_false (decide_eq_false h4) ?_
  wp_walk using wpAny_loadPart' hl
  exact ⟨_,rfl,h⟩
section
variable {X:Cx} {K:PySem.W.Frag} {Z:Zt} {μ:List Addr} {H:Hp} {M:Mm}
noncomputable def rRepT (K:PySem.W.Frag):R2:=fun x y H Q=>∃ a k xs,x=.ref a/\y=.int k/\SqT K H a xs /\ -(2 ^ 63)<=k/\k < 2 ^ 63/\xs.length*k.toNat<=sizeLine /\
 ((xs=[]\/k=1)->Q (.ref a) H)/\∀ p,H p=none->Q (.ref p) (upd H p (.tup (List.replicate k.toNat xs).flatten))
theorem pR (its:List Value) (m:Nat):List.foldl (fun x1 x2=>x1++x2) #[] (List.replicate m its.toArray)=(List.replicate m its).flatten.toArray:=by
 have:=nE its m []
 rw [List.nil_append] at this
 exact this
theorem aFg:OpR X (binaryOp .Mult) (rRepT X.K):=by
 intro pins s σ H x y v u Q I rx ry h
 obtain ⟨l,k,xs,rfl,rfl,hH,h1,h2,hz,qs,q⟩:=h
 cases rx
 obtain ⟨t,rfl⟩:=ry
 obtain ⟨its,r,pl,hsz⟩:=I.tuple hH
 obtain ⟨⟨cls,dd,data,sl⟩,ho,hc,n,hd⟩:=id pl
 simp only at hc hd
 subst hc hd
 have hl:=r.length
 have b1:(decide (k < -(2 ^ 63)) || decide (k>=2 ^ 63))=false:=by
  rw [Bool.or_eq_false_iff]; exact ⟨decide_eq_false (by omega),decide_eq_false (by omega)⟩
 refine wpAny_binaryOp_repeat_ref (T:="tuple") (U:="int") (by decide) ⟨_,ho,rfl⟩ (fun s'=>typeIs_int s' k t) nQ F.fills_int_mul F.slot_int_rmul sN F.slot_int_index.lookup
  (call_meets F.slot_int_rmul (typeIs_int s k t) F.entry_int_rmul (F.args_int_rmul_2 _ _) (qJ k t l its.toArray n dd sl) ⟨ho,rfl,⟨_,ho,rfl⟩,?_⟩)
 by_cases hs:xs=[]\/k=1
 ·refine call_meets F.slot_tuple_mul ⟨_,ho,rfl⟩ F.entry_tuple_mul (F.args_tuple_mul_2 _ _) (xD l its.toArray n dd sl k t b1 ?_) ⟨ho,⟨.ref l,H,I,rfl,qs hs⟩⟩
  rcases hs with hs | hs
  ·subst hs
   have:its=[]:=by simpa using hl.symm
   simp [this]
  ·simp [hs]
 ·have hne:its≠[]:=fun z=>hs (.inl (by subst z; simpa using hl))
  have hn1:(its.toArray.isEmpty || k==1)=false:=by
   rw [Bool.or_eq_false_iff]; exact ⟨by simpa using hne,by simp; exact fun z=>hs (.inr z)⟩
  by_cases h0:k<=0
  ·refine call_meets F.slot_tuple_mul ⟨_,ho,rfl⟩ F.entry_tuple_mul (F.args_tuple_mul_2 _ _) (xA l its.toArray n dd sl k t b1 hn1 (by simp [h0])) ⟨ho,?_⟩
   have e:(List.replicate k.toNat xs).flatten=[]:=by rw [show k.toNat=0 by omega]; rfl
   have q:=q s.heap.objs.size I.fresh
   rw [e] at q
   refine ⟨.ref s.heap.objs.size,_,I.laid (t':=s.toks) (o:=.tup []) (fun b ob q=>Heap.get?_push_of_some _ q) (Nat.le_refl _) ?_,rfl,q⟩
   exact ⟨Nat.zero_le _,[],.nil,IsTup.new _ _⟩
  ·have hk:((k.toNat:Nat):Int)=k:=by omega
   have hz':its.length*k.toNat<=sizeLine:=by rw [<- hl]; exact hz
   have hcast:((its.toArray.size:Nat):Int)*k=((its.length*k.toNat:Nat):Int):=by
    rw [List.size_toArray,Int.natCast_mul,hk]
   have hs24:(sizeLine:Nat)=16777216:=sizeLine_eq
   refine call_meets F.slot_tuple_mul ⟨_,ho,rfl⟩ F.entry_tuple_mul (F.args_tuple_mul_2 _ _) (wE l its.toArray n dd sl k t b1 hn1 ?_ ?_ ?_ ?_) ⟨ho,?_⟩
   ·rw [Bool.or_eq_false_iff]; exact ⟨decide_eq_false h0,by simpa using hne⟩
   ·rw [hcast]; omega
   ·unfold Builtin.Tuple.tupleTooMany
    rw [hcast]
    intro z
    have z:=of_decide_eq_true z
    omega
   ·rw [pR,List.size_toArray,tU,Nat.mul_comm]; exact hz'
   ·rw [pR]
    refine ⟨.ref s.heap.objs.size,_,I.laid (t':=s.toks) (o:=.tup (List.replicate k.toNat xs).flatten) (fun b ob q=>Heap.get?_push_of_some _ q) (Nat.le_refl _) ?_,rfl,q _ I.fresh⟩
    exact ⟨by rw [tU,Nat.mul_comm]; exact hz,_,r.rep k.toNat,IsTup.new _ _⟩
noncomputable def pMulA (x y:W) (M:Mm):Oc W:=match x,y with
 | .d (.tup xs),.d (.int k)=>if xs.length*k.toNat<=16777216/\k < 9223372036854775808 /\ -9223372036854775808<=k then okD (.tup (List.replicate k.toNat xs).flatten) M else .bad
 | x,y=>pMul x y M
theorem opMulA:OpG X K Z (binaryOp .Mult) pMulA:=fun hk=>by
 obtain ⟨r,h1,h2⟩:=(opMul (X:=X) (K:=K) (Z:=Z)) hk
 refine ⟨_,OpR.or (hk▸aFg) h1,?_⟩
 intro μ H M x y v u Q hr rx ry p
 have gen:=fun p=>(Or.inr (h2 μ H M x y v u Q hr rx ry p):rRepT K v u H Q\/r v u H Q)
 cases x with
 | ref i=>exact gen (by cases y with | ref j=>exact p | d y=>cases y <;> exact p)
 | d x=>cases x with
  | tup xs=>cases y with
   | ref j=>exact gen p
   | d y=>cases y with
    | int k =>
     simp only [pMulA] at p
     split at p
     ·rename_i hz
      have rx':=rx
      simp only [Rw,Rp] at rx ry
      obtain ⟨a,vs,rfl,q1,r1⟩:=rx
      refine .inl ⟨a,k,vs,rfl,ry,SqT.of q1,hz.2.2,hz.2.1,by rw [<- r1.length,sizeLine_eq]; exact hz.1,fun e=>?_,lG hr (r1.rep k.toNat) p⟩
      refine p μ H .refl hr _ ?_
      have:(List.replicate k.toNat xs).flatten=xs:=by
       rcases e with e | e
       ·subst e
        have:xs=[]:=by have:=r1.length; simpa using this
        subst this; simp
       ·subst e; simp [List.replicate]
      rw [this]; exact rx'
     ·exact p.elim
    | _=>exact gen p
  | _=>exact gen (by cases y with | ref j=>exact p | d y=>cases y <;> exact p)
end
end EV
namespace HT
open PySem PySem.Spec PyProof.Rows
section
variable {prog:Program} {w:World} {A:Around} {E:Value->Shared->Prop} {s:Shared}
theorem getItem_tuple_whole {t sl:Addr} {items:Array Value} {vl vu:Value} {lo hi:Option Int} {Q:Value->Shared->Prop} (ht:IsTup s.heap t items) (hs:s.heap.IsSliceOf sl vl vu .none) (pl:IsPart vl lo) (pu:IsPart vu hi)
  (hw:sIx items.size 0 lo=0/\sIx items.size items.size hi=items.size) (h:Q (.ref t) s):wpAny (model prog w) A (getItem (.ref t) (.ref sl)) Q E s:=by
 obtain ⟨os,hos,hcs,hds⟩:=id hs
 have hTs:s.TypeIs (.ref sl) "slice":=⟨os,hos,hcs⟩
 unfold getItem
 try with_reducible refine wpAny_holding ?_
 first | refine wpAny_bind (wpAny_pure ?_) | skip
 refine wpAny_bind (wpAny_sequenceKey ht.typeIs (by decide) ?_)
 refine wpAny_bind (wpAny_callSpecial?_slot (name:=Str.ofString "__getitem__") ht.typeIs PyProof.Rows.slot_tuple_getitem
  (wpAny_call_entry PyProof.Rows.slot_tuple_getitem ht.typeIs entry_tuple_getitem ?_ (args_tuple_getitem _ _)))
 show wpAny _ _ (Builtin.Tuple.tupleItemsOf (.ref t) >>= _) _ _ s
 refine wpAny_bind (tupleItemsOf_ ht ?_)
 refine wpAny_bind (wpAny_typeOf hTs ?_)
 rw [if_pos (by decide)]
 refine wpAny_bind (jD hs pl pu ?_)
 have hyes:((((sIx items.size 0 lo:Nat):Int)==0&&(1:Int)==1&&(sIx items.size items.size hi - sIx items.size 0 lo)==items.size)=true):=by
  rw [hw.1,hw.2]; simp
 show wpAny _ _ (if (((sIx items.size 0 lo:Nat):Int)==0&&(1:Int)==1&&(sIx items.size items.size hi - sIx items.size 0 lo)==items.size)=true then _ else _) _ _ s
 rw [if_pos hyes]
 refine wpAny_bind (m:=Builtin.Tuple.tupleIsExact _) ?_
 unfold Builtin.Tuple.tupleIsExact
 refine wpAny_bind (wpAny_typeOf ht.typeIs (wpAny_pure ?_))
 show wpAny _ _ (if ((Value.type "tuple"==Value.type "tuple")=true) then _ else _) _ _ s
 rw [if_pos (by decide)]
 first
  | exact wpAny_bind (wpAny_rule (wpAny_pure ⟨_,rfl,wpAny_pure h⟩))
  | exact wpAny_bind (wpAny_rule (wpAny_bind (wpAny_pure ⟨_,rfl,wpAny_pure h⟩)))
  | exact wpAny_bind (wpAny_rule (wpAny_bind (wpAny_pure (wpAny_pure ⟨_,rfl,wpAny_pure h⟩))))
end
end HT
namespace EV
open PySem PySem.Spec PyProof.Rows L2
section
variable {X:Cx} {K:PySem.W.Frag} {Z:Zt} {μ:List Addr} {H:Hp} {M:Mm} {e a b o:Expr} {es:List Expr} {pos:Pos} {f fa fb fo:FE} {fs:FA} {st:Stmt} {rest:List Stmt} {F G:FS}
noncomputable def rSlA (K:PySem.W.Frag):V->Option Int->Option Int->Hp->VK->Prop:=fun x lo hi H Q=>∃ a xs,x=.ref a/\SqT K H a xs /\
 ((HT.sIx xs.length 0 lo=0/\HT.sIx xs.length xs.length hi=xs.length)->Q (.ref a) H)/\∀ p,H p=none->Q (.ref p) (upd H p (.tup (cutV xs lo hi)))
theorem aEh:SlR X (rSlA X.K):=by
 intro pins s σ H x v vl vu lo hi sl Q I rx hs pl pu h
 obtain ⟨a,xs,rfl,hx,q1,q2⟩:=h
 by_cases hw:HT.sIx xs.length 0 lo=0/\HT.sIx xs.length xs.length hi=xs.length
 ·cases rx
  obtain ⟨its,r,ht,hz⟩:=I.tuple hx
  have hlen:its.toArray.size=xs.length:=by rw [List.size_toArray]; exact r.length.symm
  refine ⟨"tuple",_,PyProof.Rows.slot_tuple_getitem.lookup,ht.typeIs,?_⟩
  exact HT.getItem_tuple_whole ht hs pl pu (by rw [hlen]; exact hw) ⟨.ref a,H,I,rfl,q1 hw⟩
 ·exact aHv pins s σ H _ v vl vu lo hi sl Q I rx hs pl pu ⟨a,xs,rfl,hx,hw,q2⟩
theorem zZ {xs:List D} {lo hi:Option Int} (h:HT.sIx xs.length 0 lo=0/\HT.sIx xs.length xs.length hi=xs.length):cut xs lo hi=xs:=by
 unfold cut; rw [h.1,h.2]; simp
theorem uX {x:W} {v:V} {lo hi:Option Int} {Q:VK} (hr:HR K μ H M) (rx:Rw K μ H x v) (p:Pst K Z μ H (match lr M x with
  | some xs=>okD (.lst (cut xs lo hi)) M
  | none=>.bad) (Wk K Q)):rSlL K v lo hi H Q:=by
 cases q1:lr M x with
 | none=>rw [q1] at p; exact p.elim
 | some xs =>
  rw [q1] at p
  obtain ⟨a,vs,rfl,h1,r1⟩:=xS hr rx q1
  exact ⟨a,vs,rfl,h1,jT hr (yB r1) p⟩
theorem bK {lo hi:Option Expr} {fl fh:FO} {p2:Pos} (he:Ev X K Z e f) (hl:Eo X K Z lo fl) (hh:Eo X K Z hi fh):Ev X K Z (.Subscript e (.Slice lo hi none p2) pos) (eSl f fl fh):=by
 have h:=aCj (p2:=p2) (pos:=pos) (SlR.or (aEh (X:=X)) aFz) he.h hl.h hh.h
 rw [he.k] at h
 refine ⟨he.k,cqE h ?_⟩
 rintro σ H Q ⟨μ,M,L,hr,lr,p⟩
 refine ⟨μ,M,L,hr,lr,p.bind.imp fun μ1 H1 M1 x e1 hr1 _ p1 v rx=>?_⟩
 refine ⟨μ1,M1,L,hr1,lr.ext hr.lsts e1,p1.bind.imp fun μ2 H2 M2 l e2 hr2 _ p2=>?_⟩
 refine ⟨μ2,M2,L,hr2,lr.ext hr.lsts (e1.trans e2),p2.bind.imp fun μ3 H3 M3 u e3 hr3 _ p3=>?_⟩
 have rx:=rx.ext hr1.lsts (e2.trans e3)
 cases x with
 | ref i=>exact .inr (uX hr3 rx p3)
 | d x=>cases x with
  | tup xs =>
   have rx':=rx
   simp only [Rw,Rp] at rx
   obtain ⟨a,vs,rfl,q1,r1⟩:=rx
   refine .inl ⟨a,vs,rfl,SqT.of q1,fun hw=>?_,lG hr3 (yB r1) p3⟩
   refine p3 μ3 H3 .refl hr3 _ ?_
   rw [zZ (by rw [r1.length]; exact hw)]
   exact rx'
  | _=>exact .inr (uX hr3 rx p3)
structure KitT (T:String):Prop where
 non:∀ K,PySem.W.kitOne K (.type "NoneType") (.type T)=some false
 bl:∀ K,PySem.W.kitOne K (.type "bool") (.type T)=some (T=="bool" || T=="int")
 int:∀ K,PySem.W.kitOne K (.type "int") (.type T)=some (T=="int")
 str:∀ K,PySem.W.kitOne K (.type "str") (.type T)=some (T=="str")
 tup:∀ K,PySem.W.kitOne K (.type "tuple") (.type T)=some (T=="tuple")
 lst:∀ K,PySem.W.kitOne K (.type "list") (.type T)=some (T=="list")
noncomputable def flatD (d:D):Bool:=(fv d).isSome
noncomputable def pInG (neg:Bool) (x y:W) (M:Mm):Oc W:=match x,sv M y with
 | .d d,some xs=>if flatD d=true/\xs.all flatD=true then .ok (.d (.bl (if neg then !(xs.any fun y=>eqD y d) else xs.any fun y=>eqD y d))) M else .bad
 | _,_=>.bad
theorem yT:∀ {xs:List D} {vs:List V} {d:D} {v:V},Rps K μ H xs vs->xs.all flatD=true->Rp K μ H d v->flatD d=true->vs.all flatV=true/\inV v vs=xs.any (fun y=>eqD y d)
 | [],_,_,_,h,_,_,_=>by simp only [Rps] at h; subst h; exact ⟨rfl,rfl⟩
 | x::xs,_,d,v,h,hf,hd,hfd=>by
  simp only [Rps] at h
  obtain ⟨u,r,rfl,e2,e3⟩:=h
  rw [List.all_cons,Bool.and_eq_true] at hf
  obtain ⟨i1,i2⟩:=yT e3 hf.2 hd hfd
  obtain ⟨w,hw⟩:=Option.isSome_iff_exists.mp hf.1
  obtain ⟨w2,hw2⟩:=Option.isSome_iff_exists.mp hfd
  obtain ⟨rfl,f1⟩:=rW hw e2
  obtain ⟨rfl,f2⟩:=rW hw2 hd
  refine ⟨by rw [List.all_cons,f1,i1]; rfl,?_⟩
  show (eqV u v || inV v r)=_
  rw [i2,aCw hw hw2,List.any_cons]
theorem aCo (neg:Bool):Op2 K Z (rIn K neg) (pInG neg):=by
 intro μ H M x y v u Q hr rx ry p
 cases x with
 | ref i=>exact p.elim
 | d d =>
  simp only [pInG] at p
  cases q:sv M y with
  | none=>rw [q] at p; exact p.elim
  | some xs =>
   rw [q] at p
   simp only at p
   split at p
   ·rename_i hz
    obtain ⟨a,vs,rfl,h1,r1⟩:=qF hr ry q
    obtain ⟨i1,i2⟩:=yT r1 hz.2 rx hz.1
    obtain ⟨w,hw⟩:=Option.isSome_iff_exists.mp hz.1
    obtain ⟨rfl,f1⟩:=rW hw rx
    refine ⟨a,vs,rfl,h1,f1,i1,p μ H .refl hr _ ?_⟩
    simp only [Rw,Rp]
    cases neg <;> simp [i2]
   ·exact p.elim
noncomputable abbrev pIn:=pInG false
noncomputable abbrev pNotIn:=pInG true
theorem opIn:OpG X K Z (compareOp .In) pIn:=fun hk=>⟨_,hk▸aAf,aCo false⟩
theorem opNotIn:OpG X K Z (compareOp .NotIn) pNotIn:=fun hk=>⟨_,hk▸tS,aCo true⟩
end
end EV
namespace EV
open PySem PySem.Spec PyProof.Rows L2
noncomputable def whileD (t:FT) (B:FS):Nat->FS
 | 0=>fun _ _=>.bad
 | n+1=>fun L M=>(t L M).bind fun b M1=>if b=true then (B L M1).bind fun o M2=>match o with
   | .nx L2=>whileD t B n L2 M2
   | .ct L2=>whileD t B n L2 M2
   | .bk L2=>.ok (.nx L2) M2
   | .rt w=>.ok (.rt w) M2
  else .ok (.nx L) M1
structure Src where
 ds:List D
 k:Option Nat
noncomputable abbrev FI:=Lc->Mm->Oc Src
noncomputable def Chk (s:Src) (M:Mm):Prop:=∀ t,s.k=some t->M[t]?=some s.ds
open Classical in
noncomputable def forD (s:Src) (g:FG) (B:FS):List D->FS
 | []=>fun L M=>if Chk s M then .ok (.nx L) M else .bad
 | d::r=>fun L M=>if Chk s M then (g (.d d) L M).bind fun L1 M1=>(B L1 M1).bind fun o M2=>match o with
   | .nx L2=>forD s g B r L2 M2
   | .ct L2=>forD s g B r L2 M2
   | .bk L2=>.ok (.nx L2) M2
   | .rt w=>.ok (.rt w) M2
  else .bad
noncomputable def sFor (fi:FI) (g:FG) (B:FS):FS:=fun L M=>(fi L M).bind fun s M1=>forD s g B s.ds L M1
noncomputable def ItOk (K:PySem.W.Frag) (μ:List Addr) (H:Hp) (s:Src) (J:It):Prop :=
 ∃ S:List Addr->Hp->Prop,S μ H/\(∀ μ1 H1 μ2 H2,Lsts μ1 H1->S μ1 H1->Ext μ1 H1 μ2 H2->S μ2 H2) /\
  ∀ μ1 H1 M1 i,HR K μ1 H1 M1->S μ1 H1->Chk s M1 ->
   (∀ d,s.ds[i]?=some d->J.go i H1/\∀ x H2,J.yld i H1 x H2->Ext μ1 H1 μ1 H2/\HR K μ1 H2 M1/\Rp K μ1 H2 d x)/\(s.ds.length<=i->J.stop i H1)
noncomputable def liftI (K:PySem.W.Frag) (Z:Zt) (fi:FI):TI:=fun σ H R=>∃ μ M L,HR K μ H M/\LR K μ H L σ/\Pst K Z μ H (fi L M) fun μ' H' _ s=>∀ J,ItOk K μ' H' s J->R J H'
structure Ei (X:Cx) (K:PySem.W.Frag) (Z:Zt) (tg iter:Expr) (fi:FI):Prop where
 k:X.K=K
 h:PI X tg iter (liftI K Z fi)
theorem cqI {X:Cx} {tg iter:Expr} {t t':TI} (h:PI X tg iter t) (i:∀ σ H Q,t' σ H Q->t σ H Q):PI X tg iter t':=fun pins s σ H Q I q=>h pins s σ H Q I (i _ _ _ q)
section
variable {X:Cx} {K:PySem.W.Frag} {Z:Zt} {μ:List Addr} {H:Hp} {M:Mm} {e a b o:Expr} {es:List Expr} {pos:Pos} {f fa fb fo:FE} {fs:FA} {st:Stmt} {rest:List Stmt} {F G:FS}
theorem mO {c:Expr} {body:List Stmt} {t:FT} {B:FS} (n:Nat) (hp:PassesOwn (model X.prog X.w) X.A X.env X.xe) (hc:Et X K Z c t) (hb:Ess X K Z body B):Es X K Z (.While c body [] pos) (whileD t B n):=by
 refine ⟨hc.k,cqS (aAx hp hc.h hb.h) ?_⟩
 rintro E σ H ⟨μ,M,L,hr,lr,p⟩
 refine ⟨fun m σ H=>∃ μ M L,HR K μ H M/\LR K μ H L σ/\Pst K Z μ H (whileD t B m L M) (Sk K E),⟨n,μ,M,L,hr,lr,p⟩,?_⟩
 rintro m σ H ⟨μ,M,L,hr,lr,p⟩
 cases m with
 | zero=>exact p.elim
 | succ m =>
  refine ⟨μ,M,L,hr,lr,(show Pst K Z μ H ((t L M).bind _) _ from p).bind.imp fun μ1 H1 M1 b e1 hr1 _ p1=>?_⟩
  cases b with
  | false=>exact p1 μ1 H1 .refl hr1 σ (lr.ext hr.lsts e1)
  | true =>
   refine ⟨fun σ' H'=>∃ μ M L,HR K μ H' M/\LR K μ H' L σ'/\Pst K Z μ H' (whileD t B m L M) (Sk K E),fun σ' H' q=>⟨m,Nat.lt_succ_self m,q⟩,?_⟩
   refine ⟨μ1,M1,L,hr1,lr.ext hr.lsts e1,(show Pst K Z μ1 H1 ((B L M1).bind _) _ from p1).bind.imp fun μ2 H2 M2 o e2 hr2 _ p2=>?_⟩
   cases o with
   | nx L2=>exact fun σ' lr'=>⟨μ2,M2,L2,hr2,lr',p2⟩
   | ct L2=>exact fun σ' lr'=>⟨μ2,M2,L2,hr2,lr',p2⟩
   | bk L2=>exact p2 μ2 H2 .refl hr2
   | rt w=>exact p2 μ2 H2 .refl hr2
theorem gG {tg iter:Expr} {body:List Stmt} {fi:FI} {g:FG} {B:FS} (hp:PassesOwn (model X.prog X.w) X.A X.env X.xe) (hc:X.calm=true) (hi:Ei X K Z tg iter fi) (hg:Eg X K Z tg g) (hb:Ess X K Z body B)
  (hs:∀ x,foldedSetIterable iter X.env x=pure x:=by intro _; rfl):Es X K Z (.For tg iter body [] pos) (sFor fi g B):=by
 refine ⟨hi.k,cqS (aIq hp hc hi.h hg.h hb.h hs) ?_⟩
 rintro E σ H ⟨μ,M,L,hr,lr,p⟩
 refine ⟨μ,M,L,hr,lr,p.bind.imp fun μ1 H1 M1 s e1 hr1 _ p1 J hJ=>?_⟩
 obtain ⟨S,s0,sx,step⟩:=hJ
 refine ⟨fun i m σ H=>m=s.ds.length - i/\i<=s.ds.length/\∃ μ M L,HR K μ H M/\LR K μ H L σ/\S μ H/\Pst K Z μ H (forD s g B (s.ds.drop i) L M) (Sk K E),⟨s.ds.length,by simp,Nat.zero_le _,μ1,M1,L,hr1,lr.ext hr.lsts e1,s0,by simpa using p1⟩,?_⟩
 rintro i m σ H ⟨rfl,hi,μ,M,L,hr,lr,sS,p⟩
 by_cases hlt:i < s.ds.length
 ·rw [List.drop_eq_getElem_cons hlt] at p
  unfold forD at p
  split at p
  ·rename_i hch
   obtain ⟨go,yl⟩:=(step μ H M i hr sS hch).1 s.ds[i] (by simp [hlt])
   refine .inr ⟨go,fun σ' H'=>i+1<=s.ds.length/\∃ μ M L,HR K μ H' M/\LR K μ H' L σ'/\S μ H'/\Pst K Z μ H' (forD s g B (s.ds.drop (i+1)) L M) (Sk K E),fun σ' H' q=>⟨s.ds.length - (i+1),by omega,rfl,q.1,q.2⟩,fun x H2 y=>?_⟩
   obtain ⟨e2,hr2,rx⟩:=yl x H2 y
   have lr2:=lr.ext hr.lsts e2
   have s2:=sx _ _ _ _ hr.lsts sS e2
   refine ⟨μ,M,L,.d s.ds[i],hr2,lr2,rx,(Pst.mono e2 p).bind.imp fun μ3 H3 M3 L3 e3 hr3 _ p3 σ3 lr3=>?_⟩
   refine ⟨μ3,M3,L3,hr3,lr3,p3.bind.imp fun μ4 H4 M4 o e4 hr4 _ p4=>?_⟩
   have s4:=sx _ _ _ _ hr3.lsts (sx _ _ _ _ hr2.lsts s2 e3) e4
   cases o with
   | nx L4=>exact fun σ' lr'=>⟨hlt,μ4,M4,L4,hr4,lr',s4,p4⟩
   | ct L4=>exact fun σ' lr'=>⟨hlt,μ4,M4,L4,hr4,lr',s4,p4⟩
   | bk L4=>exact p4 μ4 H4 .refl hr4
   | rt w=>exact p4 μ4 H4 .refl hr4
  ·exact p.elim
 ·have e:i=s.ds.length:=by omega
  subst e
  rw [List.drop_eq_nil_of_le (Nat.le_refl _)] at p
  unfold forD at p
  split at p
  ·rename_i hch
   exact .inl ⟨(step μ H M _ hr sS hch).2 (Nat.le_refl _),p μ H .refl hr σ lr⟩
  ·exact p.elim
theorem aCn {ds:List D} {M:Mm}:Chk ⟨ds,none⟩ M:=fun t h=>by cases h
@[simp] theorem aEu {ds:List D} {M:Mm}:Chk ⟨ds,none⟩ M ↔ True:=⟨fun _=>trivial,fun _=>aCn⟩
@[simp] theorem aFv {ds:List D} {M:Mm} {t:Nat}:Chk ⟨ds,some t⟩ M ↔ M[t]?=some ds:=⟨fun h=>h t rfl,fun h t' e=>by cases e; exact h⟩
variable {tg:Expr}
noncomputable def iSq (K:PySem.W.Frag) (tl:TE):TI:=fun σ H R=>tl σ H fun x H1=>∃ a,x=.ref a/\(((∃ xs,SqL K H1 a xs)/\R (Itl K a) H1)\/((∃ xs,SqT K H1 a xs)/\R (Itt K a) H1))
theorem aKd {l:Expr} {tl:TE} (hl:PE X l tl):PI X tg l (iSq X.K tl):=by
 intro pins s σ H R I h
 refine thn (hl pins s σ H _ I h) fun v s1 ⟨x,H1,I1,r1,q1⟩=>?_
 obtain ⟨a,e,⟨⟨xs,hq⟩,q⟩ | ⟨⟨xs,hq⟩,q⟩⟩:=q1
 ·subst e
  cases r1
  obtain ⟨its,rv,p,hz⟩:=I1.list hq
  refine wpAny_pyIter_list p.isList ?_
  refine ⟨s1.heap.objs.size,[s1.heap.objs.size],_,_,H1,rfl,I1.kept (t':=s1.toks) fun b o e=>Heap.get?_push_of_some _ e,zY a _,⟨_,Heap.get?_push_size _ rfl,rfl,rfl⟩,fun b hb=>?_,q⟩
  have e:b=s1.heap.objs.size:=by simpa using hb
  subst e
  exact I1.fpOk (Nat.le_refl _) (I1.hok.fresh (Nat.le_refl _))
 ·subst e
  cases r1
  obtain ⟨its,rv,p,hz⟩:=I1.tuple hq
  refine wpAny_pyIter_tuple (show s1.heap.IsTuple a its.toArray from p) ?_
  refine ⟨s1.heap.objs.size,[s1.heap.objs.size],_,_,H1,rfl,I1.kept (t':=s1.toks) fun b o e=>Heap.get?_push_of_some _ e,xO a _,⟨_,Heap.get?_push_size _ rfl,rfl,rfl⟩,fun b hb=>?_,q⟩
  have e:b=s1.heap.objs.size:=by simpa using hb
  subst e
  exact I1.fpOk (Nat.le_refl _) (I1.hok.fresh (Nat.le_refl _))
noncomputable def srcOf (M:Mm):W->Option Src
 | .d (.tup xs)=>some ⟨xs,none⟩
 | .d (.lst xs)=>some ⟨xs,none⟩
 | .d (.fz xs)=>some ⟨xs,none⟩
 | .ref t=>(M[t]?).map fun xs=>⟨xs,some t⟩
 | _=>none
noncomputable def iE (f:FE):FI:=fun L M=>(f L M).bind fun w M1=>match srcOf M1 w with
 | some s=>.ok s M1
 | none=>.bad
theorem wZ {a:Addr} {s:Src} (S:List Addr->Hp->Prop) (s0:S μ H) (sx:∀ μ1 H1 μ2 H2,Lsts μ1 H1->S μ1 H1->Ext μ1 H1 μ2 H2->S μ2 H2)
  (rd:∀ μ1 H1 M1,HR K μ1 H1 M1->S μ1 H1->Chk s M1->∃ vs,SqL K H1 a vs/\Rps K μ1 H1 s.ds vs):ItOk K μ H s (Itl K a):=by
 refine ⟨S,s0,sx,fun μ1 H1 M1 i hr hS hc=>?_⟩
 obtain ⟨vs,h1,r1⟩:=rd μ1 H1 M1 hr hS hc
 refine ⟨fun d hd=>?_,fun hl=>⟨vs,h1,by rw [<- r1.length]; exact hl⟩⟩
 obtain ⟨v,q1,q2⟩:=r1.get hd
 refine ⟨⟨vs,v,h1,q1⟩,fun x H2 y=>?_⟩
 obtain ⟨rfl,y⟩:=y
 have:=y vs h1
 rw [q1] at this
 cases this
 exact ⟨.refl,hr,q2⟩
theorem aHq {a:Addr} {s:Src} (S:List Addr->Hp->Prop) (s0:S μ H) (sx:∀ μ1 H1 μ2 H2,Lsts μ1 H1->S μ1 H1->Ext μ1 H1 μ2 H2->S μ2 H2)
  (rd:∀ μ1 H1 M1,HR K μ1 H1 M1->S μ1 H1->Chk s M1->∃ vs,SqT K H1 a vs/\Rps K μ1 H1 s.ds vs):ItOk K μ H s (Itt K a):=by
 refine ⟨S,s0,sx,fun μ1 H1 M1 i hr hS hc=>?_⟩
 obtain ⟨vs,h1,r1⟩:=rd μ1 H1 M1 hr hS hc
 refine ⟨fun d hd=>?_,fun hl=>⟨vs,h1,by rw [<- r1.length]; exact hl⟩⟩
 obtain ⟨v,q1,q2⟩:=r1.get hd
 refine ⟨⟨vs,v,h1,q1⟩,fun x H2 y=>?_⟩
 obtain ⟨rfl,y⟩:=y
 have:=y vs h1
 rw [q1] at this
 cases this
 exact ⟨.refl,hr,q2⟩
theorem mD {d:D} {v:V}:∀ μ1 H1 μ2 H2,Lsts μ1 H1->Rp K μ1 H1 d v->Ext μ1 H1 μ2 H2->Rp K μ2 H2 d v:=fun μ1 H1 μ2 H2 l h e=>Rp.ext l e d v h
theorem oW (h:Ev X K Z e f):Ei X K Z tg e (iE f):=by
 have h':=aKd (tg:=tg) h.h
 rw [h.k] at h'
 refine ⟨h.k,cqI h' ?_⟩
 rintro σ H R ⟨μ,M,L,hr,lr,p⟩
 refine ⟨μ,M,L,hr,lr,p.bind.imp fun μ1 H1 M1 w e1 hr1 _ p1 v rw'=>?_⟩
 cases w with
 | ref t =>
  simp only [srcOf] at p1
  cases q:M1[t]? with
  | none=>simp only [q,Option.map_none] at p1; exact p1.elim
  | some xs =>
   simp only [q,Option.map_some] at p1
   obtain ⟨a,qa,rfl⟩:=rw'
   obtain ⟨a',vs,qa',h1,r1⟩:=hr1.at q
   rw [qa] at qa'; cases qa'
   refine ⟨a,rfl,.inl ⟨⟨vs,SqL.of h1⟩,p1 μ1 H1 .refl hr1 _ ?_⟩⟩
   refine wZ (fun μ2 H2=>μ2[t]?=some a) qa (fun μ1 H1 μ2 H2 _ z e=>e.pre _ _ z) fun μ2 H2 M2 hr2 z c=>?_
   obtain ⟨a',vs,qa',h1,r1⟩:=hr2.at (c t rfl)
   rw [z] at qa'; cases qa'
   exact ⟨vs,SqL.of h1,r1⟩
 | d x =>
  cases x with
  | tup xs =>
   have rw2:=rw'
   simp only [Rw,Rp] at rw'
   obtain ⟨a,vs,rfl,h1,r1⟩:=rw'
   refine ⟨a,rfl,.inr ⟨⟨vs,SqT.of h1⟩,p1 μ1 H1 .refl hr1 _ ?_⟩⟩
   refine aHq (fun μ2 H2=>Rp K μ2 H2 (.tup xs) (.ref a)) rw2 mD fun μ2 H2 M2 hr2 z c=>?_
   simp only [Rp] at z
   obtain ⟨a',vs,e,h1,r1⟩:=z
   cases e
   exact ⟨vs,SqT.of h1,r1⟩
  | lst xs =>
   have rw2:=rw'
   simp only [Rw,Rp] at rw'
   obtain ⟨a,vs,rfl,h1,_,r1⟩:=rw'
   refine ⟨a,rfl,.inl ⟨⟨vs,SqL.of h1⟩,p1 μ1 H1 .refl hr1 _ ?_⟩⟩
   refine wZ (fun μ2 H2=>Rp K μ2 H2 (.lst xs) (.ref a)) rw2 mD fun μ2 H2 M2 hr2 z c=>?_
   simp only [Rp] at z
   obtain ⟨a',vs,e,h1,_,r1⟩:=z
   cases e
   exact ⟨vs,SqL.of h1,r1⟩
  | fz xs =>
   have rw2:=rw'
   simp only [Rw,Rp] at rw'
   obtain ⟨a,vs,rfl,h1,r1⟩:=rw'
   refine ⟨a,rfl,.inl ⟨⟨vs,h1.sq⟩,p1 μ1 H1 .refl hr1 _ ?_⟩⟩
   refine wZ (fun μ2 H2=>Rp K μ2 H2 (.fz xs) (.ref a)) rw2 mD fun μ2 H2 M2 hr2 z c=>?_
   simp only [Rp] at z
   obtain ⟨a',vs,e,h1,r1⟩:=z
   cases e
   exact ⟨vs,h1.sq,r1⟩
  | _=>exact p1.elim
noncomputable def rngD (lo:Int) (n:Nat):List D:=(List.range n).map fun k=>D.int (lo+(k:Nat))
theorem hV {lo:Int} {n i:Nat} {d:D} (h:(rngD lo n)[i]?=some d):i < n/\d=.int (lo+i):=by
 unfold rngD at h
 rw [List.getElem?_map] at h
 by_cases hi:i < n
 ·rw [List.getElem?_range hi] at h; simp at h; exact ⟨hi,h.symm⟩
 ·rw [List.getElem?_eq_none (by simpa using hi)] at h; cases h
theorem aJd {lo:Int} {n:Nat}:ItOk K μ H ⟨rngD lo n,none⟩ (Itr lo n):=by
 refine ⟨fun _ _=>True,trivial,fun _ _ _ _ _ _ _=>trivial,fun μ1 H1 M1 i hr _ _=>⟨fun d hd=>?_,fun hl=>by simp only [rngD,List.length_map,List.length_range] at hl; exact hl⟩⟩
 obtain ⟨hi,rfl⟩:=hV hd
 refine ⟨hi,fun x H2 y=>?_⟩
 obtain ⟨rfl,rfl⟩:=y
 exact ⟨.refl,hr,by simp [Rp]⟩
noncomputable def in62 (i:Int):Bool:=decide (-4611686018427387904<=i/\i < 4611686018427387904)
noncomputable def iR1 (f:FE):FI:=fun L M=>(f L M).bind fun w M1=>match w with
 | .d (.int j)=>if in62 j=true then .ok ⟨rngD 0 j.toNat,none⟩ M1 else .bad
 | _=>.bad
theorem dF {p:Pos} (hm:X.mg "range"=none) (ha:Ev X K Z a f) (hg:Gl X "range":=by rfl) (hs:starEach [a] X.env=[(false,eval a X.env)]:=by rfl):Ei X K Z tg (.Call (.Name "range" p) [a] [] pos) (iR1 f):=by
 refine ⟨ha.k,cqI (zW hg hm (fL ha.h iJ hs) hs) ?_⟩
 rintro σ H R ⟨μ,M,L,hr,lr,p⟩
 refine ⟨μ,M,L,hr,lr,p.bind.imp fun μ1 H1 M1 w e1 hr1 _ p1 v rw'=>?_⟩
 cases w with
 | ref i=>exact p1.elim
 | d x=>cases x with
  | int j =>
   simp only at p1
   split at p1
   ·rename_i hz
    simp only [in62,decide_eq_true_eq] at hz
    simp only [Rw,Rp] at rw'
    subst rw'
    exact ⟨j,rfl,hz.1,hz.2,p1 μ1 H1 .refl hr1 _ aJd⟩
   ·exact p1.elim
  | _=>exact p1.elim
end
end EV
namespace EV
open PySem PySem.Spec PyProof.Rows L2
section
variable {K:PySem.W.Frag} {μ μ1 μ2:List Addr} {H H1 H2:Hp} {M M2:Mm}
theorem Ext.back (e:Ext μ H μ2 H2):Ext μ H μ H2:=⟨e.keep,fun a h=>.inl h,fun _ _ h=>h⟩
theorem Ext.take (e:Ext μ H μ2 H2):μ2.take μ.length=μ:=by
 apply List.ext_getElem?
 intro i
 rw [List.getElem?_take]
 split
 ·rename_i hi
  have:=e.pre i μ[i] (by simp [hi])
  rw [this]; simp [hi]
 ·rename_i hi
  rw [List.getElem?_eq_none (by omega)]
mutual
theorem Rp.sub (hs:∀ a,a∈μ1->a∈μ):∀ (d:D) (v:V),Rp K μ H d v->Rp K μ1 H d v
 | .non,v,h=>by simpa [Rp] using h
 | .bl b,v,h=>by simpa [Rp] using h
 | .int b,v,h=>by simpa [Rp] using h
 | .str b,v,h=>by simpa [Rp] using h
 | .tup ds,v,h=>by simp only [Rp] at h ⊢; obtain ⟨a,vs,e1,e2,e3⟩:=h; exact ⟨a,vs,e1,e2,Rps.sub hs ds vs e3⟩
 | .lst ds,v,h=>by simp only [Rp] at h ⊢; obtain ⟨a,vs,e1,e2,n,e3⟩:=h; exact ⟨a,vs,e1,e2,fun z=>n (hs a z),Rps.sub hs ds vs e3⟩
 | .fz ds,v,h=>by simp only [Rp] at h ⊢; obtain ⟨a,vs,e1,e2,e3⟩:=h; exact ⟨a,vs,e1,e2,Rps.sub hs ds vs e3⟩
 | .exn c f ds,v,h=>by simp only [Rp] at h ⊢; obtain ⟨a,vs,C,LE,d,e1,e2,e3,e4,e5⟩:=h; exact ⟨a,vs,C,LE,d,e1,e2,e3,e4,Rps.sub hs ds vs e5⟩
theorem Rps.sub (hs:∀ a,a∈μ1->a∈μ):∀ (ds:List D) (vs:List V),Rps K μ H ds vs->Rps K μ1 H ds vs
 | [],vs,h=>by simpa [Rps] using h
 | d::ds,vs,h=>by simp only [Rps] at h ⊢; obtain ⟨v,r,e1,e2,e3⟩:=h; exact ⟨v,r,e1,Rp.sub hs d v e2,Rps.sub hs ds r e3⟩
end
theorem HR.back (h:HR K μ2 H2 M2) (e:Ext μ H μ2 H2):HR K μ H2 (M2.take μ.length):=by
 have ht:=e.take
 have hsub:∀ a,a∈μ->a∈μ2:=fun a ha=>by rw [<- ht] at ha; exact List.mem_of_mem_take ha
 have hlen:μ.length<=μ2.length:=by have:=congrArg List.length ht; simp at this; omega
 refine ⟨by rw [List.length_take,<- h.len]; omega,by rw [<- ht]; exact h.nd.sublist (List.take_sublist _ _),fun i a ds q1 q2=>?_⟩
 rw [List.getElem?_take] at q2
 split at q2
 ·obtain ⟨vs,q3,q4⟩:=h.ent i a ds (e.pre i a q1) q2
  exact ⟨vs,q3,Rps.sub hsub _ _ q4⟩
 ·cases q2
end
noncomputable def outL (js:List (Option Nat)) (L:Lc):Lc:=js.map fun o=>o.bind fun j=>(L[j]?).join
open Classical in
noncomputable def compD (t:Nat) (s:Src) (g:FG) (c:FT) (f:FE):List D->Lc->Mm->Oc Unit
 | []=>fun _ M=>if Chk s M then .ok () M else .bad
 | d::r=>fun L M=>if Chk s M then (g (.d d) L M).bind fun L1 M1=>(c L1 M1).bind fun b M2=>if b=true then (f L1 M2).bind fun w M3=>match w,M3[t]? with
   | .d x,some acc=>if acc.length < 16777216 then compD t s g c f r L1 (M3.set t (acc++[x])) else .bad
   | _,_=>.bad
   else compD t s g c f r L1 M2
  else .bad
noncomputable def compT (js:List (Option Nat)) (fi:FI) (g:FG) (c:FT) (f:FE) (L:Lc) (M:Mm):Oc (List D):=(fi L M).bind fun s M1=>match compD M1.length s g c f s.ds (outL js L) (M1++[[]]) with
 | .ok _ M2=>match M2[M1.length]? with
  | some acc=>.ok acc (M2.take M1.length)
  | none=>.bad
 | _=>.bad
noncomputable def eComp (js:List (Option Nat)) (fi:FI) (g:FG) (c:FT) (f:FE):FE:=fun L M=>(compT js fi g c f L M).bind fun acc M1=>.ok (.d (.lst acc)) M1
noncomputable def eCompR (js:List (Option Nat)) (fi:FI) (g:FG) (c:FT) (f:FE):FE:=fun L M=>(fi L M).bind fun s M1=>match compD M1.length s g c f s.ds (outL js L) (M1++[[]]) with
 | .ok _ M2=>.ok (.ref M1.length) (M2.take (M1.length+1))
 | _=>.bad
noncomputable def tYes:FT:=fun _ M=>.ok true M
structure Eif (X:Cx) (K:PySem.W.Frag) (Z:Zt) (ifs:List Expr) (t:FT):Prop where
 k:X.K=K
 h:PIf X ifs (liftT K Z t)
section
variable {X:Cx} {K:PySem.W.Frag} {Z:Zt} {μ:List Addr} {H:Hp} {M:Mm} {e a b o:Expr} {es:List Expr} {pos:Pos} {f fa fb fo:FE} {fs:FA} {st:Stmt} {rest:List Stmt} {F G:FS}
theorem iC (hk:X.K=K:=by rfl):Eif X K Z [] tYes:=⟨hk,fun pins s σ H Q I ⟨μ,M,L,hr,lr,p⟩=>aEw pins s σ H Q I (p μ H .refl hr)⟩
theorem uH {c:Expr} {t:FT} (h:Et X K Z c t):Eif X K Z [c] t:=⟨h.k,aFx h.h⟩
theorem LR.out {L:Lc} {σ:St} {js:List (Option Nat)} (h:LR K μ H L σ):LR K μ H (outL js L) (outσ js σ) where
 len:=by simp [outL,outσ]
 ent:=fun i w q=>by
  unfold outL at q
  unfold outσ
  rw [List.getElem?_map] at q ⊢
  cases e:js[i]? with
  | none=>rw [e] at q; cases q
  | some oj =>
   rw [e] at q
   cases oj with
   | none=>simp at q
   | some j =>
    simp only [Option.map_some,Option.bind_some,Option.some.injEq] at q ⊢
    cases e2:L[j]? with
    | none=>rw [e2] at q; cases q
    | some ow =>
     rw [e2] at q
     simp at q
     subst q
     obtain ⟨v,q1,q2⟩:=h.ent j w e2
     exact ⟨v,by rw [q1]; rfl,q2⟩
theorem vL {Zi:Zt} {s:Src} {g:FG} {c:FT} {f:FE} {J:It} {Dt:Addr} {Q:Hp->Prop} {σ:St} {L:Lc} (n:Nat) (μ0:List Addr) (H0:Hp) (e0:Ext μ0 H0 μ H) (hn:μ0.length=n) (hD:μ[n]?=some Dt)
  (hr:HR K μ H M) (lr:LR K μ H L σ) (hJ:ItOk K μ H s J)
  (p:match compD n s g c f s.ds L M with
   | .ok _ M2=>∀ μ2 H2,Ext μ H μ2 H2->HR K μ2 H2 M2->Q H2
   | .ex z M2=>Zi.z z M2 μ H
   | .bad=>False):tTurns J (liftG K Zi g) (liftT K Zi c) (lift K Zi f) Dt σ H Q:=by
 obtain ⟨S,s0,sx,step⟩:=hJ
 -- what holds at turn i
 let R:List Addr->Hp->Lc->Mm->List D->Prop:=fun μ1 H1 L M rest=>match compD n s g c f rest L M with
   | .ok _ M2=>∀ μ2 H2,Ext μ1 H1 μ2 H2->HR K μ2 H2 M2->Q H2
   | .ex z M2=>Zi.z z M2 μ1 H1
   | .bad=>False
 refine ⟨fun i m σ H1=>m=s.ds.length - i/\i<=s.ds.length/\∃ μ1 M L,Ext μ0 H0 μ1 H1/\μ1[n]?=some Dt/\HR K μ1 H1 M/\LR K μ1 H1 L σ/\S μ1 H1/\R μ1 H1 L M (s.ds.drop i),⟨s.ds.length,by simp,Nat.zero_le _,μ,M,L,e0,hD,hr,lr,s0,by simpa [R] using p⟩,?_⟩
 rintro i m σ H1 ⟨rfl,hi,μ1,M,L,e1,hD1,hr,lr,sS,p⟩
 by_cases hlt:i < s.ds.length
 ·simp only [R] at p
  rw [List.drop_eq_getElem_cons hlt] at p
  unfold compD at p
  by_cases hch:Chk s M
  ·rw [if_pos hch] at p
   obtain ⟨go,yl⟩:=(step μ1 H1 M i hr sS hch).1 s.ds[i] (by simp [hlt])
   refine .inr ⟨go,fun σ' H'=>i+1<=s.ds.length/\∃ μ1 M L,Ext μ0 H0 μ1 H'/\μ1[n]?=some Dt/\HR K μ1 H' M/\LR K μ1 H' L σ'/\S μ1 H'/\R μ1 H' L M (s.ds.drop (i+1)),fun σ' H' q=>⟨s.ds.length - (i+1),by omega,rfl,q.1,q.2⟩,fun x H2 y=>?_⟩
   obtain ⟨e2,hr2,rx⟩:=yl x H2 y
   have lr2:=lr.ext hr.lsts e2
   have s2:=sx _ _ _ _ hr.lsts sS e2
   refine ⟨μ1,M,L,.d s.ds[i],hr2,lr2,rx,?_⟩
   cases q3:g (.d s.ds[i]) L M with
   | bad=>rw [q3] at p; exact p.elim
   | ex z M2=>rw [q3] at p; exact Zi.mono e2 p
   | ok L3 M3 =>
    rw [q3] at p
    intro μ3 H3 e3 hr3 σ3 lr3
    refine ⟨μ3,M3,L3,hr3,lr3,?_⟩
    simp only [eZ] at p
    have s3:=sx _ _ _ _ hr2.lsts s2 e3
    cases q4:c L3 M3 with
    | bad=>rw [q4] at p; exact p.elim
    | ex z M2=>rw [q4] at p; exact Zi.mono (e2.trans e3) p
    | ok b M4 =>
     rw [q4] at p
     intro μ4 H4 e4 hr4
     simp only [eZ] at p
     have s4:=sx _ _ _ _ hr3.lsts s3 e4
     have lr4:=lr3.ext hr3.lsts e4
     have E4:=((e1.trans e2).trans e3).trans e4
     have D4:=e4.pre _ _ (e3.pre _ _ (e2.pre _ _ hD1))
     cases b with
     | false =>
      refine ⟨hlt,μ4,M4,L3,E4,D4,hr4,lr4,s4,?_⟩
      simp only [R]
      simp only [Bool.false_eq_true,if_false] at p
      cases q5:compD n s g c f (s.ds.drop (i+1)) L3 M4 with
      | ok u M5=>rw [q5] at p; exact fun μ5 H5 e5 hr5=>p μ5 H5 (((e2.trans e3).trans e4).trans e5) hr5
      | ex z M5=>rw [q5] at p; exact Zi.mono ((e2.trans e3).trans e4) p
      | bad=>rw [q5] at p; exact p
     | true =>
      simp only [if_true] at p
      refine ⟨μ4,M4,L3,hr4,lr4,?_⟩
      cases q5:f L3 M4 with
      | bad=>rw [q5] at p; exact p.elim
      | ex z M2=>rw [q5] at p; exact Zi.mono ((e2.trans e3).trans e4) p
      | ok w M5 =>
       rw [q5] at p
       intro μ5 H5 e5 hr5 v rw'
       simp only [eZ] at p
       cases w with
       | ref k=>exact p.elim
       | d x =>
        cases q6:M5[n]? with
        | none=>rw [q6] at p; exact p.elim
        | some acc =>
         rw [q6] at p
         simp only at p
         by_cases hz:acc.length < 16777216
         ·rw [if_pos hz] at p
          have D5:=e5.pre _ _ D4
          obtain ⟨a',vs,qa',h1,r1⟩:=hr5.at q6
          rw [D5] at qa'; cases qa'
          refine ⟨vs,h1,by rw [<- r1.length,sizeLine_eq]; exact hz,hlt,μ5,M5.set n (acc++[x]),L3,(E4.trans e5).trans (gF D5),D5,hr5.set D5 (r1.append (.cons rw' .nil)),?_,?_,?_⟩
          ·exact (lr4.ext hr4.lsts e5).ext hr5.lsts (gF D5)
          ·exact sx _ _ _ _ hr5.lsts (sx _ _ _ _ hr4.lsts s4 e5) (gF D5)
          ·simp only [R]
           cases q7:compD n s g c f (s.ds.drop (i+1)) L3 (M5.set n (acc++[x])) with
           | ok u M6=>rw [q7] at p; exact fun μ6 H6 e6 hr6=>p μ6 H6 (((((e2.trans e3).trans e4).trans e5).trans (gF D5)).trans e6) hr6
           | ex z M6=>rw [q7] at p; exact Zi.mono ((((e2.trans e3).trans e4).trans e5).trans (gF D5)) p
           | bad=>rw [q7] at p; exact p
         ·rw [if_neg hz] at p; exact p.elim
  ·rw [if_neg hch] at p; exact p.elim
 ·have e:i=s.ds.length:=by omega
  subst e
  simp only [R] at p
  rw [List.drop_eq_nil_of_le (Nat.le_refl _)] at p
  unfold compD at p
  by_cases hch:Chk s M
  ·rw [if_pos hch] at p
   exact .inl ⟨(step μ1 H1 M _ hr sS hch).2 (Nat.le_refl _),p μ1 H1 .refl hr⟩
  ·rw [if_neg hch] at p; exact p.elim
theorem aCf {js:List (Option Nat)} {fi:FI} {g:FG} {c:FT} {f:FE} {σ:St} {Q:VK} (h:∃ μ M L,HR K μ H M/\LR K μ H L σ/\Pst K Z μ H (compT js fi g c f L M) fun μ' H' M' acc=>∀ q vs,H' q=some (.lst vs)->q∉μ'->Rps K μ' H' acc vs->Q (.ref q) H') :
  tComp js (liftI K Z fi) (liftG K Z0 g) (liftT K Z0 c) (lift K Z0 f) σ H Q:=by
 obtain ⟨μ,M,L,hr,lr,p⟩:=h
 refine ⟨μ,M,L,hr,lr,p.bind.imp fun μ1 H1 M1 s e1 hr1 _ p1 J hJ Dt hDt=>?_⟩
 have x:=pK (vs:=[]) hr1 hDt
 have hlen:=hr1.len
 obtain ⟨S,s0,sx,step⟩:=hJ
 refine vL (M:=M1++[[]]) M1.length μ1 H1 x hr1.len (by rw [<- hlen]; simp) (hr1.new hDt .nil) (LR.out ((lr.ext hr.lsts e1).ext hr1.lsts x)) ⟨S,sx _ _ _ _ hr1.lsts s0 x,sx,step⟩ ?_
 cases q:compD M1.length s g c f s.ds (outL js L) (M1++[[]]) with
 | bad=>simp only [q] at p1; exact p1.elim
 | ex z M2=>simp only [q] at p1; exact p1.elim
 | ok u M2 =>
  simp only [q] at p1
  intro μ2 H2 e2 hr2
  cases q2:M2[M1.length]? with
  | none=>simp only [q2] at p1; exact p1.elim
  | some acc =>
   simp only [q2] at p1
   have E:=x.trans e2
   have hb:=hr2.back E
   rw [hlen] at hb
   have hD2:μ2[M1.length]?=some Dt:=e2.pre _ _ (by rw [<- hlen]; simp)
   obtain ⟨a',vs,qa',h1,r1⟩:=hr2.at q2
   rw [hD2] at qa'; cases qa'
   exact p1 μ1 H2 E.back hb Dt vs h1 (hr1.out hDt) (Rps.sub (fun a ha=>by rw [<- E.take] at ha; exact List.mem_of_mem_take ha) _ _ r1)
theorem uS {js:List (Option Nat)} {fi:FI} {g:FG} {c:FT} {f:FE}:∀ σ H Q,lift K Z (eComp js fi g c f) σ H Q->tComp js (liftI K Z fi) (liftG K Z0 g) (liftT K Z0 c) (lift K Z0 f) σ H Q:=by
 rintro σ H Q ⟨μ,M,L,hr,lr,p⟩
 refine aCf ⟨μ,M,L,hr,lr,p.bind.imp fun μ1 H1 M1 acc e1 hr1 _ p1 q vs h1 h2 h3=>?_⟩
 exact p1 μ1 H1 .refl hr1 _ (by simp only [Rw,Rp]; exact ⟨q,vs,rfl,h1,h2,h3⟩)
theorem iV {tg iter elt:Expr} {ifs:List Expr} {scope:Scope} {Nc:List Str} {js:List (Option Nat)} {fi:FI} {g:FG} {c:FT} {f:FE} (hc:X.calm=true) (T:CompOk X.N X.env.scope scope Nc js) (hit:Ei X K Z tg iter fi)
  (hg:∀ cl C fp pins s₂ H₂,Eg (compCx X Nc scope cl C fp pins s₂ H₂) K Z0 tg g) (hi:∀ cl C fp pins s₂ H₂,Eif (compCx X Nc scope cl C fp pins s₂ H₂) K Z0 ifs c) (he:∀ cl C fp pins s₂ H₂,Ev (compCx X Nc scope cl C fp pins s₂ H₂) K Z0 elt f)
  (hs:∀ x,foldedSetIterable iter X.env x=pure x:=by intro _; rfl):Ev X K Z (.ListComp elt [⟨tg,iter,ifs,0⟩] scope pos) (eComp js fi g c f) :=
 ⟨hit.k,cqE (aDu hc T hit.h (fun _ _ _ _ _ _=>(hg _ _ _ _ _ _).h) (fun _ _ _ _ _ _=>(hi _ _ _ _ _ _).h) (fun _ _ _ _ _ _=>(he _ _ _ _ _ _).h) hs) uS⟩
theorem sL {tg iter elt:Expr} {ifs:List Expr} {scope:Scope} {Nc:List Str} {js:List (Option Nat)} {fi:FI} {g:FG} {c:FT} {f:FE} {i:Nat} {y:Str} {py spos:Pos} (hN:X.N.Nodup) (hc:X.calm=true) (T:CompOk X.N X.env.scope scope Nc js) (hit:Ei X K Z tg iter fi)
  (hg:∀ cl C fp pins s₂ H₂,Eg (compCx X Nc scope cl C fp pins s₂ H₂) K Z0 tg g) (hi:∀ cl C fp pins s₂ H₂,Eif (compCx X Nc scope cl C fp pins s₂ H₂) K Z0 ifs c) (he:∀ cl C fp pins s₂ H₂,Ev (compCx X Nc scope cl C fp pins s₂ H₂) K Z0 elt f)
  (hyi:X.N[i]?=some y:=by rfl) (hy:X.env.scope.names.lookup y=some .local:=by rfl)
  (hsw:swapsWith (.ListComp elt [⟨tg,iter,ifs,0⟩] scope pos) (some (.Name y py)) spos.line X.env=pure true:=by rfl)
  (hs:∀ x,foldedSetIterable iter X.env x=pure x:=by intro _; rfl):Es X K Z (.Assign [.Name y py] (.ListComp elt [⟨tg,iter,ifs,0⟩] scope pos) spos) (sAs (eComp js fi g c f) (gN i)):=by
 refine ⟨hit.k,cqS (xT hN hyi hy hc T hit.h (fun _ _ _ _ _ _=>(hg _ _ _ _ _ _).h) (fun _ _ _ _ _ _=>(hi _ _ _ _ _ _).h) (fun _ _ _ _ _ _=>(he _ _ _ _ _ _).h) hsw hs) ?_⟩
 rintro E σ H ⟨μ,M,L,hr,lr,p⟩
 refine uS _ _ _ ⟨μ,M,L,hr,lr,p.bind.imp fun μ1 H1 M1 x e1 hr1 _ p1 v rx=>?_⟩
 exact p1 μ1 H1 .refl hr1 _ (LR.set (lr.ext hr.lsts e1) rx)
theorem aAr {js:List (Option Nat)} {fi:FI} {g:FG} {c:FT} {f:FE}:∀ σ H Q,lift K Z (eCompR js fi g c f) σ H Q->tComp js (liftI K Z fi) (liftG K Z0 g) (liftT K Z0 c) (lift K Z0 f) σ H Q:=by
 rintro σ H Q ⟨μ,M,L,hr,lr,p⟩
 refine ⟨μ,M,L,hr,lr,p.bind.imp fun μ1 H1 M1 s e1 hr1 _ p1 J hJ Dt hDt=>?_⟩
 have x:=pK (vs:=[]) hr1 hDt
 have hlen:=hr1.len
 obtain ⟨S,s0,sx,step⟩:=hJ
 refine vL (M:=M1++[[]]) M1.length μ1 H1 x hr1.len (by rw [<- hlen]; simp) (hr1.new hDt .nil) (LR.out ((lr.ext hr.lsts e1).ext hr1.lsts x)) ⟨S,sx _ _ _ _ hr1.lsts s0 x,sx,step⟩ ?_
 cases q:compD M1.length s g c f s.ds (outL js L) (M1++[[]]) with
 | bad=>simp only [q] at p1; exact p1.elim
 | ex z M2=>simp only [q] at p1; exact p1.elim
 | ok u M2 =>
  simp only [q] at p1
  intro μ2 H2 e2 hr2
  have hb:=hr2.back e2
  rw [show (μ1++[Dt]).length=M1.length+1 by simp [hlen]] at hb
  exact p1 _ H2 (x.trans e2.back) hb (.ref Dt) ⟨Dt,by rw [<- hlen]; simp,rfl⟩
theorem aCz {tg iter elt:Expr} {ifs:List Expr} {scope:Scope} {Nc:List Str} {js:List (Option Nat)} {fi:FI} {g:FG} {c:FT} {f:FE} {i:Nat} {y:Str} {py spos:Pos} (hN:X.N.Nodup) (hc:X.calm=true) (T:CompOk X.N X.env.scope scope Nc js) (hit:Ei X K Z tg iter fi)
  (hg:∀ cl C fp pins s₂ H₂,Eg (compCx X Nc scope cl C fp pins s₂ H₂) K Z0 tg g) (hi:∀ cl C fp pins s₂ H₂,Eif (compCx X Nc scope cl C fp pins s₂ H₂) K Z0 ifs c) (he:∀ cl C fp pins s₂ H₂,Ev (compCx X Nc scope cl C fp pins s₂ H₂) K Z0 elt f)
  (hyi:X.N[i]?=some y:=by rfl) (hy:X.env.scope.names.lookup y=some .local:=by rfl)
  (hsw:swapsWith (.ListComp elt [⟨tg,iter,ifs,0⟩] scope pos) (some (.Name y py)) spos.line X.env=pure true:=by rfl)
  (hs:∀ x,foldedSetIterable iter X.env x=pure x:=by intro _; rfl):Es X K Z (.Assign [.Name y py] (.ListComp elt [⟨tg,iter,ifs,0⟩] scope pos) spos) (sAs (eCompR js fi g c f) (gN i)):=by
 refine ⟨hit.k,cqS (xT hN hyi hy hc T hit.h (fun _ _ _ _ _ _=>(hg _ _ _ _ _ _).h) (fun _ _ _ _ _ _=>(hi _ _ _ _ _ _).h) (fun _ _ _ _ _ _=>(he _ _ _ _ _ _).h) hsw hs) ?_⟩
 rintro E σ H ⟨μ,M,L,hr,lr,p⟩
 refine aAr _ _ _ ⟨μ,M,L,hr,lr,p.bind.imp fun μ1 H1 M1 x e1 hr1 _ p1 v rx=>?_⟩
 exact p1 μ1 H1 .refl hr1 _ (LR.set (lr.ext hr.lsts e1) rx)
noncomputable def retc (n:Nat) (w:W) (M:Mm):Oc W:=match w with
 | .d x=>.ok (.d x) (M.take n)
 | .ref i=>if i < n then .ok (.ref i) (M.take n) else match M[i]? with
  | some ds=>.ok (.d (.lst ds)) (M.take n)
  | none=>.bad
noncomputable def fnD (m n:Nat) (F:FS):Fn:=fun ws M=>if ws.length=m then (F (ws.map some++List.replicate (n - ws.length) none) M).bind fun o M'=>match o with
  | .rt w=>retc M.length w M'
  | .nx _=>.ok (.d .non) (M'.take M.length)
  | _=>.bad
 else .bad
noncomputable def fnR (m n:Nat) (F:FS):Fn:=fun ws M=>if ws.length=m then (F (ws.map some++List.replicate (n - ws.length) none) M).bind fun o M'=>match o with
  | .rt (.ref i)=>if M.length<=i then (match M'[i]? with
   | some ds=>.ok (.ref M.length) (M'.take M.length++[ds])
   | none=>.bad) else .bad
  | _=>.bad
 else .bad
noncomputable def spF (K:PySem.W.Frag) (Z:Zt) (m:Nat) (Fm:Fn):Sp:=fun vs H Q E=>vs.length=m/\∃ μ M ws,HR K μ H M/\Rws K μ H ws vs/\Pst K Z μ H (Fm ws M) (Wk K Q)
theorem pQ {N:List Str} {ws:List W} {vs:List V} (r:Rws K μ H ws vs):LR K μ H (ws.map some++List.replicate (N.length - ws.length) none) (L2.start N vs):=by
 have hl:=r.length
 refine ⟨by simp [L2.start,hl],fun i w q=>?_⟩
 by_cases hi:i < ws.length
 ·rw [List.getElem?_append_left (by simpa using hi),List.getElem?_map] at q
  cases e:ws[i]? with
  | none=>rw [e] at q; cases q
  | some w' =>
   rw [e] at q; cases q
   obtain ⟨v,q1,q2⟩:=r.get e
   refine ⟨v,?_,q2⟩
   unfold L2.start
   rw [List.getElem?_append_left (by simp; omega),List.getElem?_map,q1]; rfl
 ·rw [List.getElem?_append_right (by simpa using hi),List.getElem?_replicate] at q
  split at q <;> cases q
theorem dD {P:Program} {w:World} {mg:Str->Option Value} {base:Heap} {x qual:Str} {st:Stmt} {fa:Addr} {fd:FuncData} {N ps:List Str} {k:Nat} {F:FS} (hf:Fun K x qual st fa fd) (S:FnScope N ps (defScope st))
  (hb:∀ (cdv:Value) (A:Around) (outer:List Env) (s:Shared) (H:Hp) (E:XK),Room k (A.deeper (envOfC qual (defScope st) s.heap.objs.size fa cdv))->Ess (cxOf CX0 P w K mg base N qual (defScope st) fa cdv A outer s H E).nox K Z0 (defBody st) F) :
  FnOk P w K mg base CX0 (k+1) fa fd ps (spF K Z0 ps.length (fnD ps.length N.length F)):=by
 refine hf.ok S (fun vs H Q E h=>h.1) fun cdv A outer s H vs Q E hr hsp=>⟨_,(hb cdv A outer s H E hr).h,?_⟩
 obtain ⟨hv,μ,M,ws,hr,rx,p⟩:=hsp
 refine ⟨μ,M,_,hr,pQ rx,?_⟩
 unfold fnD at p
 rw [if_pos (by rw [rx.length]; exact hv)] at p
 cases q:F (ws.map some++List.replicate (N.length - ws.length) none) M with
 | bad=>rw [q] at p; exact p
 | ex z M'=>rw [q] at p; exact p
 | ok o M' =>
  rw [q] at p
  simp only [eZ] at p
  intro μ1 H1 e1 hr1
  have hb:=hr1.back e1
  rw [hr.len] at hb
  cases o with
  | nx L'=>exact fun σ' lr'=>p μ H1 e1.back hb _ (by simp [Rw,Rp])
  | bk L'=>exact p.elim
  | ct L'=>exact p.elim
  | rt w =>
   intro v rv
   have hsub:∀ a,a∈μ->a∈μ1:=fun a ha=>by rw [<- e1.take] at ha; exact List.mem_of_mem_take ha
   cases w with
   | d x=>exact p μ H1 e1.back hb v (Rp.sub hsub x v rv)
   | ref i =>
    simp only [retc] at p
    split at p
    ·rename_i hi
     obtain ⟨a,qa,rfl⟩:=rv
     refine p μ H1 e1.back hb _ ⟨a,?_,rfl⟩
     rw [<- hr.len] at hi
     have:=e1.pre i μ[i] (by simp [hi])
     rw [qa] at this; cases this
     simp [hi]
    ·rename_i hi
     cases q2:M'[i]? with
     | none=>simp only [q2] at p; exact p.elim
     | some ds =>
      simp only [q2] at p
      obtain ⟨a,qa,rfl⟩:=rv
      obtain ⟨a',vs',qa',h1,r1⟩:=hr1.at q2
      rw [qa] at qa'; cases qa'
      refine p μ H1 e1.back hb _ ?_
      simp only [Rw,Rp]
      refine ⟨a,vs',rfl,h1,fun ha=>?_,Rps.sub hsub _ _ r1⟩
      obtain ⟨j,hj,ej⟩:=List.mem_iff_getElem.mp ha
      have h2:=e1.pre j a (by rw [<- ej]; simp [hj])
      have l1:=(List.getElem?_eq_some_iff.mp qa).1
      have l2:=(List.getElem?_eq_some_iff.mp h2).1
      have g1:=(List.getElem?_eq_some_iff.mp qa).2
      have g2:=(List.getElem?_eq_some_iff.mp h2).2
      have pw:=List.pairwise_iff_getElem.mp hr1.nd
      rw [hr.len] at hj
      exact pw j i l2 l1 (by omega) (g2.trans g1.symm)
theorem aJo {P:Program} {w:World} {mg:Str->Option Value} {base:Heap} {x qual:Str} {st:Stmt} {fa:Addr} {fd:FuncData} {N ps:List Str} {k:Nat} {F:FS} (hf:Fun K x qual st fa fd) (S:FnScope N ps (defScope st))
  (hb:∀ (cdv:Value) (A:Around) (outer:List Env) (s:Shared) (H:Hp) (E:XK),Room k (A.deeper (envOfC qual (defScope st) s.heap.objs.size fa cdv))->Ess (cxOf CX0 P w K mg base N qual (defScope st) fa cdv A outer s H E).nox K Z0 (defBody st) F) :
  FnOk P w K mg base CX0 (k+1) fa fd ps (spF K Z0 ps.length (fnR ps.length N.length F)):=by
 refine hf.ok S (fun vs H Q E h=>h.1) fun cdv A outer s H vs Q E hr hsp=>⟨_,(hb cdv A outer s H E hr).h,?_⟩
 obtain ⟨hv,μ,M,ws,hr,rx,p⟩:=hsp
 refine ⟨μ,M,_,hr,pQ rx,?_⟩
 unfold fnR at p
 rw [if_pos (by rw [rx.length]; exact hv)] at p
 cases q:F (ws.map some++List.replicate (N.length - ws.length) none) M with
 | bad=>rw [q] at p; exact p
 | ex z M'=>rw [q] at p; exact p
 | ok o M' =>
  rw [q] at p
  simp only [eZ] at p
  intro μ1 H1 e1 hr1
  have hb:=hr1.back e1
  rw [hr.len] at hb
  cases o with
  | nx L'=>exact p.elim
  | bk L'=>exact p.elim
  | ct L'=>exact p.elim
  | rt w =>
   intro v rv
   have hsub:∀ a,a∈μ->a∈μ1:=fun a ha=>by rw [<- e1.take] at ha; exact List.mem_of_mem_take ha
   cases w with
   | d x=>exact p.elim
   | ref i =>
    simp only at p
    split at p
    ·rename_i hi
     cases q2:M'[i]? with
     | none=>simp only [q2] at p; exact p.elim
     | some ds =>
      simp only [q2] at p
      obtain ⟨a,qa,rfl⟩:=rv
      obtain ⟨a',vs',qa',h1,r1⟩:=hr1.at q2
      rw [qa] at qa'; cases qa'
      have hna:a∉μ:=fun ha=>by
       obtain ⟨j,hj,ej⟩:=List.mem_iff_getElem.mp ha
       have h2:=e1.pre j a (by rw [<- ej]; simp [hj])
       have l1:=(List.getElem?_eq_some_iff.mp qa).1
       have l2:=(List.getElem?_eq_some_iff.mp h2).1
       have g1:=(List.getElem?_eq_some_iff.mp qa).2
       have g2:=(List.getElem?_eq_some_iff.mp h2).2
       have pw:=List.pairwise_iff_getElem.mp hr1.nd
       rw [hr.len] at hj
       exact pw j i l2 l1 (by omega) (g2.trans g1.symm)
      have hsub2:∀ b,b∈μ++[a]->b∈μ1:=fun b hb=>by
       rcases List.mem_append.mp hb with hb | hb
       ·exact hsub b hb
       ·rw [List.mem_singleton] at hb; subst hb; exact List.mem_of_getElem? qa
      refine p (μ++[a]) H1 ⟨e1.keep,fun b hb=>e1.new b (hsub2 b hb),fun j b hj=>by rw [List.getElem?_append_left (List.getElem?_eq_some_iff.mp hj).1]; exact hj⟩ ?_ _ ⟨a,by rw [<- hr.len]; simp,rfl⟩
      refine ⟨by simp [hb.len],List.nodup_append.mpr ⟨hb.nd,by simp,fun b hb' c hc=>by rw [List.mem_singleton] at hc; subst hc; rintro rfl; exact hna hb'⟩,fun j b es q1 q3=>?_⟩
      by_cases hj:j < μ.length
      ·rw [List.getElem?_append_left hj] at q1
       rw [List.getElem?_append_left (by rw [<- hb.len]; exact hj),List.getElem?_take] at q3
       split at q3
       ·obtain ⟨us,q4,q5⟩:=hr1.ent j b es (e1.pre j b q1) q3
        exact ⟨us,q4,Rps.sub hsub2 _ _ q5⟩
       ·cases q3
      ·have hj':j=μ.length:=by have:=(List.getElem?_eq_some_iff.mp q1).1; simp at this; omega
       subst hj'
       rw [List.getElem?_append_right (Nat.le_refl _)] at q1
       rw [hb.len,List.getElem?_append_right (Nat.le_refl _)] at q3
       simp at q1 q3
       subst q1 q3
       exact ⟨vs',h1,Rps.sub hsub2 _ _ r1⟩
    ·exact p.elim
theorem aK {k:Nat} {fd:FuncData} {fa:Addr} {ps:List Str} {m:Nat} {Fm:Fn} {x:Str} {p:Pos} (Gf:FnOk X.prog X.w X.K X.mg X.base CX0 k fa fd ps (spF K Z0 m Fm)) (hr:Room k X.A) (hm:X.mg x=some (.ref fa)) (hk:PySem.W.keepIn X.K (.ref fa)=true) (hb:Binds X.K fd ps [])
  (ha:Ea X K Z0 (e::es) fs) (hl:ps.length=m:=by rfl) (hg:Gl X x:=by rfl) (hdb:(x==("__debug__":Str))=false:=by decide) (he:starEach (e::es) X.env=(false,eval e X.env)::starEach es X.env:=by rfl) (hpl:(backTo pos (starEach es X.env)).any (·.1)=false:=by rfl)
  (hlen:∀ ws M,ws.length≠m->Fm ws M=.bad:=by intro ws M h; first | exact if_neg h | rfl):Ev X K Z0 (.Call (.Name x p) (e::es) [] pos) (eA Fm fs):=by
 refine ⟨ha.k,cqE (pD Gf hr hg hm hk hb .nil pass0 ha.h hdb he hpl) ?_⟩
 rintro σ H Q ⟨μ,M,L,hr,lr,p⟩
 refine ⟨μ,M,L,hr,lr,p.bind.imp fun μ1 H1 M1 ws e1 hr1 _ p1 vs rx=>?_⟩
 show spF K Z0 m Fm (vs++[]) H1 Q E0
 rw [List.append_nil]
 refine ⟨?_,μ1,M1,ws,hr1,rx,p1⟩
 by_cases hw:ws.length=m
 ·rw [<- rx.length]; exact hw
 ·rw [hlen ws M1 hw] at p1; exact p1.elim
theorem aJs {K:PySem.W.Frag} {Fm:Fn} {H:Hp} {a:Addr} {ns:List Int} (hO:Only H) (hS:SqL K H a (ns.map V.int)) (h:∃ M',Fm [.d (.fz (ns.map D.int))] []=.ok (.d (.bl true)) M'):spF K Z0 1 Fm [.ref a] H (fun v _=>v=.bl true) fun _ _ _=>False:=by
 obtain ⟨M',h⟩:=h
 refine ⟨rfl,[],[],[.d (.fz (ns.map D.int))],⟨rfl,List.nodup_nil,fun i a ds q=>by simp at q⟩,⟨.ref a,[],rfl,?_,rfl⟩,?_⟩
 ·simp only [Rw,Rp]
  refine ⟨a,ns.map V.int,rfl,?_,Rps.ints⟩
  rcases hS with (z | z) | z
  ·rcases hO a with q | ⟨o,xs,q⟩ <;> rw [z] at q <;> cases q
  ·exact .inl z
  ·exact .inr z
 ·rw [h]
  intro μ' H' _ _ v rv
  simpa only [Rw,Rp] using rv
end
end EV
namespace EV
open PySem PySem.Spec PyProof.Rows L2
@[irreducible] noncomputable def NW:Nat:=18446744073709551616
theorem aGd:NW=18446744073709551616:=by unfold NW; rfl
theorem aV {k:Nat} {A:Around} (hr:Room k A):A.units+101 < cLine:=by have:=hr.un; omega
theorem lS {P:Program} {w:World} {K:PySem.W.Frag} {mg:Str->Option Value} {base:Heap} {CX:CXT} {k m:Nat} {Z:Zt} {f:Addr} {fd:FuncData} {ps:List Str} (hl:ps.length=m):FnOk P w K mg base CX k f fd ps (spF K Z m (fun _ _=>.bad)) :=
 ⟨fun vs H Q E h=>by rw [h.1,hl],fun A outer s H args us vs Q E _ _ _ _ h=>by obtain ⟨_,μ,M,ws,_,_,p⟩:=h; exact p.elim⟩
section
variable {X:Cx} {K:PySem.W.Frag} {Z:Zt} {μ:List Addr} {H:Hp} {M:Mm} {e a b o tg:Expr} {es:List Expr} {pos:Pos} {f fa fb fo:FE} {fs:FA} {st:Stmt} {rest:List Stmt} {F G:FS}
end
end EV
namespace ZP
open PySem PySem.Spec PyProof.Rows
section
variable {prog:Program} {w:World} {A:Around} {E:Value->Shared->Prop} {s:Shared}
theorem mU {it l:Addr} {i:Nat} {items:Array Value} {x:Value} {Q:Value->Shared->Prop} (hit:s.heap.IsTupleIter it l i)
  (hl:s.heap.IsTuple l items) (hx:items[i]?=some x)
  (hQ:∀ h',h'.IsTupleIter it l (i+1)->Heap.SameBut it s.heap h'->Q x { s with heap:=h' }) :
  wpAny (model prog w) A (Builtin.SmallTypes.nextOf (.ref it)) Q E s:=by
 obtain ⟨o,ho,hc,hd⟩:=id hit
 obtain ⟨ol,hol,_,nl,hdl⟩:=hl
 unfold Builtin.SmallTypes.nextOf
 refine wpAny_bind (wpAny_callSpecial?_slot (name:=Str.ofString "__next__") hit.typeIs F.slot_tuple_iterator_next
  (wpAny_call_entry F.slot_tuple_iterator_next hit.typeIs F.entry_tuple_iterator_next ?_ (F.args_tuple_iterator_next_1 _)))
 show wpAny _ _ (field (.ref it) 0 >>= _) _ _ s
 refine wpAny_bind (wpAny_field ho hd (x:=.ref l) rfl ?_)
 show wpAny _ _ (if (Value.ref l==Value.none)=true then _ else _) _ _ s
 rw [if_neg (show ¬ ((Value.ref l==Value.none)=true) from Bool.false_ne_true)]
 show wpAny _ _ (field (.ref it) 1 >>= _) _ _ s
 refine wpAny_bind (wpAny_field ho hd (x:=.int i 0) rfl ?_)
 show wpAny _ _ (seqItems? (.ref l) >>= _) _ _ s
 refine wpAny_bind (wpAny_seqItems hol hdl ?_)
 simp only [Int.toNat_natCast,hx]
 refine wpAny_bind (wpAny_setField ho hd (by simp) (wpAny_pure ⟨x,rfl,wpAny_pure (hQ _ ?_ (Heap.SameBut.update ..))⟩))
 exact ⟨_,Heap.get?_update_self _ ho (Obj.isFreed_of_fields (Obj.data_mapFields hd _)),(Obj.cls_mapFields ..).trans hc,by
  rw [Obj.data_mapFields hd]; simp [rawInt]⟩
theorem nJ {it l:Addr} {i:Nat} {items:Array Value} {Q:Value->Shared->Prop} (hh:A.handled=none)
  (hit:s.heap.IsTupleIter it l i) (hl:s.heap.IsTuple l items) (hx:items[i]?=none)
  (hE:∀ h' e,Heap.ExtBut it s.heap h'->(∃ o,h'.get? e=some o/\o.cls=.type "StopIteration")->E (.ref e) { s with heap:=h' }) :
  wpAny (model prog w) A (Builtin.SmallTypes.nextOf (.ref it)) Q E s:=by
 obtain ⟨o,ho,hc,hd⟩:=id hit
 obtain ⟨ol,hol,_,nl,hdl⟩:=hl
 unfold Builtin.SmallTypes.nextOf
 refine wpAny_bind (wpAny_callSpecial?_slot (name:=Str.ofString "__next__") hit.typeIs F.slot_tuple_iterator_next
  (wpAny_call_entry F.slot_tuple_iterator_next hit.typeIs F.entry_tuple_iterator_next ?_ (F.args_tuple_iterator_next_1 _)))
 show wpAny _ _ (field (.ref it) 0 >>= _) _ _ s
 refine wpAny_bind (wpAny_field ho hd (x:=.ref l) rfl ?_)
 show wpAny _ _ (if (Value.ref l==Value.none)=true then _ else _) _ _ s
 rw [if_neg (show ¬ ((Value.ref l==Value.none)=true) from Bool.false_ne_true)]
 show wpAny _ _ (field (.ref it) 1 >>= _) _ _ s
 refine wpAny_bind (wpAny_field ho hd (x:=.int i 0) rfl ?_)
 show wpAny _ _ (seqItems? (.ref l) >>= _) _ _ s
 refine wpAny_bind (wpAny_seqItems hol hdl ?_)
 simp only [Int.toNat_natCast,hx]
 refine wpAny_bind (wpAny_rule (wpAny_bind (wpAny_setField ho hd (by simp) ?_)))
 show wpAny _ _ (newExc (.type "StopIteration") [] >>= _) _ _ _
 refine wpAny_bind ?_
 simp only [newExc,newTuple]
 refine wpAny_bind (wpAny_newObj_type ?_ (by size_fits))
 refine wpAny_bind (m:=firstArgMember _ _) (wpAny_of_eq (a:=Value.none) (by first | rfl | (simp only [firstArgMember]; rfl)) ?_)
 refine wpAny_newObj_type ?_ (by size_fits)
 simp only [raiseNew]
 refine wpAny_bind (wpAny_handled ?_)
 first | rw [show A.in1.handled=none from hh] | rw [hh]
 refine wpAny_bind (wpAny_pure (wpAny_throw ?_))
 exact hE _ _ (((Heap.SameBut.update ..).extBut.push _).push _) ⟨_,Heap.get?_push_size _ rfl,rfl⟩
noncomputable def It1 (h:Heap) (it src:Addr) (i:Nat) (xs:Array Value):Prop:=(h.IsListIter it src i/\h.IsList src xs)\/(h.IsTupleIter it src i/\h.IsTuple src xs)
theorem It1.at {h h':Heap} {it src:Addr} {i:Nat} {xs:Array Value} (x:It1 h it src i xs) (k1:∀ o,h.get? it=some o->h'.get? it=some o) (k2:∀ o,h.get? src=some o->h'.get? src=some o):It1 h' it src i xs:=by
 rcases x with ⟨a,b⟩ | ⟨a,b⟩
 ·exact .inl ⟨a.at k1,b.at k2⟩
 ·refine .inr ⟨a.at k1,?_⟩
  obtain ⟨o,ho,r⟩:=b
  exact ⟨o,k2 o ho,r⟩
theorem It1.lt {h:Heap} {it src:Addr} {i:Nat} {xs:Array Value} (x:It1 h it src i xs):it < h.objs.size:=by
 rcases x with ⟨⟨_,e,_⟩,_⟩ | ⟨⟨_,e,_⟩,_⟩ <;> exact Heap.lt_size e
theorem It1.ne {h:Heap} {it src:Addr} {i:Nat} {xs:Array Value} (x:It1 h it src i xs):src≠it:=by
 rintro rfl
 rcases x with ⟨⟨o,e,c,_⟩,⟨o',e',c',_⟩⟩ | ⟨⟨o,e,c,_⟩,⟨o',e',c',_⟩⟩ <;> (rw [e] at e'; cases e'; rw [c] at c'; simp at c')
theorem It1.next {it src:Addr} {i:Nat} {xs:Array Value} {x:Value} {Q:Value->Shared->Prop} (h:It1 s.heap it src i xs) (hx:xs[i]?=some x) (hQ:∀ h',It1 h' it src (i+1) xs->Heap.SameBut it s.heap h'->Q x { s with heap:=h' }) :
  wpAny (model prog w) A (Builtin.SmallTypes.nextOf (.ref it)) Q E s:=by
 have hn:=h.ne
 rcases h with ⟨a,b⟩ | ⟨a,b⟩
 ·exact wpAny_nextOf_list_item a b hx fun h' a' sb=>hQ h' (.inl ⟨a',b.extBut sb.extBut hn⟩) sb
 ·exact mU a b hx fun h' a' sb=>hQ h' (.inr ⟨a',b.extBut sb.extBut hn⟩) sb
theorem It1.stop {it src:Addr} {i:Nat} {xs:Array Value} {Q:Value->Shared->Prop} (hh:A.handled=none) (h:It1 s.heap it src i xs) (hx:xs[i]?=none)
  (hE:∀ h' e,Heap.ExtBut it s.heap h'->(∃ o,h'.get? e=some o/\o.cls=.type "StopIteration")->E (.ref e) { s with heap:=h' }):wpAny (model prog w) A (Builtin.SmallTypes.nextOf (.ref it)) Q E s:=by
 rcases h with ⟨a,b⟩ | ⟨a,b⟩
 ·exact wpAny_nextOf_list_end hh a b hx hE
 ·exact nJ hh a b hx hE
noncomputable abbrev zobj (TI TO:Addr) (f0 f1:Value):Obj:={ cls:=.type "zip",dict:=none,data:=.fields #[f0,f1,.bool false,.ref TI,.ref TO],slots:=#[] }
structure Ap (z TI TO i1 i2 l1 l2:Addr):Prop where
 TIz:TI≠z
 TOz:TO≠z
 i1z:i1≠z
 i2z:i2≠z
 TITO:TI≠TO
 TIi1:TI≠i1
 TIi2:TI≠i2
 TOi1:TO≠i1
 TOi2:TO≠i2
 i12:i1≠i2
 l1z:l1≠z
 l1TO:l1≠TO
 l1i1:l1≠i1
 l1i2:l1≠i2
 l2z:l2≠z
 l2TO:l2≠TO
 l2i1:l2≠i1
 l2i2:l2≠i2
structure Zs (h:Heap) (z TI TO i1 i2 l1 l2:Addr) (i:Nat) (xs ys:Array Value):Prop where
 z:∃ f0 f1,h.get? z=some (zobj TI TO f0 f1)/\(f0=.none\/∃ T:Nat,f0=rawInt T)
 ti:IsPair h TI (.ref i1) (.ref i2)
 to:∃ a b,IsPair h TO a b
 a:It1 h i1 l1 i xs
 b:It1 h i2 l2 i ys
end
end ZP
namespace ZP
open PySem PySem.Spec PyProof.Rows
section
variable {prog:Program} {w:World} {A:Around} {E:Value->Shared->Prop} {s:Shared}
end
end ZP
namespace ZP
open PySem PySem.Spec PyProof.Rows
section
variable {prog:Program} {w:World} {A:Around} {R:Result->Shared->Prop}
variable {E:Value->Shared->Prop} {s:Shared}
end
end ZP
namespace EV
open PySem PySem.Spec PyProof.Rows L2
section
variable {X:Cx} {pins:List (Addr×Obj)} {σ:L2.St} {H H':Hp} {s:Shared} {h':Heap}
end
section
variable {X:Cx} {K:PySem.W.Frag} {Z:Zt} {a b:Expr} {fa fb:FE} {ta tb:TE} {p q pos pos2:Pos}
end
end EV
namespace RT
open PySem PySem.Spec PyProof.Rows
theorem eD:Slot "reversed" "__next__" "reversed.__next__" :=
 .of (owner:="reversed") (n:="__next__") (by rw [typeLookup_type,builtinLookup_eq_fast]; kernel_rfl) (by decide +kernel) (by decide +kernel) (by decide +kernel)
  (by first | exact .inl (by decide +kernel) | exact .inr (by decide +kernel)) (by rw [isSubtype_type]; kernel_rfl)
theorem mP:Slot "reversed" "__iter__" "reversed.__iter__" :=
 .of (owner:="reversed") (n:="__iter__") (by rw [typeLookup_type,builtinLookup_eq_fast]; kernel_rfl) (by decide +kernel) (by decide +kernel) (by decide +kernel)
  (by first | exact .inl (by decide +kernel) | exact .inr (by decide +kernel)) (by rw [isSubtype_type]; kernel_rfl)
theorem tZ:Slot "reversed" "__init__" "object.__init__" :=
 .of (owner:="object") (n:="__init__") (by rw [typeLookup_type,builtinLookup_eq_fast]; kernel_rfl) (by decide +kernel) (by decide +kernel) (by decide +kernel)
  (by first | exact .inl (by decide +kernel) | exact .inr (by decide +kernel)) (by rw [isSubtype_type]; kernel_rfl)
theorem iY:entryFor table "reversed.__next__"=some Builtin.«reversed.__next__»:=entryFor_of_tree (by kernel_rfl)
theorem rG:entryFor table "reversed.__iter__"=some Builtin.«dict_keyiterator.__iter__» :=
 entryFor_alias (id':="dict_keyiterator.__iter__") (by kernel_rfl) (by first | rfl | decide +kernel | (unfold String.splitOn; simp +decide [String.splitOnAux])) (by decide +kernel) (by kernel_rfl)
theorem qM:Manifest.owners.lookup (String.ofList ['d','e','s','r','e','v','e','r'].reverse)=some Manifest.sig_reversed:=by kernel_rfl
theorem jO (a:Value):argsOk "reversed.__next__" ⟨[a],[]⟩:=by
 unfold argsOk; rw [signature?_of (id:="reversed.__next__") (n:=['_','_','t','x','e','n','_','_']) (o:=['d','e','s','r','e','v','e','r']) (by kernel_rfl) qM]; kernel_rfl
theorem tR (a:Value):argsOk "reversed.__iter__" ⟨[a],[]⟩:=by
 unfold argsOk; rw [signature?_of (id:="reversed.__iter__") (n:=['_','_','r','e','t','i','_','_']) (o:=['d','e','s','r','e','v','e','r']) (by kernel_rfl) qM]; kernel_rfl
theorem yZ:TypeCalled "reversed" "reversed.__new__" "object.__init__" :=
 ⟨by decide +kernel,by decide +kernel,⟨_,_,F.mro_reversed⟩,F.made_reversed,by decide +kernel,by rw [isSubtype_type]; kernel_rfl,tZ⟩
theorem tG:typeLookup (.type "tuple") "__reversed__"=pure none:=by rw [typeLookup_type,builtinLookup_eq_fast]; kernel_rfl
theorem qN:isSubtype (.type "tuple") (.type "dict")=pure false:=by rw [isSubtype_type]; kernel_rfl
noncomputable abbrev rvObj (l:Addr) (i:Int):Obj:={ cls:=.type "reversed",dict:=none,data:=.fields #[.ref l,rawInt i],slots:=#[] }
theorem aAv (l:Addr) (items:Array Value):Meets (Builtin.«reversed.__new__» ⟨[.type "reversed",.ref l],[]⟩) (fun _ R s=>IsTup s.heap l items/\(items.size:Int) < 2 ^ 63 /\
   R (.ok (.ret (.ref s.heap.objs.size))) { s with heap:=s.heap.push (rvObj l ((items.size:Int) - 1)),toks:=s.toks+1+1 }) :=
 .of_wp fun prog w A R s h=>by
  obtain ⟨hl,hz,h⟩:=h
  unfold Builtin.«reversed.__new__»
  refine wpAny_bind (wpAny_of_eq (newClass_reversed _) ?_)
  try dsimp only
  refine wpAny_bind (wpAny_of_eq (a:=()) (by first | rfl | kernel_rfl) ?_)
  refine wpAny_bind (wpAny_of_eq (a:=()) (by first | rfl | kernel_rfl) ?_)
  try dsimp only
  refine wpAny_bind (wpAny_specialOf hl.typeIs tG ?_)
  try dsimp only
  refine wpAny_bind ?_
  refine wpAny_bind (wpAny_isInstance (T:="tuple") (b:=false) hl.typeIs qN ?_)
  try dsimp only
  refine wpAny_bind (wpAny_specialOf hl.typeIs F.slot_tuple_getitem.lookup ?_)
  refine wpAny_of_eq (a:=true) (by first | rfl | kernel_rfl) ?_
  show wpAny _ _ (call (.builtin "len") [.ref l] >>= _) _ _ _
  refine wpAny_bind (len_tuple hl hz ?_)
  refine wpAny_bind (wpAny_of_eq (a:=some (items.size:Int)) (by first | rfl | kernel_rfl) ?_)
  show wpAny _ _ (newObj (.type "reversed") (.fields #[.ref l,rawInt ((items.size:Int) - 1)]) >>= _) _ _ _
  exact wpAny_bind (wpAny_newObj_type (wpAny_pure ⟨_,rfl,h⟩))
end RT
namespace RT
open PySem PySem.Spec PyProof.Rows
section
variable {prog:Program} {w:World} {A:Around} {E:Value->Shared->Prop} {s:Shared}
theorem call_rev_tuple {l:Addr} {items:Array Value} {Q:Value->Shared->Prop} (hl:IsTup s.heap l items) (hz:(items.size:Int) < 2 ^ 63)
  (h:Q (.ref s.heap.objs.size) { s with heap:=s.heap.push (rvObj l ((items.size:Int) - 1)),toks:=s.toks+1+1 }):wpAny (model prog w) A (call (.type "reversed") [.ref l]) Q E s :=
 callType_new yZ (by decide) (F.typeCall_reversed_1 _) (F.newCall_reversed_1 _) (fun obj=>F.args_object_init_2 obj _) F.entry_reversed_new (aAv l items) ⟨hl,hz,⟨⟨_,Heap.get?_push_size _ rfl,rfl⟩,h⟩⟩
noncomputable def IsRvT (h:Heap) (a l:Addr) (i:Int):Prop:=∃ o,h.get? a=some o/\o.cls=.type "reversed"/\o.data=.fields #[.ref l,rawInt i]
theorem IsRvT.typeIs {a l:Addr} {i:Int} (x:IsRvT s.heap a l i):s.TypeIs (.ref a) "reversed":=let ⟨o,ho,hc,_⟩:=x; ⟨o,ho,hc⟩
theorem IsRvT.at {h h':Heap} {a l:Addr} {i:Int} (x:IsRvT h a l i) (e:∀ o,h.get? a=some o->h'.get? a=some o):IsRvT h' a l i:=let ⟨o,ho,r⟩:=x; ⟨o,e _ ho,r⟩
theorem next_item {it l:Addr} {i:Nat} {items:Array Value} {x:Value} {Q:Option Value->Shared->Prop} (hit:IsRvT s.heap it l (i:Int)) (hl:IsTup s.heap l items) (hz:(items.size:Int) < 2 ^ 63) (hx:items[i]?=some x)
  (hQ:∀ h' tk,IsRvT h' it l ((i:Int) - 1)->Heap.SameBut it s.heap h'->Q (some x) { s with heap:=h',toks:=tk }):wpAny (model prog w) A (pyNext (.ref it)) Q E s:=by
 obtain ⟨o,ho,hc,hd⟩:=id hit
 have hlt:i < items.size:=by
  rcases Nat.lt_or_ge i items.size with h | h
  ·exact h
  ·rw [Array.getElem?_eq_none h] at hx; cases hx
 unfold pyNext
 refine wpAny_bind (wpAny_attempt (wpAny_callSpecial?_slot (name:=Str.ofString "__next__") hit.typeIs eD
  (wpAny_call_entry eD hit.typeIs iY ?_ (jO _))))
 unfold Builtin.«reversed.__next__»
 refine wpAny_bind (wpAny_of_eq (a:=(Value.ref it,[])) rfl ?_)
 try dsimp only
 refine wpAny_bind (wpAny_field ho hd (x:=.ref l) rfl ?_)
 refine wpAny_bind (wpAny_field ho hd (x:=rawInt (i:Int)) rfl ?_)
 show wpAny _ _ (if (i:Int) < 0 then _ else _) _ _ s
 rw [if_neg (by omega)]
 show wpAny _ _ (specialOf (.ref l) (Str.ofString "__getitem__") >>= _) _ _ s
 refine wpAny_bind (wpAny_specialOf hl.typeIs F.slot_tuple_getitem.lookup ?_)
 show wpAny _ _ (mkInt (i:Int) >>= _) _ _ s
 refine wpAny_bind (wpAny_mkInt ?_)
 refine wpAny_bind (wpAny_attempt (getItem_tuple (j:=i) (x:=x) hl (by omega) (by omega) ?_ hx ?_))
 ·rw [seqIndex_of (by omega) (by omega)]; simp
 try dsimp only
 refine wpAny_bind (wpAny_field ho hd (x:=rawInt (i:Int)) rfl ?_)
 show wpAny _ _ (setField _ _ _ >>= _) _ _ _
 refine wpAny_bind (wpAny_setField ho hd (by simp) ?_)
 refine wpAny_pure ⟨x,rfl,wpAny_pure (hQ _ _ ?_ (Heap.SameBut.update ..))⟩
 exact ⟨_,Heap.get?_update_self _ ho (Obj.isFreed_of_fields (Obj.data_mapFields hd _)),(Obj.cls_mapFields ..).trans hc,by
  rw [Obj.data_mapFields hd]; simp⟩
theorem next_end {it l:Addr} {Q:Option Value->Shared->Prop} (hh:A.handled=none) (hit:IsRvT s.heap it l (-1))
  (hQ:∀ h',Heap.ExtBut it s.heap h'->Q none { s with heap:=h' }):wpAny (model prog w) A (pyNext (.ref it)) Q E s:=by
 obtain ⟨o,ho,hc,hd⟩:=id hit
 unfold pyNext
 refine wpAny_bind (wpAny_attempt (wpAny_callSpecial?_slot (name:=Str.ofString "__next__") hit.typeIs eD
  (wpAny_call_entry eD hit.typeIs iY ?_ (jO _))))
 unfold Builtin.«reversed.__next__»
 refine wpAny_bind (wpAny_of_eq (a:=(Value.ref it,[])) rfl ?_)
 try dsimp only
 refine wpAny_bind (wpAny_field ho hd (x:=.ref l) rfl ?_)
 refine wpAny_bind (wpAny_field ho hd (x:=rawInt (-1)) rfl ?_)
 show wpAny _ _ (if (-1:Int) < 0 then _ else _) _ _ s
 rw [if_pos (by decide)]
 refine wpAny_bind (wpAny_rule ?_)
 refine wpAny_bind ?_
 show wpAny _ _ (setField (.ref it) 1 (rawInt (-1)) >>= _) _ _ _
 refine wpAny_bind (wpAny_setField ho hd (by simp) ?_)
 refine wpAny_setField (Heap.get?_update_self _ ho (Obj.isFreed_of_fields (Obj.data_mapFields hd _))) (Obj.data_mapFields hd _) (by simp) ?_
 refine wpAny_bind ?_
 show wpAny _ _ (newExc (.type "StopIteration") [] >>= _) _ _ _
 refine wpAny_bind ?_
 simp only [newExc,newTuple]
 refine wpAny_bind (wpAny_newObj_type ?_ (by size_fits))
 refine wpAny_bind (m:=firstArgMember _ _) (wpAny_of_eq (a:=Value.none) (by first | rfl | (simp only [firstArgMember]; rfl)) ?_)
 refine wpAny_newObj_type ?_ (by size_fits)
 simp only [raiseNew]
 refine wpAny_bind (wpAny_handled ?_)
 first | rw [show A.in1.handled=none from hh] | rw [hh]
 refine wpAny_bind (wpAny_pure (wpAny_throw ?_))
 refine wpAny_bind (wpAny_isInstance (T:="StopIteration") (b:=true) ⟨_,Heap.get?_push_size _ rfl,rfl⟩ isSubtype_stop ?_)
 exact wpAny_pure (hQ _ ((((Heap.SameBut.update ..).extBut.trans (Heap.SameBut.update ..).extBut).push _).push _))
theorem iter_self {it l:Addr} {i:Int} {Q:Value->Shared->Prop} (hit:IsRvT s.heap it l i) (h:Q (.ref it) s):wpAny (model prog w) A (pyIter (.ref it)) Q E s:=by
 refine wpAny_pyIter_slot hit.typeIs mP (wpAny_call_entry mP hit.typeIs rG ?_ (tR _))
 show wpAny _ _ (ret (.ref it)) _ _ s
 exact wpAny_pure ⟨_,rfl,"reversed",_,hit.typeIs,eD.lookup,h⟩
end
end RT
namespace L2
open PySem PySem.Spec PyProof.Rows
noncomputable def Itw (K:PySem.W.Frag) (a:Addr) (xs:List V):It :=
 ⟨fun i H=>SqT K H a xs/\i < xs.length,fun i H x H'=>H'=H/\xs[xs.length - 1 - i]?=some x,fun i _=>xs.length<=i⟩
theorem aAd {P:Program} {w:World} {K:PySem.W.Frag} {tg:Expr} (a it:Addr) (xs:List V):Turn P w K tg (Itw K a xs) [it] it (fun i h=>i<=xs.length/\RT.IsRvT h it a ((xs.length:Int) - 1 - (i:Int))) where
 mem:=by simp
 obj:=fun i h st b hb=>by
  have e:b=it:=by simpa using hb
  subst e
  obtain ⟨o,e,c,d⟩:=st.2
  exact ⟨o,e,fun v z=>by rw [d] at z; cases z⟩
 keep:=fun i h h' st k=>⟨st.1,st.2.at fun o e=>k it (by simp) o e⟩
 item:=by
  intro X hP hw hK hc i pins s σ H E I hf st hg
  subst hP hw hK
  obtain ⟨hq,hx⟩:=hg
  obtain ⟨its,rv,p,hz⟩:=I.tuple hq
  have hlt:xs.length - 1 - i < xs.length:=by omega
  have hx':xs[xs.length - 1 - i]?=some xs[xs.length - 1 - i]:=List.getElem?_eq_getElem hlt
  obtain ⟨u,hu,ru⟩:=rv.get hx'
  obtain ⟨f0,f1,f2,f3,f4,f5⟩:=hf it (by simp)
  have st2:=st.2
  have e1:(xs.length:Int) - 1 - (i:Int)=((xs.length - 1 - i:Nat):Int):=by omega
  rw [e1] at st2
  have hlen:=rv.length
  refine RT.next_item st2 p (by rw [List.size_toArray,<- hlen]; have:sizeLine < 2 ^ 63:=by decide
                                omega) (x:=u) (by simpa using hu) fun h' tk st' sb=>?_
  have I1:Inv X pins σ H { s with heap:=h',toks:=tk }:=I.turned (t':=tk) (fun b o hb e=>(sb.2 b hb).trans e) f0 f1 f3 f4 f5
  have e2:((xs.length - 1 - i:Nat):Int) - 1=(xs.length:Int) - 1 - ((i+1:Nat):Int):=by omega
  rw [e2] at st'
  obtain ⟨o,e,c,d⟩:=id st'
  exact ⟨u,rfl,vS (s:={ s with heap:=h',toks:=tk }) e c d (by decide) ⟨_,H,I1,ru,⟨rfl,hx'⟩,⟨hx,st'⟩,fun b hb=>(hf b hb).1⟩⟩
 done:=by
  intro X hP hw hK hc i pins s σ H E I hf st hg
  subst hP hw hK
  have hx:xs.length<=i:=hg
  obtain ⟨f0,f1,f2,f3,f4,f5⟩:=hf it (by simp)
  have st2:=st.2
  have h1:=st.1
  have e1:(xs.length:Int) - 1 - (i:Int) = -1:=by omega
  rw [e1] at st2
  exact RT.next_end (I.ok.hd hc) st2 fun h' eb=>⟨rfl,I.turned (t':=s.toks) (fun b o hb e=>eb b o hb e) f0 f1 f3 f4 f5⟩
 self:=fun _ _ _ _ _ st h=>RT.iter_self st.2 h
noncomputable def iRvE (K:PySem.W.Frag) (ta:TA):TI:=fun σ H R=>ta σ H fun vs H1=>∃ a,vs=[.ref a]/\((∃ xs,SqL K H1 a xs/\R (Itv K a xs) H1)\/(∃ xs,SqT K H1 a xs/\R (Itw K a xs) H1))
theorem aIt {X:Cx} {tg:Expr} {a:Expr} {ta:TA} {p pos:Pos} (hg:Gl X "reversed") (hm:X.mg "reversed"=none) (ha:PA X [a] ta) (hs:starEach [a] X.env=[(false,eval a X.env)]:=by rfl):PI X tg (.Call (.Name "reversed" p) [a] [] pos) (iRvE X.K ta):=by
 intro pins s σ H R I h
 refine Call_ (nM I hg hm vV (PyProof.Rows.callWith_type1 (thn (ha pos pins s σ H _ I h) fun us s1 ⟨vs,H1,I1,r1,q1⟩=>?_) hs rfl))
 obtain ⟨b,e,⟨xs,hq,q⟩ | ⟨xs,hq,q⟩⟩:=q1
 ·subst e
  cases r1 with
  | cons r rr =>
   cases rr
   cases r
   obtain ⟨its,rv,p,hz⟩:=I1.list hq
   have hlen:=rv.length
   refine call_reversed_list p.isList (wpAny_pyIter_revIter ⟨_,Heap.get?_push_size _ rfl,rfl,rfl⟩ ?_)
   have I2:Inv X pins σ H1 { s1 with heap:=s1.heap.push (revObj b ((its.toArray.size:Int) - 1)) }:=I1.kept (t':=s1.toks) fun b o e=>Heap.get?_push_of_some _ e
   refine ⟨s1.heap.objs.size,[s1.heap.objs.size],_,_,H1,rfl,I2,aBt b _ xs,⟨Nat.zero_le _,_,Heap.get?_push_size _ rfl,rfl,?_⟩,fun c hb=>?_,q⟩
   ·show Data.fields #[.ref b,rawInt ((its.toArray.size:Int) - 1)]=_
    rw [List.size_toArray,<- hlen]
    simp
   ·have e:c=s1.heap.objs.size:=by simpa using hb
    subst e
    exact I1.fpOk (Nat.le_refl _) (I1.hok.fresh (Nat.le_refl _))
 ·subst e
  cases r1 with
  | cons r rr =>
   cases rr
   cases r
   obtain ⟨its,rv,p,hz⟩:=I1.tuple hq
   have hlen:=rv.length
   refine RT.call_rev_tuple p (by rw [List.size_toArray,<- hlen]; have:sizeLine < 2 ^ 63:=by decide
                                  omega) (RT.iter_self (i:=(its.toArray.size:Int) - 1) ⟨_,Heap.get?_push_size _ rfl,rfl,rfl⟩ ?_)
   have I2:Inv X pins σ H1 { s1 with heap:=s1.heap.push (RT.rvObj b ((its.toArray.size:Int) - 1)),toks:=s1.toks+1+1 }:=I1.kept (t':=s1.toks+1+1) fun b o e=>Heap.get?_push_of_some _ e
   refine ⟨s1.heap.objs.size,[s1.heap.objs.size],_,_,H1,rfl,I2,aAd b _ xs,⟨Nat.zero_le _,_,Heap.get?_push_size _ rfl,rfl,?_⟩,fun c hb=>?_,q⟩
   ·show Data.fields #[.ref b,rawInt ((its.toArray.size:Int) - 1)]=_
    rw [List.size_toArray,<- hlen]
    simp
   ·have e:c=s1.heap.objs.size:=by simpa using hb
    subst e
    exact I1.fpOk (Nat.le_refl _) (I1.hok.fresh (Nat.le_refl _))
end L2
namespace EV
open PySem PySem.Spec PyProof.Rows L2
noncomputable def iRv (f:FE):FI:=fun L M=>(f L M).bind fun w M1=>match w with
 | .d (.tup xs)=>.ok ⟨xs.reverse,none⟩ M1
 | .d (.lst xs)=>.ok ⟨xs.reverse,none⟩ M1
 | .d (.fz xs)=>.ok ⟨xs.reverse,none⟩ M1
 | _=>.bad
section
variable {X:Cx} {K:PySem.W.Frag} {Z:Zt} {μ:List Addr} {H:Hp} {M:Mm} {a:Expr} {pos:Pos} {f:FE} {tg:Expr}
theorem yP {ds:List D} {vs:List V} {i:Nat} {d:D} (r:Rps K μ H ds vs) (h:ds.reverse[i]?=some d):∃ v,vs[vs.length - 1 - i]?=some v/\i < vs.length/\Rp K μ H d v:=by
 obtain ⟨v,q1,q2⟩:=r.reverse.get h
 have hi:i < vs.length:=by
  have:=(List.getElem?_eq_some_iff.mp q1).1
  simpa using this
 rw [List.getElem?_reverse hi] at q1
 exact ⟨v,q1,hi,q2⟩
theorem aCe {p:Addr} {ds:List D} {vs:List V} (S:List Addr->Hp->Prop) (s0:S μ H) (sx:∀ μ1 H1 μ2 H2,Lsts μ1 H1->S μ1 H1->Ext μ1 H1 μ2 H2->S μ2 H2)
  (rd:∀ μ1 H1,S μ1 H1->SqL K H1 p vs/\Rps K μ1 H1 ds vs):ItOk K μ H ⟨ds.reverse,none⟩ (Itv K p vs):=by
 refine ⟨S,s0,sx,fun μ1 H1 M1 i hr hS hc=>?_⟩
 obtain ⟨h1,r1⟩:=rd μ1 H1 hS
 refine ⟨fun d hd=>?_,fun hl=>?_⟩
 ·obtain ⟨v,q1,hi,q2⟩:=yP r1 hd
  refine ⟨⟨h1,hi⟩,fun x H2 y=>?_⟩
  obtain ⟨rfl,y⟩:=y
  rw [q1] at y
  cases y
  exact ⟨.refl,hr,q2⟩
 ·show vs.length<=i
  rw [<- r1.length]
  simpa using hl
theorem aJn {p:Addr} {ds:List D} {vs:List V} (S:List Addr->Hp->Prop) (s0:S μ H) (sx:∀ μ1 H1 μ2 H2,Lsts μ1 H1->S μ1 H1->Ext μ1 H1 μ2 H2->S μ2 H2)
  (rd:∀ μ1 H1,S μ1 H1->SqT K H1 p vs/\Rps K μ1 H1 ds vs):ItOk K μ H ⟨ds.reverse,none⟩ (Itw K p vs):=by
 refine ⟨S,s0,sx,fun μ1 H1 M1 i hr hS hc=>?_⟩
 obtain ⟨h1,r1⟩:=rd μ1 H1 hS
 refine ⟨fun d hd=>?_,fun hl=>?_⟩
 ·obtain ⟨v,q1,hi,q2⟩:=yP r1 hd
  refine ⟨⟨h1,hi⟩,fun x H2 y=>?_⟩
  obtain ⟨rfl,y⟩:=y
  rw [q1] at y
  cases y
  exact ⟨.refl,hr,q2⟩
 ·show vs.length<=i
  rw [<- r1.length]
  simpa using hl
theorem aCm {p:Pos} (hm:X.mg "reversed"=none) (ha:Ev X K Z a f) (hg:Gl X "reversed":=by rfl) (hs:starEach [a] X.env=[(false,eval a X.env)]:=by rfl):Ei X K Z tg (.Call (.Name "reversed" p) [a] [] pos) (iRv f):=by
 have h':=aIt (tg:=tg) (p:=p) (pos:=pos) hg hm (fL ha.h iJ hs) hs
 rw [ha.k] at h'
 refine ⟨ha.k,cqI h' ?_⟩
 rintro σ H R ⟨μ,M,L,hr,lr,p⟩
 refine ⟨μ,M,L,hr,lr,p.bind.imp fun μ1 H1 M1 w e1 hr1 _ p1 v rw'=>?_⟩
 cases w with
 | ref i=>exact p1.elim
 | d x=>cases x with
  | tup xs =>
   simp only [Rw,Rp] at rw'
   obtain ⟨p,vs,rfl,h1,r1⟩:=rw'
   refine ⟨p,rfl,.inr ⟨vs,SqT.of h1,p1 μ1 H1 .refl hr1 _ ?_⟩⟩
   refine aJn (fun μ2 H2=>H2 p=some (.tup vs)/\Rps K μ2 H2 xs vs) ⟨h1,r1⟩ (fun μ1 H1 μ2 H2 l z e=>⟨e.keep _ _ (fun q=>by obtain ⟨us,q⟩:=l p q; rw [z.1] at q; cases q) z.1,Rps.ext l e _ _ z.2⟩) fun μ1 H1 z=>⟨SqT.of z.1,z.2⟩
  | lst xs =>
   simp only [Rw,Rp] at rw'
   obtain ⟨p,vs,rfl,h1,hn,r1⟩:=rw'
   refine ⟨p,rfl,.inl ⟨vs,SqL.of h1,p1 μ1 H1 .refl hr1 _ ?_⟩⟩
   refine aCe (fun μ2 H2=>H2 p=some (.lst vs)/\p∉μ2/\Rps K μ2 H2 xs vs) ⟨h1,hn,r1⟩ (fun μ1 H1 μ2 H2 l z e=>⟨e.keep _ _ z.2.1 z.1,fun q=>(e.new p q).elim z.2.1 (fun q=>by rw [z.1] at q; cases q),Rps.ext l e _ _ z.2.2⟩) fun μ1 H1 z=>⟨SqL.of z.1,z.2.2⟩
  | fz xs =>
   simp only [Rw,Rp] at rw'
   obtain ⟨p,vs,rfl,h1,r1⟩:=rw'
   refine ⟨p,rfl,.inl ⟨vs,h1.sq,p1 μ1 H1 .refl hr1 _ ?_⟩⟩
   refine aCe (fun μ2 H2=>FzL K H2 p vs/\Rps K μ2 H2 xs vs) ⟨h1,r1⟩ (fun μ1 H1 μ2 H2 l z e=>⟨z.1.ext l e,Rps.ext l e _ _ z.2⟩) fun μ1 H1 z=>⟨z.1.sq,z.2⟩
  | _=>exact p1.elim
end
end EV
namespace EV
open PySem PySem.Spec PyProof.Rows L2
section
variable {X:Cx} {K:PySem.W.Frag} {Z:Zt} {μ:List Addr} {H:Hp} {M:Mm} {a:Expr} {pos pos2:Pos} {f:FE}
noncomputable def rInts (n:Nat):List Int:=(List.range n).map fun k=>(0:Int)+(k:Nat)
theorem sD {n:Nat}:rngD 0 n=(rInts n).map D.int:=by unfold rngD rInts; rw [List.map_map]; rfl
noncomputable def rLR:List V->Hp->VK->Prop:=fun xs H Q=>∃ p j,xs=[.ref p]/\H p=some (.rng 0 j)/\0<=j/\j<=16777216/\∀ l,H l=none->Q (.ref l) (upd H l (.lst ((rInts j.toNat).map V.int)))
theorem kZ {n:Nat} {acc:Array Value} (h:ItemsOf (fun i v=>∃ t,v=.int ((0:Int)+i*1) t) acc n):Vals ((rInts n).map V.int) acc.toList:=by
 have key:∀ (l:List Value) (k:Nat),(∀ j v,l[j]?=some v->∃ t,v=Value.int ((0:Int)+((k+j:Nat):Int)) t)->Vals ((List.range' k l.length).map fun i=>V.int ((0:Int)+(i:Nat))) l:=by
  intro l
  induction l with
  | nil=>intro k _; exact .nil
  | cons x r ih =>
   intro k hk
   rw [List.length_cons,List.range'_succ,List.map_cons]
   refine .cons ?_ (ih (k+1) fun j v e=>?_)
   ·obtain ⟨t,e⟩:=hk 0 x rfl
    exact ⟨t,by simpa using e⟩
   ·obtain ⟨t,e'⟩:=hk (j+1) v (by simpa using e)
    exact ⟨t,by rw [e']; congr 2; omega⟩
 have hl:acc.toList.length=n:=h.1
 have:=key acc.toList 0 fun j v e=>by
  obtain ⟨t,e'⟩:=h.2 j v (by simpa using e)
  exact ⟨t,by rw [e']; first | rfl | (congr 1 <;> omega)⟩
 rw [hl] at this
 unfold rInts
 rw [List.map_map,List.range_eq_range']
 exact this
theorem rF (hc:X.calm=true):CallR X (.type "list") rLR:=by
 intro pins s σ H xs us Q I r h
 obtain ⟨p,j,rfl,hq,h0,h1,q⟩:=h
 obtain ⟨u,rfl,rx⟩:=vals1 r
 cases rx
 obtain ⟨t,u,v,ho⟩:=(show ObjOk X.prog X.w H s.heap p (.rng 0 j) from I.hok p _ hq)
 refine call_list_range (n:=j.toNat) (I.ok.hd hc) ho (small_one (by omega) (by omega) (by omega) (by omega)) (by rw [rangeSize_one]; split <;> omega) (by omega) fun h' tk acc' c' kp hS hacc=>?_
 refine ⟨.ref s.heap.objs.size,_,I.laid (t':=tk) kp (Nat.le_refl _) (show ObjOk X.prog X.w _ h' _ (.lst ((rInts j.toNat).map V.int)) from ⟨by rw [sizeLine_eq]; simp [rInts]; omega,acc'.toList,c',kZ hacc,by simpa using hS⟩),rfl,q _ (I.hok.fresh (Nat.le_refl _))⟩
noncomputable def cLRR (w:W) (M:Mm):Oc W:=match w with
 | .d (.int j)=>if 0<=j/\j<=16777216 then .ok (.ref M.length) (M++[rngD 0 j.toNat]) else .bad
 | _=>.bad
noncomputable abbrev eListRange1R (f:FE):FE:=e1 cLRR f
theorem uR:bootBuiltins "range"=some (.type "range"):=by first | rfl | kernel_rfl
theorem wH:bootBuiltins "list"=some (.type "list"):=by first | rfl | kernel_rfl
theorem aEg {t:TE} {p p2:Pos} (hc:X.calm=true) (hm:X.mg "list"=none) (hm2:X.mg "range"=none) (ha:PE X a t) (hg:Gl X "list") (hg2:Gl X "range") (hs:starEach [a] X.env=[(false,eval a X.env)])
  (hs2:starEach [.Call (.Name "range" p2) [a] [] pos2] X.env=[(false,eval (.Call (.Name "range" p2) [a] [] pos2) X.env)]) :
  PE X (.Call (.Name "list" p) [.Call (.Name "range" p2) [a] [] pos2] [] pos) (fun σ H Q=>t σ H fun v H1=>∃ j,[v]=[V.int j]/\∀ p,H1 p=none->rLR [.ref p] (upd H1 p (.rng 0 j)) Q) :=
 oA (rF hc) hg hm wH (fL (oA vP hg2 hm2 uR (fL ha iJ hs) (by decide) (by decide) hs rfl) iJ hs2) (by decide) (by decide) hs2 rfl
theorem aCi {Q:VK} {j:Int} {o:Oc W} (hr:HR K μ H M) (p:Pst K Z μ H o (Wk K Q)) (h0:0<=j) (h1:j<=16777216) (ho:∀ (H':Hp),HR K μ H' M->Pst K Z μ H' o (Wk K Q)->∀ l,H' l=none->Q (.ref l) (upd H' l (.lst ((rInts j.toNat).map V.int)))) :
  ∃ j',[V.int j]=[V.int j']/\∀ p,H p=none->rLR [.ref p] (upd H p (.rng 0 j')) Q :=
 ⟨j,rfl,fun q hq=>⟨q,j,rfl,cB,h0,h1,ho _ (hr.lay hq) (Pst.mono (jR hr hq) p)⟩⟩
theorem pS {p p2:Pos} (hc:X.calm=true) (hm:X.mg "list"=none) (hm2:X.mg "range"=none) (ha:Ev X K Z a f) (hg:Gl X "list":=by rfl) (hg2:Gl X "range":=by rfl) (hs:starEach [a] X.env=[(false,eval a X.env)]:=by rfl)
  (hs2:starEach [.Call (.Name "range" p2) [a] [] pos2] X.env=[(false,eval (.Call (.Name "range" p2) [a] [] pos2) X.env)]:=by rfl):Ev X K Z (.Call (.Name "list" p) [.Call (.Name "range" p2) [a] [] pos2] [] pos) (eListRange1R f):=by
 refine ⟨ha.k,cqE (aEg hc hm hm2 ha.h hg hg2 hs hs2) ?_⟩
 rintro σ H Q ⟨μ,M,L,hr,lr,p⟩
 refine ⟨μ,M,L,hr,lr,p.bind.imp fun μ1 H1 M1 w e1 hr1 _ p1 v rw'=>?_⟩
 cases w with
 | ref i=>exact p1.elim
 | d x=>cases x with
  | int j =>
   simp only [cLRR] at p1
   split at p1
   ·rename_i hz
    simp only [Rw,Rp] at rw'
    subst rw'
    exact aCi hr1 p1 hz.1 hz.2 fun H' hr' p'=>tJ hr' Rps.ints (by rw [sD] at p'; exact p')
   ·exact p1.elim
  | _=>exact p1.elim
end
end EV
namespace EV
open PySem L2
@[irreducible] noncomputable def Okx {α:Type} (EX:D->Mm->Prop) (o:Oc α) (Q:α->Mm->Prop):Prop:=match o with
 | .ok a M=>Q a M
 | .ex x M=>EX x M
 | .bad=>False
noncomputable abbrev NX:D->Mm->Prop:=fun _ _=>False
noncomputable abbrev Ok {α:Type} (o:Oc α) (Q:α->Mm->Prop):Prop:=Okx NX o Q
section
variable {α β:Type} {EX EX':D->Mm->Prop} {o o':Oc α} {Q Q':α->Mm->Prop} {a:α} {M:Mm}
theorem iW:Okx EX o Q ↔ (∃ a M,o=.ok a M/\Q a M)\/∃ x M,o=.ex x M/\EX x M:=by
 unfold Okx
 cases o with
 | ok a M=>exact ⟨fun h=>.inl ⟨a,M,rfl,h⟩,fun h=>by rcases h with ⟨_,_,e,q⟩ | ⟨_,_,e,q⟩ <;> cases e; exact q⟩
 | ex x M=>exact ⟨fun h=>.inr ⟨x,M,rfl,h⟩,fun h=>by rcases h with ⟨_,_,e,q⟩ | ⟨_,_,e,q⟩ <;> cases e; exact q⟩
 | bad=>exact ⟨fun h=>h.elim,fun h=>by rcases h with ⟨_,_,e,q⟩ | ⟨_,_,e,q⟩ <;> cases e⟩
theorem jB:Ok o Q ↔ ∃ a M,o=.ok a M/\Q a M:=by
 refine Iff.trans (iW (EX:=NX)) ⟨fun h=>?_,.inl⟩
 rcases h with h | ⟨_,_,_,q⟩
 ·exact h
 ·exact q.elim
theorem aY (q:Q a M):Okx EX (.ok a M) Q:=iW.mpr (.inl ⟨a,M,rfl,q⟩)
theorem kM {x:D} (q:EX x M):Okx EX (.ex x M:Oc α) Q:=iW.mpr (.inr ⟨x,M,rfl,q⟩)
theorem bA {k:α->Mm->Oc β} {Q:β->Mm->Prop} (h:Okx EX o fun a M=>Okx EX (k a M) Q):Okx EX (o.bind k) Q:=by
 rcases iW.mp h with ⟨a,M,rfl,q⟩ | ⟨x,M,rfl,q⟩
 ·exact q
 ·exact kM q
theorem Okx.mono (h:Okx EX o Q) (f:∀ a M,Q a M->Q' a M):Okx EX o Q':=by
 rcases iW.mp h with ⟨a,M,rfl,q⟩ | ⟨x,M,rfl,q⟩
 ·exact aY (f _ _ q)
 ·exact kM q
theorem Okx.monoX (h:Okx EX o Q) (f:∀ a M,Q a M->Q' a M) (g:∀ x M,EX x M->EX' x M):Okx EX' o Q':=by
 rcases iW.mp h with ⟨a,M,rfl,q⟩ | ⟨x,M,rfl,q⟩
 ·exact aY (f _ _ q)
 ·exact kM (g _ _ q)
theorem Ok.mono (h:Ok o Q) (f:∀ a M,Q a M->Q' a M):Okx EX o Q':=Okx.monoX h f fun _ _ z=>z.elim
theorem Okx.eq (h:Okx EX o' Q) (e:o=o'):Okx EX o Q:=e▸h
theorem Ok.eq (h:Ok o' Q) (e:o=o'):Ok o Q:=e▸h
end
section
variable {EX:D->Mm->Prop}
theorem gJ {α:Type} {c:Bool} {a b:Oc α} {Q:α->Mm->Prop} (h1:c=true->Okx EX a Q) (h2:c=false->Okx EX b Q):Okx EX (if c=true then a else b) Q:=by cases c <;> simp_all
theorem iT {α:Type} {p:Prop} [Decidable p] {a b:Oc α} {Q:α->Mm->Prop} (h1:p->Okx EX a Q) (h2:¬ p->Okx EX b Q):Okx EX (if decide p=true then a else b) Q:=by by_cases h:p <;> simp_all
theorem aBx {α:Type} {c:Bool} {a b:Oc α} {Q:α->Mm->Prop} (h:c=true) (h1:Okx EX a Q):Okx EX (if c=true then a else b) Q:=by rw [if_pos h]; exact h1
theorem jC {α:Type} {c:Bool} {a b:Oc α} {Q:α->Mm->Prop} (h:c=false) (h1:Okx EX b Q):Okx EX (if c=true then a else b) Q:=by rw [if_neg (by simp [h])]; exact h1
section
variable {L:Lc} {M:Mm} {i j:Nat} {w x y:W} {Q:W->Mm->Prop} {QA:List W->Mm->Prop} {QS:Out->Mm->Prop} {QT:Bool->Mm->Prop} {QG:Lc->Mm->Prop} {f g h:FE} {F G:FS} {t u:FT} {fs:FA} {gg:FG}
theorem aLk (h:L[i]?=some (some w)) (q:Q w M):Okx EX (eV i L M) Q:=by unfold eV; rw [h]; exact aY q
theorem aLh {d:D} (q:Q (.d d) M):Okx EX (eC d L M) Q:=aY q
theorem aFn {ns:List Int} (q:Q (.d (.lst (ns.map D.int))) M):Okx EX (eInts ns L M) Q:=aY q
theorem aKt {p:W->Mm->Oc W} (h:Okx EX (f L M) fun x M1=>Okx EX (p x M1) Q):Okx EX (e1 p f L M) Q:=bA h
theorem aGc {p:W->W->Mm->Oc W} (h:Okx EX (f L M) fun x M1=>Okx EX (g L M1) fun y M2=>Okx EX (p x y M2) Q):Okx EX (e2 p f g L M) Q:=bA (h.mono fun _ _ z=>bA z)
theorem aLj {p:List W->Mm->Oc W} (h:Okx EX (fs L M) fun ws M1=>Okx EX (p ws M1) Q):Okx EX (eA p fs L M) Q:=bA h
theorem aLe (q:QA [] M):Okx EX (aNil L M) QA:=aY q
theorem aKw (h:Okx EX (f L M) fun w M1=>Okx EX (fs L M1) fun ws M2=>QA (w::ws) M2):Okx EX (aCons f fs L M) QA:=bA (h.mono fun _ _ z=>bA (z.mono fun _ _ z=>aY z))
theorem aKv (h:Okx EX (t L M) fun c M1=>Okx EX (if c=true then f L M1 else g L M1) Q):Okx EX (eIf t f g L M) Q:=bA h
theorem aGe (h:Okx EX (f L M) fun w M1=>∃ b,w=.d (.bl b)/\QT b M1):Okx EX (EV.tB f L M) QT:=bA (h.mono fun w M1 ⟨b,e,q⟩=>by subst e; exact aY q)
theorem aJy (h:Okx EX (f L M) fun w M1=>∃ b,tru M1 w=some b/\QT b M1):Okx EX (tV f L M) QT:=bA (h.mono fun w M1 ⟨b,e,q⟩=>by rw [e]; exact aY q)
theorem aEv (h:Okx EX (t L M) fun b M1=>QT (!b) M1):Okx EX (EV.tNot t L M) QT:=bA (h.mono fun _ _ z=>aY z)
theorem aFy (h:Okx EX (t L M) fun b M1=>(b=true->Okx EX (u L M1) QT)/\(b=false->QT false M1)):Okx EX (EV.tAnd t u L M) QT:=bA (h.mono fun b M1 ⟨h1,h2⟩=>by cases b with | true=>exact h1 rfl | false=>exact aY (h2 rfl))
theorem aIe (h:Okx EX (t L M) fun b M1=>(b=true->QT true M1)/\(b=false->Okx EX (u L M1) QT)):Okx EX (EV.tOr t u L M) QT:=bA (h.mono fun b M1 ⟨h1,h2⟩=>by cases b with | true=>exact aY (h1 rfl) | false=>exact h2 rfl)
theorem aEp (q:QT true M):Okx EX (EV.tYes L M) QT:=aY q
theorem nW (q:QS (.nx L) M):Okx EX (sNil L M) QS:=aY q
theorem cZ (h:Okx EX (F L M) fun o M1=>match o with
 | .nx L1=>Okx EX (G L1 M1) QS
 | .bk L1=>QS (.bk L1) M1
 | .ct L1=>QS (.ct L1) M1
 | .rt w=>QS (.rt w) M1):Okx EX (sSeq F G L M) QS:=bA (h.mono fun o M1 z=>by cases o with | nx L1=>exact z | bk L1=>exact aY z | ct L1=>exact aY z | rt w=>exact aY z)
theorem aKi (h:Okx EX (f L M) fun _ M1=>QS (.nx L) M1):Okx EX (sEx f L M) QS:=bA (h.mono fun _ _ z=>aY z)
theorem aJx (h:Okx EX (f L M) fun w M1=>QS (.rt w) M1):Okx EX (sRt f L M) QS:=bA (h.mono fun _ _ z=>aY z)
theorem fB (h:Okx EX (t L M) fun b M1=>Okx EX (if b=true then F L M1 else G L M1) QS):Okx EX (sIf t F G L M) QS:=bA h
theorem lU (h:Okx EX (f L M) fun w M1=>Okx EX (gg w L M1) fun L1 M2=>QS (.nx L1) M2):Okx EX (sAs f gg L M) QS:=bA (h.mono fun _ _ z=>bA (z.mono fun _ _ z=>aY z))
theorem aFj (h:Okx EX (fs L M) fun ws M1=>∃ v w,ws=[v,w]/\QS (.nx ((L.set i (some v)).set j (some w))) M1):Okx EX (sPar i j fs L M) QS:=bA (h.mono fun ws M1 ⟨v,w,e,q⟩=>by subst e; exact aY q)
theorem yQ {p:W->W->Mm->Oc W} (h:L[i]?=some (some x)) (z:Okx EX (f L M) fun y M1=>Okx EX (p x y M1) fun z M2=>QS (.nx (L.set i (some z))) M2):Okx EX (sAug p i f L M) QS:=by
 unfold sAug eV; rw [h]; exact bA (aY (bA (z.mono fun _ _ z=>bA (z.mono fun _ _ z=>aY z))))
theorem jE (q:QG (L.set i (some w)) M):Okx EX (gN i w L M) QG:=aY q
theorem aKo {n:Nat} {gs:FGs} {xs:List D} (hn:xs.length=n) (h:Okx EX (gs xs L M) QG):Okx EX (gT n gs (.d (.tup xs)) L M) QG:=by unfold gT; simp only; rw [if_pos hn]; exact h
theorem aHu (q:QG L M):Okx EX (gsNil [] L M) QG:=aY q
theorem aIu {gs:FGs} {d:D} {ds:List D} (h:Okx EX (gg (.d d) L M) fun L1 M1=>Okx EX (gs ds L1 M1) QG):Okx EX (gsCons gg gs (d::ds) L M) QG:=bA h
theorem aKz {d:D} (h:Okx EX (f L M) fun o M1=>Okx EX (g L M1) fun i M2=>∃ k j xs t,o=.ref k/\i=.d (.int j)/\M2[k]?=some xs/\ixN xs.length j=some t/\QG L (M2.set k (xs.set t d))):Okx EX (gS f g (.d d) L M) QG:=by
 refine bA (h.mono fun o M1 z=>bA (z.mono fun i M2 ⟨k,j,xs,t,e1,e2,e3,e4,q⟩=>?_))
 subst e1 e2
 simp only [e3,e4]
 exact aY q
theorem aJu {c:Int->Int->Bool} {gg:Int->Int->D} {i j:Int} (hc:c i j=true) (q:Q (.d (gg i j)) M):Okx EX (pI c gg (.d (.int i)) (.d (.int j)) M) Q:=by unfold pI; simp only; rw [if_pos hc]; exact aY q
theorem aIr {i j:Int} (q:Q (.d (.int (i+j))) M):Okx EX (pAdd (.d (.int i)) (.d (.int j)) M) Q:=aY q
theorem bE {xs ys:List D} (hz:xs.length+ys.length<=16777216) (q:Q (.d (.tup (xs++ys))) M):Okx EX (pAdd (.d (.tup xs)) (.d (.tup ys)) M) Q:=by unfold pAdd; simp only; rw [if_pos hz]; exact aY q
theorem tE {i j:Int} (hz:mulOk i j=true) (q:Q (.d (.int (i*j))) M):Okx EX (pMulA (.d (.int i)) (.d (.int j)) M) Q:=by unfold pMulA pMul; simp only; rw [if_pos hz]; exact aY q
theorem aJb {i:Int} (q:Q (.d (.int (-i))) M):Okx EX (pNeg (.d (.int i)) M) Q:=aY q
theorem yR {a b:D} (h1:wd M x=some a) (h2:wd M y=some b) (hd:dep a<=100/\dep b<=100) (q:Q (.d (.bl (eqD a b))) M):Okx EX (pEq x y M) Q:=by unfold pEq; rw [h1,h2]; simp only; rw [if_pos hd]; exact aY q
theorem rN {a b:D} (h1:wd M x=some a) (h2:wd M y=some b) (hd:dep a<=100/\dep b<=100) (q:Q (.d (.bl (!eqD a b))) M):Okx EX (pNe x y M) Q:=by unfold pNe; rw [h1,h2]; simp only; rw [if_pos hd]; exact aY q
theorem aJk {i j:Int} (q:Q (.d (.bl (decide (i=j)))) M):Okx EX (pEq (.d (.int i)) (.d (.int j)) M) Q:=yR rfl rfl (by simp [dep]) (by simp only [eqD]; exact q)
theorem aHm {i j:Int} (q:Q (.d (.bl (!decide (i=j)))) M):Okx EX (pNe (.d (.int i)) (.d (.int j)) M) Q:=rN rfl rfl (by simp [dep]) (by simp only [eqD]; exact q)
theorem aGt {a b:Str} (q:Q (.d (.bl (a==b))) M):Okx EX (pEq (.d (.str a)) (.d (.str b)) M) Q:=yR rfl rfl (by simp [dep]) (by simpa only [eqD] using q)
theorem aGv {a b:Str} (q:Q (.d (.bl (!(a==b)))) M):Okx EX (pNe (.d (.str a)) (.d (.str b)) M) Q:=rN rfl rfl (by simp [dep]) (by simpa only [eqD] using q)
theorem aDa (q:Q (.d (.bl (!isN x))) M):Okx EX (pIsNot x (.d .non) M) Q:=aY q
theorem vI {neg:Bool} {d:D} {xs:List D} (h:sv M y=some xs) (hf:flatD d=true) (hx:xs.all flatD=true) (q:Q (.d (.bl (if neg then !(xs.any fun y=>eqD y d) else xs.any fun y=>eqD y d))) M):Okx EX (pInG neg (.d d) y M) Q:=by
 unfold pInG; rw [h]; simp only; rw [if_pos ⟨hf,hx⟩]; exact aY q
theorem iR {xs:List D} {k:Int} {d:D} (h:atI xs k=some d) (q:Q (.d d) M):Okx EX (pIx (.d (.tup xs)) (.d (.int k)) M) Q:=by unfold pIx; simp only [sv,h]; exact aY q
theorem aAw {xs:List D} {k:Int} {d:D} (hs:∀ z,x≠.d (.str z)) (h1:sv M x=some xs) (h:atI xs k=some d) (q:Q (.d d) M):Okx EX (pIx x (.d (.int k)) M) Q:=by
 have:pIx x (.d (.int k)) M=.ok (.d d) M:=by
  cases x with
  | ref i=>simp only [pIx,h1,h]
  | d a=>cases a <;> first | (exact (hs _ rfl).elim) | (simp only [pIx,h1,h])
 rw [this]; exact aY q
theorem eR {xs:List D} {k:Int} {d:D} (h:atI xs k=some d) (q:Q (.d d) M):Okx EX (pIx (.d (.lst xs)) (.d (.int k)) M) Q:=aAw (by simp) rfl h q
theorem xM {xs:List D} {k:Int} {d:D} (h:atI xs k=some d) (q:Q (.d d) M):Okx EX (pIx (.d (.fz xs)) (.d (.int k)) M) Q:=aAw (by simp) rfl h q
theorem nF {b:Nat} {xs:List D} {k:Int} {d:D} (h1:M[b]?=some xs) (h:atI xs k=some d) (q:Q (.d d) M):Okx EX (pIx (.ref b) (.d (.int k)) M) Q:=aAw (by simp) h1 h q
theorem aJr {ws:List W} {ds:List D} (h:allD ws=some ds) (hz:ds.length<=16777216) (q:Q (.d (.tup ds)) M):Okx EX (mkT ws M) Q:=by unfold mkT; rw [h]; simp only; rw [if_pos hz]; exact aY q
theorem aJg {ws:List W} {ds:List D} (h:allD ws=some ds) (hz:ds.length<=16777216) (q:Q (.d (.lst ds)) M):Okx EX (mkL ws M) Q:=by unfold mkL; rw [h]; simp only; rw [if_pos hz]; exact aY q
theorem aHa {ws:List W} {ds:List D} (h:allD ws=some ds) (hz:ds.length<=16777216) (q:Q (.ref M.length) (M++[ds])):Okx EX (mkR ws M) Q:=by unfold mkR; rw [h]; simp only; rw [if_pos hz]; exact aY q
theorem aIv {xs:List D} (hs:∀ z,x≠.d (.str z)) (h:sv M x=some xs) (q:Q (.d (.int xs.length)) M):Okx EX (cLen [x] M) Q:=by
 have:cLen [x] M=.ok (.d (.int xs.length)) M:=by
  cases x with
  | ref i=>simp only [cLen,h]
  | d a=>cases a <;> first | (exact (hs _ rfl).elim) | (simp only [cLen,h])
 rw [this]; exact aY q
theorem aEo {xs:List D} (q:Q (.d (.int xs.length)) M):Okx EX (cLen [.d (.tup xs)] M) Q:=aY q
theorem aEb {xs:List D} (q:Q (.d (.int xs.length)) M):Okx EX (cLen [.d (.lst xs)] M) Q:=aY q
theorem aFo {xs:List D} (q:Q (.d (.int xs.length)) M):Okx EX (cLen [.d (.fz xs)] M) Q:=aY q
theorem xY {b:Nat} {xs:List D} (h:M[b]?=some xs) (q:Q (.d (.int xs.length)) M):Okx EX (cLen [.ref b] M) Q:=aIv (by simp) h q
theorem aFt {b:Bool} (q:Q (.d (.int (if b=true then 1 else 0))) M):Okx EX (cInt [.d (.bl b)] M) Q:=aY q
theorem aHg {k l:Int} (q:Q (.d (.int (if l > k then l else k))) M):Okx EX (cMax2 [.d (.int k),.d (.int l)] M) Q:=aY q
theorem aJt {k l:Int} (q:Q (.d (.int (if l < k then l else k))) M):Okx EX (cMin2 [.d (.int k),.d (.int l)] M) Q:=aY q
theorem jL {xs:List D} (h:sv M x=some xs) (q:Q (.d (.tup xs)) M):Okx EX (cTup [x] M) Q:=by unfold cTup; simp only [h]; exact aY q
theorem aDx {xs:List D} (h:sv M x=some xs) (q:Q (.ref M.length) (M++[xs])):Okx EX (cListR [x] M) Q:=by unfold cListR; simp only [h]; exact aY q
theorem aKh {p:W->W->Mm->Oc W} (h:Okx EX (f L M) fun x M1=>∃ k,x=.ref k/\Okx EX (g L M1) fun y M2=>Okx EX (p (.ref k) y M2) Q):Okx EX (eM1 p f g L M) Q:=bA (h.mono fun x M1 ⟨k,e,z⟩=>by subst e; exact bA z)
theorem rV {k:Nat} {d:D} {xs:List D} (h:M[k]?=some xs) (hz:xs.length < 16777216) (q:Q (.d .non) (M.set k (xs++[d]))):Okx EX (pAppend (.ref k) (.d d) M) Q:=by unfold pAppend; simp only [h]; rw [if_pos hz]; exact aY q
theorem aKe {fl fh:FO} (z:Okx EX (f L M) fun x M1=>Okx EX (fl L M1) fun lo M2=>Okx EX (fh L M2) fun hi M3=>Okx EX (pSl x lo hi M3) Q):Okx EX (eSl f fl fh L M) Q:=bA (z.mono fun _ _ z=>bA (z.mono fun _ _ z=>bA z))
theorem aGj {QO:Option Int->Mm->Prop} (q:QO none M):Okx EX (oNo L M) QO:=aY q
theorem aGl {QO:Option Int->Mm->Prop} (h:Okx EX (f L M) fun w M1=>∃ k,w=.d (.int k)/\QO (some k) M1):Okx EX (oAt f L M) QO:=bA (h.mono fun w M1 ⟨k,e,q⟩=>by subst e; exact aY q)
theorem aJc {xs:List D} {lo hi:Option Int} (q:Q (.d (.tup (cut xs lo hi))) M):Okx EX (pSl (.d (.tup xs)) lo hi M) Q:=aY q
theorem aGk {fi:FI} {B:FS} (h:Okx EX (fi L M) fun s M1=>Okx EX (forD s gg B s.ds L M1) QS):Okx EX (sFor fi gg B L M) QS:=bA h
theorem aKm {s:Src} {QI:Src->Mm->Prop} (h:Okx EX (f L M) fun w M1=>∃ s,srcOf M1 w=some s/\QI s M1):Okx EX (iE f L M) QI:=bA (h.mono fun w M1 ⟨s,e,q⟩=>by rw [e]; exact aY q)
theorem aHb {QI:Src->Mm->Prop} (h:Okx EX (f L M) fun w M1=>∃ j,w=.d (.int j)/\in62 j=true/\QI ⟨rngD 0 j.toNat,none⟩ M1):Okx EX (iR1 f L M) QI:=bA (h.mono fun w M1 ⟨j,e,hz,q⟩=>by subst e; simp only; rw [if_pos hz]; exact aY q)
theorem dB {s:Src} {B:FS} (I:Nat->Lc->Mm->Prop) (h0:I 0 L M) (hc:∀ i L M,i<=s.ds.length->I i L M->Chk s M)
  (hs:∀ i d L M,s.ds[i]?=some d->I i L M->Okx EX (gg (.d d) L M) fun L1 M1=>Okx EX (B L1 M1) fun o M2=>match o with
   | .nx L2=>I (i+1) L2 M2
   | .ct L2=>I (i+1) L2 M2
   | .bk L2=>QS (.nx L2) M2
   | .rt w=>QS (.rt w) M2) (hd:∀ L M,I s.ds.length L M->QS (.nx L) M):Okx EX (forD s gg B s.ds L M) QS:=by
 have key:∀ k i L M,s.ds.length - i=k->i<=s.ds.length->I i L M->Okx EX (forD s gg B (s.ds.drop i) L M) QS:=by
  intro k
  induction k with
  | zero =>
   intro i L M e hi hI
   have:i=s.ds.length:=by omega
   subst this
   rw [List.drop_eq_nil_of_le (Nat.le_refl _)]
   unfold forD
   rw [if_pos (hc _ L M (Nat.le_refl _) hI)]
   exact aY (hd L M hI)
  | succ k ih =>
   intro i L M e hi hI
   have hlt:i < s.ds.length:=by omega
   rw [List.drop_eq_getElem_cons hlt]
   unfold forD
   rw [if_pos (hc _ L M hi hI)]
   refine bA ((hs i s.ds[i] L M (by simp [hlt]) hI).mono fun L1 M1 z=>bA (z.mono fun o M2 z=>?_))
   cases o with
   | nx L2=>exact ih (i+1) L2 M2 (by omega) (by omega) z
   | ct L2=>exact ih (i+1) L2 M2 (by omega) (by omega) z
   | bk L2=>exact aY z
   | rt w=>exact aY z
 simpa using key s.ds.length 0 L M (by omega) (by omega) h0
theorem sC {t:FT} {B:FS} (I:Nat->Lc->Mm->Prop) (hs:∀ m L M,I m L M->Okx EX (t L M) fun b M1=>(b=true->Okx EX (B L M1) fun o M2=>match o with
   | .nx L2=>∃ m',m' < m/\I m' L2 M2
   | .ct L2=>∃ m',m' < m/\I m' L2 M2
   | .bk L2=>QS (.nx L2) M2
   | .rt w=>QS (.rt w) M2)/\(b=false->QS (.nx L) M1)):∀ (n m:Nat) (L:Lc) (M:Mm),I m L M->m < n->Okx EX (whileD t B n L M) QS:=by
 intro n
 induction n with
 | zero=>intro m L M _ h; omega
 | succ n ih =>
  intro m L M hI hm
  unfold whileD
  refine bA ((hs m L M hI).mono fun b M1 ⟨h1,h2⟩=>?_)
  cases b with
  | false=>exact aY (h2 rfl)
  | true =>
   refine bA ((h1 rfl).mono fun o M2 z=>?_)
   cases o with
   | nx L2=>obtain ⟨m',l,z⟩:=z; exact ih m' L2 M2 z (by omega)
   | ct L2=>obtain ⟨m',l,z⟩:=z; exact ih m' L2 M2 z (by omega)
   | bk L2=>exact aY z
   | rt w=>exact aY z
theorem gD {js:List (Option Nat)} {fi:FI} {c:FT} (I:Nat->List D->Lc->Mm->Prop)
  (h:Okx EX (fi L M) fun s M1=>(I 0 [] (outL js L) M1/\(∀ i acc L M,i<=s.ds.length->I i acc L M->M.length=M1.length/\Chk s (M++[acc])/\acc.length<=i)/\s.ds.length<=16777216 /\
   (∀ i d acc L M,s.ds[i]?=some d->I i acc L M->Ok (gg (.d d) L (M++[acc])) fun L1 M2=>Ok (c L1 M2) fun b M3=>(b=true->Ok (f L1 M3) fun w M4=>∃ x M5,w=.d x/\M4=M5++[acc]/\I (i+1) (acc++[x]) L1 M5)/\(b=false->∃ M5,M3=M5++[acc]/\I (i+1) acc L1 M5)) /\
   (∀ acc L M,I s.ds.length acc L M->Q (.d (.lst acc)) M))):Okx EX (eComp js fi gg c f L M) Q:=by
 unfold eComp compT
 refine bA (bA (h.mono fun s M1 ⟨h0,hc,hz,hs,hd⟩=>?_))
 have key:∀ k i acc L M,s.ds.length - i=k->i<=s.ds.length->I i acc L M->∃ acc' L' M',compD M1.length s gg c f (s.ds.drop i) L (M++[acc])=.ok () (M'++[acc'])/\I s.ds.length acc' L' M':=by
  intro k
  induction k with
  | zero =>
   intro i acc L M e hi hI
   have:i=s.ds.length:=by omega
   subst this
   rw [List.drop_eq_nil_of_le (Nat.le_refl _)]
   unfold compD
   rw [if_pos (hc _ acc L M (Nat.le_refl _) hI).2.1]
   exact ⟨acc,L,M,rfl,hI⟩
  | succ k ih =>
   intro i acc L M e hi hI
   have hlt:i < s.ds.length:=by omega
   rw [List.drop_eq_getElem_cons hlt]
   unfold compD
   obtain ⟨hl,hch,hal⟩:=hc _ acc L M hi hI
   rw [if_pos hch]
   obtain ⟨L1,M2,e1,hh⟩:=jB.mp (hs i s.ds[i] acc L M (by simp [hlt]) hI)
   obtain ⟨L1',M3,e2,h1,h2⟩:=jB.mp hh
   rw [e1]
   simp only [eZ]
   rw [e2]
   simp only [eZ]
   cases L1' with
   | false =>
    obtain ⟨M5,e3,hI'⟩:=h2 rfl
    subst e3
    simp only [Bool.false_eq_true,if_false]
    exact ih (i+1) acc L1 M5 (by omega) (by omega) hI'
   | true =>
    obtain ⟨w,M4,e3,x,M5,rfl,rfl,hI'⟩:=jB.mp (h1 rfl)
    simp only [if_true]
    rw [e3]
    simp only [eZ]
    have hl5:=(hc _ _ _ _ (by omega) hI').1
    have g1:(M5++[acc])[M1.length]?=some acc:=by rw [<- hl5]; simp
    rw [g1]
    simp only
    rw [if_pos (by omega)]
    have g2:(M5++[acc]).set M1.length (acc++[x])=M5++[acc++[x]]:=by rw [<- hl5]; simp
    rw [g2]
    exact ih (i+1) (acc++[x]) L1 M5 (by omega) (by omega) hI'
 obtain ⟨acc,L',M',e,hI⟩:=key s.ds.length 0 [] (outL js L) M1 (by omega) (by omega) h0
 rw [List.drop_zero] at e
 rw [e]
 have hl:=(hc _ _ _ _ (Nat.le_refl _) hI).1
 have g1:(M'++[acc])[M1.length]?=some acc:=by rw [<- hl]; simp
 have g2:(M'++[acc]).take M1.length=M':=by rw [<- hl]; simp
 simp only [g1,g2]
 exact aY (aY (hd acc L' M' hI))
theorem cF {m n:Nat} {F:FS} {ws:List W} (hm:ws.length=m) (h:Okx EX (F (ws.map some++List.replicate (n - ws.length) none) M) fun o M'=>match o with
  | .rt w=>Okx EX (retc M.length w M') Q
  | .nx _=>Q (.d .non) (M'.take M.length)
  | _=>False):Okx EX (fnD m n F ws M) Q:=by
 unfold fnD
 rw [if_pos hm]
 refine bA (h.mono fun o M' z=>?_)
 cases o with
 | rt w=>exact z
 | nx L=>exact aY z
 | bk L=>exact z.elim
 | ct L=>exact z.elim
theorem sW {n:Nat} {d:D} (q:Q (.d d) (M.take n)):Okx EX (retc n (.d d) M) Q:=aY q
theorem aIp {m n:Nat} {F:FS} {ws:List W} (hm:ws.length=m) (h:Okx EX (F (ws.map some++List.replicate (n - ws.length) none) M) fun o M'=>∃ i ds,o=.rt (.ref i)/\M.length<=i/\M'[i]?=some ds/\Q (.ref M.length) (M'.take M.length++[ds])):Okx EX (fnR m n F ws M) Q:=by
 unfold fnR
 rw [if_pos hm]
 refine bA (h.mono fun o M' ⟨i,ds,e,hi,e2,q⟩=>?_)
 subst e
 simp only [e2]
 rw [if_pos hi]
 exact aY q
end
noncomputable def Bx (M:Mm) (b:Nat):Prop:=∃ x y z,M[b]?=some [.int x,.int y,.int z]
noncomputable def Nx (b:Nat) (M M':Mm):Prop:=∃ x y z,M'=M.set b [.int x,.int y,.int z]
theorem Bx.lt {M:Mm} {b:Nat} (h:Bx M b):b < M.length:=by obtain ⟨x,y,z,e⟩:=h; exact (List.getElem?_eq_some_iff.mp e).1
theorem Nx.len {M M':Mm} {b:Nat} (h:Nx b M M'):M'.length=M.length:=by obtain ⟨x,y,z,rfl⟩:=h; simp
theorem Nx.bx {M M':Mm} {b:Nat} (h:Nx b M M') (l:Bx M b):Bx M' b:=by
 obtain ⟨x,y,z,rfl⟩:=h
 exact ⟨x,y,z,List.getElem?_set_self l.lt⟩
theorem Nx.trans {M M1 M2:Mm} {b:Nat} (h:Nx b M M1) (h':Nx b M1 M2):Nx b M M2:=by
 obtain ⟨x,y,z,rfl⟩:=h
 obtain ⟨x',y',z',rfl⟩:=h'
 exact ⟨x',y',z',by rw [List.set_set]⟩
theorem Nx.refl {M:Mm} {b:Nat} (h:Bx M b):Nx b M M:=by
 obtain ⟨x,y,z,e⟩:=h
 refine ⟨x,y,z,?_⟩
 apply List.ext_getElem?
 intro i
 by_cases hi:b=i
 ·subst hi; rw [List.getElem?_set_self (List.getElem?_eq_some_iff.mp e).1,e]
 ·rw [List.getElem?_set_ne hi]
theorem Nx.get {M M':Mm} {b i:Nat} (h:Nx b M M') (n:b≠i):M'[i]?=M[i]?:=by
 obtain ⟨x,y,z,rfl⟩:=h
 rw [List.getElem?_set_ne n]
theorem Nx.app {M M':Mm} {b:Nat} {J:Mm} (h:Nx b M M') (l:b < M.length):Nx b (M++J) (M'++J):=by
 obtain ⟨x,y,z,rfl⟩:=h
 exact ⟨x,y,z,by rw [List.set_append_left _ _ l]⟩
theorem Nx.unapp {M M' J:Mm} {b:Nat} (h:Nx b (M++J) M') (l:b < M.length):∃ M1,M'=M1++J/\Nx b M M1:=by
 obtain ⟨x,y,z,rfl⟩:=h
 exact ⟨_,List.set_append_left _ _ l,x,y,z,rfl⟩
theorem Bx.app {M J:Mm} {b:Nat} (h:Bx M b):Bx (M++J) b:=by
 obtain ⟨x,y,z,e⟩:=h
 exact ⟨x,y,z,by rw [List.getElem?_append_left (List.getElem?_eq_some_iff.mp e).1]; exact e⟩
theorem Nx.take {M M':Mm} {b:Nat} (h:Nx b M M'):M'.take M.length=M':=by rw [<- h.len,List.take_length]
mutual
noncomputable def sz:D->Nat
 | .tup xs=>szs xs+1
 | .lst xs=>szs xs+1
 | .fz xs=>szs xs+1
 | .exn _ _ xs=>szs xs+1
 | _=>1
noncomputable def szs:List D->Nat
 | []=>0
 | x::xs=>sz x+szs xs
end
mutual
noncomputable def noL:D->Bool
 | .tup xs=>noLs xs
 | .lst _=>false
 | .fz _=>false
 | .exn _ _ _=>false
 | _=>true
noncomputable def noLs:List D->Bool
 | []=>true
 | x::xs=>noL x&&noLs xs
end
theorem atBox (c:Int):atI [D.int 0,D.int c] (if decide ((10:Int) ^ (Int.toNat 18)<=c)=true then 1 else 0)=some (.int (if (1000000000000000000:Int)<=c then c else 0)):=by
 by_cases hc:(1000000000000000000:Int)<=c <;> simp [hc,atI,ixN]
end
end EV
namespace EV
open PySem PySem.Spec PyProof.Rows L2
variable {EX:D->Mm->Prop}
section
variable {X:Cx} {K:PySem.W.Frag} {Z:Zt} {pos:Pos}
end
section
variable {L:Lc} {M:Mm} {f:FE} {Q:W->Mm->Prop}
theorem aIc {QI:Src->Mm->Prop} (h:Okx EX (f L M) fun w M1=>∃ xs,(w=.d (.tup xs)\/w=.d (.lst xs)\/w=.d (.fz xs))/\QI ⟨xs.reverse,none⟩ M1):Okx EX (iRv f L M) QI:=by
 refine bA (h.mono ?_)
 rintro w M1 ⟨xs,rfl | rfl | rfl,q⟩ <;> exact aY q
theorem aHt {j:Int} (h0:0<=j) (h1:j<=16777216) (q:Q (.ref M.length) (M++[rngD 0 j.toNat])):Okx EX (cLRR (.d (.int j)) M) Q:=by unfold cLRR; simp only; rw [if_pos ⟨h0,h1⟩]; exact aY q
end
end EV
namespace EV
open PySem PySem.Spec PyProof.Rows L2
variable {EX:D->Mm->Prop}
section
variable {X:Cx} {K:PySem.W.Frag} {Z:Zt} {μ:List Addr} {H:Hp} {M:Mm} {a b c:Expr} {pos:Pos} {fs:FA}
noncomputable def srt (ns:List Int):List Int:=ns.mergeSort fun a b=>decide (a<=b)
theorem mF (ns:List Int):(srt ns).Perm ns:=List.mergeSort_perm _ _
theorem pP (ns:List Int):(srt ns).Pairwise (·<=·):=by
 have:=List.pairwise_mergeSort (le:=fun a b:Int=>decide (a<=b)) (fun a b c h1 h2=>by simp at *; omega) (fun a b=>by simp; omega) ns
 exact this.imp fun h=>by simpa using h
theorem uP {ns ns':List Int} (p:ns'.Perm ns) (o:ns'.Pairwise (·<=·)):ns'=srt ns :=
 List.Perm.eq_of_pairwise (le:=(·<=·)) (fun a b _ _ h1 h2=>Int.le_antisymm h1 h2) o (pP ns) (p.trans (mF ns).symm)
theorem qR (ns:List Int):(srt ns).length=ns.length:=(mF ns).length_eq
theorem aEf {ns:List Int} {x:Int}:x∈srt ns ↔ x∈ns:=(mF ns).mem_iff
theorem jV {us:List Value}:∀ {ns:List Int},Vals (ns.map V.int) us->IntsAre us ns:=by
 induction us with
 | nil=>intro ns h; cases ns with
  | nil=>exact .nil
  | cons n r=>cases h
 | cons u us ih=>intro ns h; cases ns with
  | nil=>cases h
  | cons n r =>
   cases h with
   | cons p q =>
    obtain ⟨t,rfl⟩:=p
    exact .cons n t (ih q)
theorem oS {us:List Value} {ns:List Int} (h:IntsAre us ns):Vals (ns.map V.int) us:=by
 induction h with
 | nil=>exact .nil
 | cons n t _ ih=>exact .cons ⟨t,rfl⟩ ih
theorem vO:CallR X (.builtin "sorted") (fun xs H Q=>∃ p ns,xs=[.ref p]/\SqL X.K H p (ns.map V.int)/\ns.length < 64/\∀ l,H l=none->Q (.ref l) (upd H l (.lst ((srt ns).map V.int)))):=by
 intro pins s σ H xs us Q I r h
 obtain ⟨p,ns,rfl,hq,h64,q⟩:=h
 obtain ⟨u,rfl,rx⟩:=vals1 r
 cases rx
 obtain ⟨its,r',pl,hz⟩:=I.list hq
 have hI:=jV r'
 have hlen:its.length=ns.length:=by have:=r'.length; simpa using this.symm
 refine sorted_ints pl.isList hI (by omega) fun out ns' a1 a2 a3=>?_
 have e:=uP a2 a3
 subst e
 obtain ⟨c,hc⟩:=sortedAll_at s.heap its out
 refine ⟨.ref (s.heap.objs.size+1),_,I.laid (t':=s.toks) (fun b o e=>sortedAll_old e) (Nat.le_succ _) (show ObjOk X.prog X.w _ _ _ (.lst ((srt ns).map V.int)) from ⟨by rw [sizeLine_eq]; simp [qR]; omega,out.toList,c,oS a1,by simpa using hc⟩),rfl,q _ (I.hok.fresh (Nat.le_succ _))⟩
noncomputable def intsOf:List D->Option (List Int)
 | []=>some []
 | .int i::r=>(intsOf r).map (i::·)
 | _::_=>none
theorem lZ (ns:List Int):intsOf (ns.map D.int)=some ns:=by
 induction ns with
 | nil=>rfl
 | cons n r ih=>simp only [List.map_cons,intsOf,ih,Option.map_some]
theorem kR:∀ {ds:List D} {ns:List Int},intsOf ds=some ns->ds=ns.map D.int
 | [],ns,h=>by cases h; rfl
 | .int i::r,ns,h=>by
  simp only [intsOf,Option.map_eq_some_iff] at h
  obtain ⟨ms,h1,rfl⟩:=h
  rw [kR h1]; rfl
 | .non::_,_,h=>by cases h
 | .bl _::_,_,h=>by cases h
 | .str _::_,_,h=>by cases h
 | .tup _::_,_,h=>by cases h
 | .lst _::_,_,h=>by cases h
 | .fz _::_,_,h=>by cases h
 | .exn _ _ _::_,_,h=>by cases h
theorem mY:∀ {ns:List Int} {vs:List V},Rps K μ H (ns.map D.int) vs->vs=ns.map V.int
 | [],vs,h=>by simpa [Rps] using h
 | n::r,vs,h=>by
  simp only [List.map_cons,Rps,Rp] at h
  obtain ⟨v,t,rfl,rfl,h3⟩:=h
  rw [mY h3]; rfl
noncomputable def cSorted (ws:List W) (M:Mm):Oc W:=match ws with
 | [w]=>match lr M w with
  | some xs=>match intsOf xs with
   | some ns=>if ns.length < 64 then okD (.lst ((srt ns).map .int)) M else .bad
   | none=>.bad
  | none=>.bad
 | _=>.bad
theorem callSorted (hc:X.calm=true):ClG X K Z (.builtin "sorted") cSorted:=fun hk=>by
 refine ⟨_,hk▸vO,?_⟩
 intro μ H M ws vs Q hr rx p
 match ws,rx,p with
 | [],_,p=>exact p.elim
 | [w],⟨v,r,e1,e2,e3⟩,p =>
  cases e3; subst e1
  simp only [cSorted] at p
  cases q:lr M w with
  | none=>rw [q] at p; exact p.elim
  | some xs =>
   rw [q] at p
   simp only at p
   cases q2:intsOf xs with
   | none=>rw [q2] at p; exact p.elim
   | some ns =>
    rw [q2] at p
    simp only at p
    split at p
    ·rename_i hz
     obtain ⟨a,us,rfl,h1,r1⟩:=xS hr e2 q
     have e:=kR q2
     subst e
     have e:=mY r1
     subst e
     exact ⟨a,ns,rfl,h1,hz,jT hr Rps.ints p⟩
    ·exact p.elim
 | _::_::_,_,p=>exact p.elim
theorem vM {pins:List (Addr×Obj)} {σ:St} {s:Shared} {p:Addr} {ys:List V} {Q:Value->Shared->Prop} (hc:X.calm=true) (I:Inv X pins σ H s) (hq:SqL X.K H p ys\/SqT X.K H p ys)
  (h:∀ (s2:Shared) (J:Addr) (fp:List Addr) (its:Array Value) (St:Nat->Heap->Prop),Vals ys its.toList->Walks X.prog X.w X.A.in1 J fp [J] its.size (fun i v=>its[i]?=some v) St->St 0 s2.heap->(∀ b∈fp,b < s2.heap.objs.size) ->
   (∀ h' tk,(∀ b o,b∉[J]->s2.heap.get? b=some o->h'.get? b=some o)->Inv X pins σ H { s2 with heap:=h',toks:=tk })->Q (.ref J) s2):wpAny (model X.prog X.w) X.A.in1 (pyIter (.ref p)) Q X.xe s:=by
 rcases hq with hq | hq
 ·obtain ⟨its,rv,pl,hz⟩:=I.list hq
  have hp:p < s.heap.objs.size:=by
   obtain ⟨o,e,_⟩:=pl.isList
   exact Heap.lt_size e
  have I1:Inv X pins σ H { s with heap:=s.heap.push { cls:=.type "list_iterator",data:=.fields #[.ref p,rawInt 0] } }:=I.kept (t':=s.toks) fun b o e=>Heap.get?_push_of_some _ e
  refine wpAny_pyIter_list pl.isList (h _ s.heap.objs.size [s.heap.objs.size,p] its.toArray _ (by simpa using rv) (Walks.list (by show X.A.in1.handled=none; exact I.ok.hd hc) s.heap.objs.size p (Nat.ne_of_lt hp) its.toArray) ⟨⟨_,Heap.get?_push_size _ rfl,rfl,rfl⟩,pl.isList.at fun o e=>Heap.get?_push_of_some _ e⟩ (fun b hb=>?_) fun h' tk hk=>?_)
  ·show b < (s.heap.push _).objs.size
   rw [Heap.size_push]
   simp only [List.mem_cons,List.not_mem_nil,or_false] at hb
   rcases hb with rfl | rfl
   ·exact Nat.lt_succ_self _
   ·exact Nat.lt_succ_of_lt hp
  ·obtain ⟨f0,f1,f2,f3,f4,f5⟩:=I.fpOk (H':=H) (Nat.le_refl _) (I.hok.fresh (Nat.le_refl _))
   exact I1.turned (t':=tk) (it:=s.heap.objs.size) (fun b o hb e=>hk b o (by simpa using hb) e) f0 f1 f3 f4 f5
 ·obtain ⟨its,rv,pl,hz⟩:=I.tuple hq
  have pl:s.heap.IsTuple p its.toArray:=pl
  have hp:p < s.heap.objs.size:=by
   obtain ⟨o,e,_⟩:=pl
   exact Heap.lt_size e
  have I1:Inv X pins σ H { s with heap:=s.heap.push { cls:=.type "tuple_iterator",data:=.fields #[.ref p,rawInt 0] } }:=I.kept (t':=s.toks) fun b o e=>Heap.get?_push_of_some _ e
  refine wpAny_pyIter_tuple pl (h _ s.heap.objs.size [s.heap.objs.size,p] its.toArray _ (by simpa using rv) (Walks.tuple (by show X.A.in1.handled=none; exact I.ok.hd hc) s.heap.objs.size p (Nat.ne_of_lt hp) its.toArray) ⟨⟨_,Heap.get?_push_size _ rfl,rfl,rfl⟩,pl.at fun o e=>Heap.get?_push_of_some _ e⟩ (fun b hb=>?_) fun h' tk hk=>?_)
  ·show b < (s.heap.push _).objs.size
   rw [Heap.size_push]
   simp only [List.mem_cons,List.not_mem_nil,or_false] at hb
   rcases hb with rfl | rfl
   ·exact Nat.lt_succ_self _
   ·exact Nat.lt_succ_of_lt hp
  ·obtain ⟨f0,f1,f2,f3,f4,f5⟩:=I.fpOk (H':=H) (Nat.le_refl _) (I.hok.fresh (Nat.le_refl _))
   exact I1.turned (t':=tk) (it:=s.heap.objs.size) (fun b o hb e=>hk b o (by simpa using hb) e) f0 f1 f3 f4 f5
noncomputable def mxL:List Int->Int
 | []=>0
 | x::r=>r.foldl max x
theorem iF:∀ (r:List Int) (x:Int),x<=r.foldl max x/\(∀ a∈r,a<=r.foldl max x)/\(r.foldl max x=x\/r.foldl max x∈r)
 | [],x=>⟨Int.le_refl _,by simp,.inl rfl⟩
 | y::r,x=>by
  obtain ⟨h1,h2,h3⟩:=iF r (max x y)
  refine ⟨?_,?_,?_⟩
  ·exact Int.le_trans (Int.le_max_left x y) h1
  ·intro a ha
   rcases List.mem_cons.mp ha with rfl | ha
   ·exact Int.le_trans (Int.le_max_right x _) h1
   ·exact h2 a ha
  ·simp only [List.foldl_cons]
   rcases h3 with h3 | h3
   ·rw [h3]
    by_cases h:x<=y
    ·rw [Int.max_eq_right h]; exact .inr (by simp)
    ·rw [Int.max_eq_left (by omega)]; exact .inl rfl
   ·exact .inr (by simp [h3])
theorem tN {ns:List Int} (h:ns≠[]):mxL ns∈ns:=by
 cases ns with
 | nil=>exact (h rfl).elim
 | cons x r=>rcases (iF r x).2.2 with e | e
             ·simp only [mxL]; rw [e]; simp
             ·simp only [mxL]; exact List.mem_cons_of_mem _ e
theorem wF {ns:List Int} {a:Int} (h:a∈ns):a<=mxL ns:=by
 cases ns with
 | nil=>cases h
 | cons x r=>rcases List.mem_cons.mp h with rfl | h
             ·exact (iF r _).1
             ·exact (iF r x).2.1 a h
theorem aCk {ns:List Int} {m:Int} (h:m∈ns) (g:∀ a∈ns,a<=m):m=mxL ns:=Int.le_antisymm (wF h) (g _ (tN (by rintro rfl; cases h)))
theorem zT (hc:X.calm=true):CallR X (.builtin "max") (fun xs H Q=>∃ (p:Addr) (ns:List Int),xs=[.ref p]/\(SqL X.K H p (ns.map V.int)\/SqT X.K H p (ns.map V.int))/\ns≠[]/\Q (.int (mxL ns)) H):=by
 intro pins s σ H xs us Q I r h
 obtain ⟨p,ns,rfl,hq,hne,q⟩:=h
 obtain ⟨u,rfl,rx⟩:=vals1 r
 cases rx
 refine call_max_walk (vM hc I hq fun s2 J fp its St rv W st0 hfp hI=>?_)
 have hi:=jV rv
 obtain ⟨xs,e⟩:=(hi.allInts).items
 have e':its=intItems xs:=by simpa using e
 subst e'
 have hns:ns=xs.toList.map (·.1):=by rw [<- hi.numsOf,<- nums_intItems]
 have hsz:0 < xs.size:=by
  have:0 < ns.length:=List.length_pos_iff.mpr hne
  rw [hns,List.length_map,Array.length_toList] at this; exact this
 refine ⟨J,fp,[J],_,_,St,_,rfl,W,st0,hfp,by simpa [intItems] using hsz,CmpOf.ints_gt (numAt xs) (fun _ _=>intItems_at),fun v h' tk hP hk=>?_⟩
 obtain ⟨t,rfl⟩:=intItems_at (by simpa [intItems] using hP)
 obtain ⟨h1,h2⟩:=argBest_gt (numAt xs) (xs.size - 1)
 have hm:numAt xs (argBest (fun i j=>decide (numAt xs i > numAt xs j)) (xs.size - 1))=mxL ns:=by
  refine aCk ?_ fun a ha=>?_
  ·rw [hns,numAt_eq]; exact getD_mem (by rw [List.length_map,Array.length_toList]; omega)
  ·rw [hns] at ha
   obtain ⟨j,hj,rfl⟩:=mem_getD ha
   rw [List.length_map,Array.length_toList] at hj
   rw [<- numAt_eq]; exact h2 j (by omega)
 refine ⟨.int (mxL ns),H,hI h' tk hk,⟨t,?_⟩,q⟩
 rw [<- hm]
noncomputable def cMaxL (ws:List W) (M:Mm):Oc W:=match ws with
 | [w]=>match sv M w with
  | some xs=>match intsOf xs with
   | some ns=>if ns.length≠0 then okD (.int (mxL ns)) M else .bad
   | none=>.bad
  | none=>.bad
 | _=>.bad
theorem callMaxL (hc:X.calm=true):ClG X K Z (.builtin "max") cMaxL:=fun hk=>by
 refine ⟨_,hk▸zT hc,?_⟩
 intro μ H M ws vs Q hr rx p
 match ws,rx,p with
 | [],_,p=>exact p.elim
 | [w],⟨v,r,e1,e2,e3⟩,p =>
  cases e3; subst e1
  simp only [cMaxL] at p
  cases q:sv M w with
  | none=>rw [q] at p; exact p.elim
  | some xs =>
   rw [q] at p
   simp only at p
   cases q2:intsOf xs with
   | none=>rw [q2] at p; exact p.elim
   | some ns =>
    rw [q2] at p
    simp only at p
    split at p
    ·rename_i hz
     obtain ⟨a,us,rfl,h1,r1⟩:=qF hr e2 q
     have e:=kR q2
     subst e
     have e:=mY r1
     subst e
     exact ⟨a,ns,rfl,h1,fun z=>hz (by rw [z]; rfl),p μ H .refl hr _ (by simp [Rw,Rp])⟩
    ·exact p.elim
 | _::_::_,_,p=>exact p.elim
noncomputable def blsOf:List D->Option (List Bool)
 | []=>some []
 | .bl i::r=>(blsOf r).map (i::·)
 | _::_=>none
theorem vT:∀ {ds:List D} {ns:List Bool},blsOf ds=some ns->ds=ns.map D.bl
 | [],ns,h=>by cases h; rfl
 | .bl i::r,ns,h=>by
  simp only [blsOf,Option.map_eq_some_iff] at h
  obtain ⟨ms,h1,rfl⟩:=h
  rw [vT h1]; rfl
 | .non::_,_,h=>by cases h
 | .int _::_,_,h=>by cases h
 | .str _::_,_,h=>by cases h
 | .tup _::_,_,h=>by cases h
 | .lst _::_,_,h=>by cases h
 | .fz _::_,_,h=>by cases h
 | .exn _ _ _::_,_,h=>by cases h
theorem yJ:∀ {ns:List Bool} {vs:List V},Rps K μ H (ns.map D.bl) vs->vs=ns.map V.bl
 | [],vs,h=>by simpa [Rps] using h
 | n::r,vs,h=>by
  simp only [List.map_cons,Rps,Rp] at h
  obtain ⟨v,t,rfl,rfl,h3⟩:=h
  rw [yJ h3]; rfl
theorem aLb {bs:List Bool} {its:Array Value} (rv:Vals (bs.map V.bl) its.toList) {i:Nat} {v:Value} (hv:its[i]?=some v):v=.bool (bs.getD i false):=by
 have hv:its.toList[i]?=some v:=by simpa using hv
 have hlt:i < bs.length:=by have:=(List.getElem?_eq_some_iff.mp hv).1; have h2:=rv.length; simp at h2 this; omega
 obtain ⟨w',hw,rw'⟩:=rv.get (show (bs.map V.bl)[i]?=some (.bl (bs.getD i false)) by simp [hlt])
 rw [hv] at hw
 cases hw
 exact rw'
theorem zU (bs:List Bool):(List.range bs.length).any (fun i=>bs.getD i false)=bs.any id:=by
 rw [Bool.eq_iff_iff,List.any_eq_true,List.any_eq_true]
 constructor
 ·rintro ⟨i,hi,h⟩
  have hi:=List.mem_range.mp hi
  exact ⟨bs[i],List.getElem_mem hi,by simpa [hi] using h⟩
 ·rintro ⟨x,hx,h⟩
  obtain ⟨i,hi,rfl⟩:=List.mem_iff_getElem.mp hx
  exact ⟨i,List.mem_range.mpr hi,by simpa [hi] using h⟩
theorem aAc (hc:X.calm=true):CallR X (.builtin "any") (fun xs H Q=>∃ (p:Addr) (bs:List Bool),xs=[.ref p]/\(SqL X.K H p (bs.map V.bl)\/SqT X.K H p (bs.map V.bl))/\Q (.bl (bs.any id)) H):=by
 intro pins s σ H xs us Q I r h
 obtain ⟨p,bs,rfl,hq,q⟩:=h
 obtain ⟨u,rfl,rx⟩:=vals1 r
 cases rx
 refine call_any_walk (vM hc I hq fun s2 J fp its St rv W st0 hfp hI=>?_)
 have hl:bs.length=its.size:=by have:=rv.length; simpa using this
 refine ⟨J,fp,[J],_,_,St,fun i=>bs.getD i false,rfl,W,st0,fun i v s3 Q3 E3 hv q3=>?_,fun h' tk hk=>?_⟩
 ·rw [aLb rv hv]; exact wpAny_truthy_bool q3
 ·rw [<- hl,zU]
  exact ⟨.bl _,H,hI h' tk hk,rfl,q⟩
noncomputable def cBls (g:List Bool->Bool) (ws:List W) (M:Mm):Oc W:=match ws with
 | [w]=>match sv M w with
  | some xs=>match blsOf xs with
   | some bs=>okD (.bl (g bs)) M
   | none=>.bad
  | none=>.bad
 | _=>.bad
noncomputable abbrev cAny:=cBls fun bs=>bs.any id
theorem clBls {g:List Bool->Bool}:Cl K Z (fun xs H Q=>∃ (p:Addr) (bs:List Bool),xs=[.ref p]/\(SqL K H p (bs.map V.bl)\/SqT K H p (bs.map V.bl))/\Q (.bl (g bs)) H) (cBls g):=by
 intro μ H M ws vs Q hr rx p
 match ws,rx,p with
 | [],_,p=>exact p.elim
 | [w],⟨v,r,e1,e2,e3⟩,p =>
  cases e3; subst e1
  simp only [cBls] at p
  cases q:sv M w with
  | none=>rw [q] at p; exact p.elim
  | some xs =>
   rw [q] at p
   simp only at p
   cases q2:blsOf xs with
   | none=>rw [q2] at p; exact p.elim
   | some ns =>
    rw [q2] at p
    obtain ⟨a,us,rfl,h1,r1⟩:=qF hr e2 q
    have e:=vT q2
    subst e
    have e:=yJ r1
    subst e
    exact ⟨a,ns,rfl,h1,p μ H .refl hr _ (by simp [Rw,Rp])⟩
 | _::_::_,_,p=>exact p.elim
theorem callAny (hc:X.calm=true):ClG X K Z (.builtin "any") cAny:=fun hk=>⟨_,hk▸aAc hc,clBls⟩
end
section
variable {L:Lc} {M:Mm} {w x:W} {f:FE} {fs:FA} {Q:W->Mm->Prop} {QS:Out->Mm->Prop}
theorem rO {ns:List Int} {ds:List D} (h:lr M x=some ds) (e:ds=ns.map D.int) (hz:ns.length < 64) (q:Q (.d (.lst ((srt ns).map D.int))) M):Okx EX (cSorted [x] M) Q:=by
 subst e
 unfold cSorted; simp only [h,lZ]; rw [if_pos hz]; exact aY q
theorem xW {ns:List Int} {ds:List D} (h:sv M x=some ds) (e:ds=ns.map D.int) (hz:ns≠[]) (q:Q (.d (.int (mxL ns))) M):Okx EX (cMaxL [x] M) Q:=by
 subst e
 unfold cMaxL; simp only [h,lZ]; rw [if_pos (fun z=>hz (List.length_eq_zero_iff.mp z))]; exact aY q
end
end EV
namespace EV
open PySem PySem.Spec PyProof.Rows L2
variable {EX:D->Mm->Prop}
section
variable {X:Cx} {K:PySem.W.Frag} {Z:Zt} {μ:List Addr} {H:Hp} {M:Mm} {a b c o i e:Expr} {pos:Pos} {fs:FA} {fa fb fc fo fi fe:FE}
end
section
variable {L:Lc} {M:Mm} {fo fi fe:FE} {QS:Out->Mm->Prop}
end
end EV
namespace L2
open PySem PySem.Spec PyProof.Rows
section
variable {X:Cx} {pins:List (Addr×Obj)} {σ:St} {H:Hp} {s:Shared} {h':Heap} {fp:List Addr}
theorem Inv.turnLay {t':Nat} {T:Addr} {o:HO} (I:Inv X pins σ H s) (hf:∀ b∈fp,FpOk X pins H b) (k:∀ b u,b∉fp->s.heap.get? b=some u->h'.get? b=some u) (hT:s.heap.objs.size<=T) (new:ObjOk X.prog X.w (upd H T o) h' T o) :
  Inv X pins σ (upd H T o) { s with heap:=h',toks:=t' }:=by
 have hn:H T=none:=I.hok.fresh hT
 have nfp:∀ b u,H b=some u->b∉fp:=fun b u e z=>by rw [(hf b z).1] at e; cases e
 have lt:∀ b u,s.heap.get? b=some u->b≠T:=fun b u e z=>by subst z; exact absurd (Heap.lt_size e) (Nat.not_lt.mpr hT)
 have neT:∀ b u,H b=some u->b≠T:=fun b u e z=>by rw [z,hn] at e; cases e
 refine I.step (g':=s.gens) (d':=s.drawn) (ch:=fp) (fun b hb=>?_) (fun b u _ _ hc e _=>k b u hc e) (fun b u _ _ hc e _=>⟨u.slots,k b u hc e⟩) (fun b u _ e n=>by rw [bF (lt b u e)]; exact n)
  (fun b u hc e=>⟨u,k b u hc e⟩) (fun b xs e=>by rw [bF (neT b _ e)]; exact e) (fun b u v e=>by rw [bF (neT b _ e)]; exact e) (fun b ps e=>⟨#[],by rw [bF (neT b _ e),e]; simp⟩) (fun m hm=>?_) (fun b u e=>?_) I.bare
 ·obtain ⟨_,f1,_,f3,f4,f5⟩:=hf b hb
  exact ⟨f3,f1,f4,f5⟩
 ·obtain ⟨u,es,ep,ho,r⟩:=hm
  exact ⟨u,es,ep,k _ u (fun z=>(hf _ z).2.1 rfl) ho,r⟩
 ·by_cases hb:b=T
  ·subst hb; rw [cB] at e; cases e; exact new
  ·rw [bF hb] at e
   refine (I.hok b u e).stay (fun c v hc q=>k c v ?_ q) (fun c q=>by rw [bF (neT c _ q)]; exact q) fun c xs q=>by rw [bF (neT c _ q)]; exact q
   rcases hc with z | z
   ·rw [z]; exact nfp b u e
   ·exact nfp c _ z
end
noncomputable def SqB (b:Bool) (K:PySem.W.Frag) (H:Hp) (a:Addr) (xs:List V):Prop:=if b=true then SqL K H a xs else SqT K H a xs
noncomputable def It0 (b:Bool) (h:Heap) (it src:Addr) (i:Nat):Prop:=if b=true then h.IsListIter it src i else h.IsTupleIter it src i
noncomputable def IsB (b:Bool) (h:Heap) (a:Addr) (xs:Array Value):Prop:=if b=true then h.IsList a xs else h.IsTuple a xs
theorem It0.at {b:Bool} {h h':Heap} {it src:Addr} {i:Nat} (x:It0 b h it src i) (k:∀ o,h.get? it=some o->h'.get? it=some o):It0 b h' it src i:=by
 cases b
 ·exact Heap.IsTupleIter.at x k
 ·exact Heap.IsListIter.at x k
theorem It0.obj {b:Bool} {h:Heap} {it src:Addr} {i:Nat} (x:It0 b h it src i):∃ o,h.get? it=some o/\∀ v,o.data≠.cell v:=by
 cases b
 ·obtain ⟨o,e,c,d⟩:=(show h.IsTupleIter it src i from x)
  exact ⟨o,e,fun v z=>by rw [d] at z; cases z⟩
 ·obtain ⟨o,e,c,d⟩:=(show h.IsListIter it src i from x)
  exact ⟨o,e,fun v z=>by rw [d] at z; cases z⟩
theorem IsB.at {b:Bool} {h h':Heap} {a:Addr} {xs:Array Value} (x:IsB b h a xs) (k:∀ o,h.get? a=some o->h'.get? a=some o):IsB b h' a xs:=by
 cases b
 ·obtain ⟨o,e,r⟩:=(show h.IsTuple a xs from x); exact ⟨o,k o e,r⟩
 ·obtain ⟨o,e,r⟩:=(show h.IsList a xs from x); exact ⟨o,k o e,r⟩
theorem IsB.lt {b:Bool} {h:Heap} {a:Addr} {xs:Array Value} (x:IsB b h a xs):a < h.objs.size:=by
 cases b
 ·obtain ⟨o,e,r⟩:=(show h.IsTuple a xs from x); exact Heap.lt_size e
 ·obtain ⟨o,e,r⟩:=(show h.IsList a xs from x); exact Heap.lt_size e
theorem SqB.inv {X:Cx} {pins:List (Addr×Obj)} {σ:St} {H:Hp} {s:Shared} {b:Bool} {a:Addr} {xs:List V} (I:Inv X pins σ H s) (h:SqB b X.K H a xs):∃ its:List Value,Vals xs its/\IsB b s.heap a its.toArray/\xs.length<=sizeLine:=by
 cases b
 ·obtain ⟨its,r,pl,hz⟩:=I.tuple (show SqT X.K H a xs from h); exact ⟨its,r,pl,hz⟩
 ·obtain ⟨its,r,pl,hz⟩:=I.list (show SqL X.K H a xs from h); exact ⟨its,r,pl.isList,hz⟩
section
variable {prog:Program} {w:World} {A:Around} {E:Value->Shared->Prop} {s:Shared}
end
end L2
namespace EV
open PySem PySem.Spec PyProof.Rows L2
variable {EX:D->Mm->Prop}
section
variable {X:Cx} {K:PySem.W.Frag} {Z:Zt} {μ:List Addr} {H:Hp} {M:Mm} {a b:Expr} {pos:Pos} {f g:FE} {tg:Expr}
end
section
variable {L:Lc} {M:Mm} {f g:FE}
end
end EV
namespace L2
open PySem PySem.Spec PyProof.Rows
section
variable {prog:Program} {w:World} {A:Around} {E:Value->Shared->Prop} {s:Shared}
end
end L2
namespace L2
open PySem PySem.Spec PyProof.Rows
open AutoSeq1 (wpAny_loadPart')
section
variable {prog:Program} {w:World} {A:Around} {E:Value->Shared->Prop} {s:Shared}
end
end L2
namespace EV
open PySem PySem.Spec PyProof.Rows L2
variable {EX:D->Mm->Prop}
section
variable {X:Cx} {K:PySem.W.Frag} {Z:Zt} {μ:List Addr} {H:Hp} {M:Mm} {a b:Expr} {pos:Pos} {f g:FE} {tg:Expr}
end
section
variable {L:Lc} {M:Mm} {f g:FE}
end
end EV
namespace L2
open PySem PySem.Spec PyProof.Rows
open AutoSeq1 (wpAny_loadPart')
section
variable {X:Cx}
end
end L2
namespace EV
open PySem PySem.Spec PyProof.Rows L2
variable {EX:D->Mm->Prop}
section
variable {X:Cx} {K:PySem.W.Frag} {Z:Zt} {μ:List Addr} {H:Hp} {M:Mm} {a b c o e i:Expr} {es:List Expr} {pos:Pos} {fs:FA} {f fa fb fc fo fe fi:FE} {tg:Expr}
end
section
variable {L:Lc} {M:Mm} {f:FE} {fs:FA} {fi:FE} {x y:W} {Q:W->Mm->Prop} {QS:Out->Mm->Prop}
end
end EV
namespace L2
open PySem PySem.Spec PyProof.Rows
section
variable {prog:Program} {w:World} {A:Around} {E:Value->Shared->Prop} {s:Shared}
end
section
variable {X:Cx} {pos:Pos}
end
end L2
namespace EV
open PySem PySem.Spec PyProof.Rows L2
variable {EX:D->Mm->Prop}
section
variable {X:Cx} {K:PySem.W.Frag} {Z:Zt} {es:List Expr} {pos:Pos}
end
section
variable {L:Lc} {M:Mm} {QG:Lc->Mm->Prop}
end
end EV
namespace L2
open PySem PySem.Spec PyProof.Rows
end L2
namespace EV
open PySem PySem.Spec PyProof.Rows L2
variable {EX:D->Mm->Prop}
section
variable {X:Cx} {K:PySem.W.Frag} {Z:Zt}
end
section
variable {L:Lc} {M:Mm} {x:W} {Q:W->Mm->Prop}
end
end EV
namespace EV
open PySem PySem.Spec PyProof.Rows L2
variable {EX:D->Mm->Prop}
section
variable {X:Cx} {K:PySem.W.Frag} {Z:Zt} {μ:List Addr} {H:Hp} {M:Mm} {a tg:Expr} {pos pos2:Pos} {f:FE}
end
section
variable {L:Lc} {M:Mm} {f:FE}
end
end EV
namespace EV
open PySem PySem.Spec PyProof.Rows L2
variable {EX:D->Mm->Prop}
section
variable {X:Cx} {K:PySem.W.Frag} {Z:Zt} {pos:Pos} {F:FS}
end
section
variable {L:Lc} {M:Mm} {f:FE} {Q:W->Mm->Prop}
end
end EV
namespace EV
open PySem PySem.Spec PyProof.Rows L2
noncomputable def ZR (K:PySem.W.Frag) (R:Addr->Hp->Prop):Zt:=⟨fun x M μ H=>∀ μ' H',Ext μ H μ' H'->HR K μ' H' M->∀ a,Rp K μ' H' x (.ref a)->R a H',fun e h μ' H' e' hr a ra=>h μ' H' (e.trans e') hr a ra⟩
noncomputable abbrev wishR (E:XK):Addr->Hp->Prop:=fun a H'=>E (.ref a) none H'
noncomputable def spX (K:PySem.W.Frag) (m:Nat) (Fm:Fn):Sp:=fun vs H Q E=>vs.length=m/\∃ μ M ws,HR K μ H M/\Rws K μ H ws vs/\Pst K (ZR K (wishR E)) μ H (Fm ws M) (Wk K Q)
section
variable {X:Cx} {K:PySem.W.Frag} {Z:Zt} {R:Addr->Hp->Prop} {μ:List Addr} {H:Hp} {M:Mm} {e a b:Expr} {es:List Expr} {pos:Pos} {f fa fb fc:FE} {fs:FA} {st:Stmt} {rest:List Stmt} {F G:FS}
theorem Pst.never {α:Type} {o:Oc α} {Q:List Addr->Hp->Mm->α->Prop} (h:Pst K Z0 μ H o Q):Pst K Z μ H o Q:=by
 cases o with
 | ok a M=>exact h
 | ex x M=>exact h.elim
 | bad=>exact h
noncomputable def fnX (m n:Nat) (F:FS):Fn:=fun ws M=>match fnD m n F ws M with
 | .ok w M'=>.ok w M'
 | .ex x M'=>.ex x (M'.take M.length)
 | .bad=>.bad
structure FunG (K:PySem.W.Frag) (x qual:Str) (st:Stmt) (f:Addr) (fd:FuncData):Prop where
 ex:∃ (oc:Value) (od:Option Addr) (dV kV doc pm:Value) (an:Option Addr) (cdv ct:Value) (osl:Array (Option Value)),
  fd=PySem.W.fnOf x qual (defArgs st) (defBody st) (defScope st) dV kV doc pm an cdv ct/\K.lookup f=some ⟨oc,od,.func fd,osl⟩/\PySem.W.codeIn K cdv qual=true
theorem _root_.L2.Fun.g {x qual:Str} {st:Stmt} {f:Addr} {fd:FuncData} (F:Fun K x qual st f fd):FunG K x qual st f fd:=by
 obtain ⟨oc,od,kV,doc,pm,an,cdv,ct,osl,h⟩:=F.ex
 exact ⟨oc,od,_,kV,doc,pm,an,cdv,ct,osl,h⟩
structure FunD (K:PySem.W.Frag) (x qual:Str) (st:Stmt) (f:Addr) (fd:FuncData) (d:Value):Prop where
 ex:∃ (T:Addr) (oc:Value) (od:Option Addr) (kV doc pm:Value) (an:Option Addr) (cdv ct:Value) (osl:Array (Option Value)),
  fd=PySem.W.fnOf x qual (defArgs st) (defBody st) (defScope st) (.ref T) kV doc pm an cdv ct/\K.lookup f=some ⟨oc,od,.func fd,osl⟩/\PySem.W.codeIn K cdv qual=true/\∃ c dd n sl,K.lookup T=some ⟨c,dd,.seq #[d] n,sl⟩
theorem FunD.g {x qual:Str} {st:Stmt} {f:Addr} {fd:FuncData} {d:Value} (F:FunD K x qual st f fd d):FunG K x qual st f fd:=by
 obtain ⟨T,oc,od,kV,doc,pm,an,cdv,ct,osl,h1,h2,h3,_⟩:=F.ex
 exact ⟨oc,od,_,kV,doc,pm,an,cdv,ct,osl,h1,h2,h3⟩
theorem FunD.binds {x qual:Str} {st:Stmt} {f:Addr} {fd:FuncData} {ps:List Str} {d:Value} (F:FunD K x qual st f fd d)
  (h:∀ (T:Addr) (kV doc pm:Value) (an:Option Addr) (cdv ct:Value) (us:List Value),us.length=ps.length->∃ k,bindArgs (PySem.W.fnOf x qual (defArgs st) (defBody st) (defScope st) (.ref T) kV doc pm an cdv ct) ⟨us,[]⟩=seqItems? (.ref T) >>= k/\k (some #[d])=pure (ps.zip us)):Binds K fd ps []:=by
 obtain ⟨T,oc,od,kV,doc,pm,an,cdv,ct,osl,rfl,h2,h3,c,dd,n,sl,hT⟩:=F.ex
 intro s us X hl
 rw [List.append_nil] at hl ⊢
 obtain ⟨k,h1,h2⟩:=h T kV doc pm an cdv ct us hl
 exact PySem.W.binds_K X rfl hT rfl h1 h2
theorem kX {m n:Nat} {F:FS} {ws:List W} {M:Mm} (h:ws.length≠m):fnX m n F ws M=.bad:=by unfold fnX fnD; rw [if_neg h]
theorem lR {P:Program} {w:World} {mg:Str->Option Value} {base:Heap} {x qual:Str} {st:Stmt} {fa:Addr} {fd:FuncData} {N ps:List Str} {k:Nat} {F:FS} (hf:FunG K x qual st fa fd) (S:FnScope N ps (defScope st))
  (hb:∀ (cdv:Value) (A:Around) (outer:List Env) (s:Shared) (H:Hp) (E:XK),Room k (A.deeper (envOfC qual (defScope st) s.heap.objs.size fa cdv))->Xz (cxOf (CX1 P w) P w K mg base N qual (defScope st) fa cdv A outer s H E) (wishR E) ->
   Ess (cxOf (CX1 P w) P w K mg base N qual (defScope st) fa cdv A outer s H E) K (ZR K (wishR E)) (defBody st) F) :
  FnOk P w K mg base (CX1 P w) (k+1) fa fd ps (spX K ps.length (fnX ps.length N.length F)):=by
 obtain ⟨oc,od,dV,kV,doc,pm,an,cdv,ct,osl,rfl,lk,hcd⟩:=hf.ex
 refine aBi lk hcd S (fun vs H Q E h=>h.1) fun A outer s H vs Q E hr hsp=>⟨_,(hb cdv A outer s H E hr aKf).h,?_⟩
 obtain ⟨hv,μ,M,ws,hr,rx,p⟩:=hsp
 refine ⟨μ,M,_,hr,pQ rx,?_⟩
 unfold fnX fnD at p
 rw [if_pos (by rw [rx.length]; exact hv)] at p
 cases q:F (ws.map some++List.replicate (N.length - ws.length) none) M with
 | bad=>rw [q] at p; exact p
 | ex z M' =>
  rw [q] at p
  intro μ1 H1 e1 hr1 a ra
  have hb:=hr1.back e1
  rw [hr.len] at hb
  have hsub:∀ a,a∈μ->a∈μ1:=fun a ha=>by rw [<- e1.take] at ha; exact List.mem_of_mem_take ha
  exact p μ H1 e1.back hb a (Rp.sub hsub z _ ra)
 | ok o M' =>
  rw [q] at p
  simp only [eZ] at p
  intro μ1 H1 e1 hr1
  have hb:=hr1.back e1
  rw [hr.len] at hb
  cases o with
  | nx L'=>exact fun σ' lr'=>p μ H1 e1.back hb _ (by simp [Rw,Rp])
  | bk L'=>exact p.elim
  | ct L'=>exact p.elim
  | rt w =>
   intro v rv
   have hsub:∀ a,a∈μ->a∈μ1:=fun a ha=>by rw [<- e1.take] at ha; exact List.mem_of_mem_take ha
   cases w with
   | d x=>exact p μ H1 e1.back hb v (Rp.sub hsub x v rv)
   | ref i =>
    simp only [retc] at p
    by_cases hi:i < M.length
    ·rw [if_pos hi] at p
     obtain ⟨a,qa,rfl⟩:=rv
     refine p μ H1 e1.back hb _ ⟨a,?_,rfl⟩
     rw [<- hr.len] at hi
     rw [<- e1.take,List.getElem?_take_of_lt hi]; exact qa
    ·rw [if_neg hi] at p
     cases q2:M'[i]? with
     | none=>rw [q2] at p; exact p.elim
     | some ds =>
      rw [q2] at p
      obtain ⟨a,qa,rfl⟩:=rv
      obtain ⟨a',vs',qa',h1,r1⟩:=hr1.at q2
      rw [qa] at qa'; cases qa'
      have hna:a∉μ:=fun z=>by
       obtain ⟨j,h2⟩:=List.mem_iff_getElem?.mp z
       have hj:=(List.getElem?_eq_some_iff.mp h2).1
       have h2:=e1.pre j a h2
       have l1:=(List.getElem?_eq_some_iff.mp qa).1
       have l2:=(List.getElem?_eq_some_iff.mp h2).1
       have g1:=(List.getElem?_eq_some_iff.mp qa).2
       have g2:=(List.getElem?_eq_some_iff.mp h2).2
       have pw:=List.pairwise_iff_getElem.mp hr1.nd
       rw [hr.len] at hj
       exact pw j i l2 l1 (by omega) (g2.trans g1.symm)
      refine p μ H1 e1.back hb _ ?_
      simp only [Rw,Rp]
      exact ⟨a,vs',rfl,h1,hna,Rps.sub hsub _ _ r1⟩
theorem yH {P:Program} {w:World} {K:PySem.W.Frag} {mg:Str->Option Value} {base:Heap} {CX:CXT} {k m:Nat} {f:Addr} {fd:FuncData} {ps:List Str} (hl:ps.length=m):FnOk P w K mg base CX k f fd ps (spX K m (fun _ _=>.bad)) :=
 ⟨fun vs H Q E h=>by rw [h.1,hl],fun A outer s H args us vs Q E _ _ _ _ h=>by obtain ⟨_,μ,M,ws,_,_,p⟩:=h; exact p.elim⟩
theorem wC {m:Nat} {Fm:Fn} {vs:List V} {ws:List W} {μ1:List Addr} {H1:Hp} {M1:Mm} {Q:VK} {E:XK} (hlen:∀ ws M,ws.length≠m->Fm ws M=.bad) (hr1:HR K μ1 H1 M1) (rx:Rws K μ1 H1 ws vs) (p1:Pst K (ZR K (wishR E)) μ1 H1 (Fm ws M1) (Wk K Q)):spX K m Fm vs H1 Q E:=by
 refine ⟨?_,μ1,M1,ws,hr1,rx,p1⟩
 by_cases hw:ws.length=m
 ·rw [<- rx.length]; exact hw
 ·rw [hlen ws M1 hw] at p1; exact p1.elim
noncomputable abbrev EofR (R:Addr->Hp->Prop):XK:=fun v _ H'=>∃ a,v=.ref a/\R a H'
theorem ZR.to (h:∀ a H,R a H->wishR (EofR R) a H:=fun a H h=>⟨a,rfl,h⟩) {α:Type} {o:Oc α} {Q:List Addr->Hp->Mm->α->Prop} (p:Pst K (ZR K R) μ H o Q):Pst K (ZR K (wishR (EofR R))) μ H o Q:=by
 cases o with
 | ok a M=>exact p
 | ex x M=>exact fun μ' H' e hr a ra=>h a H' (p μ' H' e hr a ra)
 | bad=>exact p
theorem dR {k:Nat} {fd:FuncData} {fa:Addr} {ps:List Str} {m:Nat} {Fm:Fn} {x:Str} {p:Pos} (hz:Xz X R) (Gf:FnOk X.prog X.w X.K X.mg X.base (CX1 X.prog X.w) k fa fd ps (spX K m Fm)) (hr:Room k X.A) (hm:X.mg x=some (.ref fa)) (hk:PySem.W.keepIn X.K (.ref fa)=true) (hb:Binds X.K fd ps [])
  (ha:Ea X K (ZR K R) (e::es) fs) (hg:Gl X x:=by rfl) (hdb:(x==("__debug__":Str))=false:=by decide) (he:starEach (e::es) X.env=(false,eval e X.env)::starEach es X.env:=by rfl) (hpl:(backTo pos (starEach es X.env)).any (·.1)=false:=by rfl)
  (hlen:∀ ws M,ws.length≠m->Fm ws M=.bad:=by intro ws M h; first | exact if_neg h | rfl):Ev X K (ZR K R) (.Call (.Name x p) (e::es) [] pos) (eA Fm fs):=by
 refine ⟨ha.k,cqE (pD (E:=EofR R) Gf hr hg hm hk hb .nil (nG rfl rfl ⟨fun pins σ ev s' h=>hz.go pins σ ev s' (h.imp fun a H ⟨a',q1,q2⟩=>by cases q1; exact q2)⟩) ha.h hdb he hpl) ?_⟩
 rintro σ H Q ⟨μ,M,L,hr,lr,p⟩
 refine ⟨μ,M,L,hr,lr,p.bind.imp fun μ1 H1 M1 ws e1 hr1 _ p1 vs rx=>?_⟩
 show spX K m Fm (vs++[]) H1 Q (EofR R)
 rw [List.append_nil]
 exact wC hlen hr1 rx (ZR.to (p:=p1))
theorem aBv {k:Nat} {fd:FuncData} {fa:Addr} {ps:List Str} {m:Nat} {Fm:Fn} {x:Str} {p:Pos} (Gf:FnOk X.prog X.w X.K X.mg X.base (CX1 X.prog X.w) k fa fd ps (spX K m Fm)) (hr:Room k X.A) (hm:X.mg x=some (.ref fa)) (hk:PySem.W.keepIn X.K (.ref fa)=true) (hb:Binds X.K fd ps [])
  (ha:Ea X K Z0 (e::es) fs) (hg:Gl X x:=by rfl) (hdb:(x==("__debug__":Str))=false:=by decide) (he:starEach (e::es) X.env=(false,eval e X.env)::starEach es X.env:=by rfl) (hpl:(backTo pos (starEach es X.env)).any (·.1)=false:=by rfl)
  (hlen:∀ ws M,ws.length≠m->Fm ws M=.bad:=by intro ws M h; first | exact if_neg h | rfl):Ev X K Z0 (.Call (.Name x p) (e::es) [] pos) (eA Fm fs):=by
 refine ⟨ha.k,cqE (pD (E:=E0) Gf hr hg hm hk hb .nil (nG rfl rfl (uN fun _ _ z=>z)) ha.h hdb he hpl) ?_⟩
 rintro σ H Q ⟨μ,M,L,hr,lr,p⟩
 refine ⟨μ,M,L,hr,lr,p.bind.imp fun μ1 H1 M1 ws e1 hr1 _ p1 vs rx=>?_⟩
 show spX K m Fm (vs++[]) H1 Q E0
 rw [List.append_nil]
 exact wC hlen hr1 rx (Pst.never p1)
noncomputable def aDef (fs:FA) (ds:List D):FA:=fun L M=>(fs L M).bind fun ws M1=>.ok (ws++ds.map W.d) M1
theorem Rws.append:∀ {ws us:List W} {vs zs:List V},Rws K μ H ws vs->Rws K μ H us zs->Rws K μ H (ws++us) (vs++zs)
 | [],_,_,_,h,t=>by cases h; exact t
 | _::_,_,_,_,⟨v,r,e1,e2,e3⟩,t=>by subst e1; exact ⟨v,_,rfl,e2,Rws.append e3 t⟩
noncomputable def nx (Fm:Fn):Fn:=fun ws M=>match Fm ws M with
 | .ok w M'=>.ok w M'
 | _=>.bad
theorem cH {k:Nat} {fd:FuncData} {fa:Addr} {ps:List Str} {m:Nat} {Fm:Fn} {x:Str} {p:Pos} (Gf:FnOk X.prog X.w X.K X.mg X.base CX0 k fa fd ps (spF K Z0 m Fm)) (hr:Room k X.A) (hm:X.mg x=some (.ref fa)) (hk:PySem.W.keepIn X.K (.ref fa)=true) (hb:Binds X.K fd ps [])
  (ha:Ea X K Z (e::es) fs) (hg:Gl X x:=by rfl) (hdb:(x==("__debug__":Str))=false:=by decide) (he:starEach (e::es) X.env=(false,eval e X.env)::starEach es X.env:=by rfl) (hpl:(backTo pos (starEach es X.env)).any (·.1)=false:=by rfl)
  (hlen:∀ ws M,ws.length≠m->Fm ws M=.bad:=by intro ws M h; first | exact if_neg h | rfl):Ev X K Z (.Call (.Name x p) (e::es) [] pos) (eA (nx Fm) fs):=by
 refine ⟨ha.k,cqE (pD Gf hr hg hm hk hb .nil pass0 ha.h hdb he hpl) ?_⟩
 rintro σ H Q ⟨μ,M,L,hr,lr,p⟩
 refine ⟨μ,M,L,hr,lr,p.bind.imp fun μ1 H1 M1 ws e1 hr1 _ p1 vs rx=>?_⟩
 show spF K Z0 m Fm (vs++[]) H1 Q E0
 rw [List.append_nil]
 have p2:Pst K Z0 μ1 H1 (Fm ws M1) (Wk K Q):=by
  unfold nx at p1
  cases q:Fm ws M1 with
  | ok w M'=>rw [q] at p1; exact p1
  | ex z M'=>rw [q] at p1; exact p1.elim
  | bad=>rw [q] at p1; exact p1.elim
 refine ⟨?_,μ1,M1,ws,hr1,rx,p2⟩
 by_cases hw:ws.length=m
 ·rw [<- rx.length]; exact hw
 ·rw [hlen ws M1 hw] at p2; exact p2.elim
theorem yO (hr:HR K μ H M) {p:Addr} {o:HO} (hp:H p=none):Ext μ H μ (upd H p o)/\HR K μ (upd H p o) M:=⟨jR hr hp,hr.lay hp⟩
noncomputable def sRaise (c f:Str) (fe:FE):FS:=fun L M=>(fe L M).bind fun w M1=>match w with
 | .d d=>.ex (.exn c f [d]) M1
 | _=>.bad
theorem kO {k:Nat} {C LE fI:Addr} {fd:FuncData} {ps:List Str} {c ff:Str} {p:Pos} {cpos:Pos} (hz:Xz X R) (F:Xc K c C LE) (hO:xcB X.K C (.ref LE::vb) (some (.ref fI))=true) (hF:LeF X.K LE) (hf:PySem.W.typeIn X.K (.ref fI)=some (.type "function"))
  (G:FnOk X.prog X.w X.K X.mg X.base (CX1 X.prog X.w) k fI fd ps (spXI C ff)) (hn:PySem.W.findIn K (.ref C) ff=some none) (hr:Room (k+1) X.A) (hb:Binds X.K fd ps []) (hm:X.mg c=some (.ref C)) (hk:PySem.W.keepIn X.K (.ref C)=true) (hc:X.calm=true) (ha:Ev X K (ZR K R) a fa)
  (hg:Gl X c:=by rfl) (hdb:(c==("__debug__":Str))=false:=by decide) (he:starEach [a] X.env=[(false,eval a X.env)]:=by rfl):Es X K (ZR K R) (.Raise (some (.Call (.Name c p) [a] [] cpos)) none pos) (sRaise c ff fa):=by
 refine ⟨ha.k,cqS (aDg (pos:=pos) (R:=R) (ini:=some (.ref fI)) hO hc hz (aCl (E:=E0) hO hF hf G hr hb (nG rfl rfl (uN fun _ _ z=>z)) hm hk (fL ha.h iJ he) hg hdb he)) ?_⟩
 rintro E σ H ⟨μ,M,L,hr,lr,p⟩
 refine ⟨μ,M,L,hr,lr,p.bind.imp fun μ1 H1 M1 w e1 hr1 _ p1 y ry=>?_⟩
 cases w with
 | ref i=>exact p1.elim
 | d d =>
  refine ⟨y,rfl,fun e dx he hd ne=>⟨e,some dx,upd H1 dx (.xd [(ff,y)]),rfl,rfl,?_⟩⟩
  obtain ⟨x1,h1⟩:=yO (o:=.xd [(ff,y)]) hr1 hd
  have he':upd H1 dx (.xd [(ff,y)]) e=none:=by rw [bF (Ne.symm ne)]; exact he
  obtain ⟨x2,h2⟩:=yO (o:=XO e C (some dx)) h1 he'
  have x3:=x1.trans x2
  refine p1 μ1 _ x3 h2 e ?_
  simp only [Rp]
  exact ⟨e,[y],C,LE,some dx,rfl,cB,F,.inr ⟨dx,y,rfl,rfl,by rw [bF ne]; exact cB,hn⟩,.cons (Rp.ext hr1.lsts x3 _ _ ry) .nil⟩
end
end EV
namespace EV
open PySem PySem.Spec PyProof.Rows L2
noncomputable def noX {α:Type} (f:Lc->Mm->Oc α):Lc->Mm->Oc α:=fun L M=>match f L M with
 | .ok a M1=>.ok a M1
 | _=>.bad
theorem Pst.noX {α:Type} {K:PySem.W.Frag} {Z:Zt} {μ:List Addr} {H:Hp} {f:Lc->Mm->Oc α} {L:Lc} {M:Mm} {Q:List Addr->Hp->Mm->α->Prop} (p:Pst K Z μ H (noX f L M) Q):Pst K Z0 μ H (f L M) Q:=by
 unfold EV.noX at p
 cases q:f L M with
 | ok a M'=>rw [q] at p; exact p
 | ex x M'=>rw [q] at p; exact p.elim
 | bad=>rw [q] at p; exact p
noncomputable def liftX (K:PySem.W.Frag) (f:FE) (σ:L2.St) (H:Hp) (Q:VK) (R:Addr->Hp->Prop):Prop:=∃ μ M L,HR K μ H M/\LR K μ H L σ/\Pst K (ZR K R) μ H (f L M) (Wk K Q)
noncomputable def liftB (K:PySem.W.Frag) (F:FS) (D:Ends) (R:Addr->Hp->Prop) (σ:L2.St) (H:Hp):Prop:=∃ μ M L,HR K μ H M/\LR K μ H L σ/\Pst K (ZR K R) μ H (F L M) (Sk K D)
structure Exx (X:Cx) (K:PySem.W.Frag) (e:Expr) (f:FE):Prop where
 k:X.K=K
 h:PEx X e (liftX K f)
structure Tb (X:Cx) (K:PySem.W.Frag) (b:List Stmt) (F:FS):Prop where
 k:X.K=K
 h:PBx X b (liftB K F)
section
variable {X:Cx} {K:PySem.W.Frag} {Z:Zt} {R:Addr->Hp->Prop} {μ:List Addr} {H:Hp} {M:Mm} {e a b:Expr} {es:List Expr} {pos:Pos} {f fa fb fc:FE} {fs:FA} {st:Stmt} {rest:List Stmt} {F G:FS}
theorem aCx {k:Nat} {fd:FuncData} {fa:Addr} {ps:List Str} {m:Nat} {Fm:Fn} {x:Str} {p:Pos} {dvs:List V} {ds:List Value} {dd:List D} (Gf:FnOk X.prog X.w X.K X.mg X.base (CX1 X.prog X.w) k fa fd ps (spX K m Fm)) (hr:Room k X.A) (hm:X.mg x=some (.ref fa)) (hk:PySem.W.keepIn X.K (.ref fa)=true) (hb:Binds X.K fd ps ds) (hd:Vals dvs ds) (hdd:∀ μ H,Rws K μ H (dd.map W.d) dvs)
  (ha:Ea X.nox K Z0 (e::es) fs) (hg:Gl X x:=by rfl) (hdb:(x==("__debug__":Str))=false:=by decide) (he:starEach (e::es) X.env=(false,eval e X.env)::starEach es X.env:=by rfl) (hpl:(backTo pos (starEach es X.env)).any (·.1)=false:=by rfl)
  (hlen:∀ ws M,ws.length≠m->Fm ws M=.bad:=by intro ws M h; first | exact if_neg h | rfl):Exx X K (.Call (.Name x p) (e::es) [] pos) (eA Fm (aDef (noX fs) dd)):=by
 refine ⟨ha.k,?_⟩
 rintro pins s σ H Q R I ⟨μ,M,L,hr0,lr,p⟩
 refine wpAny_Call_Name_kw (mR I hg hm ?_ hdb)
 have p:Pst K (ZR K R) μ H ((noX fs L M).bind fun ws M1=>Fm (ws++dd.map W.d) M1) (Wk K Q):=by
  unfold eA aDef at p
  cases q:noX fs L M with
  | ok ws M1=>rw [q] at p; exact p
  | ex x M1=>rw [q] at p; exact p
  | bad=>rw [q] at p; exact p
 have hA:=ha.h pos pins s σ H (fun vs H1=>spX K m Fm (vs++dvs) H1 Q (EofR R)) (I.wish _) ⟨μ,M,L,hr0,lr,(p.bind.noX).imp fun μ1 H1 M1 ws e1 hr1 _ p1 vs rx=>wC hlen hr1 (rx.append (hdd μ1 H1)) (ZR.to (p:=p1))⟩
 refine PySem.W.callWith_K (h₀:=X.base) I.ok.mod.kin hk (wpAny_mono hA (fun us s1 ⟨vs,H1,I1,r,q⟩=>?_) fun _ _ z=>z.elim) he hpl
 have I1:=I1.unwish
 refine ⟨I1.kIn,?_⟩
 have r2:Vals (vs++dvs) (us++ds):=r.append hd
 have hl:(us++ds).length=ps.length:=by rw [<- r2.length]; exact Gf.len _ _ _ _ q
 refine wpAny_call (codeAny_mono (Gf.run X.A X.stack s1 H1 ⟨us,[]⟩ (us++ds) (vs++dvs) Q (EofR R) hr I1.env0 (hb s1 us I1.kIn hl) r2 q) fun rr s' hq=>?_)
 cases rr with
 | error ev=>exact (XE.call I1 hq).imp fun a H ⟨a',q1,q2⟩=>by cases q1; exact q2
 | ok fl =>
  cases fl with
  | ret u=>exact I1.after hq
  | next=>exact False.elim hq
  | brk=>exact False.elim hq
  | cont=>exact False.elim hq
theorem aGa {k:Nat} {fd:FuncData} {fa:Addr} {ps:List Str} {m:Nat} {Fm:Fn} {x:Str} {p:Pos} (Gf:FnOk X.prog X.w X.K X.mg X.base (CX1 X.prog X.w) k fa fd ps (spX K m Fm)) (hr:Room k X.A) (hm:X.mg x=some (.ref fa)) (hk:PySem.W.keepIn X.K (.ref fa)=true) (hb:Binds X.K fd ps [])
  (ha:Ea X.nox K Z0 (e::es) fs) (hg:Gl X x:=by rfl) (hdb:(x==("__debug__":Str))=false:=by decide) (he:starEach (e::es) X.env=(false,eval e X.env)::starEach es X.env:=by rfl) (hpl:(backTo pos (starEach es X.env)).any (·.1)=false:=by rfl)
  (hlen:∀ ws M,ws.length≠m->Fm ws M=.bad:=by intro ws M h; first | exact if_neg h | rfl):Exx X K (.Call (.Name x p) (e::es) [] pos) (eA Fm (aDef (noX fs) [])) :=
 aCx Gf hr hm hk hb .nil (fun _ _=>rfl) ha hg hdb he hpl hlen
theorem aIk {i:Nat} {x:Str} {pos':Pos} (hN:X.N.Nodup) (he:Exx X K e f) (hi:X.N[i]?=some x:=by rfl) (hx:Loc X.env.scope x:=by first | exact Or.inl rfl | exact Or.inr rfl) (hs:swapsWith e (some (.Name x pos')) pos.line X.env=pure false:=by rfl)
  (hf:X.fn x=true\/X.env.scope.names.lookup x=some .local:=by first | exact .inl rfl | exact .inr rfl | assumption):Tb X K [.Assign [.Name x pos'] e pos] (sAs f (gN i)):=by
 refine ⟨he.k,?_⟩
 rintro pins s σ H D R I ⟨μ,M,L,hr0,lr,p⟩
 refine wpAny_execs_cons (wpAny_Assign_Name (thn (he.h pins s σ H (fun v H1=>D.nx (σ.set i (some v)) H1) R I ⟨μ,M,L,hr0,lr,p.bind.imp fun μ1 H1 M1 w e1 hr1 _ p1 v rv=>p1 μ1 H1 .refl hr1 _ (LR.set (lr.ext hr0.lsts e1) rv)⟩) fun v s1 ⟨y,H1,I1,r1,q1⟩=>?_) hs)
 exact jI I1 hN hi hx r1 (fun s2 I2=>wpAny_execs_nil ⟨_,H1,I2,q1⟩) hf
end
end EV
namespace EV
open PySem PySem.Spec PyProof.Rows L2
noncomputable def mt (cn c:Str):Bool:=c==cn || cn=="LentError" || cn=="ValueError"
noncomputable def mtD (cn:Str):D->Bool
 | .exn c _ _=>mt cn c
 | _=>false
section
variable {K:PySem.W.Frag}
noncomputable def CtD (K:PySem.W.Frag) (cn:Str) (Dc:Addr):Prop:=∀ c C LE,Xc K c C LE->mt cn c=true->XM K C Dc
theorem aFs {c:Str} {C C' LE LE':Addr} (F:Xc K c C LE) (G:Xc K c C' LE'):C=C':=by
 have:=F.nm.symm.trans G.nm
 cases this; rfl
theorem aEa {cn:Str} {Dc LE:Addr} (G:Xc K cn Dc LE) (hv:cn≠"ValueError":=by decide):CtD K cn Dc:=fun c C LE' F h=>by
 have hc:c=cn:=by
  simp only [mt,Bool.or_eq_true,beq_iff_eq] at h
  rcases h with (h | h) | h
  ·exact h
  ·exact (G.ne h).elim
  ·exact (hv h).elim
 subst hc
 cases aFs F G
 obtain ⟨ini,ob⟩:=G.ob
 exact ⟨⟨_,ini,ob,by simp⟩,⟨_,ini,ob,rfl⟩⟩
end
structure Ecs (X:Cx) (K:PySem.W.Frag) (es:List Expr) (cns:List Str):Prop where
 k:X.K=K
 h:∃ ys cvs,PA X es (fun _ H Q=>Q ys H)/\ys.map clV=cvs.map some/\ys.length<=es.length/\∀ c C LE,Xc K c C LE->PySem.W.kitAny K (.ref C) cvs=some (cns.any fun n=>mt n c)
section
variable {X:Cx} {K:PySem.W.Frag} {Z:Zt} {R:Addr->Hp->Prop} {μ:List Addr} {H:Hp} {M:Mm} {e a b:Expr} {es:List Expr} {pos:Pos} {f fa fb fc:FE} {fs:FA} {st:Stmt} {rest:List Stmt} {F G:FS}
noncomputable def sTry (cn:Str) (FB FH:FS):FS:=fun L M=>match FB L M with
 | .ok o M'=>.ok o M'
 | .ex x M'=>if mtD cn x=true then noX FH L M' else .bad
 | .bad=>.bad
theorem aKb {cn:Str} {Dc:Addr} {x:D} {a:Addr} (ct:CtD K cn Dc) (hm:mtD cn x=true) (r:Rp K μ H x (.ref a)):∃ C d,H a=some (XO a C d)/\XM K C Dc:=by
 cases x with
 | exn c f xs =>
  simp only [Rp] at r
  obtain ⟨a',vs,C,LE,d,e,hx,F,_⟩:=r
  cases e
  exact ⟨C,d,hx,ct c C LE F hm⟩
 | _=>cases hm
theorem aHn {body suite:List Stmt} {b₀:Stmt} {cn:Str} {Dc:Addr} {np hpos:Pos} {FB FH:FS} (ct:CtD K cn Dc) (hm:X.mg cn=some (.ref Dc)) (hb:Tb X K body FB) (hs:∀ a,Ess (X.hnd a) K Z0 (b₀::suite) FH)
  (hg:Gl X cn:=by rfl) (hst:X.stack=X.env::X.outer:=by rfl) (hfm:X.env.frame=some X.env.locals:=by rfl) (hdb:(cn==("__debug__":Str))=false:=by decide) :
  Es X K Z (.Try body [.ExceptHandler (some (.Name cn np)) none (b₀::suite) hpos] [] [] pos) (sTry cn FB FH):=by
 have h:=aHw (np:=np) (pos:=pos) (hpos:=hpos) hb.h (fun a=>(hs a).h) hm hg hst hfm hdb
 rw [hb.k] at h
 refine ⟨hb.k,cqS h ?_⟩
 rintro E σ H ⟨μ,M,L,hr,lr,p⟩
 refine ⟨μ,M,L,hr,lr,?_⟩
 unfold sTry at p
 cases q:FB L M with
 | bad=>rw [q] at p; exact p
 | ok o M'=>rw [q] at p; exact p
 | ex x M' =>
  rw [q] at p
  simp only at p
  split at p
  ·rename_i hmt
   intro μ1 H1 e1 hr1 a ra
   exact ⟨aKb ct hmt ra,μ1,M',_,hr1,lr.ext hr.lsts e1,(Pst.mono e1 p).noX⟩
  ·exact p.elim
theorem aFi {K:PySem.W.Frag} {Fm:Fn} {H:Hp} {a:Addr} {ns:List Int} (hO:Only H) (hS:SqL K H a (ns.map V.int)) (h:∃ M',Fm [.d (.fz (ns.map D.int))] []=.ok (.d (.bl true)) M'):spX K 1 Fm [.ref a] H (fun v _=>v=.bl true) fun _ _ _=>False:=by
 obtain ⟨h1,μ,M,ws,h2,h3,h4⟩:=aJs (K:=K) hO hS h
 exact ⟨h1,μ,M,ws,h2,h3,Pst.never h4⟩
end
end EV
namespace EV
open PySem L2
section
variable {EX:D->Mm->Prop} {L:Lc} {M:Mm} {i j:Nat} {w x y:W} {Q:W->Mm->Prop} {QA:List W->Mm->Prop} {QS:Out->Mm->Prop} {f g h:FE} {F G FB FH:FS} {fs:FA} {Fm:Fn} {ws:List W}
theorem aJw (h:Ok (Fm ws M) Q):Okx EX (nx Fm ws M) Q:=by
 obtain ⟨a,M',e,q⟩:=jB.mp h
 unfold nx; rw [e]; exact aY q
theorem aDj {α:Type} {f:Lc->Mm->Oc α} {Q:α->Mm->Prop} (h:Ok (f L M) Q):Okx EX (noX f L M) Q:=by
 obtain ⟨a,M',e,q⟩:=jB.mp h
 unfold noX; rw [e]; exact aY q
theorem aFh {ds:List D} (h:Okx EX (fs L M) fun ws M1=>QA (ws++ds.map W.d) M1):Okx EX (aDef fs ds L M) QA:=bA (h.mono fun _ _ z=>aY z)
theorem eU {m n:Nat} (hm:ws.length=m) (h:Okx (fun x M'=>EX x (M'.take M.length)) (F (ws.map some++List.replicate (n - ws.length) none) M) fun o M'=>match o with
  | .rt w=>Ok (retc M.length w M') Q
  | .nx _=>Q (.d .non) (M'.take M.length)
  | _=>False):Okx EX (fnX m n F ws M) Q:=by
 unfold fnX fnD
 rw [if_pos hm]
 rcases iW.mp h with ⟨o,M',e,q⟩ | ⟨x,M',e,q⟩
 ·rw [e]
  simp only [eZ]
  cases o with
  | rt w =>
   obtain ⟨a,M2,e2,q2⟩:=jB.mp q
   simp only [e2]
   exact aY q2
  | nx L=>exact aY q
  | bk L=>exact q.elim
  | ct L=>exact q.elim
 ·rw [e]
  simp only [aFm]
  exact kM q
theorem zV {c ff:Str} (h:Okx EX (f L M) fun w M1=>∃ d,w=.d d/\EX (.exn c ff [d]) M1):Okx EX (sRaise c ff f L M) QS:=bA (h.mono fun w M1 ⟨d,e,q⟩=>by subst e; exact kM q)
theorem yK {cn:Str} (h:Okx (fun x M'=>mtD cn x=true/\Ok (FH L M') QS) (FB L M) QS):Okx EX (sTry cn FB FH L M) QS:=by
 unfold sTry
 rcases iW.mp h with ⟨o,M',e,q⟩ | ⟨x,M',e,hm,q⟩
 ·rw [e]; exact aY q
 ·rw [e]
  simp only
  rw [if_pos hm]
  exact aDj q
end
end EV
namespace EV
open PySem PySem.Spec PySem.W PyProof.Rows L2
noncomputable def xkB (K:Frag) (c:Str) (C LE:Addr):Bool:=(match clsIn K C with
  | some cd=>cd.name==c&&cd.mro==.ref C::.ref LE::vb&&cd.hasDict
  | none=>false)&&(match clsIn K LE with
  | some cl=>cl.name==("LentError":Str)
  | none=>false)&&findIn K (.ref C) "__getattribute__"==some (some (.builtin "BaseException.__getattribute__"))&&findIn K (.ref C) "__getattr__"==some none&&findIn K (.ref C) "__class__"==some (some (.builtin "object.__class__"))
theorem aLf {K:Frag} {c:Str} {C LE:Addr} {ini:Option Value} (nm:nsIn K mainGlobals c=some (some (.ref C))) (leN:nsIn K mainGlobals "LentError"=some (some (.ref LE))) (q:xkB K c C LE=true) (ob:xcB K C (.ref LE::vb) ini=true) (leO:xcB K LE vb none=true) (ne:c≠"LentError"):Xc K c C LE:=by
 unfold xkB at q
 simp only [Bool.and_eq_true,beq_iff_eq] at q
 obtain ⟨⟨⟨⟨q1,q2⟩,q3⟩,q4⟩,q5⟩:=q
 cases h1:clsIn K C with
 | none=>rw [h1] at q1; cases q1
 | some cd =>
  rw [h1] at q1
  simp only [Bool.and_eq_true,beq_iff_eq] at q1
  cases h2:clsIn K LE with
  | none=>rw [h2] at q2; cases q2
  | some cl =>
   rw [h2] at q2
   simp only [beq_iff_eq] at q2
   exact ⟨nm,⟨cd,h1,q1.1.1,q1.1.2⟩,⟨cl,h2,q2⟩,leN,ne,by unfold hasDictIn; rw [h1]; exact q1.2,q3,q4,q5,⟨ini,ob⟩,leO⟩
section
variable {X:Cx} {K:Frag} {Z:Zt} {pos:Pos}
theorem aJz {c:Str} {C LE:Addr} {cd:ClassData} (xc:Xc K c C LE) (hc:clsIn K C=some cd):cd.hasDict=true:=by have:=xc.hd; unfold hasDictIn at this; rw [hc] at this; exact this
end
end EV
namespace LS
open PySem L2 EV
noncomputable def Cg (n a b:Int):Prop:=∃ k,a=b+n*k
theorem Cg.rfl {n a:Int}:Cg n a a:=⟨0,by simp⟩
theorem Cg.symm {n a b:Int} (h:Cg n a b):Cg n b a:=by obtain ⟨k,rfl⟩:=h; exact ⟨-k,by grind⟩
theorem Cg.trans {n a b c:Int} (h:Cg n a b) (g:Cg n b c):Cg n a c:=by obtain ⟨k,rfl⟩:=h; obtain ⟨l,rfl⟩:=g; exact ⟨k+l,by grind⟩
theorem Cg.add {n a b c d:Int} (h:Cg n a b) (g:Cg n c d):Cg n (a+c) (b+d):=by obtain ⟨k,rfl⟩:=h; obtain ⟨l,rfl⟩:=g; exact ⟨k+l,by grind⟩
theorem Cg.sub {n a b c d:Int} (h:Cg n a b) (g:Cg n c d):Cg n (a - c) (b - d):=by obtain ⟨k,rfl⟩:=h; obtain ⟨l,rfl⟩:=g; exact ⟨k - l,by grind⟩
theorem Cg.neg {n a b:Int} (h:Cg n a b):Cg n (-a) (-b):=by obtain ⟨k,rfl⟩:=h; exact ⟨-k,by grind⟩
theorem Cg.mul {n a b c d:Int} (h:Cg n a b) (g:Cg n c d):Cg n (a*c) (b*d):=by obtain ⟨k,rfl⟩:=h; obtain ⟨l,rfl⟩:=g; exact ⟨b*l+d*k+n*k*l,by grind⟩
theorem Cg.mod {n a:Int}:Cg n (a % n) a:=⟨-(a / n),by have:=Int.emod_def a n; grind⟩
theorem Cg.modT {n a b:Int} (h:Cg n a b):Cg n (a % n) b:=Cg.mod.trans h
theorem Cg.emod {n a b:Int} (h:Cg n a b):a % n=b % n:=by obtain ⟨k,rfl⟩:=h; simp [Int.add_mul_emod_self_left]
theorem Cg.of {n a b:Int} (h:a % n=b % n):Cg n a b:=Cg.mod.symm.trans (h▸Cg.mod)
theorem Cg.of_eq {n a b:Int} (h:a=b):Cg n a b:=h▸Cg.rfl
theorem fY {n a b a' b':Int} (h:Cg n a a') (g:Cg n b b') (e:a'=b'):a % n=b % n:=(h.trans (e▸g.symm)).emod
theorem kU {n a b a':Int} (l:0<=b) (u:b < n) (h:Cg n a a') (e:a'=b):a % n=b:=by rw [fY h Cg.rfl e,Int.emod_eq_of_lt l u]
local macro_rules | `(tactic| clean_wf) => `(tactic| repeat decreasing_trivial_pre_omega)
local macro_rules | `(tactic| decreasing_trivial_pre_omega) => `(tactic| with_reducible first
 | apply Cg.modT | apply Cg.add | apply Cg.sub | apply Cg.mul | apply Cg.neg | exact Cg.rfl)
inductive Dd
 | add (s:Nat) (c:Int) (gs ts:List Nat)
 | scale (s:Nat) (u:Int)
noncomputable def natsD (xs:List Nat):D:=.tup (xs.map fun k=>.int (k:Nat))
noncomputable def intsD (xs:List Int):D:=.tup (xs.map .int)
noncomputable def encD:Dd->D
 | .add s c gs ts=>.tup [.str "add",.int s,.int c,natsD gs,natsD ts]
 | .scale s u=>.tup [.str "scale",.int s,.int u]
noncomputable def pr (xs:List Int) (is:List Nat):Int:=is.foldl (fun a i=>a*xs.getD i 0) 1
theorem aBp (xs:List Int) (is:List Nat) (c:Int):is.foldl (fun a i=>a*xs.getD i 0) c=c*pr xs is:=by
 induction is generalizing c with
 | nil=>simp [pr]
 | cons i r ih=>rw [List.foldl_cons,ih]; show _=c*(List.foldl _ (1*_) r); rw [ih (1*_)]; grind
theorem pH (xs:List Int) (i:Nat) (r:List Nat):pr xs (i::r)=xs.getD i 0*pr xs r:=by
 simp only [pr,List.foldl_cons,Int.one_mul]; exact aBp xs r _
theorem oH (xs:List Int):pr xs []=1:=rfl
theorem tO (xs:List Int) (i:Nat):pr xs [i]=xs.getD i 0:=by simp [pr]
theorem aGw {xs:List Int} {s:Nat} {v:Int} {is:List Nat} (h:s∉is):pr (xs.set s v) is=pr xs is:=by
 induction is with
 | nil=>rfl
 | cons i r ih =>
  rw [pH,pH,ih (fun z=>h (by simp [z]))]
  have:s≠i:=fun z=>h (by simp [z])
  simp [List.getElem?_set_ne this]
noncomputable def dn (n:Int) (gs cs:List Int):Dd->List Int
 | .add s c g t=>cs.set s ((cs.getD s 0+c*pr gs g*pr cs t) % n)
 | .scale s u=>cs.set s (cs.getD s 0*u % n)
noncomputable def rn (n:Int) (gs:List Int) (ds:List Dd) (cs:List Int):List Int:=ds.foldl (fun cs d=>dn n gs cs d) cs
theorem nP {n:Int} {gs cs:List Int}:rn n gs [] cs=cs:=rfl
theorem gC {n:Int} {gs cs:List Int} {d:Dd} {ds:List Dd}:rn n gs (d::ds) cs=rn n gs ds (dn n gs cs d):=rfl
theorem cW {n:Int} {gs cs:List Int} {ds es:List Dd}:rn n gs (ds++es) cs=rn n gs es (rn n gs ds cs):=by simp [rn]
theorem oE {n:Int} {gs cs:List Int} {d:Dd}:(dn n gs cs d).length=cs.length:=by cases d <;> simp [dn]
theorem oB {n:Int} {gs:List Int} {ds:List Dd}:∀ {cs:List Int},(rn n gs ds cs).length=cs.length:=by
 induction ds with
 | nil=>intro cs; rfl
 | cons d ds ih=>intro cs; rw [gC,ih,oE]
noncomputable def Rs (n:Int) (cs:List Int):Prop:=∀ c∈cs,0<=c/\c < n
theorem Rs.getD {n:Int} {cs:List Int} (h:Rs n cs) {i:Nat} (hi:i < cs.length):0<=cs.getD i 0/\cs.getD i 0 < n:=h _ (by simp [hi])
theorem Rs.getD0 {n:Int} {cs:List Int} (h:Rs n cs) (hn:0 < n) {i:Nat}:0<=cs.getD i 0/\cs.getD i 0 < n:=by
 by_cases hi:i < cs.length
 ·exact h.getD hi
 ·simp [List.getElem?_eq_none (Nat.le_of_not_lt hi)]; exact hn
theorem Rs.set {n:Int} {cs:List Int} (h:Rs n cs) {i:Nat} {v:Int} (l:0<=v) (u:v < n):Rs n (cs.set i v):=by
 intro c hc
 rcases List.mem_or_eq_of_mem_set hc with hc | rfl
 ·exact h c hc
 ·exact ⟨l,u⟩
theorem Rs.setM {n:Int} {cs:List Int} (hn:0 < n) (h:Rs n cs) {i:Nat} {v:Int}:Rs n (cs.set i (v % n)):=h.set (Int.emod_nonneg _ (by omega)) (Int.emod_lt_of_pos _ hn)
theorem Rs.dn {n:Int} {gs cs:List Int} (hn:0 < n) (h:Rs n cs) {d:Dd}:Rs n (dn n gs cs d):=by cases d <;> exact h.setM hn
theorem Rs.rn {n:Int} {gs:List Int} (hn:0 < n) {ds:List Dd}:∀ {cs:List Int},Rs n cs->Rs n (rn n gs ds cs):=by
 induction ds with
 | nil=>intro cs h; exact h
 | cons d ds ih=>intro cs h; rw [gC]; exact ih (h.dn hn)
noncomputable def IsIv (n u v:Int):Prop:=0<=v/\v < n/\(u*v) % n=1 % n
theorem IsIv.uniq {n u v w:Int} (h:IsIv n u v) (g:IsIv n u w):v=w:=by
 obtain ⟨l,k,e⟩:=h
 obtain ⟨l',k',e'⟩:=g
 have e1:Cg n (u*v) 1:=Cg.of e
 have e2:Cg n (u*w) 1:=Cg.of e'
 have:Cg n v w:=by
  have h1:Cg n v (v*(u*w)):=by simpa using Cg.mul (Cg.rfl (a:=v)) e2.symm
  have h2:Cg n ((u*v)*w) (1*w):=Cg.mul e1 Cg.rfl
  exact h1.trans ((Cg.of_eq (by grind)).trans (h2.trans (Cg.of_eq (by grind))))
 have:=this.emod
 rwa [Int.emod_eq_of_lt l k,Int.emod_eq_of_lt l' k'] at this
open Classical in
noncomputable def iv (n u:Int):Int:=if h:∃ v,IsIv n u v then Classical.choose h else 0
theorem aGb {n u v:Int} (h:IsIv n u v):iv n u=v:=by
 have hx:∃ v,IsIv n u v:=⟨v,h⟩
 unfold iv
 rw [dif_pos hx]
 exact (Classical.choose_spec hx).uniq h
theorem sZ {n u:Int} (h:∃ v,IsIv n u v):IsIv n u (iv n u):=by obtain ⟨v,h⟩:=h; rw [aGb h]; exact h
noncomputable def Un (n u:Int):Prop:=0<=u/\u < n/\∃ v,IsIv n u v
theorem Un.iv {n u:Int} (h:Un n u):Un n (iv n u):=by
 have h':=sZ h.2.2
 exact ⟨h'.1,h'.2.1,u,h.1,h.2.1,by rw [Int.mul_comm]; exact h'.2.2⟩
theorem aKr {n u:Int} (h:Un n u):LS.iv n (LS.iv n u)=u:=aGb ⟨h.1,h.2.1,by rw [Int.mul_comm]; exact (sZ h.2.2).2.2⟩
noncomputable def OkD (n:Int) (G S:Nat):Dd->Prop
 | .add s c g t=>s < S/\0<=c/\c < n/\(∀ i∈g,i < G)/\(∀ i∈t,i < S)/\s∉t/\g.length<=4/\t.length<=4
 | .scale s u=>s < S/\Un n u
noncomputable def bD (n:Int):Dd->Dd
 | .add s c g t=>.add s (-c % n) g t
 | .scale s u=>.scale s (iv n u)
noncomputable def bDs (n:Int) (ds:List Dd):List Dd:=ds.reverse.map (bD n)
theorem OkD.back {n:Int} {G S:Nat} (hn:0 < n) {d:Dd} (h:OkD n G S d):OkD n G S (bD n d):=by
 cases d with
 | add s c g t=>obtain ⟨a,b,c,r⟩:=h; exact ⟨a,Int.emod_nonneg _ (by omega),Int.emod_lt_of_pos _ hn,r⟩
 | scale s u=>exact ⟨h.1,h.2.iv⟩
theorem OkD.backs {n:Int} {G S:Nat} (hn:0 < n) {ds:List Dd} (h:∀ d∈ds,OkD n G S d):∀ d∈bDs n ds,OkD n G S d:=by
 intro d hd
 obtain ⟨x,hx,rfl⟩:=List.mem_map.mp hd
 exact (h x (List.mem_reverse.mp hx)).back hn
theorem aKj {n:Int} {G S:Nat} (hn:0 < n) {d:Dd} (h:OkD n G S d):bD n (bD n d)=d:=by
 cases d with
 | add s c g t =>
  obtain ⟨a,b,c',r⟩:=h
  simp only [bD,Dd.add.injEq,true_and,and_true]
  apply kU (b) (c')
  ·clean_wf
  ·grind
 | scale s u=>simp only [bD,aKr h.2]
theorem kT {n:Int} {G S:Nat} (hn:0 < n) {ds:List Dd} (h:∀ d∈ds,OkD n G S d):bDs n (bDs n ds)=ds:=by
 unfold bDs
 rw [<- List.map_reverse,List.reverse_reverse,List.map_map]
 conv=>rhs; rw [<- List.map_id ds]
 exact List.map_congr_left fun d hd=>aKj hn (h d hd)
theorem dQ {n:Int} {ds es:List Dd}:bDs n (ds++es)=bDs n es++bDs n ds:=by simp [bDs]
theorem bI {n:Int} {ds:List Dd}:(bDs n ds).length=ds.length:=by simp [bDs]
theorem lC (cs:List Int) (s:Nat):cs.set s (cs.getD s 0)=cs:=by
 apply List.ext_getElem?
 intro i
 by_cases hi:s=i
 ·subst hi
  by_cases h:s < cs.length
  ·rw [List.getElem?_set_self h]; simp [h]
  ·rw [List.getElem?_eq_none (by simpa using h),List.getElem?_eq_none (by simpa using h)]
 ·rw [List.getElem?_set_ne hi]
theorem bO {cs:List Int} {s:Nat} {v:Int} (h:s < cs.length):(cs.set s v).getD s 0=v:=by simp [h]
theorem bU {cs:List Int} {s i:Nat} {v:Int} (h:s≠i):(cs.set s v).getD i 0=cs.getD i 0:=by simp [List.getElem?_set_ne h]
theorem aDw {n:Int} {G:Nat} {gs cs:List Int} (hn:0 < n) (hc:Rs n cs) {d:Dd} (h:OkD n G cs.length d):dn n gs (dn n gs cs d) (bD n d)=cs:=by
 cases d with
 | add s c g t =>
  obtain ⟨hs,_,_,_,_,hst,_⟩:=h
  simp only [dn,bD]
  rw [bO hs,aGw hst,List.set_set]
  have:((cs.getD s 0+c*pr gs g*pr cs t) % n + -c % n*pr gs g*pr cs t) % n=cs.getD s 0:=by
   apply kU ((hc.getD hs).1) ((hc.getD hs).2)
   ·clean_wf
   ·grind
  rw [this,lC]
 | scale s u =>
  obtain ⟨hs,hu⟩:=h
  simp only [dn,bD]
  rw [bO hs,List.set_set]
  have:cs.getD s 0*u % n*iv n u % n=cs.getD s 0:=by
   have e:Cg n (u*iv n u) 1:=Cg.of (sZ hu.2.2).2.2
   have h1:Cg n (cs.getD s 0*u % n*iv n u) (cs.getD s 0*(u*iv n u)):=(Cg.mul Cg.mod Cg.rfl).trans (Cg.of_eq (by grind))
   have h2:=(h1.trans (Cg.mul Cg.rfl e)).emod
   rw [h2,Int.mul_one,Int.emod_eq_of_lt (hc.getD hs).1 (hc.getD hs).2]
  rw [this,lC]
theorem xU {n:Int} {G:Nat} {gs:List Int} (hn:0 < n) {ds:List Dd}:∀ {cs:List Int},Rs n cs->(∀ d∈ds,OkD n G cs.length d)->rn n gs (bDs n ds) (rn n gs ds cs)=cs:=by
 induction ds with
 | nil=>intro cs _ _; rfl
 | cons d ds ih =>
  intro cs hc h
  have e:bDs n (d::ds)=bDs n ds++[bD n d]:=by simp [bDs]
  rw [e,cW,gC (ds:=ds),ih (hc.dn hn) (fun x hx=>by rw [oE]; exact h x (by simp [hx]))]
  exact aDw hn hc (h d (by simp))
inductive Wd | sum | less | times
noncomputable def Wd.str:Wd->Str
 | .sum=>"sum"
 | .less=>"less"
 | .times=>"times"
noncomputable def Wd.ev (n:Int):Wd->Int->Int->Int
 | .sum,x,y=>(x+y) % n
 | .less,x,y=>(x - y) % n
 | .times,x,y=>x*y % n
inductive E
 | num (c:Int)
 | giv (i:Nat)
 | op (w:Wd) (a b:E)
noncomputable def enc:E->D
 | .num c=>.tup [.str "num",.int c]
 | .giv i=>.tup [.str "given",.int i]
 | .op w a b=>.tup [.str w.str,enc a,enc b]
noncomputable def val (n:Int) (gs:List Int):E->Int
 | .num c=>c % n
 | .giv i=>gs.getD i 0
 | .op w a b=>w.ev n (val n gs a) (val n gs b)
noncomputable def dp:E->Nat
 | .num _=>0
 | .giv _=>0
 | .op _ a b=>max (dp a) (dp b)+1
noncomputable def wf (m:Nat):E->Prop
 | .num c=>0<=c/\c < 1000000
 | .giv i=>i < m
 | .op _ a b=>wf m a/\wf m b
theorem wf.mono {m k:Nat} (h:m<=k):∀ {e:E},wf m e->wf k e
 | .num _,w=>w
 | .giv _,w=>Nat.lt_of_lt_of_le w h
 | .op _ _ _,w=>⟨w.1.mono h,w.2.mono h⟩
theorem nZ {n:Int} {gs:List Int} (hn:0 < n) (hg:Rs n gs):∀ {e:E},0<=val n gs e/\val n gs e < n:=by
 intro e
 cases e with
 | num c=>exact ⟨Int.emod_nonneg _ (by omega),Int.emod_lt_of_pos _ hn⟩
 | giv i=>exact hg.getD0 hn
 | op w a b=>cases w <;> exact ⟨Int.emod_nonneg _ (by omega),Int.emod_lt_of_pos _ hn⟩
noncomputable def rowBy (n:Int):E->Nat->Nat->Nat->List Dd
 | .num c,s,b,_=>[.add s (c % n) [] [b]]
 | .giv i,s,b,_=>[.add s 1 [i] [b]]
 | .op .sum x y,s,b,c=>rowBy n x s b c++rowBy n y s b c
 | .op .less x y,s,b,c=>rowBy n x s b c++bDs n (rowBy n y s b c)
 | .op .times x y,s,b,c=>rowBy n y c b s++rowBy n x s c b++bDs n (rowBy n y c b s)++bDs n (rowBy n x s c b)
noncomputable def rowAl (n:Int):E->Nat->Nat->Nat->List Dd
 | .num c,s,_,_=>[.add s (c % n) [] []]
 | .giv i,s,_,_=>[.add s 1 [i] []]
 | .op .sum x y,s,b,c=>rowAl n x s b c++rowAl n y s b c
 | .op .less x y,s,b,c=>rowAl n x s b c++bDs n (rowAl n y s b c)
 | .op .times x y,s,b,c=>rowAl n y c b s++rowBy n x s c b++bDs n (rowAl n y c b s)++bDs n (rowBy n x s c b)
noncomputable def many:E->Nat
 | .num _=>1
 | .giv _=>1
 | .op .times a b=>2*(many a+many b)
 | .op _ a b=>many a+many b
theorem bC {n:Int}:∀ {e:E} {s b c:Nat},(rowBy n e s b c).length=many e
 | .num _,_,_,_=>rfl
 | .giv _,_,_,_=>rfl
 | .op .sum x y,s,b,c=>by simp [rowBy,many,bC (e:=x),bC (e:=y)]
 | .op .less x y,s,b,c=>by simp [rowBy,many,bI,bC (e:=x),bC (e:=y)]
 | .op .times x y,s,b,c=>by simp [rowBy,many,bI,bC (e:=x),bC (e:=y)]; omega
theorem bQ {n:Int}:∀ {e:E} {s b c:Nat},(rowAl n e s b c).length=many e
 | .num _,_,_,_=>rfl
 | .giv _,_,_,_=>rfl
 | .op .sum x y,s,b,c=>by simp [rowAl,many,bQ (e:=x),bQ (e:=y)]
 | .op .less x y,s,b,c=>by simp [rowAl,many,bI,bQ (e:=x),bQ (e:=y)]
 | .op .times x y,s,b,c=>by simp [rowAl,many,bI,bC (e:=x),bQ (e:=y)]; omega
theorem uC:∀ {e:E},many e<=4 ^ dp e
 | .num _=>by simp [many,dp]
 | .giv _=>by simp [many,dp]
 | .op w a b=>by
  have h1:=uC (e:=a)
  have h2:=uC (e:=b)
  have h3:4 ^ dp a<=4 ^ max (dp a) (dp b):=Nat.pow_le_pow_right (by omega) (by omega)
  have h4:4 ^ dp b<=4 ^ max (dp a) (dp b):=Nat.pow_le_pow_right (by omega) (by omega)
  have h5:4 ^ dp (.op w a b)=4 ^ max (dp a) (dp b)*4:=by simp only [dp,Nat.pow_succ]
  rw [h5]
  cases w <;> simp only [many] <;> omega
theorem aCu {e:E} (h:dp e<=8):many e<=65536:=Nat.le_trans uC (Nat.le_trans (Nat.pow_le_pow_right (by omega) h) (by decide))
theorem qB:∀ {e:E},0 < many e
 | .num _=>by simp [many]
 | .giv _=>by simp [many]
 | .op w a b=>by
  have h1:=qB (e:=a)
  have h2:=qB (e:=b)
  cases w <;> simp only [many] <;> omega
theorem bR {P:Dd->Prop} {a b:List Dd} (h:∀ d∈a,P d) (g:∀ d∈b,P d):∀ d∈a++b,P d:=fun d hd=>(List.mem_append.mp hd).elim (h d) (g d)
theorem cY {n:Int} {G S:Nat} (hn:1 < n):∀ {e:E} {s b c:Nat},wf G e->s < S->b < S->c < S->s≠b->s≠c->b≠c->∀ d∈rowBy n e s b c,OkD n G S d
 | .num k,s,b,c,_,hs,hb,_,h1,_,_=>by
  intro d hd
  simp only [rowBy,List.mem_singleton] at hd
  subst hd
  exact ⟨hs,Int.emod_nonneg _ (by omega),Int.emod_lt_of_pos _ (by omega),by simp,by simpa using hb,by simpa using h1,by simp,by simp⟩
 | .giv i,s,b,c,hw,hs,hb,_,h1,_,_=>by
  intro d hd
  simp only [rowBy,List.mem_singleton] at hd
  subst hd
  exact ⟨hs,by omega,hn,by simpa [wf] using hw,by simpa using hb,by simpa using h1,by simp,by simp⟩
 | .op .sum x y,s,b,c,hw,hs,hb,hc,h1,h2,h3=>bR (cY hn hw.1 hs hb hc h1 h2 h3) (cY hn hw.2 hs hb hc h1 h2 h3)
 | .op .less x y,s,b,c,hw,hs,hb,hc,h1,h2,h3=>bR (cY hn hw.1 hs hb hc h1 h2 h3) (OkD.backs (by omega) (cY hn hw.2 hs hb hc h1 h2 h3))
 | .op .times x y,s,b,c,hw,hs,hb,hc,h1,h2,h3 =>
  bR (bR (bR (cY hn hw.2 hc hb hs h3.symm h2.symm h1.symm) (cY hn hw.1 hs hc hb h2 h1 h3.symm)) (OkD.backs (by omega) (cY hn hw.2 hc hb hs h3.symm h2.symm h1.symm))) (OkD.backs (by omega) (cY hn hw.1 hs hc hb h2 h1 h3.symm))
theorem gE {n:Int} {G S:Nat} (hn:1 < n):∀ {e:E} {s b c:Nat},wf G e->s < S->b < S->c < S->s≠b->s≠c->b≠c->∀ d∈rowAl n e s b c,OkD n G S d
 | .num k,s,b,c,_,hs,hb,_,h1,_,_=>by
  intro d hd
  simp only [rowAl,List.mem_singleton] at hd
  subst hd
  exact ⟨hs,Int.emod_nonneg _ (by omega),Int.emod_lt_of_pos _ (by omega),by simp,by simp,by simp,by simp,by simp⟩
 | .giv i,s,b,c,hw,hs,hb,_,h1,_,_=>by
  intro d hd
  simp only [rowAl,List.mem_singleton] at hd
  subst hd
  exact ⟨hs,by omega,hn,by simpa [wf] using hw,by simp,by simp,by simp,by simp⟩
 | .op .sum x y,s,b,c,hw,hs,hb,hc,h1,h2,h3=>bR (gE hn hw.1 hs hb hc h1 h2 h3) (gE hn hw.2 hs hb hc h1 h2 h3)
 | .op .less x y,s,b,c,hw,hs,hb,hc,h1,h2,h3=>bR (gE hn hw.1 hs hb hc h1 h2 h3) (OkD.backs (by omega) (gE hn hw.2 hs hb hc h1 h2 h3))
 | .op .times x y,s,b,c,hw,hs,hb,hc,h1,h2,h3 =>
  bR (bR (bR (gE hn hw.2 hc hb hs h3.symm h2.symm h1.symm) (cY hn hw.1 hs hc hb h2 h1 h3.symm)) (OkD.backs (by omega) (gE hn hw.2 hc hb hs h3.symm h2.symm h1.symm))) (OkD.backs (by omega) (cY hn hw.1 hs hc hb h2 h1 h3.symm))
theorem pF {n:Int} {G:Nat} {gs:List Int} (hn:0 < n) {ds:List Dd} {s b:Nat} {v:Int} {S:Nat} (hs:s < S) (hsb:s≠b) (h:∀ d∈ds,OkD n G S d)
  (r:∀ cs,Rs n cs->cs.length=S->rn n gs ds cs=cs.set s ((cs.getD s 0+v*cs.getD b 0) % n)):∀ cs,Rs n cs->cs.length=S->rn n gs (bDs n ds) cs=cs.set s ((cs.getD s 0 - v*cs.getD b 0) % n):=by
 intro cs hc hl
 have h1:Rs n (cs.set s ((cs.getD s 0 - v*cs.getD b 0) % n)):=hc.setM hn
 have h2:=r _ h1 (by simpa using hl)
 rw [bO (by omega),bU hsb,List.set_set] at h2
 have e:((cs.getD s 0 - v*cs.getD b 0) % n+v*cs.getD b 0) % n=cs.getD s 0:=by
  apply kU ((hc.getD (by omega)).1) ((hc.getD (by omega)).2)
  ·clean_wf
  ·grind
 rw [e,lC] at h2
 have:=xU (gs:=gs) (ds:=ds) hn h1 (by simpa [hl] using h)
 rwa [h2] at this
theorem vU {cs:List Int} {i j:Nat} (h:i≠j) (a b:Int):(cs.set i a).set j b=(cs.set j b).set i a:=List.set_comm _ _ h
theorem fU {n:Int} {gs:List Int} {S:Nat} (hn:1 < n):∀ {e:E} {s b c:Nat},wf gs.length e->s < S->b < S->c < S->s≠b->s≠c->b≠c ->
  ∀ cs,Rs n cs->cs.length=S->rn n gs (rowBy n e s b c) cs=cs.set s ((cs.getD s 0+val n gs e*cs.getD b 0) % n)
 | .num k,s,b,c,_,hs,hb,_,h1,_,_=>by
  intro cs hc hl
  simp only [rowBy,gC,nP,dn,oH,tO,val]
  congr 1
  apply fY
  ·clean_wf
  ·clean_wf
  ·grind
 | .giv i,s,b,c,_,hs,hb,_,h1,_,_=>by
  intro cs hc hl
  simp only [rowBy,gC,nP,dn,oH,tO,val]
  congr 1
  apply fY
  ·clean_wf
  ·clean_wf
  ·grind
 | .op .sum x y,s,b,c,hw,hs,hb,hc,h1,h2,h3=>by
  intro cs hcs hl
  have r1:=fU hn hw.1 hs hb hc h1 h2 h3
  have r2:=fU hn hw.2 hs hb hc h1 h2 h3
  simp only [rowBy,val,Wd.ev]
  rw [cW,r1 cs hcs hl,r2 _ (hcs.setM (by omega)) (by simpa using hl),bO (by omega),bU h1,List.set_set]
  congr 1
  apply fY
  ·clean_wf
  ·clean_wf
  ·grind
 | .op .less x y,s,b,c,hw,hs,hb,hc,h1,h2,h3=>by
  intro cs hcs hl
  have r1:=fU hn hw.1 hs hb hc h1 h2 h3
  have r2:=pF (G:=gs.length) (by omega) hs h1 (cY hn hw.2 hs hb hc h1 h2 h3) (fU hn hw.2 hs hb hc h1 h2 h3)
  simp only [rowBy,val,Wd.ev]
  rw [cW,r1 cs hcs hl,r2 _ (hcs.setM (by omega)) (by simpa using hl),bO (by omega),bU h1,List.set_set]
  congr 1
  apply fY
  ·clean_wf
  ·clean_wf
  ·grind
 | .op .times x y,s,b,c,hw,hs,hb,hc,h1,h2,h3=>by
  intro cs hcs hl
  have r1:=fU hn hw.2 hc hb hs h3.symm h2.symm h1.symm
  have r2:=fU hn hw.1 hs hc hb h2 h1 h3.symm
  have r3:=pF (G:=gs.length) (by omega) hc h3.symm (cY hn hw.2 hc hb hs h3.symm h2.symm h1.symm) r1
  have r4:=pF (G:=gs.length) (by omega) hs h2 (cY hn hw.1 hs hc hb h2 h1 h3.symm) r2
  simp only [rowBy,val,Wd.ev]
  have n0:0 < n:=by omega
  have q1:=hcs.setM n0 (i:=c) (v:=cs.getD c 0+val n gs y*cs.getD b 0)
  rw [cW,cW,cW,r1 cs hcs hl,r2 _ q1 (by simpa using hl),r3 _ (q1.setM n0) (by simpa using hl),r4 _ ((q1.setM n0).setM n0) (by simpa using hl)]
  have hl1:s < cs.length:=by omega
  have hl2:c < cs.length:=by omega
  simp only [bU h2,bU h2.symm,bU h3.symm,bU h3,bU h1,bU h1.symm,bO hl2,bO (cs:=cs.set c _) (s:=s) (by simpa using hl1),bO (cs:=(cs.set c _).set s _) (s:=c) (by simpa using hl2)]
  rw [vU h2,List.set_set,List.set_set]
  have e1:((cs.getD c 0+val n gs y*cs.getD b 0) % n - val n gs y*cs.getD b 0) % n=cs.getD c 0:=by
   apply kU ((hcs.getD hl2).1) ((hcs.getD hl2).2)
   ·clean_wf
   ·grind
  rw [e1,lC]
  congr 1
  apply fY
  ·clean_wf
  ·clean_wf
  ·grind
theorem yU {n:Int} {G:Nat} {gs:List Int} (hn:0 < n) {ds:List Dd} {s:Nat} {v:Int} {S:Nat} (hs:s < S) (h:∀ d∈ds,OkD n G S d)
  (r:∀ cs,Rs n cs->cs.length=S->rn n gs ds cs=cs.set s ((cs.getD s 0+v) % n)):∀ cs,Rs n cs->cs.length=S->rn n gs (bDs n ds) cs=cs.set s ((cs.getD s 0 - v) % n):=by
 intro cs hc hl
 have h1:Rs n (cs.set s ((cs.getD s 0 - v) % n)):=hc.setM hn
 have h2:=r _ h1 (by simpa using hl)
 rw [bO (by omega),List.set_set] at h2
 have e:((cs.getD s 0 - v) % n+v) % n=cs.getD s 0:=by
  apply kU ((hc.getD (by omega)).1) ((hc.getD (by omega)).2)
  ·clean_wf
  ·grind
 rw [e,lC] at h2
 have:=xU (gs:=gs) (ds:=ds) hn h1 (by simpa [hl] using h)
 rwa [h2] at this
theorem iH {n:Int} {gs:List Int} {S:Nat} (hn:1 < n):∀ {e:E} {s b c:Nat},wf gs.length e->s < S->b < S->c < S->s≠b->s≠c->b≠c ->
  ∀ cs,Rs n cs->cs.length=S->rn n gs (rowAl n e s b c) cs=cs.set s ((cs.getD s 0+val n gs e) % n)
 | .num k,s,b,c,_,hs,hb,_,h1,_,_=>by
  intro cs hc hl
  simp only [rowAl,gC,nP,dn,oH,tO,val]
  congr 1
  apply fY
  ·clean_wf
  ·clean_wf
  ·grind
 | .giv i,s,b,c,_,hs,hb,_,h1,_,_=>by
  intro cs hc hl
  simp only [rowAl,gC,nP,dn,oH,tO,val]
  congr 1
  apply fY
  ·clean_wf
  ·clean_wf
  ·grind
 | .op .sum x y,s,b,c,hw,hs,hb,hc,h1,h2,h3=>by
  intro cs hcs hl
  have r1:=iH hn hw.1 hs hb hc h1 h2 h3
  have r2:=iH hn hw.2 hs hb hc h1 h2 h3
  simp only [rowAl,val,Wd.ev]
  rw [cW,r1 cs hcs hl,r2 _ (hcs.setM (by omega)) (by simpa using hl),bO (by omega),List.set_set]
  congr 1
  apply fY
  ·clean_wf
  ·clean_wf
  ·grind
 | .op .less x y,s,b,c,hw,hs,hb,hc,h1,h2,h3=>by
  intro cs hcs hl
  have r1:=iH hn hw.1 hs hb hc h1 h2 h3
  have r2:=yU (G:=gs.length) (by omega) hs (gE hn hw.2 hs hb hc h1 h2 h3) (iH hn hw.2 hs hb hc h1 h2 h3)
  simp only [rowAl,val,Wd.ev]
  rw [cW,r1 cs hcs hl,r2 _ (hcs.setM (by omega)) (by simpa using hl),bO (by omega),List.set_set]
  congr 1
  apply fY
  ·clean_wf
  ·clean_wf
  ·grind
 | .op .times x y,s,b,c,hw,hs,hb,hc,h1,h2,h3=>by
  intro cs hcs hl
  have r1:=iH hn hw.2 hc hb hs h3.symm h2.symm h1.symm
  have r2:=fU hn hw.1 hs hc hb h2 h1 h3.symm
  have r3:=yU (G:=gs.length) (by omega) hc (gE hn hw.2 hc hb hs h3.symm h2.symm h1.symm) r1
  have r4:=pF (G:=gs.length) (by omega) hs h2 (cY hn hw.1 hs hc hb h2 h1 h3.symm) r2
  simp only [rowAl,val,Wd.ev]
  have n0:0 < n:=by omega
  have q1:=hcs.setM n0 (i:=c) (v:=cs.getD c 0+val n gs y)
  rw [cW,cW,cW,r1 cs hcs hl,r2 _ q1 (by simpa using hl),r3 _ (q1.setM n0) (by simpa using hl),r4 _ ((q1.setM n0).setM n0) (by simpa using hl)]
  have hl1:s < cs.length:=by omega
  have hl2:c < cs.length:=by omega
  simp only [bU h2,bU h2.symm,bU h3.symm,bU h3,bU h1,bU h1.symm,bO hl2,bO (cs:=cs.set c _) (s:=s) (by simpa using hl1),bO (cs:=(cs.set c _).set s _) (s:=c) (by simpa using hl2)]
  rw [vU h2,List.set_set,List.set_set]
  have e1:((cs.getD c 0+val n gs y) % n - val n gs y) % n=cs.getD c 0:=by
   apply kU ((hcs.getD hl2).1) ((hcs.getD hl2).2)
   ·clean_wf
   ·grind
  rw [e1,lC]
  congr 1
  apply fY
  ·clean_wf
  ·clean_wf
  ·grind
end LS
namespace LS
open PySem L2 EV
variable {EX:D->Mm->Prop}
theorem at2I (x y:Int) (c:Bool):atI [D.int x,D.int y] (if c=true then 1 else 0)=some (D.int (if c=true then y else x)):=by cases c <;> rfl
theorem at2 {d:Int} (l:0<=d) (u:d < 2) (x y:D):∃ w,atI [x,y] d=some w/\(w=x\/w=y):=by
 have:d=0\/d=1:=by omega
 rcases this with rfl | rfl
 ·exact ⟨x,rfl,by simp⟩
 ·exact ⟨y,rfl,by simp⟩
theorem at3 {d:Int} (l:0<=d) (u:d < 3) (x y z:D):∃ w,atI [x,y,z] d=some w/\(w=x\/w=y\/w=z):=by
 have:d=0\/d=1\/d=2:=by omega
 rcases this with rfl | rfl | rfl
 ·exact ⟨x,rfl,by simp⟩
 ·exact ⟨y,rfl,by simp⟩
 ·exact ⟨z,rfl,by simp⟩
theorem at4 {d:Int} (l:0<=d) (u:d < 4) (x y z t:D):∃ w,atI [x,y,z,t] d=some w/\(w=x\/w=y\/w=z\/w=t):=by
 have:d=0\/d=1\/d=2\/d=3:=by omega
 rcases this with rfl | rfl | rfl | rfl
 ·exact ⟨x,rfl,by simp⟩
 ·exact ⟨y,rfl,by simp⟩
 ·exact ⟨z,rfl,by simp⟩
 ·exact ⟨t,rfl,by simp⟩
theorem atInts {ns:List Int} {i:Int} (l:0<=i) (u:i < ns.length):∃ n,atI (ns.map D.int) i=some (.int n)/\n∈ns:=by
 have hi:i.toNat < ns.length:=by omega
 refine ⟨ns[i.toNat],?_,by simp⟩
 simp only [atI,ixN,List.length_map]
 rw [if_pos l,if_pos u]
 simp [hi]
theorem gU {cs:List Int} {i:Nat} (h:i < cs.length):atI (cs.map D.int) (i:Int)=some (.int (cs.getD i 0)):=by
 simp only [atI,ixN,List.length_map]
 rw [if_pos (by omega),if_pos (by omega)]
 simp [h]
theorem aBc {n c:Int} (l:0<=c) (u:c < n) (hn:n<=1000000):(-18446744073709551616 < c/\c < 18446744073709551616):=by omega
theorem wK {cs:List D} {s:Nat} (h:s<=cs.length):cut cs none (some (s:Int))=cs.take s:=by
 simp only [cut,HT.sIx]
 rw [if_neg (by omega)]
 simp only [List.drop_zero,Nat.sub_zero,Int.toNat_natCast]
 rw [Nat.min_eq_left h]
theorem wN {cs:List D} {s:Nat} (h:s<=cs.length):cut cs (some (s:Int)) none=cs.drop s:=by
 simp only [cut,HT.sIx]
 rw [if_neg (by omega)]
 simp only [Int.toNat_natCast]
 rw [Nat.min_eq_left h,List.take_of_length_le (by simp)]
theorem sV {cs:List Int} {s:Nat} {v:Int} (h:s < cs.length):(cs.map D.int).take s++[D.int v]++(cs.map D.int).drop (s+1)=(cs.set s v).map D.int:=by
 rw [List.set_eq_take_append_cons_drop,if_pos h]
 simp
theorem qS {a b:Int} {x y:Nat} (ha:a.natAbs<=x) (hb:b.natAbs<=y):(a*b).natAbs<=x*y:=by
 rw [Int.natAbs_mul]; exact Nat.mul_le_mul ha hb
theorem aGf {n:Int} {xs:List Int} (hx:Rs n xs) (hn:0 < n) (hn2:n<=1000000):∀ is:List Nat,(pr xs is).natAbs<=1000000 ^ is.length
 | []=>by simp [oH]
 | i::r=>by
  rw [pH,List.length_cons,Nat.pow_succ,Nat.mul_comm]
  have:=hx.getD0 hn (i:=i)
  exact qS (by omega) (aGf hx hn hn2 r)
theorem aBg {n:Int} {xs:List Int} (hx:Rs n xs) (hn:0 < n) (hn2:n<=1000000) {is:List Nat} (h:is.length<=4):(pr xs is).natAbs<=1000000000000000000000000 :=
 Nat.le_trans (aGf hx hn hn2 is) (Nat.le_trans (Nat.pow_le_pow_right (by omega) h) (by decide))
theorem aDk {i:Int} {m:Nat} (h:i.natAbs<=m) (hm:m < 2 ^ 200):i.natAbs < lid:=aIy (m:=200) (Nat.lt_of_le_of_lt h hm) (by omega)
noncomputable def encP (n G S:Int) (ds:List Dd):D:=.tup [.int n,.int G,.int S,.tup (ds.map encD)]
theorem foldm {n:Int} {xs:List Int} (is:List Nat) (c:Int):Cg n (is.foldl (fun a i=>a*xs.getD i 0 % n) c) (c*pr xs is):=by
 induction is generalizing c with
 | nil=>rw [oH,Int.mul_one]; exact Cg.rfl
 | cons i r ih =>
  rw [List.foldl_cons,pH]
  exact (ih _).trans ((Cg.mul Cg.mod Cg.rfl).trans (Cg.of_eq (by grind)))
theorem oP {n:Int} (hn:0 < n) {xs:List Int} (is:List Nat) {c:Int} (l:0<=c) (u:c < n):0<=is.foldl (fun a i=>a*xs.getD i 0 % n) c/\is.foldl (fun a i=>a*xs.getD i 0 % n) c < n:=by
 induction is generalizing c with
 | nil=>exact ⟨l,u⟩
 | cons i r ih=>rw [List.foldl_cons]; exact ih (Int.emod_nonneg _ (by omega)) (Int.emod_lt_of_pos _ hn)
theorem yX {cs:List Int} {s:Nat} {v:Int}:(cs.map D.int).set s (.int v)=(cs.set s v).map D.int:=by rw [List.map_set]
theorem yV {k i:Nat} (h:i < k):ixN k (i:Int)=some i:=by
 simp only [ixN]
 rw [if_pos (by omega),if_pos (by omega)]
 simp
theorem zC (l:List Int):∀ i:Nat,(l.map D.int).eraseIdx i=(l.eraseIdx i).map D.int:=by
 induction l with
 | nil=>intro i; rfl
 | cons x r ih=>intro i; cases i with
  | zero=>rfl
  | succ i=>simp [List.eraseIdx,ih]
theorem wQ (l:List Int):∀ (i:Nat) (h:i < l.length),List.Perm (l[i]::l.eraseIdx i) l:=by
 induction l with
 | nil=>intro i h; simp at h
 | cons x r ih=>intro i h; cases i with
  | zero=>exact .refl _
  | succ i=>exact (List.Perm.swap x (r[i]'(by simpa using h)) (r.eraseIdx i)).trans ((ih i (by simpa using h)).cons x)
theorem aCr {M:Mm} {Q:W->Mm->Prop} {k:Nat} {i:Int} {xs:List D} {d:D} (h:M[k]?=some xs) (h0:0<=i) (hi:i < xs.length) (hz:xs.length<=16777216) (hd:xs[i.toNat]?=some d) (q:Q (.d d) (M.set k (xs.eraseIdx i.toNat))):Okx EX (pPopAt (.ref k) (.d (.int i)) M) Q:=by
 unfold pPopAt
 simp only [h]
 rw [seqIndex_of h0 hi]
 simp only [hd]
 rw [if_pos (by omega)]
 exact aY q
theorem yN {w:Wd} {x y:E}:many x+many y<=many (.op w x y):=by cases w <;> simp only [many] <;> omega
mutual
theorem vK:∀ d:D,eqD d d=true
 | .non=>by simp [eqD]
 | .bl b=>by simp [eqD]
 | .int i=>by simp [eqD]
 | .str x=>by simp [eqD]
 | .tup xs=>by simp only [eqD]; exact jG xs
 | .lst xs=>by simp only [eqD]; exact jG xs
 | .fz xs=>by simp only [eqD]; exact jG xs
 | .exn c f xs=>by simp only [eqD]; rw [jG xs]; simp
theorem jG:∀ ds:List D,eqDs ds ds=true
 | []=>by simp [eqDs]
 | d::ds=>by simp only [eqDs,vK d,jG ds,Bool.and_true]
end
theorem aBk (xs:List Int):dep (intsD xs)<=3:=by
 have:deps (xs.map D.int)<=1:=by
  induction xs with
  | nil=>simp [deps]
  | cons x r ih=>simp [deps,dep]; omega
 simp only [intsD,dep]
 omega
theorem oO (xs:List Int):dep (intsD xs)<=100:=Nat.le_trans (aBk xs) (by omega)
section
variable {M:Mm} {x y:W} {Q:W->Mm->Prop}
theorem uE {a b:D} (h1:wd M x=some a) (h2:wd M y=some b) (e:a=b) (hd:dep a<=100) (q:Q (.d (.bl false)) M):Okx EX (pNe x y M) Q:=by
 subst e
 exact rN h1 h2 ⟨hd,hd⟩ (by rw [vK]; exact q)
end
end LS
namespace LS
open PySem L2 EV
variable {EX:D->Mm->Prop}
theorem aAn (ns:List Nat):deps (ns.map fun x=>D.int (x:Nat))<=1:=by
 induction ns with
 | nil=>simp [deps]
 | cons x r ih=>simp [deps,dep]; omega
theorem natsOf {xs:List Int} (h:∀ x∈xs,0<=x):∃ ks:List Nat,xs=ks.map (fun k:Nat=>(k:Int)):=by
 refine ⟨xs.map Int.toNat,?_⟩
 rw [List.map_map]
 conv=>lhs; rw [<- List.map_id xs]
 exact List.map_congr_left fun x hx=>by simp; have:=h x hx; omega
noncomputable def SrtD:Dd->Prop
 | .add _ _ g t=>g.Pairwise (·<=·)/\t.Pairwise (·<=·)
 | .scale _ _=>True
theorem nB (ns:List Nat):∃ ks:List Nat,srt (ns.map fun k:Nat=>(k:Int))=ks.map (fun k:Nat=>(k:Int))/\ks.Perm ns/\ks.Pairwise (·<=·):=by
 obtain ⟨ks,e⟩:=natsOf (xs:=srt (ns.map fun k:Nat=>(k:Int))) (fun x hx=>by
  rw [aEf] at hx; obtain ⟨k,_,rfl⟩:=List.mem_map.mp hx; omega)
 refine ⟨ks,e,?_,?_⟩
 ·have p:=mF (ns.map fun k:Nat=>(k:Int))
  rw [e] at p
  have:=p.map Int.toNat
  simpa [List.map_map,Function.comp_def] using this
 ·have o:=pP (ns.map fun k:Nat=>(k:Int))
  rw [e,List.pairwise_map] at o
  exact o.imp fun h=>by omega
theorem fT (ns:List Nat):(ns.map fun x=>D.int (x:Nat))=(ns.map fun k:Nat=>(k:Int)).map D.int:=by rw [List.map_map]; rfl
noncomputable def othersL (S ks:Nat):List Nat:=(List.range S).filter (·≠ks)
theorem wX {S ks x:Nat}:x∈othersL S ks ↔ x < S/\x≠ks:=by simp [othersL]
theorem aCa {ds:List D}:(!eqD (.lst ds) (.lst []))=decide (ds≠[]):=by
 cases ds with
 | nil=>rfl
 | cons d r=>simp [eqD,eqDs]
theorem pN {ns:List Nat} {i:Int} (l:0<=i) (u:i < ns.length):∃ k∈ns,atI (ns.map fun x=>D.int (x:Nat)) i=some (.int (k:Nat)):=by
 have hi:i.toNat < ns.length:=by omega
 refine ⟨ns[i.toNat],List.getElem_mem hi,?_⟩
 simp only [atI,ixN,List.length_map]
 rw [if_pos l,if_pos u]
 simp [hi]
end LS
namespace LS
open PySem L2 EV
variable {EX:D->Mm->Prop}
end LS
namespace LS
open PySem L2 EV
variable {EX:D->Mm->Prop}
noncomputable def srtN (ns:List Nat):List Nat:=(srt (ns.map fun k:Nat=>(k:Int))).map Int.toNat
theorem rT (ns:List Nat):srt (ns.map fun k:Nat=>(k:Int))=(srtN ns).map fun k:Nat=>(k:Int):=by
 obtain ⟨ks,e,_,_⟩:=nB ns
 unfold srtN
 rw [e,List.map_map,List.map_map]
 exact List.map_congr_left fun x _=>by simp
theorem aAa (ns:List Nat):(srtN ns).Perm ns:=by
 obtain ⟨ks,e,p,_⟩:=nB ns
 have:srtN ns=ks:=by unfold srtN; rw [e,List.map_map]; conv=>rhs; rw [<- List.map_id ks]
                     exact List.map_congr_left fun x _=>by simp
 rw [this]; exact p
theorem uL {ns:List Nat} {x:Nat}:x∈srtN ns ↔ x∈ns:=(aAa ns).mem_iff
noncomputable def pl (ps:List Nat) (i:Nat):Nat:=ps.getD i 0
end LS
namespace LS
open PySem L2 EV
variable {EX:D->Mm->Prop}
noncomputable def ho:Dd->Dd->Bool
 | .scale _ _,_=>false
 | .add s _ _ t,.scale s' _=>decide (s'=s) || decide (s'∈t)
 | .add _ _ _ t,.add s' _ _ _=>decide (s'∈t)
theorem vD (t:List Nat) (s:Nat):((t.map fun k=>D.int (k:Nat)).any fun y=>eqD y (.int (s:Nat)))=decide (s∈t):=by
 rw [Bool.eq_iff_iff]
 simp only [List.any_map,List.any_eq_true,decide_eq_true_eq,Function.comp]
 constructor
 ·rintro ⟨x,hx,e⟩
  have:x=s:=by simp [eqD] at e; omega
  rw [<- this]; exact hx
 ·intro h; exact ⟨s,h,by simp [eqD]⟩
theorem sB (t:List Nat):(t.map fun k=>D.int (k:Nat)).all flatD=true:=by simp [List.all_eq_true,flatD,fv]
end LS
namespace LS
open PySem L2 EV
variable {EX:D->Mm->Prop}
end LS
namespace LS
open PySem L2 EV
end LS
namespace L2
open PySem PySem.Spec PyProof.Rows
open AutoSeq1 (wpAny_loadPart')
section
variable {prog:Program} {w:World} {A:Around} {E:Value->Shared->Prop} {s:Shared}
end
section
variable {X:Cx}
end
end L2
namespace EV
open PySem PySem.Spec PyProof.Rows L2
section
variable {X:Cx} {K:PySem.W.Frag} {Z:Zt} {μ:List Addr} {H:Hp} {M:Mm} {a b:Expr} {pos pos2:Pos} {f g:FE}
theorem uV:bootBuiltins "tuple"=some (.type "tuple"):=by first | rfl | kernel_rfl
end
section
variable {L:Lc} {M:Mm} {EX:D->Mm->Prop}
end
end EV
namespace EV
open PySem
theorem exS {P:List Value->Prop} {k:Nat} (h:∀ a us,us.length=k->P (a::us)):∀ us:List Value,us.length=k+1->P us
 | a::us,e=>h a us (Nat.succ.inj e)
theorem ex0 {P:List Value->Prop} (h:P []) (us:List Value) (e:us.length=0):P us:=by rw [List.eq_nil_of_length_eq_zero e]; exact h
theorem ex1 {P:List Value->Prop} (h:∀ a,P [a]):∀ us:List Value,us.length=1->P us:=exS fun a=>ex0 (P:=fun us=>P (a::us)) (h a)
theorem ex2 {P:List Value->Prop} (h:∀ a b,P [a,b]):∀ us:List Value,us.length=2->P us:=exS fun a=>ex1 (P:=fun us=>P (a::us)) (h a)
theorem ex3 {P:List Value->Prop} (h:∀ a b c,P [a,b,c]):∀ us:List Value,us.length=3->P us:=exS fun a=>ex2 (P:=fun us=>P (a::us)) (h a)
theorem ex4 {P:List Value->Prop} (h:∀ a b c d,P [a,b,c,d]):∀ us:List Value,us.length=4->P us:=exS fun a=>ex3 (P:=fun us=>P (a::us)) (h a)
theorem ex5 {P:List Value->Prop} (h:∀ a b c d e,P [a,b,c,d,e]):∀ us:List Value,us.length=5->P us:=exS fun a=>ex4 (P:=fun us=>P (a::us)) (h a)
theorem ex6 {P:List Value->Prop} (h:∀ a b c d e f,P [a,b,c,d,e,f]):∀ us:List Value,us.length=6->P us:=exS fun a=>ex5 (P:=fun us=>P (a::us)) (h a)
theorem ex7 {P:List Value->Prop} (h:∀ a b c d e f g,P [a,b,c,d,e,f,g]):∀ us:List Value,us.length=7->P us:=exS fun a=>ex6 (P:=fun us=>P (a::us)) (h a)
end EV
set_option maxHeartbeats 400000
namespace ZP
open PySem PySem.Spec PyProof.Rows
section
variable {prog:Program} {w:World} {A:Around} {E:Value->Shared->Prop} {s:Shared}
noncomputable abbrev IsTrip (h:Heap) (T:Addr) (a b c:Value):Prop:=h.get? T=some { cls:=.type "tuple",data:=.seq #[a,b,c] }
set_option genSizeOf false in
set_option genInjectivity false in
structure Ap3 (z TI TO i1 i2 i3 l1 l2 l3:Addr):Prop where
 z_TI:z≠TI
 z_TO:z≠TO
 z_i1:z≠i1
 z_i2:z≠i2
 z_i3:z≠i3
 TI_z:TI≠z
 TI_TO:TI≠TO
 TI_i1:TI≠i1
 TI_i2:TI≠i2
 TI_i3:TI≠i3
 TO_z:TO≠z
 TO_TI:TO≠TI
 TO_i1:TO≠i1
 TO_i2:TO≠i2
 TO_i3:TO≠i3
 i1_z:i1≠z
 i1_TI:i1≠TI
 i1_TO:i1≠TO
 i1_i2:i1≠i2
 i1_i3:i1≠i3
 i2_z:i2≠z
 i2_TI:i2≠TI
 i2_TO:i2≠TO
 i2_i1:i2≠i1
 i2_i3:i2≠i3
 i3_z:i3≠z
 i3_TI:i3≠TI
 i3_TO:i3≠TO
 i3_i1:i3≠i1
 i3_i2:i3≠i2
 l1_z:l1≠z
 l1_TI:l1≠TI
 l1_TO:l1≠TO
 l1_i1:l1≠i1
 l1_i2:l1≠i2
 l1_i3:l1≠i3
 l2_z:l2≠z
 l2_TI:l2≠TI
 l2_TO:l2≠TO
 l2_i1:l2≠i1
 l2_i2:l2≠i2
 l2_i3:l2≠i3
 l3_z:l3≠z
 l3_TI:l3≠TI
 l3_TO:l3≠TO
 l3_i1:l3≠i1
 l3_i2:l3≠i2
 l3_i3:l3≠i3
structure Zs3 (h:Heap) (z TI TO i1 i2 i3 l1 l2 l3:Addr) (i:Nat) (xs ys us:Array Value):Prop where
 z:∃ f0 f1,h.get? z=some (zobj TI TO f0 f1)/\(f0=.none\/∃ T:Nat,f0=rawInt T)
 ti:IsTrip h TI (.ref i1) (.ref i2) (.ref i3)
 to:∃ a b c,IsTrip h TO a b c
 a:It1 h i1 l1 i xs
 b:It1 h i2 l2 i ys
 c:It1 h i3 l3 i us
end
end ZP
namespace L2
open PySem PySem.Spec PyProof.Rows
theorem Vals.three:∀ {x y z:V} {us:List Value},Vals [x,y,z] us->∃ u v w,us=[u,v,w]/\RelV x u/\RelV y v/\RelV z w
 | _,_,_,_,.cons r (.cons q (.cons p .nil))=>⟨_,_,_,rfl,r,q,p⟩
end L2
namespace EV
open PySem PySem.Spec PyProof.Rows L2
variable {EX:D->Mm->Prop}
section
variable {X:Cx} {K:PySem.W.Frag} {Z:Zt} {μ:List Addr} {H:Hp} {M:Mm} {a b c:Expr} {pos:Pos} {f g k:FE} {tg:Expr}
end
section
variable {L:Lc} {M:Mm} {f g k:FE}
end
end EV
namespace RT
open PySem PySem.Spec PyProof.Rows
theorem aDo:typeLookup (.type "reversed") "__len__"=pure none:=by rw [typeLookup_type,builtinLookup_eq_fast]; kernel_rfl
theorem mI:Slot "reversed" "__length_hint__" "reversed.__length_hint__" :=
 .of (owner:="reversed") (n:="__length_hint__") (by rw [typeLookup_type,builtinLookup_eq_fast]; kernel_rfl) (by decide +kernel) (by decide +kernel) (by decide +kernel)
  (by first | exact .inl (by decide +kernel) | exact .inr (by decide +kernel)) (by rw [isSubtype_type]; kernel_rfl)
theorem rB:entryFor table "reversed.__length_hint__"=some Builtin.«reversed.__length_hint__»:=entryFor_of_tree (by kernel_rfl)
theorem tD (a:Value):argsOk "reversed.__length_hint__" ⟨[a],[]⟩:=by
 unfold argsOk; rw [signature?_of (id:="reversed.__length_hint__") (n:=['_','_','t','n','i','h','_','h','t','g','n','e','l','_','_']) (o:=['d','e','s','r','e','v','e','r']) (by kernel_rfl) qM]; kernel_rfl
theorem tH (self:Value):bindSpecial (.builtin "reversed.__length_hint__") self=pure (.builtin "reversed.__length_hint__",[self]):=by
 have hop:withoutEnding? "reversed.__length_hint__" "#opaque"=none:=by decide +kernel
 have hdat:withoutEnding? "reversed.__length_hint__" "#data"=none:=by decide +kernel
 have hk:builtinKind "reversed.__length_hint__"=some .method:=by decide +kernel
 simp only [bindSpecial,typeOf,builtinType,hop,hdat,hk]; rfl
section
variable {prog:Program} {w:World} {A:Around} {E:Value->Shared->Prop} {s:Shared}
theorem zL {it l:Addr} {items:Array Value} {Q:Value->Shared->Prop} (hit:IsRvT s.heap it l ((items.size:Int) - 1)) (hl:IsTup s.heap l items) (hz:(items.size:Int) < 2 ^ 63)
  (hQ:∀ u tk,s.toks<=tk->Q (.int items.size u) { s with toks:=tk }):wpAny (model prog w) A (call (.builtin "reversed.__length_hint__") [.ref it]) Q E s:=by
 obtain ⟨o,ho,hc,hd⟩:=id hit
 refine wpAny_call_entry mI hit.typeIs rB ?_ (tD _)
 unfold Builtin.«reversed.__length_hint__»
 refine wpAny_bind (wpAny_of_eq (a:=Value.ref it) rfl ?_)
 refine wpAny_bind (wpAny_field ho hd (x:=.ref l) rfl ?_)
 show wpAny _ _ (call (.builtin "len") [.ref l] >>= _) _ _ _
 refine wpAny_bind (len_tuple hl hz ?_)
 refine wpAny_bind (wpAny_of_eq (a:=some (items.size:Int)) (by first | rfl | kernel_rfl) ?_)
 show wpAny _ _ (field (.ref it) 1 >>= _) _ _ _
 refine wpAny_bind (wpAny_field ho hd (x:=rawInt ((items.size:Int) - 1)) rfl ?_)
 show wpAny _ _ (if (items.size:Int) < (items.size:Int) - 1+1 then _ else _) _ _ _
 rw [if_neg (by omega)]
 rw [show (items.size:Int) - 1+1=items.size by omega]
 unfold retInt
 refine wpAny_bind (wpAny_mkInt (wpAny_pure ⟨_,rfl,hQ _ _ ?_⟩))
 show s.toks<=s.toks+1+1+1
 omega
theorem wA {it l:Addr} {i:Nat} {items:Array Value} {x:Value} {Q:Option Value->Shared->Prop} (hit:IsRvT s.heap it l (i:Int)) (hl:IsTup s.heap l items) (hz:(items.size:Int) < 2 ^ 63) (hx:items[i]?=some x)
  (hQ:∀ h' tk,s.toks<=tk->IsRvT h' it l ((i:Int) - 1)->Heap.SameBut it s.heap h'->Q (some x) { s with heap:=h',toks:=tk }):wpAny (model prog w) A (pyNext (.ref it)) Q E s:=by
 obtain ⟨o,ho,hc,hd⟩:=id hit
 have hlt:i < items.size:=by
  rcases Nat.lt_or_ge i items.size with h | h
  ·exact h
  ·rw [Array.getElem?_eq_none h] at hx; cases hx
 unfold pyNext
 refine wpAny_bind (wpAny_attempt (wpAny_callSpecial?_slot (name:=Str.ofString "__next__") hit.typeIs eD
  (wpAny_call_entry eD hit.typeIs iY ?_ (jO _))))
 unfold Builtin.«reversed.__next__»
 refine wpAny_bind (wpAny_of_eq (a:=(Value.ref it,[])) rfl ?_)
 try dsimp only
 refine wpAny_bind (wpAny_field ho hd (x:=.ref l) rfl ?_)
 refine wpAny_bind (wpAny_field ho hd (x:=rawInt (i:Int)) rfl ?_)
 show wpAny _ _ (if (i:Int) < 0 then _ else _) _ _ s
 rw [if_neg (by omega)]
 show wpAny _ _ (specialOf (.ref l) (Str.ofString "__getitem__") >>= _) _ _ s
 refine wpAny_bind (wpAny_specialOf hl.typeIs F.slot_tuple_getitem.lookup ?_)
 show wpAny _ _ (mkInt (i:Int) >>= _) _ _ s
 refine wpAny_bind (wpAny_mkInt ?_)
 refine wpAny_bind (wpAny_attempt (getItem_tuple (j:=i) (x:=x) hl (by omega) (by omega) ?_ hx ?_))
 ·rw [seqIndex_of (by omega) (by omega)]; simp
 try dsimp only
 refine wpAny_bind (wpAny_field ho hd (x:=rawInt (i:Int)) rfl ?_)
 show wpAny _ _ (setField _ _ _ >>= _) _ _ _
 refine wpAny_bind (wpAny_setField ho hd (by simp) ?_)
 refine wpAny_pure ⟨x,rfl,wpAny_pure (hQ _ _ (by first | exact Nat.le_succ _ | exact Nat.le_refl _ | omega) ?_ (Heap.SameBut.update ..))⟩
 exact ⟨_,Heap.get?_update_self _ ho (Obj.isFreed_of_fields (Obj.data_mapFields hd _)),(Obj.cls_mapFields ..).trans hc,by
  rw [Obj.data_mapFields hd]; simp⟩
noncomputable def rvSt (it l:Addr) (items:Array Value) (i:Nat) (s:Shared):Prop:=IsRvT s.heap it l ((items.size:Int) - 1 - i)/\IsTup s.heap l items/\it≠l
theorem walksRv (hh:A.handled=none) (it l:Addr) (items:Array Value) (hz:(items.size:Int) < 2 ^ 63) :
  WalksS prog w A it [it,l] [it] (fun a b=>b=a) items.size (fun i v=>items[items.size - 1 - i]?=some v) (rvSt it l items) where
 sub:=by simp
 grefl:=fun _=>rfl
 gtrans:=fun _ _ _ h1 h2=>h2.trans h1
 frame:=fun i s h' tk st _ hk=>⟨st.1.at fun o e=>hk it (by simp) o e,(by obtain ⟨o,ho,r⟩:=st.2.1; exact ⟨o,hk l (by simp) o ho,r⟩),st.2.2⟩
 item:=fun i s Q E hi st hQ=>by
  obtain ⟨h1,h2,h3⟩:=st
  have e:(items.size:Int) - 1 - i=((items.size - 1 - i:Nat):Int):=by omega
  rw [e] at h1
  have hlt:items.size - 1 - i < items.size:=by omega
  refine wA h1 h2 hz (Array.getElem?_eq_getElem hlt) fun h' tk htk hr sb=>hQ _ _ (Array.getElem?_eq_getElem hlt) ⟨?_,?_,h3⟩ ?_
  ·rw [show (items.size:Int) - 1 - ((i+1:Nat):Int)=((items.size - 1 - i:Nat):Int) - 1 by omega]; exact hr
  ·obtain ⟨o,ho,r⟩:=h2; exact ⟨o,sb.extBut l o (Ne.symm h3) ho,r⟩
  ·exact ⟨fun b o hb e=>sb.extBut b o (by simpa using hb) e,rfl,rfl,rfl,htk⟩
 done:=fun s Q E st hQ=>by
  obtain ⟨h1,h2,h3⟩:=st
  rw [show (items.size:Int) - 1 - (items.size:Nat) = -1 by omega] at h1
  refine next_end hh h1 fun h' k=>hQ _ ⟨fun b o hb e=>k b o (by simpa using hb) e,rfl,rfl,rfl,Nat.le_refl _⟩
 self:=fun i s Q E st hQ=>iter_self st.1 hQ
theorem xQ {Q:List Value->Shared->Prop} {it l:Addr} {items:Array Value} (hh:A.handled=none) (hit:IsRvT s.heap it l ((items.size:Int) - 1)) (hl:IsTup s.heap l items) (hne:it≠l) (hn:items.size<=16777216)
  (hQ:∀ s' acc,Moved [it] (fun a b=>b=a) s s'->ItemsOf (fun i v=>items[items.size - 1 - i]?=some v) acc items.size->s.heap.objs.size<=s'.heap.objs.size->Q acc.toList s'):wpAny (model prog w) A (collect (.ref it)) Q E s:=by
 have hz:(items.size:Int) < 2 ^ 63:=by omega
 have W:=walksRv (prog:=prog) (w:=w) (A:=A.in1.in1) hh it l items hz
 have W1:=WalksS.of_in1 W
 have hst:rvSt it l items 0 s:=⟨by simpa using hit,hl,hne⟩
 obtain ⟨o,ho,hc,hd⟩:=id hit
 obtain ⟨ol,hol,rl⟩:=id hl
 have lit:it < s.heap.objs.size:=Heap.lt_size ho
 have ll:l < s.heap.objs.size:=Heap.lt_size hol
 have hSf:s.heap.objs.size∉[it,l]:=by simp; exact ⟨Nat.ne_of_gt lit,Nat.ne_of_gt ll⟩
 have hSI:s.heap.objs.size≠it:=Nat.ne_of_gt lit
 unfold collect
 refine wpAny_bind (wpAny_runValue (codeAny_builtin F.entry_proto_collect ?_))
 rw [Around.under_plainId F.plain_proto_collect _]
 show wpAny _ A.in1 (newList [] >>= fun l=>again (.builtin "list.__iadd__" ⟨[l,.ref it],[]⟩)) _ _ s
 refine wpAny_bind (wpAny_newObj_type ?_)
 refine wpAny_pure ⟨plainId_quiet F.plain_list_iadd _,codeAny_builtin F.entry_list_iadd ?_⟩
 rw [Around.under_plainId F.plain_list_iadd _]
 have hst₁:=W1.frame 0 s (s.heap.push { cls:=.type "list",data:=.seq ([]:List Value).toArray }) s.toks hst (Nat.le_refl _) fun b _ o e=>Heap.get?_push_of_some _ e
 have hS₁:(s.heap.push { cls:=.type "list",data:=.seq ([]:List Value).toArray }).get? s.heap.objs.size=some { cls:=.type "list",data:=.seq ([]:List Value).toArray }:=Heap.get?_push_size _ rfl
 have h1:Builtin.List.listSameRef (.ref s.heap.objs.size) (.ref it)=false:=by simp [Builtin.List.listSameRef,hSI]
 show wpAny _ A.in1 (Builtin.List.listExtendWith (.ref s.heap.objs.size) (.ref it) (.ref s.heap.objs.size)) _ _ _
 unfold Builtin.List.listExtendWith
 refine wpAny_bind (wpAny_typeOf hst₁.1.typeIs ?_)
 rw [if_neg (by rw [h1]; decide)]
 refine wpAny_bind (W1.self 0 _ _ _ hst₁ ?_)
 refine wpAny_bind (wpAny_holding ?_)
 unfold Builtin.List.listLengthHint
 refine wpAny_bind (wpAny_specialOf hst₁.1.typeIs aDo ?_)
 show wpAny _ A.in1 (specialOf (Value.ref it) (Str.ofString "__length_hint__") >>= _) _ _ _
 refine wpAny_bind (wpAny_specialOf hst₁.1.typeIs mI.lookup ?_)
 (generalize hid:("reversed.__length_hint__":String)=id0; (fail_if_success (clear hid id0)); wp_delta; rw [show splitId id0=some ("reversed","__length_hint__") from by subst hid; decide +kernel]; subst hid)
 refine wpAny_bind (wpAny_isInstance (b:=true) hst₁.1.typeIs (by rw [isSubtype_type]; kernel_rfl) ?_)
 rw [if_neg (by decide)]
 dsimp only
 rw [if_neg (by decide +kernel)]
 refine wpAny_bind (wpAny_rule ?_)
 refine wpAny_bind (wpAny_of_eq (tH _) ?_)
 dsimp only
 refine wpAny_bind (wpAny_attempt (zL (items:=items) (l:=l) (by simpa using hst₁.1) hst₁.2.1 hz fun u tk htk=>?_))
 dsimp only
 have k0:(0:Int)<=(items.size:Int):=by omega
 have k1:Builtin.List.listFitsIndex (items.size:Int)=true:=by simp only [Builtin.List.listFitsIndex,Bool.and_eq_true,decide_eq_true_eq]; omega
 have k2:Builtin.List.listTooLong (items.size:Int).toNat=false:=by simp only [Builtin.List.listTooLong,sizeLine_eq,decide_eq_false_iff_not]; omega
 generalize (items.size:Int)=kk at k0 k1 k2
 refine wpAny_bind (m:=asInt? (.int kk u)) (wpAny_pure ?_)
 dsimp only
 rw [if_neg (by rw [k1]; decide)]
 rw [if_neg (by omega)]
 rw [if_neg (by rw [k2]; decide)]
 refine wpAny_pure ?_
 have fin:∀ (h'':Heap) (c:Nat),(∀ b o,b≠s.heap.objs.size->s.heap.get? b=some o->h''.get? b=some o)->h''.objs.size=s.heap.objs.size+1->h''.get? s.heap.objs.size=some { cls:=.type "list",dict:=none,data:=.seq #[] c,slots:=#[] } ->
   codeAny (model prog w) A (.builtin "list.extend.loop" ⟨[.ref s.heap.objs.size,.ref it,.ref s.heap.objs.size],[]⟩) (fun r s'=>match r with
    | .ok (.ret v)=>wpAny (model prog w) A (match v with
      | .ref a=>do
       let o <- load a
       match o.data with
        | .seq xs _=>pure xs.toList
        | _=>unsupported "internal:collect"
      | _=>unsupported "internal:collect") Q E s'
    | .ok _=>False
    | .error e=>E e s') ⟨h'',s.gens,s.drawn,tk,s.os⟩:=by
  intro h'' c hk hsz hS
  have st2:rvSt it l items 0 ⟨h'',s.gens,s.drawn,tk,s.os⟩:=⟨hst.1.at fun o e=>hk it o (Ne.symm hSI) e,(by obtain ⟨o,ho,r⟩:=hst.2.1; exact ⟨o,hk l o (Nat.ne_of_lt ll) ho,r⟩),hne⟩
  refine codeAny_extend_loopS W1 (by rw [sizeLine_eq]; omega) _ hSf _ items.size 0 _ _ _ rfl (Nat.zero_le _) st2 hS (ItemsOf.nil _) fun s' acc' c' hm hS' hacc=>?_
  show wpAny _ A (load s.heap.objs.size >>= _) _ _ s'
  refine wpAny_bind (wpAny_load hS' ?_)
  refine wpAny_pure (hQ s' acc' ⟨fun b o hb e=>?_,hm.gens,hm.drawn,hm.os,Nat.le_trans htk hm.toks⟩ hacc (Nat.le_of_lt (Heap.lt_size hS')))
  exact hm.heap b o (by simp at hb ⊢; exact ⟨Nat.ne_of_lt (Heap.lt_size e),hb⟩) (hk b o (Nat.ne_of_lt (Heap.lt_size e)) e)
 split
 ·refine wpAny_bind (wpAny_rule ?_)
  refine wpAny_bind ?_
  show wpAny _ _ (updateSeq s.heap.objs.size (·.push .none) >>= fun _=>updateSeq s.heap.objs.size (·.pop)) _ _ _
  refine wpAny_bind (wpAny_updateSeq hS₁ rfl ?_)
  have hS₃:=Heap.get?_update_self (Obj.mapSeq (·.push Value.none)) hS₁ rfl
  refine wpAny_updateSeq (hz:=by seq_fits) hS₃ rfl ?_
  have hS₄:=Heap.get?_update_self (Obj.mapSeq (·.pop)) hS₃ rfl
  exact wpAny_pure ⟨plainId_quiet F.plain_extend_loop _,fin _ _ (fun b o hb e=>(Heap.get?_update_other _ _ (Ne.symm hb)).trans ((Heap.get?_update_other _ _ (Ne.symm hb)).trans (Heap.get?_push_of_some _ e))) (by simp [Heap.update,Heap.push]) hS₄⟩
 ·exact wpAny_pure ⟨plainId_quiet F.plain_extend_loop _,fin _ _ (fun b o hb e=>Heap.get?_push_of_some _ e) (Heap.size_push ..) hS₁⟩
theorem qA (it l:Addr) (items:Array Value) (hn:items.size<=16777216) :
  Meets (Builtin.«tuple.__new__» ⟨[.type "tuple",.ref it],[]⟩)
   (fun A R s=>A.handled=none/\IsRvT s.heap it l ((items.size:Int) - 1)/\IsTup s.heap l items/\it≠l/\∀ (s':Shared) (acc:Array Value),Moved [it] (fun a b=>b=a) s s'->ItemsOf (fun i v=>items[items.size - 1 - i]?=some v) acc items.size->s.heap.objs.size<=s'.heap.objs.size ->
    R (.ok (.ret (.ref s'.heap.objs.size))) { s' with heap:=s'.heap.push { cls:=.type "tuple",data:=.seq acc } }) :=
 .of_wp fun prog w A R s h=>by
  obtain ⟨hh,hr,hl,hne,h⟩:=h
  have hsub:=sub_tuple_self
  have hinit:=init_tuple_lookup
  have hmh:=madeHere_tuple
  have hT:s.TypeIs (.ref it) "reversed":=hr.typeIs
  have hh1:A.in1.handled=none:=hh
  wp_walk using wpAny_typeOf hT,xQ hh1 hr hl hne hn
  intro s' acc hm hacc hle
  show wpAny _ _ (Builtin.Tuple.tupleExact acc.toList.toArray >>= fun v=>ret v) _ _ _
  unfold Builtin.Tuple.tupleExact
  refine wpAny_bind (wpAny_newObj_type ?_ (show acc.toList.toArray.size<=sizeLine by simp only [Array.toArray_toList]; rw [hacc.1,sizeLine_eq]; omega))
  refine wpAny_pure ⟨_,rfl,?_⟩
  have e:acc.toList.toArray=acc:=by simp
  rw [e]
  exact h s' acc hm hacc hle
theorem call_tuple_rv {Q:Value->Shared->Prop} {it l:Addr} {items:Array Value} (hh:A.handled=none) (hit:IsRvT s.heap it l ((items.size:Int) - 1)) (hl:IsTup s.heap l items) (hne:it≠l) (hn:items.size<=16777216)
  (h:∀ (h':Heap) (tk:Nat) (acc:Array Value),(∀ b o,b≠it->s.heap.get? b=some o->h'.get? b=some o)->s.heap.objs.size<=h'.objs.size->ItemsOf (fun i v=>items[items.size - 1 - i]?=some v) acc items.size->Q (.ref h'.objs.size) { s with heap:=h'.push { cls:=.type "tuple",data:=.seq acc },toks:=tk }) :
  wpAny (model prog w) A (call (.type "tuple") [.ref it]) Q E s:=by
 refine callType_new F.called_tuple (by decide) (F.typeCall_tuple_1 _) (F.newCall_tuple_1 _) (fun obj=>F.args_object_init_2 obj _) F.entry_tuple_new
  (qA it l items hn) ⟨hh,hit,hl,hne,fun s' acc hm hacc hle=>⟨⟨_,Heap.get?_push_size _ rfl,rfl⟩,?_⟩⟩
 obtain ⟨h',g',d',tk',os'⟩:=s'
 have e1:g'=s.gens:=hm.gens
 have e2:d'=s.drawn:=hm.drawn
 have e3:os'=s.os:=hm.os
 subst e1 e2 e3
 exact h h' tk' acc (fun b o hb e=>hm.heap b o (by simpa using hb) e) hle hacc
end
end RT
namespace L2
open PySem PySem.Spec PyProof.Rows
theorem zN {xs:List V} {its:List Value} {acc:Array Value} (r:Vals xs its) (h:ItemsOf (fun i v=>its.toArray[its.toArray.size - 1 - i]?=some v) acc its.toArray.size):Vals xs.reverse acc.toList:=by
 have hl:acc.toList.length=its.length:=by have:=h.1; simpa using this
 have e:acc.toList=its.reverse:=by
  apply List.ext_getElem?
  intro i
  by_cases hi:i < its.length
  ·have hi':i < acc.toList.length:=by omega
   have q:=h.2 i acc.toList[i] (by rw [<- Array.getElem?_toList]; exact List.getElem?_eq_getElem hi')
   rw [List.getElem?_eq_getElem hi',List.getElem?_reverse hi]
   simpa using q.symm
  ·rw [List.getElem?_eq_none (by omega),List.getElem?_eq_none (by simpa using hi)]
 rw [e]
 exact r.reverse
noncomputable def tTupRev (K:PySem.W.Frag) (ta:TA):TE:=fun σ H Q=>ta σ H fun vs H1=>∃ a xs,vs=[.ref a]/\SqT K H1 a xs/\xs.length<=16777216/\∀ l,H1 l=none->Q (.ref l) (upd H1 l (.tup xs.reverse))
theorem aAo {X:Cx} {a:Expr} {ta:TA} {p p2 pos pos2:Pos} (hc:X.calm=true) (hg:Gl X "tuple") (hm:X.mg "tuple"=none) (hg2:Gl X "reversed") (hm2:X.mg "reversed"=none) (ha:PA X [a] ta) (hs:starEach [a] X.env=[(false,eval a X.env)]:=by rfl)
  (hs2:starEach [.Call (.Name "reversed" p2) [a] [] pos2] X.env=[(false,eval (.Call (.Name "reversed" p2) [a] [] pos2) X.env)]:=by rfl):PE X (.Call (.Name "tuple" p) [.Call (.Name "reversed" p2) [a] [] pos2] [] pos) (tTupRev X.K ta):=by
 intro pins s σ H Q I h
 refine wpAny_Call_Name_kw (nM I hg hm EV.uV ?_)
 refine PyProof.Rows.callWith_type1 ?_ hs2 rfl
 rw [hs2]
 show wpAny _ _ (spliced ((false,eval (.Call (.Name "reversed" p2) [a] [] pos2) X.env)::backTo pos [])) _ _ s
 refine Calls.spliced_cons ?_
 refine Call_ (nM I hg2 hm2 vV (PyProof.Rows.callWith_type1 (thn (ha pos2 pins s σ H _ I h) fun us s1 ⟨vs,H1,I1,r1,q1⟩=>?_) hs rfl))
 obtain ⟨b,xs,e,hq,hx,q⟩:=q1
 subst e
 cases r1 with
 | cons r rr =>
  cases rr
  cases r
  obtain ⟨its,rv,pt,hz⟩:=I1.tuple hq
  have hlen:=rv.length
  refine RT.call_rev_tuple pt (by rw [List.size_toArray,<- hlen]; omega) ?_
  refine Calls.spliced_nil ?_
  have I2:Inv X pins σ H1 { s1 with heap:=s1.heap.push (RT.rvObj b ((its.toArray.size:Int) - 1)),toks:=s1.toks+1+1 }:=I1.kept (t':=s1.toks+1+1) fun b o e=>Heap.get?_push_of_some _ e
  have fo:FpOk X pins H1 s1.heap.objs.size:=I1.fpOk (Nat.le_refl _) (I1.hok.fresh (Nat.le_refl _))
  have hb:b < s1.heap.objs.size:=by obtain ⟨o,ho,_⟩:=pt; exact Heap.lt_size ho
  refine RT.call_tuple_rv (it:=s1.heap.objs.size) (l:=b) (items:=its.toArray) (I2.ok.hd hc) ⟨_,Heap.get?_push_size _ rfl,rfl,rfl⟩ (by obtain ⟨o,ho,r⟩:=pt; exact ⟨o,Heap.get?_push_of_some _ ho,r⟩) (Nat.ne_of_gt hb) (by rw [List.size_toArray]; omega) fun h' tk acc kp hle hacc=>?_
  have hT:H1 h'.objs.size=none:=I2.hok.fresh hle
  refine ⟨.ref h'.objs.size,upd H1 h'.objs.size (.tup xs.reverse),?_,rfl,q _ hT⟩
  refine I2.turnLay (fp:=[s1.heap.objs.size]) (t':=tk) (fun c hc=>by rw [List.mem_singleton.mp hc]; exact fo) (fun c u hc e=>Heap.get?_push_of_some _ (kp c u (by simpa using hc) e)) hle ?_
  exact ⟨by rw [List.length_reverse,sizeLine_eq]; omega,acc.toList,zN rv hacc,_,Heap.get?_push_size _ rfl,rfl,0,by simp⟩
end L2
namespace EV
open PySem PySem.Spec PyProof.Rows L2
section
variable {X:Cx} {K:PySem.W.Frag} {Z:Zt} {μ:List Addr} {H:Hp} {M:Mm} {a:Expr} {pos pos2:Pos} {f:FE}
noncomputable def cTupRev (w:W) (M:Mm):Oc W:=match w with
 | .d (.tup xs)=>if xs.length<=16777216 then okD (.tup xs.reverse) M else .bad
 | _=>.bad
theorem zO {p p2:Pos} (hc:X.calm=true) (hm:X.mg "tuple"=none) (hm2:X.mg "reversed"=none) (ha:Ev X K Z a f) (hg:Gl X "tuple":=by rfl) (hg2:Gl X "reversed":=by rfl) (hs:starEach [a] X.env=[(false,eval a X.env)]:=by rfl)
  (hs2:starEach [.Call (.Name "reversed" p2) [a] [] pos2] X.env=[(false,eval (.Call (.Name "reversed" p2) [a] [] pos2) X.env)]:=by rfl):Ev X K Z (.Call (.Name "tuple" p) [.Call (.Name "reversed" p2) [a] [] pos2] [] pos) (e1 cTupRev f):=by
 have h':=aAo (pos:=pos) (p:=p) hc hg hm hg2 hm2 (fL ha.h iJ hs) hs hs2
 rw [ha.k] at h'
 refine ⟨ha.k,cqE h' ?_⟩
 rintro σ H Q ⟨μ,M,L,hr,lr,p⟩
 refine ⟨μ,M,L,hr,lr,p.bind.imp fun μ1 H1 M1 w e1 hr1 _ p1 v rw'=>?_⟩
 cases w with
 | ref i=>exact p1.elim
 | d x=>cases x with
  | tup xs =>
   simp only [cTupRev] at p1
   split at p1
   ·rename_i hz
    simp only [Rw,Rp] at rw'
    obtain ⟨q,vs,rfl,h1,r1⟩:=rw'
    exact ⟨q,vs,rfl,SqT.of h1,by rw [<- r1.length]; exact hz,lG hr1 r1.reverse p1⟩
   ·exact p1.elim
  | _=>exact p1.elim
end
section
variable {L:Lc} {M:Mm} {EX:D->Mm->Prop}
theorem rP {xs:List D} {Q:W->Mm->Prop} (hz:xs.length<=16777216) (q:Q (.d (.tup xs.reverse)) M):Okx EX (cTupRev (.d (.tup xs)) M) Q:=by
 simp only [cTupRev]; rw [if_pos hz]; exact aY q
end
end EV
namespace EV
open PySem
end EV
namespace L2
open PySem PySem.Spec PyProof.Rows
structure CompOkC (p:Str) (N0:List Str) (sc0:Scope) (scope:Scope) (Nc:List Str) (js:List (Option Nat)):Prop where
 kind:scope.kind=.function
 one:scope.names.filter (fun y=>y.2==.cell)=[(p,.cell)]
 pc:scope.names.lookup p=some .cell
 names:∀ y∈scope.names,y.2=.local->scope.names.lookup y.1=some .local
 free:∀ y∈scope.names,y.2=.free->sc0.names.lookup y.1=some .cell
 len:js.length=Nc.length
 slots:∀ p∈Nc.zip js,∀ j∈p.2,N0[j]?=some p.1/\scope.names.lookup p.1=some .free/\sc0.names.lookup p.1=some .cell
noncomputable def compOkCB (p:Str) (N0:List Str) (sc0 scope:Scope) (Nc:List Str) (js:List (Option Nat)):Bool :=
 decide (scope.kind=.function)&&(scope.names.filter (fun y=>y.2==.cell)==[(p,.cell)])&&(scope.names.lookup p==some .cell)&&scope.names.all (fun y=>y.2 != .local || scope.names.lookup y.1==some .local)&&scope.names.all (fun y=>y.2 != .free || sc0.names.lookup y.1==some .cell) &&
  (js.length==Nc.length)&&(Nc.zip js).all (fun p=>match p.2 with | none=>true | some j=>N0[j]?==some p.1&&scope.names.lookup p.1==some .free&&sc0.names.lookup p.1==some .cell)
theorem CompOkC.of {p:Str} {N0:List Str} {sc0 scope:Scope} {Nc:List Str} {js:List (Option Nat)} (h:compOkCB p N0 sc0 scope Nc js=true):CompOkC p N0 sc0 scope Nc js:=by
 unfold compOkCB at h
 simp only [Bool.and_eq_true,List.all_eq_true,beq_iff_eq,decide_eq_true_eq] at h
 obtain ⟨⟨⟨⟨⟨⟨h1,h2⟩,h7⟩,h3⟩,h4⟩,h5⟩,h6⟩:=h
 refine ⟨h1,h2,h7,fun y hy e=>?_,fun y hy e=>?_,h5,fun p hp j hj=>?_⟩
 ·have:=h3 y hy
  simpa [e] using this
 ·have:=h4 y hy
  simpa [e] using this
 ·have:=h6 p hp
  have hj:p.2=some j:=hj
  rw [hj] at this
  simpa [and_assoc] using this
section
variable {X:Cx} {pins:List (Addr×Obj)} {σ:St} {H₂:Hp} {s₂:Shared} {fp:List Addr} {Nc:List Str} {scope:Scope} {js:List (Option Nat)} {cl:List (Str×Addr)} {C Cc:Addr} {p:Str}
end
section
variable {X:Cx} {tg iter elt:Expr} {ifs:List Expr} {scope:Scope} {pos:Pos} {Nc:List Str} {js:List (Option Nat)} {g:TG} {ti:TT} {te:TE} {wi:TI} {pn:Str}
end
end L2
namespace EV
open PySem PySem.Spec PyProof.Rows L2
section
variable {X:Cx} {K:PySem.W.Frag} {Z:Zt} {pos:Pos} {pn:Str}
end
end EV
namespace L2
open PySem PySem.Spec PyProof.Rows
section
variable {X:Cx}
end
end L2
namespace EV
open PySem PySem.Spec PyProof.Rows L2
section
variable {X:Cx} {K:PySem.W.Frag} {Z:Zt}
end
section
variable {M:Mm} {EX:D->Mm->Prop}
end
end EV
namespace L2
open PySem PySem.Spec PySem.W PySem.Calls PyProof.Rows Builtin Builtin.ObjectAttr
section
variable {X:Cx} {C LE:Addr} {e:Expr} {pos:Pos}
end
end L2
namespace L2
open PySem PySem.Spec PyProof.Rows
section
variable {X:Cx}
end
end L2
namespace EV
open PySem PySem.Spec PyProof.Rows L2
section
variable {X:Cx} {K:PySem.W.Frag} {Z:Zt}
variable {R:Addr->Hp->Prop} {μ:List Addr} {H:Hp} {M:Mm} {a:Expr} {pos:Pos} {fa:FE}
end
section
variable {M:Mm} {EX:D->Mm->Prop}
end
end EV
namespace EV
open PySem
section
variable {EX:D->Mm->Prop} {L:Lc} {M:Mm} {f:FE} {gg:FG} {Q:W->Mm->Prop}
theorem zR {js:List (Option Nat)} {fi:FI} {c:FT} (I:Nat->List D->Lc->Mm->Prop)
  (h:Okx EX (fi L M) fun s M1=>(I 0 [] (outL js L) M1/\(∀ i acc L M,i<=s.ds.length->I i acc L M->M.length=M1.length/\Chk s (M++[acc])/\acc.length<=i)/\s.ds.length<=16777216 /\
   (∀ i d acc L M,s.ds[i]?=some d->I i acc L M->Ok (gg (.d d) L (M++[acc])) fun L1 M2=>Ok (c L1 M2) fun b M3=>(b=true->Ok (f L1 M3) fun w M4=>∃ x M5,w=.d x/\M4=M5++[acc]/\I (i+1) (acc++[x]) L1 M5)/\(b=false->∃ M5,M3=M5++[acc]/\I (i+1) acc L1 M5)) /\
   (∀ acc L M,I s.ds.length acc L M->Q (.ref M1.length) (M++[acc])))):Okx EX (eCompR js fi gg c f L M) Q:=by
 unfold eCompR
 refine bA (h.mono fun s M1 ⟨h0,hc,hz,hs,hd⟩=>?_)
 have key:∀ k i acc L M,s.ds.length - i=k->i<=s.ds.length->I i acc L M->∃ acc' L' M',compD M1.length s gg c f (s.ds.drop i) L (M++[acc])=.ok () (M'++[acc'])/\I s.ds.length acc' L' M':=by
  intro k
  induction k with
  | zero =>
   intro i acc L M e hi hI
   have:i=s.ds.length:=by omega
   subst this
   rw [List.drop_eq_nil_of_le (Nat.le_refl _)]
   unfold compD
   rw [if_pos (hc _ acc L M (Nat.le_refl _) hI).2.1]
   exact ⟨acc,L,M,rfl,hI⟩
  | succ k ih =>
   intro i acc L M e hi hI
   have hlt:i < s.ds.length:=by omega
   rw [List.drop_eq_getElem_cons hlt]
   unfold compD
   obtain ⟨hl,hch,hal⟩:=hc _ acc L M hi hI
   rw [if_pos hch]
   obtain ⟨L1,M2,e1,hh⟩:=jB.mp (hs i s.ds[i] acc L M (by simp [hlt]) hI)
   obtain ⟨L1',M3,e2,h1,h2⟩:=jB.mp hh
   rw [e1]
   simp only [eZ]
   rw [e2]
   simp only [eZ]
   cases L1' with
   | false =>
    obtain ⟨M5,e3,hI'⟩:=h2 rfl
    subst e3
    simp only [Bool.false_eq_true,if_false]
    exact ih (i+1) acc L1 M5 (by omega) (by omega) hI'
   | true =>
    obtain ⟨w,M4,e3,x,M5,rfl,rfl,hI'⟩:=jB.mp (h1 rfl)
    simp only [if_true]
    rw [e3]
    simp only [eZ]
    have hl5:=(hc _ _ _ _ (by omega) hI').1
    have g1:(M5++[acc])[M1.length]?=some acc:=by rw [<- hl5]; simp
    rw [g1]
    simp only
    rw [if_pos (by omega)]
    have g2:(M5++[acc]).set M1.length (acc++[x])=M5++[acc++[x]]:=by rw [<- hl5]; simp
    rw [g2]
    exact ih (i+1) (acc++[x]) L1 M5 (by omega) (by omega) hI'
 obtain ⟨acc,L',M',e,hI⟩:=key s.ds.length 0 [] (outL js L) M1 (by omega) (by omega) h0
 rw [List.drop_zero] at e
 rw [e]
 have hl:=(hc _ _ _ _ (Nat.le_refl _) hI).1
 have g2:(M'++[acc]).take (M1.length+1)=M'++[acc]:=by rw [<- hl]; exact List.take_of_length_le (by simp)
 simp only [g2]
 exact aY (hd acc L' M' hI)
end
end EV
namespace L2
open PySem PySem.Spec PyProof.Rows
noncomputable def XRs (P:Addr->Prop) (H:Hp) (h:Heap) (e C:Addr) (d:Option Addr):Prop :=
 ∃ vs sl T cT dT ts sT,h.get? e=some ⟨.ref C,d,.fields vs,sl⟩/\1 < vs.size/\vs[1]?=some (.ref T)/\P T/\H T=none/\h.get? T=some ⟨cT,dT,.fields ts,sT⟩/\3 < ts.size
section
variable {M:Model} {A A':Around} {E:Value->Shared->Prop} {s:Shared} {env env':Env} {outer:List Env} {base:Heap} {L e C:Addr} {d:Option Addr} {H:Hp} {P:Addr->Prop} {Q:Unit->Shared->Prop}
theorem rR {vs:Array Value} {sl:Array (Option Value)} {head:Value} {hb:Bool} (hfr:A.frames=some (env::outer)) (hl:s.heap.FunFrames base (env::outer)) (hf:env.frame=some L)
  (he:s.heap.get? e=some ⟨.ref C,d,.fields vs,sl⟩) (hz:1 < vs.size) (hP:∀ T,s.heap.objs.size<=T->P T) (hN:∀ T,s.heap.objs.size<=T->H T=none)
  (hQ:∀ h',(∀ b o,b≠e->b∉frs (env::outer)->s.heap.get? b=some o->h'.get? b=some o)->(∀ b o,b∈frs (env::outer)->s.heap.get? b=some o->∃ sl,h'.get? b=some { o with slots:=sl }) ->
   XRs P H h' e C d->Q () { s with heap:=h' }) :
  wpAny M A (do let a <- frameOf env; let pl <- entryPlaceOf L hb; let t <- EntryCells.newEntry head a .none (rawInt L) .none pl; setField (.ref e) 1 t) Q E s:=by
 have nfr:e∉frs (env::outer):=fun z=>by
  obtain ⟨_,o,q,n⟩:=hl.mem z
  rw [he] at q; cases q; exact n vs rfl
 refine wpAny_bind (wpAny_frameOf_fun hfr hl hf fun h1 so=>?_)
 refine wpAny_bind (wpAny_entryPlaceOf fun pl isp=>wpAny_bind ?_)
 unfold EntryCells.newEntry newFields
 refine wpAny_newObj_type ?_ (isp.sizeOk5 _ _ _ _ _)
 generalize eT:([head,Value.ref L,.none,rawInt L,.none]++(if pl.isEmpty then List.replicate 6 Value.none else pl)).toArray=tv
 have hsz:3 < tv.size:=by rw [<- eT]; simp only [List.size_toArray,List.length_append,List.length_cons]; omega
 have e1:h1.get? e=some ⟨.ref C,d,.fields vs,sl⟩:=(so.2.1 e nfr).trans he
 have ne:e≠h1.objs.size:=Nat.ne_of_lt (Heap.lt_size e1)
 generalize eo:({ cls:=.type "traceback",dict:=none,data:=.fields tv }:Obj)=oT
 have e2:(h1.push oT).get? e=some ⟨.ref C,d,.fields vs,sl⟩:=Heap.get?_push_of_some _ e1
 have t3:((h1.push oT).update e (Obj.mapFields (·.setIfInBounds 1 (.ref h1.objs.size)))).get? h1.objs.size=some ⟨.type "traceback",none,.fields tv,#[]⟩:=by
  rw [bJ (Ne.symm ne),<- eo]; exact Heap.get?_push_size h1 rfl
 refine wpAny_setField e2 rfl hz (hQ _ (fun b o nb nf q=>?_) (fun b o bf q=>?_) ⟨_,sl,h1.objs.size,_,_,tv,_,dP e2,by simpa using hz,by simp [hz],hP _ (by rw [so.1]; exact Nat.le_refl _),hN _ (by rw [so.1]; exact Nat.le_refl _),t3,hsz⟩)
 ·rw [bJ nb]
  exact Heap.get?_push_of_some _ ((so.2.1 b nf).trans q)
 ·obtain ⟨sl',q1⟩:=so.2.2 b o q
  have nb:b≠e:=fun z=>nfr (z▸bf)
  exact ⟨sl',by rw [bJ nb]; exact Heap.get?_push_of_some _ q1⟩
theorem noted (hfr:A.frames=some (env::outer)) (hl:s.heap.FunFrames base (env::outer)) (hf:env.frame=some L) (hfe:env'.frame=env.frame) (x:XRec P H s.heap e C d) (he:H e≠none)
  (hP:∀ T,s.heap.objs.size<=T->P T) (hN:∀ T,s.heap.objs.size<=T->H T=none)
  (hQ:∀ (h':Heap) (ch:List Addr),(∀ b∈ch,P b/\H b=none/\b∉frs (env::outer))->(∀ b o,b≠e->b∉frs (env::outer)->b∉ch->s.heap.get? b=some o->h'.get? b=some o)->(∀ b o,b∈frs (env::outer)->s.heap.get? b=some o->∃ sl,h'.get? b=some { o with slots:=sl }) ->
   (∀ b o,s.heap.get? b=some o->∃ o',h'.get? b=some o')->XRs P H h' e C d->Q () { s with heap:=h' }) :
  wpAny M A (noteFrame (.ref e) env') Q E s:=by
 have ef:noteFrame (.ref e) env'=noteFrame (.ref e) env:=by unfold noteFrame PySem.frameOf; rw [hfe]
 rw [ef]
 obtain ⟨vs,sl,h1,h2,h3 | ⟨T,cT,dT,ts,sT,a1,a2,a3,a4,a5⟩⟩:=x
 ·unfold noteFrame
  simp only [hf]
  refine wpAny_bind (wpAny_field h1 rfl h3 ?_)
  rw [if_neg (by decide)]
  refine rR (P:=P) (H:=H) hfr hl hf h1 h2 hP hN fun h' k1 k2 r=>hQ h' [] (fun _ z=>nomatch z) (fun b o n nf _ q=>k1 b o n nf q) k2 (fun b o q=>?_) r
  by_cases hb:b∈frs (env::outer)
  ·obtain ⟨sl,q⟩:=k2 b o hb q; exact ⟨_,q⟩
  ·by_cases hbe:b=e
   ·subst hbe; obtain ⟨_,_,_,_,_,_,_,r,_⟩:=r; exact ⟨_,r⟩
   ·exact ⟨_,k1 b o hbe hb q⟩
 ·have ne:e≠T:=fun z=>he (z▸a3)
  have nfr:T∉frs (env::outer):=fun z=>by
   obtain ⟨_,o,q,n⟩:=hl.mem z
   rw [a4] at q; cases q; exact n ts rfl
  unfold noteFrame
  simp only [hf]
  refine wpAny_bind (wpAny_field h1 rfl a1 ?_)
  rw [if_pos (show (Value.ref T != Value.none)=true by simp)]
  refine wpAny_bind (wpAny_field a4 rfl (Array.getElem?_eq_getElem a5) ?_)
  by_cases here:(ts[3]==rawInt L)=true
  ·rw [if_pos here]
   exact wpAny_pure (hQ s.heap [] (fun _ z=>nomatch z) (fun _ _ _ _ _ q=>q) (fun b o _ q=>⟨o.slots,q⟩) (fun b o q=>⟨o,q⟩) ⟨vs,sl,T,cT,dT,ts,sT,h1,h2,a1,a2,a3,a4,a5⟩)
  rw [if_neg here]
  refine wpAny_bind (wpAny_setField a4 rfl a5 ?_)
  have hsz:(s.heap.update T (Obj.mapFields (·.setIfInBounds 3 Value.none))).objs.size=s.heap.objs.size:=Heap.size_after_update ..
  refine rR (P:=P) (H:=H) hfr (hl.of_keeps fun b o q n=>⟨o,(bJ fun z=>?_).trans q,rfl⟩) hf ((bJ ne).trans h1) h2 (fun U hU=>hP U (by rw [<- hsz]; exact hU)) (fun U hU=>hN U (by rw [<- hsz]; exact hU)) fun h' k1 k2 r=>hQ h' [T] (fun b hb=>?_) (fun b o n nf nc q=>k1 b o n nf ((bJ fun z=>nc (by simp [z])).trans q)) (fun b o bf q=>k2 b o bf ((bJ (a:=T) (fun (z:b=T)=>nfr (z▸bf))).trans q)) (fun b o q=>?_) r
  ·subst z; rw [a4] at q; cases q; exact n ts rfl
  ·rw [List.mem_singleton] at hb; subst hb; exact ⟨a2,a3,nfr⟩
  ·have:∃ o1,(s.heap.update T (Obj.mapFields (·.setIfInBounds 3 Value.none))).get? b=some o1:=by
    by_cases z:b=T
    ·subst z; exact ⟨_,dP a4⟩
    ·exact ⟨o,(bJ z).trans q⟩
   obtain ⟨o1,q⟩:=this
   by_cases hb:b∈frs (env::outer)
   ·obtain ⟨sl,q⟩:=k2 b o1 hb q; exact ⟨_,q⟩
   ·by_cases hbe:b=e
    ·subst hbe; obtain ⟨_,_,_,_,_,_,_,r,_⟩:=r; exact ⟨_,r⟩
    ·exact ⟨_,k1 b o1 hbe hb q⟩
end
section
variable {X:Cx} {pins:List (Addr×Obj)} {σ:List (Option V)} {H H':Hp} {s s':Shared} {e C:Addr} {d:Option Addr} {M:Model} {A A':Around} {E:Value->Shared->Prop}
variable {R:Addr->Hp->Prop} {Nc:List Str} {scope:Scope} {cl:List (Str×Addr)} {fp:List Addr} {H₂:Hp} {s₂:Shared}
end
section
variable {X:Cx} {tg iter elt:Expr} {ifs:List Expr} {scope:Scope} {pos:Pos} {Nc:List Str} {js:List (Option Nat)} {g:TG} {ti:TT} {te:TE} {wi:TI}
end
end L2
namespace EV
open PySem PySem.Spec PyProof.Rows L2
section
variable {X:Cx} {K:PySem.W.Frag} {R:Addr->Hp->Prop} {pos:Pos} {μ:List Addr} {H:Hp} {M:Mm}
end
end EV
namespace L2
open PySem PySem.Spec PyProof.Rows
structure RoomH (k:Nat) (A:Around):Prop where
 dp:A.depth+3*k+5 < recursionLimit
 un:A.units+16*k+200 < cLine
theorem Room.mark {k:Nat} {A:Around} {v:Option Value} (r:Room k A):RoomH k (A.mark v):=⟨r.dp,r.un⟩
theorem RoomH.mono {j k:Nat} {A:Around} (r:RoomH k A) (h:j<=k):RoomH j A:=⟨by have:=r.dp; omega,by have:=r.un; omega⟩
theorem RoomH.deeper {k:Nat} {A:Around} (r:RoomH (k+1) A) (env:Env):RoomH k (A.deeper env) :=
 ⟨by have:=r.dp; show A.depth+1+3*k+5 < _; omega,by have:=r.un; show A.units+3+16*k+200 < _; omega⟩
structure FnOkH (P:Program) (w:World) (K:PySem.W.Frag) (mg:Str->Option Value) (base:Heap) (k:Nat) (f:Addr) (fd:FuncData) (ps:List Str) (sp:Sp):Prop where
 len:∀ vs H Q E,sp vs H Q E->vs.length=ps.length
 run:∀ (A:Around) (outer:List Env) (s:Shared) (H:Hp) (args:Args) (us:List Value) (vs:List V) (Q:VK) (E:XK),RoomH k A->Env0 P w K mg base A outer s H->BindsTo s fd args (ps.zip us)->Vals vs us->sp vs H Q E ->
  codeAny (model P w) A (.call (.ref f) args) (CR CX0 outer P w H s Q E) s
section
variable {X:Cx} {k:Nat} {f:Addr} {fd:FuncData} {ps:List Str} {sp:Sp} {x:Str} {p pos:Pos} {e:Expr} {es:List Expr} {t:TA}
end
end L2
namespace EV
open PySem PySem.Spec PyProof.Rows L2
section
variable {X:Cx} {K:PySem.W.Frag} {Z:Zt} {e:Expr} {es:List Expr} {pos:Pos} {fs:FA}
end
section
variable {EX:D->Mm->Prop} {L:Lc} {M:Mm} {Q:W->Mm->Prop} {f:FE} {gg:FG}
end
end EV
namespace L2
open PySem PySem.Spec PyProof.Rows
section
variable {s:Shared} {A:Around} {prog:Program} {w:World} {E:Value->Shared->Prop}
theorem xG {t:Addr} {us:List Value} {Q:List Value->Shared->Prop} (it:IsTup s.heap t us.toArray) (few:us.length<=sizeLine)
  (q:Q us { s with heap:=(s.heap.push (seqObj "list" #[] 0)).update s.heap.objs.size (Obj.mapSeq (·++us.toArray)) }) :
  wpAny (model prog w) A (collect (.ref t)) Q E s:=by
 obtain ⟨ob,g,gc,k,gd⟩:=id it
 have g1:=Heap.get?_push_of_some (seqObj "list" #[] 0) g
 have g0:(s.heap.push (seqObj "list" #[] 0)).get? s.heap.objs.size=some (seqObj "list" #[] 0):=Heap.get?_push_size _ rfl
 unfold collect
 refine wpAny_bind (wpAny_runValue (codeAny_builtin (id:="proto.collect") entry_proto_collect' ?_))
 show wpAny _ _ (do again (.builtin "list.__iadd__" ⟨[<- newList [],.ref t],[]⟩)) _ _ s
 refine wpAny_bind (wpAny_newList (wpAny_pure ⟨Code.quiet_builtin _ (by decide +kernel),?_⟩))
 refine codeAny_builtin (id:="list.__iadd__") entry_list_iadd' ?_
 show wpAny _ _ (Builtin.List.listExtendWith (.ref s.heap.objs.size) (.ref t) (.ref s.heap.objs.size)) _ _ { s with heap:=s.heap.push (seqObj "list" #[] 0) }
 delta Builtin.List.listExtendWith
 refine wpAny_bind (wpAny_typeOf (T:="tuple") ⟨ob,g1,gc⟩ ?_)
 rw [if_pos (by rw [show (Value.type "tuple"==Value.type "tuple")=true from rfl]; simp)]
 refine wpAny_bind (listItems_at g1 gd (wpAny_bind (listItems_at g0 rfl ?_)))
 rw [if_neg (by simp)]
 refine wpAny_bind (listUpdate_at g0 rfl (wpAny_pure ?_) (Nat.zero_le _) ?_)
 ·refine wpAny_bind (wpAny_load (get?_update_seq g0 _) ?_)
  dsimp only
  have e:((#[]:Array Value)++us.toArray).toList=us:=by simp
  rw [e]
  exact wpAny_pure q
 ·simp only [Array.size_append,List.size_toArray,List.length_nil]
  omega
theorem aCt {t:Addr} {us:List Value} {ns:List Int} {Q:Value->Shared->Prop} (it:IsTup s.heap t us.toArray) (hI:IntsAre us ns) (few:us.length < 64)
  (q:∀ (out:Array Value) (ms:List Int),IntsAre out.toList ms->ms.Perm ns->ms.Pairwise (·<=·)->Q (.ref (s.heap.objs.size+1)) { s with heap:=sortedAll s.heap us out }) :
  wpAny (model prog w) A (call (.builtin "sorted") [.ref t]) Q E s:=by
 refine Calls.call_function_entry (id:="sorted") kind_sorted plain_sorted entry_sorted (args_sorted1 (.ref t)) ?_
 unfold Builtin.«sorted»
 refine wpAny_bind (m:=checkCount "sorted" 1 1 _) (wpAny_pure (wpAny_bind (xG it (by rw [sizeLine_eq]; omega) (wpAny_bind (wpAny_newList ?_)))))
 generalize eg:(s.heap.push (seqObj "list" #[] 0)).update s.heap.objs.size (Obj.mapSeq (·++us.toArray))=G
 have gz:G.objs.size=s.heap.objs.size+1:=by rw [<- eg,Heap.size_update,size_push']
 have go:(G.push (seqObj "list" us.toArray 0)).get? G.objs.size=some (seqObj "list" us.toArray 0):=Heap.get?_push_size _ rfl
 show wpAny _ _ _ _ _ { s with heap:=G.push (seqObj "list" us.toArray 0) }
 refine wpAny_bind (wpAny_holding (wpAny_call_entry slot_list_sort ⟨_,go,rfl⟩ entry_list_sort (list_sort_tree go hI few fun out ms a1 a2 a3=>⟨_,rfl,?_⟩) (args_list_sort _)))
 refine wpAny_pure ⟨.ref _,rfl,?_⟩
 have z:=q out ms a1 a2 a3
 unfold sortedAll at z
 rw [eg] at z
 rw [gz]
 exact z
end
end L2
namespace EV
open PySem PySem.Spec PyProof.Rows L2
section
variable {X:Cx} {K:PySem.W.Frag} {Z:Zt}
theorem xF:CallR X (.builtin "sorted") (fun xs H Q=>∃ p ns,xs=[.ref p]/\SqT X.K H p (ns.map V.int)/\ns.length < 64/\∀ l,H l=none->Q (.ref l) (upd H l (.lst ((srt ns).map V.int)))):=by
 intro pins s σ H xs us Q I r h
 obtain ⟨p,ns,rfl,hq,h64,q⟩:=h
 obtain ⟨u,rfl,rx⟩:=vals1 r
 cases rx
 obtain ⟨its,r',pl,hz⟩:=I.tuple hq
 have hI:=jV r'
 have hlen:its.length=ns.length:=by have:=r'.length; simpa using this.symm
 refine aCt (us:=its) pl hI (by omega) fun out ns' a1 a2 a3=>?_
 have e:=uP a2 a3
 subst e
 obtain ⟨c,hc⟩:=sortedAll_at s.heap its out
 refine ⟨.ref (s.heap.objs.size+1),_,I.laid (t':=s.toks) (fun b o e=>sortedAll_old e) (Nat.le_succ _) (show ObjOk X.prog X.w _ _ _ (.lst ((srt ns).map V.int)) from ⟨by rw [sizeLine_eq]; simp [qR]; omega,out.toList,c,oS a1,by simpa using hc⟩),rfl,q _ (I.hok.fresh (Nat.le_succ _))⟩
noncomputable def cSortT (ws:List W) (M:Mm):Oc W:=match ws with
 | [w]=>match w with
  | .d (.tup xs)=>match intsOf xs with
   | some ns=>if ns.length < 64 then okD (.lst ((srt ns).map .int)) M else .bad
   | none=>.bad
  | _=>.bad
 | _=>.bad
theorem callSortT (hc:X.calm=true):ClG X K Z (.builtin "sorted") cSortT:=fun hk=>by
 refine ⟨_,hk▸xF,?_⟩
 intro μ H M ws vs Q hr rx p
 match ws,rx,p with
 | [],_,p=>exact p.elim
 | [.ref _],_,p=>exact p.elim
 | [.d x],⟨v,r,e1,e2,e3⟩,p =>
  cases e3; subst e1
  cases x with
  | tup xs =>
   simp only [cSortT] at p
   cases q2:intsOf xs with
   | none=>rw [q2] at p; exact p.elim
   | some ns =>
    rw [q2] at p
    simp only at p
    split at p
    ·rename_i hz
     simp only [Rw,Rp] at e2
     obtain ⟨a,us,rfl,h1,r1⟩:=e2
     have e:=kR q2
     subst e
     have e:=mY r1
     subst e
     exact ⟨a,ns,rfl,SqT.of h1,hz,jT hr Rps.ints p⟩
    ·exact p.elim
  | _=>exact p.elim
 | _::_::_,_,p=>exact p.elim
variable {EX:D->Mm->Prop} {M:Mm} {Q:W->Mm->Prop}
theorem uU {ns:List Int} {ds:List D} (e:ds=ns.map D.int) (hz:ns.length < 64) (q:Q (.d (.lst ((srt ns).map D.int))) M):Okx EX (cSortT [.d (.tup ds)] M) Q:=by
 subst e
 unfold cSortT
 simp only [lZ]
 rw [if_pos hz]
 exact aY q
end
end EV
set_option maxHeartbeats 4000000
namespace L2
open PySem PySem.Spec PyProof.Rows
section
variable {prog:Program} {w:World} {A:Around} {E:Value->Shared->Prop} {s:Shared}
end
section
variable {X:Cx} {tg:Expr}
end
end L2
namespace EV
open PySem PySem.Spec PyProof.Rows L2
variable {EX:D->Mm->Prop}
section
variable {X:Cx} {K:PySem.W.Frag} {Z:Zt} {μ:List Addr} {H:Hp} {M:Mm} {a b tg:Expr} {pos pos2:Pos} {f g:FE}
end
section
variable {L:Lc} {M:Mm} {f g:FE}
end
end EV
namespace EV
open PySem
section
variable {EX:D->Mm->Prop} {L:Lc} {M:Mm} {f:FE} {gg:FG} {Q:W->Mm->Prop}
theorem Okx.self {α:Type} {o:Oc α} {Q:α->Mm->Prop} (h:Okx EX o Q):Okx EX o fun a M=>o=.ok a M/\Q a M:=by
 unfold Okx at h ⊢
 cases o with
 | ok a M=>exact ⟨rfl,h⟩
 | ex x M=>exact h
 | bad=>exact h
theorem Chk.app {s:Src} {M:Mm} {J:Mm} (h:Chk s M):Chk s (M++J):=fun t e=>by
 have:=h t e
 rw [List.getElem?_append_left (List.getElem?_eq_some_iff.mp this).1]
 exact this
theorem aAj {js:List (Option Nat)} {fi:FI} (h:Okx EX (fi L M) fun s M1=>∃ g:D->D,s.ds.length<=16777216/\Chk s M1/\(∀ d∈s.ds,∀ acc,Ok (f (some (.d d)::outL js L) (M1++[acc])) fun w M'=>w=.d (g d)/\M'=M1++[acc])/\Q (.ref M1.length) (M1++[s.ds.map g])):Okx EX (eCompR (none::js) fi (gN 0) tYes f L M) Q:=by
 refine zR (fun i acc L' M'=>∃ s M1 g,fi L M=.ok s M1/\(s.ds.length<=16777216/\Chk s M1/\(∀ d∈s.ds,∀ acc,Ok (f (some (.d d)::outL js L) (M1++[acc])) fun w M'=>w=.d (g d)/\M'=M1++[acc])/\Q (.ref M1.length) (M1++[s.ds.map g]))/\acc=(s.ds.take i).map g/\M'=M1/\∃ a,L'=a::outL js L) (h.self.mono ?_)
 rintro s M1 ⟨e,g,hz,hc,hf,q⟩
 refine ⟨⟨s,M1,g,e,⟨hz,hc,hf,q⟩,rfl,rfl,none,rfl⟩,?_,hz,?_,?_⟩
 ·rintro i acc L' M' hi ⟨s',M1',g',e',_,rfl,rfl,_⟩
  rw [e] at e'
  cases e'
  exact ⟨rfl,hc.app,by simp; omega⟩
 ·rintro i d acc L' M' hd ⟨s',M1',g',e',⟨_,_,hf',q'⟩,rfl,rfl,a,rfl⟩
  rw [e] at e'
  cases e'
  refine jE (aY ⟨fun _=>(hf' d (List.mem_of_getElem? hd) _).mono ?_,fun h=>by cases h⟩)
  rintro _ _ ⟨rfl,rfl⟩
  refine ⟨_,_,rfl,rfl,s,_,g',e,⟨hz,hc,hf',q'⟩,?_,rfl,_,rfl⟩
  rw [List.take_add_one,hd]; simp
 ·rintro acc L' M' ⟨s',M1',g',e',⟨_,_,_,q'⟩,rfl,rfl,_⟩
  rw [e] at e'
  cases e'
  rw [List.take_length]
  exact q'
end
end EV
namespace EV
open PySem PySem.Spec PyProof.Rows L2
section
variable {X:Cx} {K:PySem.W.Frag} {Z:Zt}
noncomputable def noV (u:Value):Bool:=match u with
 | .none=>true
 | _=>false
noncomputable def noD (d:D):Bool:=match d with
 | .non=>true
 | _=>false
theorem aEs {d:D}:eqD d .non=noD d:=by cases d <;> simp [eqD,noD]
theorem aIa {μ:List Addr} {H:Hp} {d:D} {v:V} {u:Value} (r:Rp K μ H d v) (q:RelV v u) (m:dep d<=100):noV u=noD d:=by
 cases n:fv d with
 | some w =>
  cases d with
  | non=>simp only [Rp] at r; subst r; cases q; rfl
  | bl y=>simp only [Rp] at r; subst r; cases q; rfl
  | int y=>simp only [Rp] at r; subst r; obtain ⟨t,rfl⟩:=q; rfl
  | str y=>simp only [Rp] at r; subst r; obtain ⟨t,rfl⟩:=q; rfl
  | _=>simp [fv] at n
 | none =>
  obtain ⟨a,ds,k,rfl,at1⟩:=kW n m r
  cases q
  cases at1 <;> rfl
theorem sU {pins:List (Addr×Obj)} {σ:St} {μ:List Addr} {H:Hp} {s:Shared} (hu:X.A.units+101 < cLine) (I:L2.Inv X pins σ H s):∀ {xs:List D} {vs:List V} {us:List Value},Rps X.K μ H xs vs->Vals vs us->deps xs<=100->(∀ u∈us,SeqAt.EqAt X.A.in1 s u .none (noV u))/\us.any noV=xs.any noD
 | [],_,_,h,q,_=>by simp only [Rps] at h; subst h; cases q; exact ⟨fun u hu=>(List.not_mem_nil hu).elim,rfl⟩
 | x::xs,_,_,h,q,m=>by
  simp only [Rps] at h
  obtain ⟨v,r,rfl,e2,e3⟩:=h
  cases q with
  | cons q1 q2 =>
   simp only [deps] at m
   obtain ⟨i1,i2⟩:=sU hu I e3 q2 (by omega)
   have e:=aIa e2 q1 (by omega)
   refine ⟨fun u hu'=>?_,by rw [List.any_cons,List.any_cons,e,i2]⟩
   rcases List.mem_cons.mp hu' with rfl | h
   ·rw [e,<- aEs]
    exact aCy I rfl x X.A.in1 .non v .non _ .none (by show X.A.units+1+dep x < cLine; omega) (by omega) (by simp [dep]) e2 (by simp [Rp]) q1 rfl
   ·exact i1 u h
noncomputable def rInN (K:PySem.W.Frag):R2:=fun x y H Q=>∃ p xs μ ds,x=.non/\y=.ref p/\(SqL K H p xs\/SqT K H p xs)/\Rps K μ H ds xs/\deps ds<=100/\Q (.bl (ds.any noD)) H
theorem aJl (hu:X.A.units+101 < cLine):OpR X (compareOp .In) (rInN X.K):=by
 intro pins s σ H x y v u Q I rx ry h
 obtain ⟨p,xs,μ,ds,rfl,rfl,hq,rs,m,q⟩:=h
 cases rx
 cases ry
 rcases hq with hq | hq
 ·obtain ⟨its,r,pl,hz⟩:=I.list hq
  obtain ⟨i1,i2⟩:=sU hu I rs r m
  refine SeqAt.in_listAt noV pl.isList (fun w hw=>i1 w (by simpa using hw)) ⟨.bl _,H,I,rfl,?_⟩
  rw [show its.toArray.any noV=its.any noV by simp,i2]
  exact q
 ·obtain ⟨its,r,pl,hz⟩:=I.tuple hq
  obtain ⟨i1,i2⟩:=sU hu I rs r m
  refine SeqAt.in_tupleAt noV pl (fun w hw=>i1 w (by simpa using hw)) ⟨.bl _,H,I,rfl,?_⟩
  rw [show its.toArray.any noV=its.any noV by simp,i2]
  exact q
noncomputable def pInN (x y:W) (M:Mm):Oc W:=match x,sv M y with
 | .d .non,some xs=>if deps xs<=100 then .ok (.d (.bl (xs.any noD))) M else .bad
 | _,_=>.bad
theorem opInN (hu:X.A.units+101 < cLine):OpG X K Z (compareOp .In) pInN:=fun hk=>⟨_,hk▸aJl hu,by
 intro μ H M x y v u Q hr rx ry p
 cases x with
 | ref i=>exact p.elim
 | d d =>
  cases d with
  | non =>
   simp only [pInN] at p
   cases q:sv M y with
   | none=>rw [q] at p; exact p.elim
   | some xs =>
    rw [q] at p
    simp only at p
    split at p
    ·obtain ⟨a,vs,rfl,h1,r1⟩:=qF hr ry q
     simp only [Rw,Rp] at rx
     exact ⟨a,vs,μ,xs,rx,rfl,h1,r1,by assumption,p μ H .refl hr _ (by simp [Rw,Rp])⟩
    ·exact p.elim
  | _=>exact p.elim⟩
variable {EX:D->Mm->Prop} {M:Mm} {Q:W->Mm->Prop}
theorem aHj {y:W} {xs:List D} (h:sv M y=some xs) (hz:deps xs<=100) (q:Q (.d (.bl (xs.any noD))) M):Okx EX (pInN (.d .non) y M) Q:=by
 unfold pInN
 rw [h]
 simp only
 rw [if_pos hz]
 exact aY q
end
end EV
namespace K34
open PySem L2 EV
noncomputable def top (i:Nat):Stmt:=PySem.Challenge.pw_lentshelf_k34_whole_what_papers_show.main.body.getD i (.Pass ⟨0,0,0,0⟩)
noncomputable abbrev eJ:Stmt:=top 4
noncomputable abbrev cG:Stmt:=top 6
noncomputable abbrev cU:Stmt:=top 7
noncomputable abbrev gO:Stmt:=top 9
noncomputable abbrev gP:Stmt:=top 10
noncomputable abbrev cS:Stmt:=top 11
noncomputable abbrev cD:Stmt:=top 12
noncomputable abbrev cM:Stmt:=top 13
noncomputable abbrev lP:Stmt:=top 15
noncomputable abbrev jA:Stmt:=top 16
noncomputable abbrev cN:Stmt:=top 17
noncomputable abbrev gX:Stmt:=top 19
noncomputable abbrev fD:Stmt:=top 20
noncomputable abbrev lM:Stmt:=top 21
noncomputable abbrev fH:Stmt:=top 22
noncomputable abbrev dU:Stmt:=top 23
noncomputable abbrev fK:Stmt:=top 24
noncomputable abbrev eO:Stmt:=top 25
noncomputable abbrev dN:Stmt:=top 26
noncomputable abbrev fC:Stmt:=top 27
noncomputable abbrev dX:Stmt:=top 28
noncomputable abbrev cR:Stmt:=top 29
noncomputable abbrev bX:Stmt:=top 30
noncomputable abbrev dM:Stmt:=top 31
noncomputable abbrev cC:Stmt:=top 32
noncomputable abbrev gR:Stmt:=top 33
noncomputable abbrev cO:Stmt:=top 34
noncomputable abbrev cX:Stmt:=top 35
noncomputable abbrev eP:Stmt:=top 36
noncomputable abbrev eK:Stmt:=top 37
noncomputable abbrev bG:Stmt:=top 38
noncomputable abbrev dO:Stmt:=top 39
noncomputable abbrev fJ:Stmt:=top 40
noncomputable abbrev gQ:Stmt:=top 41
noncomputable abbrev eM:Stmt:=top 42
noncomputable abbrev fF:Stmt:=top 43
noncomputable abbrev bY:Stmt:=top 44
noncomputable abbrev jH:Stmt:=top 45
noncomputable abbrev dZ:Stmt:=inClass (top 2) 0
noncomputable def b_inverse:FS :=
 (sSeq (sPar 2 3 (aCons (eV 0) (aCons (e2 pMod (eV 1) (eV 0)) aNil)))
  (sSeq (sAs (eA mkT (aCons (eC (.int 0)) (aCons (eC (.int 1)) aNil))) (gT 2 (gsCons (gN 4) (gsCons (gN 5) gsNil))))
  (sSeq (whileD (EV.tB (e2 pGt (eV 3) (eC (.int 0))))
  (sSeq (sAs (e2 pDiv (eV 2) (eV 3)) (gN 6))
  (sSeq (sPar 2 3 (aCons (eV 3) (aCons (e2 pSub (eV 2) (e2 pMulA (eV 6) (eV 3))) aNil)))
  (sPar 4 5 (aCons (eV 5) (aCons (e2 pSub (eV 4) (e2 pMulA (eV 6) (eV 5))) aNil))))) NW)
  (sSeq (sIf (EV.tB (e2 pNe (eV 2) (eC (.int 1))))
  (sRt (eC .non))
  sNil)
  (sRt (e2 pMod (eV 4) (eV 0)))))))
noncomputable def oG:Fn:=fnD 2 7 b_inverse
theorem uW {ws:List W} {M:Mm} (h:ws.length≠2):oG ws M=.bad:=if_neg h
noncomputable def b_deed_back:FS :=
 (sSeq (sIf (EV.tB (e2 pEq (e2 pIx (eV 1) (eC (.int 0))) (eC (.str "scale"))))
  (sRt (eA mkT (aCons (eC (.str "scale")) (aCons (e2 pIx (eV 1) (eC (.int 1))) (aCons (eA oG (aCons (eV 0) (aCons (e2 pIx (eV 1) (eC (.int 2))) aNil))) aNil)))))
  sNil)
  (sRt (eA mkT (aCons (eC (.str "add")) (aCons (e2 pIx (eV 1) (eC (.int 1))) (aCons (e2 pMod (e1 pNeg (e2 pIx (eV 1) (eC (.int 2)))) (eV 0)) (aCons (e2 pIx (eV 1) (eC (.int 3))) (aCons (e2 pIx (eV 1) (eC (.int 4))) aNil))))))))
noncomputable def gZ:Fn:=fnD 2 2 b_deed_back
theorem rE {ws:List W} {M:Mm} (h:ws.length≠2):gZ ws M=.bad:=if_neg h
noncomputable def b_deeds_back:FS :=
 (sRt (eA cTup (aCons (eComp [none,some 0] (iRv (eV 1)) (gN 0) EV.tYes (eA gZ (aCons (eV 1) (aCons (eV 0) aNil)))) aNil)))
noncomputable def eX:Fn:=fnD 2 2 b_deeds_back
theorem kD {ws:List W} {M:Mm} (h:ws.length≠2):eX ws M=.bad:=if_neg h
noncomputable def b_along_one:FS :=
 (sSeq (sAs (eIf (tV (eV 4)) (eA mkT (aCons (e2 pIx (eV 3) (eC (.int 1))) aNil)) (eA mkT aNil)) (gN 6))
  (sSeq (sIf (EV.tB (e2 pEq (eV 2) (eA cLen (aCons (eV 1) aNil))))
  (sRaise "NoPaper" "at" (eV 2))
  sNil)
  (sSeq (sAs (e2 pIx (eV 1) (eV 2)) (gN 7))
  (sSeq (sIf (EV.tOr (EV.tB (e2 pNe (e2 pIx (eV 7) (eC (.int 0))) (eC (.str "add")))) (EV.tOr (EV.tB (e2 pNe (e2 pIx (eV 7) (eC (.int 1))) (e2 pIx (eV 3) (eC (.int 0))))) (EV.tB (e2 pNe (e2 pIx (eV 7) (eC (.int 4))) (eV 6)))))
  (sRaise "NoPaper" "at" (eV 2))
  sNil)
  (sSeq (sAs (eIf (tV (eV 5)) (e2 pMod (e1 pNeg (e2 pIx (eV 7) (eC (.int 2)))) (eV 0)) (e2 pIx (eV 7) (eC (.int 2)))) (gN 8))
  (sSeq (sIf (EV.tB (e2 pEq (eA cLen (aCons (e2 pIx (eV 7) (eC (.int 3))) aNil)) (eC (.int 0))))
  (sRt (eA mkT (aCons (eA mkT (aCons (eC (.str "num")) (aCons (eV 8) aNil))) (aCons (e2 pAdd (eV 2) (eC (.int 1))) aNil))))
  sNil)
  (sSeq (sIf (EV.tOr (EV.tB (e2 pGt (eA cLen (aCons (e2 pIx (eV 7) (eC (.int 3))) aNil)) (eC (.int 1)))) (EV.tB (e2 pNe (eV 8) (eC (.int 1)))))
  (sRaise "NoPaper" "at" (eV 2))
  sNil)
  (sRt (eA mkT (aCons (eA mkT (aCons (eC (.str "given")) (aCons (e2 pIx (e2 pIx (eV 7) (eC (.int 3))) (eC (.int 0))) aNil))) (aCons (e2 pAdd (eV 2) (eC (.int 1))) aNil)))))))))))
noncomputable def dY:Fn:=fnX 6 9 b_along_one
theorem rJ {ws:List W} {M:Mm} (h:ws.length≠6):dY ws M=.bad:=kX h
noncomputable def b_just_these:FS :=
 (sSeq (sFor (iE (eV 2)) (gN 3)
  (sSeq (sIf (EV.tB (e2 pNe (eSl (eV 0) (oAt (eV 1)) (oAt (e2 pAdd (eV 1) (eC (.int 1))))) (eA mkT (aCons (eV 3) aNil))))
  (sRaise "NoPaper" "at" (eV 1))
  sNil)
  (sAug (pI (fun _ _=>true) fun i j=>.int (i+j)) 1 (eC (.int 1)))))
  (sRt (eV 1)))
noncomputable def eB:Fn:=fnX 3 4 b_just_these
theorem pV {ws:List W} {M:Mm} (h:ws.length≠3):eB ws M=.bad:=kX h
noncomputable def b_along (r_along:Fn) (r_along_times:Fn):FS :=
 (sSeq (sAs (e2 pIx (eV 3) (eC (.int 0))) (gN 7))
  (sSeq (sIf (EV.tB (e2 pEq (eV 7) (eC (.str "one"))))
  (sRt (eA dY (aCons (eV 0) (aCons (eV 1) (aCons (eV 2) (aCons (eV 4) (aCons (eV 5) (aCons (eV 6) aNil))))))))
  sNil)
  (sSeq (sIf (EV.tB (e2 pEq (eV 7) (eC (.str "times"))))
  (sRt (eA r_along_times (aCons (eV 0) (aCons (eV 1) (aCons (eV 2) (aCons (eV 3) (aCons (eV 4) (aCons (eV 5) (aCons (eV 6) aNil)))))))))
  sNil)
  (sSeq (sIf (tV (eV 6))
  (sSeq (sAs (eA r_along (aCons (eV 0) (aCons (eV 1) (aCons (eV 2) (aCons (e2 pIx (eV 3) (eC (.int 2))) (aCons (eV 4) (aCons (eV 5) (aCons (e2 pEq (eV 7) (eC (.str "sum"))) aNil)))))))) (gT 2 (gsCons (gN 8) (gsCons (gN 2) gsNil))))
  (sAs (eA r_along (aCons (eV 0) (aCons (eV 1) (aCons (eV 2) (aCons (e2 pIx (eV 3) (eC (.int 1))) (aCons (eV 4) (aCons (eV 5) (aCons (eC (.bl true)) aNil)))))))) (gT 2 (gsCons (gN 9) (gsCons (gN 2) gsNil)))))
  (sSeq (sAs (eA r_along (aCons (eV 0) (aCons (eV 1) (aCons (eV 2) (aCons (e2 pIx (eV 3) (eC (.int 1))) (aCons (eV 4) (aCons (eV 5) (aCons (eC (.bl false)) aNil)))))))) (gT 2 (gsCons (gN 9) (gsCons (gN 2) gsNil))))
  (sAs (eA r_along (aCons (eV 0) (aCons (eV 1) (aCons (eV 2) (aCons (e2 pIx (eV 3) (eC (.int 2))) (aCons (eV 4) (aCons (eV 5) (aCons (e2 pEq (eV 7) (eC (.str "less"))) aNil)))))))) (gT 2 (gsCons (gN 8) (gsCons (gN 2) gsNil))))))
  (sRt (eA mkT (aCons (eA mkT (aCons (eV 7) (aCons (eV 9) (aCons (eV 8) aNil)))) (aCons (eV 2) aNil))))))))
noncomputable def b_along_times (r_along:Fn) (r_along_times:Fn):FS :=
 (sSeq (sAs (eV 4) (gT 3 (gsCons (gN 7) (gsCons (gN 8) (gsCons (gN 9) gsNil)))))
  (sSeq (sIf (tV (eV 6))
  (sSeq (sAs (eA r_along (aCons (eV 0) (aCons (eV 1) (aCons (eV 2) (aCons (e2 pIx (eV 3) (eC (.int 1))) (aCons (eA mkT (aCons (eV 7) (aCons (eV 9) (aCons (eV 8) aNil)))) (aCons (eC (.bl true)) (aCons (eC (.bl false)) aNil)))))))) (gT 2 (gsCons (gN 10) (gsCons (gN 11) gsNil))))
  (sAs (eA r_along (aCons (eV 0) (aCons (eV 1) (aCons (eV 11) (aCons (e2 pIx (eV 3) (eC (.int 2))) (aCons (eA mkT (aCons (eV 9) (aCons (eV 8) (aCons (eV 7) aNil)))) (aCons (eV 5) (aCons (eC (.bl false)) aNil)))))))) (gT 2 (gsCons (gN 12) (gsCons (gN 13) gsNil)))))
  (sSeq (sAs (eA r_along (aCons (eV 0) (aCons (eV 1) (aCons (eV 2) (aCons (e2 pIx (eV 3) (eC (.int 2))) (aCons (eA mkT (aCons (eV 9) (aCons (eV 8) (aCons (eV 7) aNil)))) (aCons (eV 5) (aCons (eC (.bl false)) aNil)))))))) (gT 2 (gsCons (gN 12) (gsCons (gN 11) gsNil))))
  (sAs (eA r_along (aCons (eV 0) (aCons (eV 1) (aCons (eV 11) (aCons (e2 pIx (eV 3) (eC (.int 1))) (aCons (eA mkT (aCons (eV 7) (aCons (eV 9) (aCons (eV 8) aNil)))) (aCons (eC (.bl true)) (aCons (eC (.bl false)) aNil)))))))) (gT 2 (gsCons (gN 10) (gsCons (gN 13) gsNil))))))
  (sSeq (sAs (e2 pAdd (eA (nx eX) (aCons (eV 0) (aCons (eSl (eV 1) (oAt (eV 2)) (oAt (eV 11))) aNil))) (eA (nx eX) (aCons (eV 0) (aCons (eSl (eV 1) (oAt (eV 11)) (oAt (eV 13))) aNil)))) (gN 14))
  (sRt (eA mkT (aCons (eA mkT (aCons (eC (.str "times")) (aCons (eV 10) (aCons (eV 12) aNil)))) (aCons (eA eB (aCons (eV 1) (aCons (eV 13) (aCons (eV 14) aNil)))) aNil)))))))
mutual
noncomputable def dC:Nat->Fn
 | 0=>fun _ _=>.bad
 | d+1=>fnX 7 10 (b_along (dC d) (cE d))
noncomputable def cE:Nat->Fn
 | 0=>fun _ _=>.bad
 | d+1=>fnX 7 15 (b_along_times (dC d) (cE d))
end
theorem eW:∀ {d:Nat} {ws:List W} {M:Mm},ws.length≠7->dC d ws M=.bad
 | 0,_,_,_=>by simp only [dC]
 | d+1,_,_,h=>by simp only [dC]; exact kX h
theorem oX:∀ {d:Nat} {ws:List W} {M:Mm},ws.length≠7->cE d ws M=.bad
 | 0,_,_,_=>by simp only [cE]
 | d+1,_,_,h=>by simp only [cE]; exact kX h
noncomputable def b_shown:FS :=
 (sSeq (sPar 6 7 (aCons (e2 pIx (eV 0) (eC (.int 0))) (aCons (e2 pIx (eV 0) (eC (.int 3))) aNil)))
  (sSeq (sAs (eA (dC 50) (aCons (eV 6) (aCons (eV 7) (aCons (eC (.int 0)) (aCons (eV 1) (aCons (eA mkT (aCons (eV 2) (aCons (eV 3) (aCons (eV 4) aNil)))) (aCons (eV 5) (aCons (eC (.bl false)) aNil)))))))) (gT 2 (gsCons (gN 8) (gsCons (gN 9) gsNil))))
  (sSeq (sIf (EV.tB (e2 pLt (eV 9) (eA cLen (aCons (eV 7) aNil))))
  (sRaise "NoPaper" "at" (eV 9))
  sNil)
  (sRt (eV 8)))))
noncomputable def lF:Fn:=fnX 6 10 b_shown
theorem zM {ws:List W} {M:Mm} (h:ws.length≠6):lF ws M=.bad:=kX h
noncomputable def b_product_of:FS :=
 (sSeq (sAs (eC (.int 1)) (gN 2))
  (sSeq (sFor (iE (eV 0)) (gN 3)
  (sAs (e2 pMulA (eV 2) (e2 pIx (eV 1) (eV 3))) (gN 2)))
  (sRt (eV 2))))
noncomputable def eY:Fn:=fnD 2 4 b_product_of
theorem kP {ws:List W} {M:Mm} (h:ws.length≠2):eY ws M=.bad:=if_neg h
noncomputable def b_done:FS :=
 (sSeq (sPar 4 5 (aCons (e2 pIx (eV 1) (eC (.int 1))) (aCons (e2 pIx (eV 1) (eC (.int 2))) aNil)))
  (sSeq (sAs (e2 pIx (eV 3) (eV 4)) (gN 6))
  (sSeq (sIf (EV.tB (e2 pEq (e2 pIx (eV 1) (eC (.int 0))) (eC (.str "scale"))))
  (sAs (e2 pMulA (eV 6) (eV 5)) (gN 6))
  (sAs (e2 pAdd (eV 6) (e2 pMulA (e2 pMulA (eV 5) (eA eY (aCons (e2 pIx (eV 1) (eC (.int 3))) (aCons (eV 2) aNil)))) (eA eY (aCons (e2 pIx (eV 1) (eC (.int 4))) (aCons (eV 3) aNil))))) (gN 6)))
  (sRt (e2 pAdd (e2 pAdd (eSl (eV 3) oNo (oAt (eV 4))) (eA mkT (aCons (e2 pMod (eV 6) (eV 0)) aNil))) (eSl (eV 3) (oAt (e2 pAdd (eV 4) (eC (.int 1)))) oNo))))))
noncomputable def nK:Fn:=fnD 4 7 b_done
theorem aBh {ws:List W} {M:Mm} (h:ws.length≠4):nK ws M=.bad:=if_neg h
noncomputable def b_run:FS :=
 (sSeq (sFor (iE (e2 pIx (eV 0) (eC (.int 3)))) (gN 3)
  (sAs (eA nK (aCons (e2 pIx (eV 0) (eC (.int 0))) (aCons (eV 3) (aCons (eV 1) (aCons (eV 2) aNil))))) (gN 2)))
  (sRt (eV 2)))
noncomputable def vB:Fn:=fnD 3 4 b_run
theorem aEe {ws:List W} {M:Mm} (h:ws.length≠3):vB ws M=.bad:=if_neg h
noncomputable def b_l_box:FS :=
 (sSeq (sAs (e2 pAdd (e2 pMulA (eC (.int 7919)) (eV 1)) (eC (.int 11))) (gN 2))
  (sSeq (sIf (EV.tB (e2 pLt (eV 1) (eA cLen (aCons (eV 0) aNil))))
  (sAs (e2 pIx (eV 0) (eV 1)) (gN 2))
  (sIf (EV.tB (e2 pGt (eA cLen (aCons (eV 0) aNil)) (eC (.int 0))))
  (sAs (e2 pAdd (eV 2) (e2 pMulA (e2 pMod (e2 pIx (eV 0) (e2 pMod (eV 1) (eA cLen (aCons (eV 0) aNil)))) (eC (.int 2147483629))) (eC (.int 69623)))) (gN 2))
  sNil))
  (sSeq (sAs (e2 pAdd (e2 pMod (e2 pAdd (e2 pMulA (e2 pMod (eV 2) (eC (.int 2147483629))) (eC (.int 48271))) (e2 pMulA (eC (.int 40692)) (eV 1))) (eC (.int 2147483629))) (eC (.int 1))) (gN 3))
  (sRt (eA mkR (aCons (e2 pIx (eA mkL (aCons (eC (.int 0)) (aCons (eV 2) aNil))) (eA cInt (aCons (e2 pGe (eV 2) (e2 pPow (eC (.int 10)) (eC (.int 18)))) aNil))) (aCons (eV 3) (aCons (eC (.int 0)) aNil))))))))
noncomputable def pJ:Fn:=fnR 2 4 b_l_box
theorem zK {ws:List W} {M:Mm} (h:ws.length≠2):pJ ws M=.bad:=if_neg h
noncomputable def b_l_take:FS :=
 (sSeq (sIf (EV.tB (e2 pGt (e2 pIx (eV 0) (eC (.int 0))) (eC (.int 0))))
  (sSeq (sAs (e2 pMod (e2 pIx (eV 0) (eC (.int 0))) (eV 1)) (gN 2))
  (sSeq (sAs (e2 pDiv (e2 pIx (eV 0) (eC (.int 0))) (eV 1)) (gS (eV 0) (eC (.int 0))))
  (sRt (eV 2))))
  sNil)
  (sSeq (sAs (e2 pAdd (e2 pIx (eV 0) (eC (.int 2))) (eC (.int 1))) (gS (eV 0) (eC (.int 2))))
  (sSeq (sAs (e2 pMod (e2 pMulA (e2 pAdd (e2 pIx (eV 0) (eC (.int 1))) (e2 pMulA (eC (.int 104729)) (e2 pIx (eV 0) (eC (.int 2))))) (eC (.int 69623))) (eC (.int 2147483647))) (gN 3))
  (sSeq (sAs (e2 pAdd (e2 pMod (e2 pAdd (e2 pMulA (eV 3) (eC (.int 48271))) (eC (.int 30103))) (eC (.int 2147483629))) (eC (.int 1))) (gS (eV 0) (eC (.int 1))))
  (sRt (e2 pMod (e2 pDiv (e2 pAdd (e2 pMulA (eV 3) (eC (.int 2147483647))) (e2 pIx (eV 0) (eC (.int 1)))) (eC (.int 8191))) (eV 1)))))))
noncomputable def aU:Fn:=fnD 2 4 b_l_take
theorem aM {ws:List W} {M:Mm} (h:ws.length≠2):aU ws M=.bad:=if_neg h
noncomputable def b_l_n:FS :=
 (sSeq (sAs (eA aU (aCons (eV 0) (aCons (eC (.int 6)) aNil))) (gN 1))
  (sSeq (sAs (eInts [2,3,4,5,6,7,8,9,12,16,30,36,49,64,91,97,210,1009,65536,999983,999999,1000000]) (gN 2))
  (sSeq (sAs (e2 pIx (eV 2) (eA aU (aCons (eV 0) (aCons (eC (.int 22)) aNil)))) (gN 3))
  (sSeq (sIf (EV.tB (e2 pEq (eV 1) (eC (.int 0))))
  (sRt (e2 pAdd (eC (.int 2)) (eA aU (aCons (eV 0) (aCons (eC (.int 999999)) aNil)))))
  sNil)
  (sSeq (sIf (EV.tB (e2 pLt (eV 1) (eC (.int 3))))
  (sRt (e2 pAdd (eC (.int 2)) (eA aU (aCons (eV 0) (aCons (eC (.int 11)) aNil)))))
  sNil)
  (sRt (eV 3)))))))
noncomputable def vF:Fn:=fnD 1 4 b_l_n
theorem aFb {ws:List W} {M:Mm} (h:ws.length≠1):vF ws M=.bad:=if_neg h
noncomputable def b_l_rest:FS :=
 (sSeq (sAs (eA aU (aCons (eV 0) (aCons (eC (.int 4)) aNil))) (gN 2))
  (sSeq (sIf (EV.tB (e2 pEq (eV 2) (eC (.int 0))))
  (sRt (e2 pIx (eA mkL (aCons (eC (.int 0)) (aCons (e2 pMod (eC (.int 1)) (eV 1)) (aCons (e2 pSub (eV 1) (eC (.int 1))) (aCons (e2 pMod (e2 pSub (eV 1) (eC (.int 2))) (eV 1)) aNil))))) (eA aU (aCons (eV 0) (aCons (eC (.int 4)) aNil)))))
  sNil)
  (sRt (eA aU (aCons (eV 0) (aCons (eV 1) aNil))))))
noncomputable def iP:Fn:=fnD 2 3 b_l_rest
theorem lW {ws:List W} {M:Mm} (h:ws.length≠2):iP ws M=.bad:=if_neg h
noncomputable def b_l_rests:FS :=
 (sRt (eA cTup (aCons (eComp [none,some 0,some 1] (iR1 (eV 2)) (gN 0) EV.tYes (eA iP (aCons (eV 1) (aCons (eV 2) aNil)))) aNil)))
noncomputable def iG:Fn:=fnD 3 3 b_l_rests
theorem oN {ws:List W} {M:Mm} (h:ws.length≠3):iG ws M=.bad:=if_neg h
noncomputable def b_l_expr (r_l_expr:Fn):FS :=
 (sSeq (sAs (eA aU (aCons (eV 0) (aCons (eC (.int 7)) aNil))) (gN 4))
  (sSeq (sIf (EV.tOr (EV.tB (e2 pLt (eV 2) (eC (.int 3)))) (EV.tOr (EV.tB (e2 pEq (eV 3) (eC (.int 0)))) (EV.tB (e2 pEq (eV 4) (eC (.int 0))))))
  (sSeq (sAs (e2 pIx (eA mkL (aCons (eA aU (aCons (eV 0) (aCons (eC (.int 10)) aNil))) (aCons (eA aU (aCons (eV 0) (aCons (eC (.int 1000000)) aNil))) aNil))) (eA cInt (aCons (e2 pEq (eA aU (aCons (eV 0) (aCons (eC (.int 4)) aNil))) (eC (.int 0))) aNil))) (gN 5))
  (sSeq (sIf (EV.tAnd (EV.tB (e2 pGt (eV 1) (eC (.int 0)))) (EV.tB (e2 pGt (eA aU (aCons (eV 0) (aCons (eC (.int 3)) aNil))) (eC (.int 0)))))
  (sRt (eA mkT (aCons (eC (.str "given")) (aCons (eA aU (aCons (eV 0) (aCons (eV 1) aNil))) aNil))))
  sNil)
  (sRt (eA mkT (aCons (eC (.str "num")) (aCons (eV 5) aNil))))))
  sNil)
  (sSeq (sAs (e2 pAdd (eC (.int 1)) (eA aU (aCons (eV 0) (aCons (e2 pSub (eV 2) (eC (.int 2))) aNil)))) (gN 6))
  (sSeq (sAs (e2 pIx (eA mkL (aCons (eC (.str "sum")) (aCons (eC (.str "less")) (aCons (eC (.str "times")) (aCons (eC (.str "times")) aNil))))) (eA aU (aCons (eV 0) (aCons (eC (.int 4)) aNil)))) (gN 7))
  (sSeq (sAs (eA r_l_expr (aCons (eV 0) (aCons (eV 1) (aCons (eV 6) (aCons (e2 pSub (eV 3) (eC (.int 1))) aNil))))) (gN 8))
  (sRt (eA mkT (aCons (eV 7) (aCons (eV 8) (aCons (eA r_l_expr (aCons (eV 0) (aCons (eV 1) (aCons (e2 pSub (e2 pSub (eV 2) (eC (.int 1))) (eV 6)) (aCons (e2 pSub (eV 3) (eC (.int 1))) aNil))))) aNil))))))))))
noncomputable def eF:Nat->Fn
 | 0=>fun _ _=>.bad
 | d+1=>fnD 4 9 (b_l_expr (eF d))
theorem iQ:∀ {d:Nat} {ws:List W} {M:Mm},ws.length≠4->eF d ws M=.bad
 | 0,_,_,_=>by simp only [eF]
 | d+1,_,_,h=>by simp only [eF]; exact if_neg h
noncomputable def b_l_worth (r_l_worth:Fn):FS :=
 (sSeq (sIf (EV.tB (e2 pEq (e2 pIx (eV 1) (eC (.int 0))) (eC (.str "num"))))
  (sRt (e2 pMod (e2 pIx (eV 1) (eC (.int 1))) (eV 0)))
  sNil)
  (sSeq (sIf (EV.tB (e2 pEq (e2 pIx (eV 1) (eC (.int 0))) (eC (.str "given"))))
  (sRt (e2 pIx (eV 2) (e2 pIx (eV 1) (eC (.int 1)))))
  sNil)
  (sSeq (sPar 3 4 (aCons (eA r_l_worth (aCons (eV 0) (aCons (e2 pIx (eV 1) (eC (.int 1))) (aCons (eV 2) aNil)))) (aCons (eA r_l_worth (aCons (eV 0) (aCons (e2 pIx (eV 1) (eC (.int 2))) (aCons (eV 2) aNil)))) aNil)))
  (sSeq (sIf (EV.tB (e2 pEq (e2 pIx (eV 1) (eC (.int 0))) (eC (.str "sum"))))
  (sRt (e2 pMod (e2 pAdd (eV 3) (eV 4)) (eV 0)))
  sNil)
  (sSeq (sIf (EV.tB (e2 pEq (e2 pIx (eV 1) (eC (.int 0))) (eC (.str "less"))))
  (sRt (e2 pMod (e2 pSub (eV 3) (eV 4)) (eV 0)))
  sNil)
  (sRt (e2 pMod (e2 pMulA (eV 3) (eV 4)) (eV 0))))))))
noncomputable def dE:Nat->Fn
 | 0=>fun _ _=>.bad
 | d+1=>fnD 3 5 (b_l_worth (dE d))
theorem kL:∀ {d:Nat} {ws:List W} {M:Mm},ws.length≠3->dE d ws M=.bad
 | 0,_,_,_=>by simp only [dE]
 | d+1,_,_,h=>by simp only [dE]; exact if_neg h
noncomputable def b_l_shared:FS :=
 (sSeq (whileD (EV.tB (e2 pGt (eV 1) (eC (.int 0))))
  (sPar 0 1 (aCons (eV 1) (aCons (e2 pMod (eV 0) (eV 1)) aNil))) NW)
  (sRt (eV 0)))
noncomputable def iK:Fn:=fnD 2 2 b_l_shared
theorem sQ {ws:List W} {M:Mm} (h:ws.length≠2):iK ws M=.bad:=if_neg h
noncomputable def b_l_unit:FS :=
 (sSeq (sAs (eA aU (aCons (eV 0) (aCons (eV 1) aNil))) (gN 2))
  (sSeq (whileD (EV.tB (e2 pNe (eA iK (aCons (eV 2) (aCons (eV 1) aNil))) (eC (.int 1))))
  (sAs (e2 pMod (e2 pAdd (eV 2) (eC (.int 1))) (eV 1)) (gN 2)) NW)
  (sRt (eV 2))))
noncomputable def kK:Fn:=fnD 2 3 b_l_unit
theorem wI {ws:List W} {M:Mm} (h:ws.length≠2):kK ws M=.bad:=if_neg h
noncomputable def b_l_deed:FS :=
 (sSeq (sAs (eA aU (aCons (eV 0) (aCons (eV 3) aNil))) (gN 4))
  (sSeq (sAs (eA aU (aCons (eV 0) (aCons (eC (.int 5)) aNil))) (gN 5))
  (sSeq (sIf (EV.tB (e2 pEq (eV 5) (eC (.int 0))))
  (sRt (eA mkT (aCons (eC (.str "scale")) (aCons (eV 4) (aCons (eA kK (aCons (eV 0) (aCons (eV 1) aNil))) aNil)))))
  sNil)
  (sSeq (sAs (e2 pMulA (eA aU (aCons (eV 0) (aCons (e2 pIx (eA mkL (aCons (eC (.int 3)) (aCons (eC (.int 3)) (aCons (eC (.int 5)) aNil)))) (eA aU (aCons (eV 0) (aCons (eC (.int 3)) aNil)))) aNil))) (eA cInt (aCons (e2 pGt (eV 2) (eC (.int 0))) aNil))) (gN 6))
  (sSeq (sAs (eA cSorted (aCons (eComp [none,some 0,some 2] (iR1 (eV 6)) (gN 0) EV.tYes (eA aU (aCons (eV 1) (aCons (eV 2) aNil)))) aNil)) (gN 7))
  (sSeq (sAs (eComp [none,some 4] (iR1 (eV 3)) (gN 0) (EV.tB (e2 pNe (eV 0) (eV 1))) (eV 0)) (gN 8))
  (sSeq (sAs (eA mkL aNil) (gN 9))
  (sSeq (sIf (EV.tB (e2 pNe (eV 8) (eA mkL aNil)))
  (sAs (eA cSorted (aCons (eComp [none,some 8,some 0] (iR1 (eA aU (aCons (eV 0) (aCons (e2 pIx (eA mkL (aCons (eC (.int 2)) (aCons (eC (.int 3)) (aCons (eC (.int 5)) aNil)))) (eA aU (aCons (eV 0) (aCons (eC (.int 3)) aNil)))) aNil)))) (gN 0) EV.tYes (e2 pIx (eV 1) (eA aU (aCons (eV 2) (aCons (eA cLen (aCons (eV 1) aNil)) aNil))))) aNil)) (gN 9))
  sNil)
  (sRt (eA mkT (aCons (eC (.str "add")) (aCons (eV 4) (aCons (eA iP (aCons (eV 0) (aCons (eV 1) aNil))) (aCons (eA cTup (aCons (eV 7) aNil)) (aCons (eA cTup (aCons (eV 9) aNil)) aNil)))))))))))))))
noncomputable def jF:Fn:=fnD 4 10 b_l_deed
theorem qO {ws:List W} {M:Mm} (h:ws.length≠4):jF ws M=.bad:=if_neg h
noncomputable def b_l_inverse:FS :=
 (sSeq (sAs (eA mkT (aCons (eV 0) (aCons (e2 pMod (eV 1) (eV 0)) (aCons (eC (.int 0)) (aCons (eC (.int 1)) aNil))))) (gT 4 (gsCons (gN 2) (gsCons (gN 3) (gsCons (gN 4) (gsCons (gN 5) gsNil))))))
  (sSeq (whileD (EV.tB (e2 pGt (eV 3) (eC (.int 0))))
  (sSeq (sAs (e2 pDiv (eV 2) (eV 3)) (gN 6))
  (sSeq (sPar 2 3 (aCons (eV 3) (aCons (e2 pSub (eV 2) (e2 pMulA (eV 6) (eV 3))) aNil)))
  (sPar 4 5 (aCons (eV 5) (aCons (e2 pSub (eV 4) (e2 pMulA (eV 6) (eV 5))) aNil))))) NW)
  (sRt (e2 pMod (eV 4) (eV 0)))))
noncomputable def kG:Fn:=fnD 2 7 b_l_inverse
theorem rD {ws:List W} {M:Mm} (h:ws.length≠2):kG ws M=.bad:=if_neg h
noncomputable def b_l_deeds_back:FS :=
 (sSeq (sAs (eA mkR aNil) (gN 2))
  (sSeq (sFor (iRv (eV 1)) (gN 3)
  (sIf (EV.tB (e2 pEq (e2 pIx (eV 3) (eC (.int 0))) (eC (.str "scale"))))
  (sEx (eM1 pAppend (eV 2) (eA mkT (aCons (eC (.str "scale")) (aCons (e2 pIx (eV 3) (eC (.int 1))) (aCons (eA kG (aCons (eV 0) (aCons (e2 pIx (eV 3) (eC (.int 2))) aNil))) aNil))))))
  (sEx (eM1 pAppend (eV 2) (e2 pAdd (e2 pAdd (eSl (eV 3) oNo (oAt (eC (.int 2)))) (eA mkT (aCons (e2 pMod (e2 pSub (eC (.int 0)) (e2 pIx (eV 3) (eC (.int 2)))) (eV 0)) aNil))) (eSl (eV 3) (oAt (eC (.int 3))) oNo))))))
  (sRt (eA cTup (aCons (eV 2) aNil)))))
noncomputable def bZ:Fn:=fnD 2 4 b_l_deeds_back
theorem cV {ws:List W} {M:Mm} (h:ws.length≠2):bZ ws M=.bad:=if_neg h
noncomputable def b_l_row_by (r_l_row_by:Fn):FS :=
 (sSeq (sAs (e2 pIx (eV 1) (eC (.int 0))) (gN 5))
  (sSeq (sIf (EV.tB (e2 pEq (eV 5) (eC (.str "num"))))
  (sRt (eA mkT (aCons (eA mkT (aCons (eC (.str "add")) (aCons (eV 2) (aCons (e2 pMod (e2 pIx (eV 1) (eC (.int 1))) (eV 0)) (aCons (eA mkT aNil) (aCons (eA mkT (aCons (eV 3) aNil)) aNil)))))) aNil)))
  sNil)
  (sSeq (sIf (EV.tB (e2 pEq (eV 5) (eC (.str "given"))))
  (sRt (eA mkT (aCons (eA mkT (aCons (eC (.str "add")) (aCons (eV 2) (aCons (eC (.int 1)) (aCons (eA mkT (aCons (e2 pIx (eV 1) (eC (.int 1))) aNil)) (aCons (eA mkT (aCons (eV 3) aNil)) aNil)))))) aNil)))
  sNil)
  (sSeq (sIf (EV.tB (e2 pNe (eV 5) (eC (.str "times"))))
  (sSeq (sPar 6 7 (aCons (eA r_l_row_by (aCons (eV 0) (aCons (e2 pIx (eV 1) (eC (.int 1))) (aCons (eV 2) (aCons (eV 3) (aCons (eV 4) aNil)))))) (aCons (eA r_l_row_by (aCons (eV 0) (aCons (e2 pIx (eV 1) (eC (.int 2))) (aCons (eV 2) (aCons (eV 3) (aCons (eV 4) aNil)))))) aNil)))
  (sRt (e2 pAdd (eV 6) (e2 pIx (eA mkL (aCons (eA bZ (aCons (eV 0) (aCons (eV 7) aNil))) (aCons (eV 7) aNil))) (eA cInt (aCons (e2 pEq (eV 5) (eC (.str "sum"))) aNil))))))
  sNil)
  (sSeq (sPar 6 7 (aCons (eA r_l_row_by (aCons (eV 0) (aCons (e2 pIx (eV 1) (eC (.int 2))) (aCons (eV 4) (aCons (eV 3) (aCons (eV 2) aNil)))))) (aCons (eA r_l_row_by (aCons (eV 0) (aCons (e2 pIx (eV 1) (eC (.int 1))) (aCons (eV 2) (aCons (eV 4) (aCons (eV 3) aNil)))))) aNil)))
  (sRt (e2 pAdd (e2 pAdd (e2 pAdd (eV 6) (eV 7)) (eA bZ (aCons (eV 0) (aCons (eV 6) aNil)))) (eA bZ (aCons (eV 0) (aCons (eV 7) aNil))))))))))
noncomputable def cL:Nat->Fn
 | 0=>fun _ _=>.bad
 | d+1=>fnD 5 8 (b_l_row_by (cL d))
theorem fA:∀ {d:Nat} {ws:List W} {M:Mm},ws.length≠5->cL d ws M=.bad
 | 0,_,_,_=>by simp only [cL]
 | d+1,_,_,h=>by simp only [cL]; exact if_neg h
noncomputable def b_l_row_alone (r_l_row_alone:Fn):FS :=
 (sSeq (sAs (e2 pIx (eV 1) (eC (.int 0))) (gN 5))
  (sSeq (sIf (EV.tB (e2 pEq (eV 5) (eC (.str "num"))))
  (sRt (eA mkT (aCons (eA mkT (aCons (eC (.str "add")) (aCons (eV 2) (aCons (e2 pMod (e2 pIx (eV 1) (eC (.int 1))) (eV 0)) (aCons (eA mkT aNil) (aCons (eA mkT aNil) aNil)))))) aNil)))
  sNil)
  (sSeq (sIf (EV.tB (e2 pEq (eV 5) (eC (.str "given"))))
  (sRt (eA mkT (aCons (eA mkT (aCons (eC (.str "add")) (aCons (eV 2) (aCons (eC (.int 1)) (aCons (eA mkT (aCons (e2 pIx (eV 1) (eC (.int 1))) aNil)) (aCons (eA mkT aNil) aNil)))))) aNil)))
  sNil)
  (sSeq (sIf (EV.tB (e2 pNe (eV 5) (eC (.str "times"))))
  (sSeq (sPar 6 7 (aCons (eA r_l_row_alone (aCons (eV 0) (aCons (e2 pIx (eV 1) (eC (.int 1))) (aCons (eV 2) (aCons (eV 3) (aCons (eV 4) aNil)))))) (aCons (eA r_l_row_alone (aCons (eV 0) (aCons (e2 pIx (eV 1) (eC (.int 2))) (aCons (eV 2) (aCons (eV 3) (aCons (eV 4) aNil)))))) aNil)))
  (sRt (e2 pAdd (eV 6) (e2 pIx (eA mkL (aCons (eA bZ (aCons (eV 0) (aCons (eV 7) aNil))) (aCons (eV 7) aNil))) (eA cInt (aCons (e2 pEq (eV 5) (eC (.str "sum"))) aNil))))))
  sNil)
  (sSeq (sPar 6 7 (aCons (eA r_l_row_alone (aCons (eV 0) (aCons (e2 pIx (eV 1) (eC (.int 2))) (aCons (eV 4) (aCons (eV 3) (aCons (eV 2) aNil)))))) (aCons (eA (cL 50) (aCons (eV 0) (aCons (e2 pIx (eV 1) (eC (.int 1))) (aCons (eV 2) (aCons (eV 4) (aCons (eV 3) aNil)))))) aNil)))
  (sRt (e2 pAdd (e2 pAdd (e2 pAdd (eV 6) (eV 7)) (eA bZ (aCons (eV 0) (aCons (eV 6) aNil)))) (eA bZ (aCons (eV 0) (aCons (eV 7) aNil))))))))))
noncomputable def bV:Nat->Fn
 | 0=>fun _ _=>.bad
 | d+1=>fnD 5 8 (b_l_row_alone (bV d))
theorem fM:∀ {d:Nat} {ws:List W} {M:Mm},ws.length≠5->bV d ws M=.bad
 | 0,_,_,_=>by simp only [bV]
 | d+1,_,_,h=>by simp only [bV]; exact if_neg h
noncomputable def b_l_run:FS :=
 (sSeq (sAs (eA cListR (aCons (eV 2) aNil)) (gN 3))
  (sSeq (sFor (iE (e2 pIx (eV 0) (eC (.int 3)))) (gN 4)
  (sIf (EV.tB (e2 pEq (e2 pIx (eV 4) (eC (.int 0))) (eC (.str "scale"))))
  (sAs (e2 pMod (e2 pMulA (e2 pIx (eV 3) (e2 pIx (eV 4) (eC (.int 1)))) (e2 pIx (eV 4) (eC (.int 2)))) (e2 pIx (eV 0) (eC (.int 0)))) (gS (eV 3) (e2 pIx (eV 4) (eC (.int 1)))))
  (sSeq (sAs (e2 pIx (eV 4) (eC (.int 2))) (gN 5))
  (sSeq (sFor (iE (e2 pIx (eV 4) (eC (.int 3)))) (gN 6)
  (sAs (e2 pMod (e2 pMulA (eV 5) (e2 pIx (eV 1) (eV 6))) (e2 pIx (eV 0) (eC (.int 0)))) (gN 5)))
  (sSeq (sFor (iE (e2 pIx (eV 4) (eC (.int 4)))) (gN 7)
  (sAs (e2 pMod (e2 pMulA (eV 5) (e2 pIx (eV 3) (eV 7))) (e2 pIx (eV 0) (eC (.int 0)))) (gN 5)))
  (sAs (e2 pMod (e2 pAdd (e2 pIx (eV 3) (e2 pIx (eV 4) (eC (.int 1)))) (eV 5)) (e2 pIx (eV 0) (eC (.int 0)))) (gS (eV 3) (e2 pIx (eV 4) (eC (.int 1))))))))))
  (sRt (eA cTup (aCons (eV 3) aNil)))))
noncomputable def mV:Fn:=fnD 3 8 b_l_run
theorem zE {ws:List W} {M:Mm} (h:ws.length≠3):mV ws M=.bad:=if_neg h
noncomputable def b_l_shelves:FS :=
 (sSeq (sAs (eA cMaxL (aCons (eComp [none] (iE (eV 1)) (gN 0) EV.tYes (eA cMaxL (aCons (e2 pAdd (eA mkT (aCons (e2 pIx (eV 0) (eC (.int 1))) aNil)) (e2 pIx (eV 0) (eC (.int 4)))) aNil))) aNil)) (gN 2))
  (sRt (eA cMin2 (aCons (eC (.int 9)) (aCons (e2 pAdd (e2 pAdd (eC (.int 1)) (eV 2)) (eA aU (aCons (eV 0) (aCons (eC (.int 3)) aNil)))) aNil)))))
noncomputable def gY:Fn:=fnD 2 3 b_l_shelves
theorem rK {ws:List W} {M:Mm} (h:ws.length≠2):gY ws M=.bad:=if_neg h
noncomputable def b_l_triple:FS :=
 (sSeq (sAs (eListRange1R (eV 1)) (gN 2))
  (sRt (eA cTup (aCons (eComp [none,some 2,some 0] (iR1 (eC (.int 3))) (gN 0) EV.tYes (eM1 pPopAt (eV 1) (eA aU (aCons (eV 2) (aCons (eA cLen (aCons (eV 1) aNil)) aNil))))) aNil))))
noncomputable def iM:Fn:=fnD 2 3 b_l_triple
theorem tY {ws:List W} {M:Mm} (h:ws.length≠2):iM ws M=.bad:=if_neg h
noncomputable def b_l_great:FS :=
 (sSeq (sAs (eA (eF 50) (aCons (eV 0) (aCons (eV 1) (aCons (eC (.int 1)) (aCons (eC (.int 0)) aNil))))) (gN 2))
  (sSeq (sFor (iR1 (e2 pAdd (eC (.int 2)) (eA aU (aCons (eV 0) (aCons (eC (.int 2)) aNil))))) (gN 3)
  (sAs (eA mkT (aCons (eC (.str "times")) (aCons (eV 2) (aCons (eV 2) aNil)))) (gN 2)))
  (sSeq (sFor (iR1 (e2 pAdd (eC (.int 3)) (eA aU (aCons (eV 0) (aCons (eC (.int 2)) aNil))))) (gN 3)
  (sSeq (sAs (eA (eF 50) (aCons (eV 0) (aCons (eV 1) (aCons (eC (.int 1)) (aCons (eC (.int 0)) aNil))))) (gN 4))
  (sAs (e2 pAdd (eA mkT (aCons (eC (.str "times")) aNil)) (e2 pIx (eA mkL (aCons (eA mkT (aCons (eV 2) (aCons (eV 4) aNil))) (aCons (eA mkT (aCons (eV 4) (aCons (eV 2) aNil))) aNil))) (eA aU (aCons (eV 0) (aCons (eC (.int 2)) aNil))))) (gN 2))))
  (sRt (eV 2)))))
noncomputable def jJ:Fn:=fnD 2 5 b_l_great
theorem vG {ws:List W} {M:Mm} (h:ws.length≠2):jJ ws M=.bad:=if_neg h
noncomputable def b_l_paper (r_l_paper:Fn):FS :=
 (sSeq (sIf (EV.tB (e2 pIn (e2 pIx (eV 0) (eC (.int 0))) (eA mkT (aCons (eC (.str "num")) (aCons (eC (.str "given")) aNil)))))
  (sRt (eA mkT (aCons (eC (.str "one")) aNil)))
  sNil)
  (sRt (eA mkT (aCons (e2 pIx (eV 0) (eC (.int 0))) (aCons (eA r_l_paper (aCons (e2 pIx (eV 0) (eC (.int 1))) aNil)) (aCons (eA r_l_paper (aCons (e2 pIx (eV 0) (eC (.int 2))) aNil)) aNil))))))
noncomputable def dH:Nat->Fn
 | 0=>fun _ _=>.bad
 | d+1=>fnD 1 1 (b_l_paper (dH d))
theorem kN:∀ {d:Nat} {ws:List W} {M:Mm},ws.length≠1->dH d ws M=.bad
 | 0,_,_,_=>by simp only [dH]
 | d+1,_,_,h=>by simp only [dH]; exact if_neg h
noncomputable def b_l_other_shelves:FS :=
 (sSeq (sIf (EV.tOr (EV.tB (e2 pEq (eV 3) (eC (.int 8)))) (EV.tB (e2 pEq (eV 1) (eC (.int 1)))))
  (sSeq (sAs (eComp [none,some 2] (iR1 (eV 1)) (gN 0) (EV.tB (e2 pNotIn (eV 0) (e2 pIx (eV 1) (eC (.int 4))))) (eV 0)) (gN 4))
  (sRt (e2 pAdd (e2 pAdd (eSl (eV 2) oNo (oAt (eC (.int 1)))) (eA mkT (aCons (e2 pIx (eV 4) (eA aU (aCons (eV 0) (aCons (eA cLen (aCons (eV 4) aNil)) aNil)))) aNil))) (eSl (eV 2) (oAt (eC (.int 2))) oNo))))
  sNil)
  (sSeq (sAs (eComp [none,some 2] (iR1 (eV 1)) (gN 0) (EV.tB (e2 pNe (eV 0) (e2 pIx (eV 1) (eC (.int 1))))) (eV 0)) (gN 4))
  (sSeq (sPar 5 6 (aCons (e2 pIx (eV 4) (eA aU (aCons (eV 0) (aCons (eA cLen (aCons (eV 4) aNil)) aNil)))) (aCons (e2 pIx (eV 2) (eC (.int 4))) aNil)))
  (sSeq (sAs (e2 pIx (eA mkL (aCons (e2 pAdd (eV 6) (eA mkT (aCons (eV 5) aNil))) (aCons (eSl (eV 6) oNo (oAt (e1 pNeg (eC (.int 1))))) (aCons (eA mkT (aCons (eV 5) aNil)) (aCons (e2 pAdd (eV 6) (eV 6)) aNil))))) (eA aU (aCons (eV 0) (aCons (eC (.int 4)) aNil)))) (gN 6))
  (sRt (e2 pAdd (eSl (eV 2) oNo (oAt (eC (.int 4)))) (eA mkT (aCons (eSl (eA cTup (aCons (eA cSortT (aCons (eV 6) aNil)) aNil)) oNo (oAt (eC (.int 4)))) aNil))))))))
noncomputable def dL:Fn:=fnD 4 7 b_l_other_shelves
theorem lI {ws:List W} {M:Mm} (h:ws.length≠4):dL ws M=.bad:=if_neg h
noncomputable def b_l_spoilt:FS :=
 (sSeq (sAs (eV 1) (gT 4 (gsCons (gN 2) (gsCons (gN 3) (gsCons (gN 4) (gsCons (gN 5) gsNil))))))
  (sSeq (sIf (EV.tB (e2 pEq (eV 5) (eA mkT aNil)))
  (sRt (eA mkT (aCons (eV 2) (aCons (eV 3) (aCons (eV 4) (aCons (eA mkT (aCons (eA jF (aCons (eV 0) (aCons (eV 2) (aCons (eV 3) (aCons (eV 4) aNil))))) aNil)) aNil))))))
  sNil)
  (sSeq (sAs (eA aU (aCons (eV 0) (aCons (eA cLen (aCons (eV 5) aNil)) aNil))) (gN 6))
  (sSeq (sAs (eA aU (aCons (eV 0) (aCons (eC (.int 9)) aNil))) (gN 7))
  (sSeq (sAs (e2 pIx (eV 5) (eV 6)) (gN 8))
  (sSeq (sAs (eA jF (aCons (eV 0) (aCons (eV 2) (aCons (eV 3) (aCons (eV 4) aNil))))) (gN 9))
  (sSeq (sIf (EV.tAnd (EV.tB (e2 pGt (eV 7) (eC (.int 6)))) (EV.tB (e2 pEq (e2 pIx (eV 8) (eC (.int 0))) (eC (.str "add")))))
  (sAs (eA dL (aCons (eV 0) (aCons (eV 4) (aCons (eV 8) (aCons (eV 7) aNil))))) (gN 9))
  sNil)
  (sSeq (sIf (EV.tAnd (EV.tB (e2 pLt (eV 7) (eC (.int 2)))) (EV.tB (e2 pEq (e2 pIx (eV 8) (eC (.int 0))) (eC (.str "add")))))
  (sSeq (sAs (e2 pMod (e2 pAdd (e2 pAdd (e2 pIx (eV 8) (eC (.int 2))) (eC (.int 1))) (eA aU (aCons (eV 0) (aCons (e2 pSub (eV 2) (eC (.int 1))) aNil)))) (eV 2)) (gN 10))
  (sAs (e2 pAdd (e2 pAdd (eSl (eV 8) oNo (oAt (eC (.int 2)))) (eA mkT (aCons (eV 10) aNil))) (eSl (eV 8) (oAt (eC (.int 3))) oNo)) (gN 9)))
  sNil)
  (sSeq (sIf (EV.tAnd (EV.tB (e2 pEq (eV 7) (eC (.int 2)))) (EV.tAnd (EV.tB (e2 pEq (e2 pIx (eV 8) (eC (.int 0))) (eC (.str "add")))) (EV.tB (e2 pGt (eV 3) (eC (.int 0))))))
  (sSeq (sAs (eSl (eA cTup (aCons (eA cSortT (aCons (e2 pAdd (e2 pIx (eV 8) (eC (.int 3))) (eA mkT (aCons (eA aU (aCons (eV 0) (aCons (eV 3) aNil))) aNil))) aNil)) aNil)) oNo (oAt (eC (.int 4)))) (gN 11))
  (sAs (e2 pAdd (e2 pAdd (eSl (eV 8) oNo (oAt (eC (.int 3)))) (eA mkT (aCons (eV 11) aNil))) (eSl (eV 8) (oAt (eC (.int 4))) oNo)) (gN 9)))
  sNil)
  (sSeq (sIf (EV.tB (e2 pIn (eV 7) (eA mkT (aCons (eC (.int 3)) (aCons (eC (.int 4)) aNil)))))
  (sRt (eA mkT (aCons (eV 2) (aCons (eV 3) (aCons (eV 4) (aCons (e2 pAdd (eSl (eV 5) oNo (oAt (e2 pSub (e2 pAdd (eV 6) (eV 7)) (eC (.int 3))))) (eSl (eV 5) (oAt (e2 pSub (e2 pAdd (eV 6) (eC (.int 4))) (eV 7))) oNo)) aNil))))))
  sNil)
  (sSeq (sIf (EV.tB (e2 pEq (eV 7) (eC (.int 5))))
  (sRt (eA mkT (aCons (eV 2) (aCons (eV 3) (aCons (eV 4) (aCons (e2 pAdd (e2 pAdd (eSl (eV 5) oNo (oAt (eV 6))) (e1 cTupRev (eSl (eV 5) (oAt (eV 6)) (oAt (e2 pAdd (eV 6) (eC (.int 2))))))) (eSl (eV 5) (oAt (e2 pAdd (eV 6) (eC (.int 2)))) oNo)) aNil))))))
  sNil)
  (sSeq (sIf (EV.tB (e2 pEq (eV 7) (eC (.int 6))))
  (sSeq (sAs (eA aU (aCons (eV 0) (aCons (e2 pAdd (eA cLen (aCons (eV 5) aNil)) (eC (.int 1))) aNil))) (gN 6))
  (sRt (eA mkT (aCons (eV 2) (aCons (eV 3) (aCons (eV 4) (aCons (e2 pAdd (e2 pAdd (eSl (eV 5) oNo (oAt (eV 6))) (eA mkT (aCons (eV 9) aNil))) (eSl (eV 5) (oAt (eV 6)) oNo)) aNil)))))))
  sNil)
  (sRt (eA mkT (aCons (eV 2) (aCons (eV 3) (aCons (eV 4) (aCons (e2 pAdd (e2 pAdd (eSl (eV 5) oNo (oAt (eV 6))) (eA mkT (aCons (eV 9) aNil))) (eSl (eV 5) (oAt (e2 pAdd (eV 6) (eC (.int 1)))) oNo)) aNil))))))))))))))))))
noncomputable def iS:Fn:=fnD 2 12 b_l_spoilt
theorem tW {ws:List W} {M:Mm} (h:ws.length≠2):iS ws M=.bad:=if_neg h
noncomputable def b_l_bent (r_l_bent:Fn):FS :=
 (sSeq (sIf (EV.tB (e2 pEq (eV 1) (eA mkT (aCons (eC (.str "one")) aNil))))
  (sRt (eA mkT (aCons (e2 pIx (eA mkL (aCons (eC (.str "sum")) (aCons (eC (.str "less")) (aCons (eC (.str "times")) aNil)))) (eA aU (aCons (eV 0) (aCons (eC (.int 3)) aNil)))) (aCons (eV 1) (aCons (eV 1) aNil)))))
  sNil)
  (sSeq (sAs (eA aU (aCons (eV 0) (aCons (eC (.int 6)) aNil))) (gN 3))
  (sSeq (sIf (EV.tOr (EV.tB (e2 pEq (eV 3) (eC (.int 0)))) (EV.tB (e2 pEq (eV 2) (eC (.int 0)))))
  (sRt (eA mkT (aCons (eC (.str "one")) aNil)))
  sNil)
  (sSeq (sIf (EV.tB (e2 pEq (eV 3) (eC (.int 1))))
  (sRt (e2 pAdd (eA mkT (aCons (e2 pIx (eA mkL (aCons (eC (.str "sum")) (aCons (eC (.str "less")) (aCons (eC (.str "times")) aNil)))) (eA aU (aCons (eV 0) (aCons (eC (.int 3)) aNil)))) aNil)) (eSl (eV 1) (oAt (eC (.int 1))) oNo)))
  sNil)
  (sSeq (sIf (EV.tB (e2 pEq (eV 3) (eC (.int 2))))
  (sRt (eA mkT (aCons (e2 pIx (eV 1) (eC (.int 0))) (aCons (e2 pIx (eV 1) (eC (.int 2))) (aCons (e2 pIx (eV 1) (eC (.int 1))) aNil)))))
  sNil)
  (sSeq (sIf (EV.tB (e2 pLt (eV 3) (eC (.int 5))))
  (sRt (eA mkT (aCons (e2 pIx (eV 1) (eC (.int 0))) (aCons (eA r_l_bent (aCons (eV 0) (aCons (e2 pIx (eV 1) (eC (.int 1))) (aCons (e2 pSub (eV 2) (eC (.int 1))) aNil)))) (aCons (e2 pIx (eV 1) (eC (.int 2))) aNil)))))
  sNil)
  (sRt (eA mkT (aCons (e2 pIx (eV 1) (eC (.int 0))) (aCons (e2 pIx (eV 1) (eC (.int 1))) (aCons (eA r_l_bent (aCons (eV 0) (aCons (e2 pIx (eV 1) (eC (.int 2))) (aCons (e2 pSub (eV 2) (eC (.int 1))) aNil)))) aNil)))))))))))
noncomputable def fG:Nat->Fn
 | 0=>fun _ _=>.bad
 | d+1=>fnD 3 4 (b_l_bent (fG d))
theorem mE:∀ {d:Nat} {ws:List W} {M:Mm},ws.length≠3->fG d ws M=.bad
 | 0,_,_,_=>by simp only [fG]
 | d+1,_,_,h=>by simp only [fG]; exact if_neg h
noncomputable def b_l_row:FS :=
 (sSeq (sIf (tV (eV 0))
  (sRt (eA (cL 50) (aCons (eV 1) (aCons (eV 2) (aCons (e2 pIx (eV 3) (eC (.int 0))) (aCons (e2 pIx (eV 3) (eC (.int 1))) (aCons (e2 pIx (eV 3) (eC (.int 2))) aNil)))))))
  sNil)
  (sRt (eA (bV 50) (aCons (eV 1) (aCons (eV 2) (aCons (e2 pIx (eV 3) (eC (.int 0))) (aCons (e2 pIx (eV 3) (eC (.int 1))) (aCons (e2 pIx (eV 3) (eC (.int 2))) aNil))))))))
noncomputable def mK:Fn:=fnD 4 4 b_l_row
theorem aAt {ws:List W} {M:Mm} (h:ws.length≠4):mK ws M=.bad:=if_neg h
noncomputable def b_l_heard:FS :=
 (sSeq (sAs (eC .non) (gN 4))
  (sSeq (sTry "NoPaper" (sAs (eA lF (aDef (noX (aCons (eV 0) (aCons (eV 1) (aCons (e2 pIx (eV 2) (eC (.int 0))) (aCons (e2 pIx (eV 2) (eC (.int 1))) (aCons (e2 pIx (eV 2) (eC (.int 2))) (aCons (eV 3) aNil))))))) [])) (gN 4))
  (sAs (eC .non) (gN 4)))
  (sRt (eV 4))))
noncomputable def fS:Fn:=fnX 4 5 b_l_heard
theorem oJ {ws:List W} {M:Mm} (h:ws.length≠4):fS ws M=.bad:=kX h
noncomputable def b_l_true:FS :=
 (sSeq (sAs (eV 1) (gT 4 (gsCons (gN 5) (gsCons (gN 6) (gsCons (gN 7) (gsCons (gN 8) gsNil))))))
  (sSeq (sFor (iR1 (eC (.int 2))) (gN 9)
  (sSeq (sPar 10 11 (aCons (eA iG (aCons (eV 0) (aCons (eV 5) (aCons (eV 6) aNil)))) (aCons (eA iG (aCons (eV 0) (aCons (eV 5) (aCons (eV 7) aNil)))) aNil)))
  (sSeq (sAs (eA (dE 50) (aCons (eV 5) (aCons (eV 2) (aCons (eV 10) aNil)))) (gN 12))
  (sSeq (sIf (tV (eV 4))
  (sAs (e2 pMulA (eV 12) (e2 pIx (eV 11) (e2 pIx (eV 3) (eC (.int 1))))) (gN 12))
  sNil)
  (sSeq (sAs (e2 pIx (eV 3) (eC (.int 0))) (gN 13))
  (sSeq (sAs (e2 pAdd (e2 pAdd (eSl (eV 11) oNo (oAt (eV 13))) (eA mkT (aCons (e2 pMod (e2 pAdd (e2 pIx (eV 11) (eV 13)) (eV 12)) (eV 5)) aNil))) (eSl (eV 11) (oAt (e2 pAdd (eV 13) (eC (.int 1)))) oNo)) (gN 14))
  (sIf (EV.tOr (EV.tB (e2 pNe (eA mV (aCons (eV 1) (aCons (eV 10) (aCons (eV 11) aNil)))) (eV 14))) (EV.tB (e2 pNe (eA vB (aCons (eV 1) (aCons (eV 10) (aCons (eV 11) aNil)))) (eV 14))))
  (sRt (eC (.bl false)))
  sNil)))))))
  (sRt (eC (.bl true)))))
noncomputable def kH:Fn:=fnD 5 15 b_l_true
theorem wL {ws:List W} {M:Mm} (h:ws.length≠5):kH ws M=.bad:=if_neg h
noncomputable def b_l_other_nums (r_l_other_nums:Fn):FS :=
 (sSeq (sIf (EV.tB (e2 pEq (e2 pIx (eV 2) (eC (.int 0))) (eC (.str "num"))))
  (sRt (eA mkT (aCons (eC (.str "num")) (aCons (eA iP (aCons (eV 0) (aCons (eV 1) aNil))) aNil))))
  sNil)
  (sSeq (sIf (EV.tB (e2 pEq (e2 pIx (eV 2) (eC (.int 0))) (eC (.str "given"))))
  (sRt (eV 2))
  sNil)
  (sRt (eA mkT (aCons (e2 pIx (eV 2) (eC (.int 0))) (aCons (eA r_l_other_nums (aCons (eV 0) (aCons (eV 1) (aCons (e2 pIx (eV 2) (eC (.int 1))) aNil)))) (aCons (eA r_l_other_nums (aCons (eV 0) (aCons (eV 1) (aCons (e2 pIx (eV 2) (eC (.int 2))) aNil)))) aNil)))))))
noncomputable def bP:Nat->Fn
 | 0=>fun _ _=>.bad
 | d+1=>fnD 3 3 (b_l_other_nums (bP d))
theorem gK:∀ {d:Nat} {ws:List W} {M:Mm},ws.length≠3->bP d ws M=.bad
 | 0,_,_,_=>by simp only [bP]
 | d+1,_,_,h=>by simp only [bP]; exact if_neg h
noncomputable def b_law:FS :=
 (sSeq (sFor (iR1 (eA cMax2 (aCons (eC (.int 3)) (aCons (eA cMin2 (aCons (eC (.int 6)) (aCons (eA cLen (aCons (eV 0) aNil)) aNil))) aNil)))) (gN 1)
  (sSeq (sAs (eA (nx pJ) (aCons (eV 0) (aCons (eV 1) aNil))) (gN 2))
  (sSeq (sAs (e2 pIx (eA mkL (aCons (eA (nx vF) (aCons (eV 2) aNil)) (aCons (e2 pAdd (eC (.int 2)) (eA (nx aU) (aCons (eV 2) (aCons (eC (.int 4)) aNil)))) aNil))) (eA cInt (aCons (e2 pGt (eA (nx aU) (aCons (eV 2) (aCons (eC (.int 3)) aNil))) (eC (.int 0))) aNil))) (gN 3))
  (sSeq (sAs (eA mkT (aCons (eA (nx aU) (aCons (eV 2) (aCons (eC (.int 9)) aNil))) (aCons (e2 pEq (eA (nx aU) (aCons (eV 2) (aCons (eC (.int 2)) aNil))) (eC (.int 0))) aNil))) (gT 2 (gsCons (gN 4) (gsCons (gN 5) gsNil))))
  (sSeq (sAs (eA (nx iM) (aCons (eV 2) (aCons (e2 pAdd (eC (.int 3)) (eA (nx aU) (aCons (eV 2) (aCons (eC (.int 7)) aNil)))) aNil))) (gN 6))
  (sSeq (sAs (eA (nx (eF 50)) (aCons (eV 2) (aCons (eV 4) (aCons (eC (.int 9)) (aCons (eC (.int 8)) aNil))))) (gN 7))
  (sSeq (sIf (EV.tAnd (EV.tB (e2 pEq (eV 1) (eC (.int 0)))) (EV.tB (e2 pEq (eA (nx aU) (aCons (eV 2) (aCons (eC (.int 16)) aNil))) (eC (.int 0)))))
  (sAs (eA (nx jJ) (aCons (eV 2) (aCons (eV 4) aNil))) (gN 7))
  sNil)
  (sSeq (sAs (eComp [none,some 5,some 3,some 6] (iE (eA mkT (aCons (eV 7) (aCons (eA (nx (bP 50)) (aCons (eV 2) (aCons (eV 3) (aCons (eV 7) aNil)))) aNil)))) (gN 0) EV.tYes (eA mK (aCons (eV 1) (aCons (eV 2) (aCons (eV 0) (aCons (eV 3) aNil)))))) (gN 8))
  (sSeq (sAs (eA (nx gY) (aCons (eV 2) (aCons (e2 pIx (eV 8) (eC (.int 0))) aNil))) (gN 9))
  (sSeq (sAs (eCompR [none,some 3,some 4,some 9] (iE (eV 8)) (gN 0) EV.tYes (eA mkT (aCons (eV 1) (aCons (eV 2) (aCons (eV 3) (aCons (eV 0) aNil)))))) (gN 10))
  (sSeq (sAs (eA (nx (dH 50)) (aCons (eV 7) aNil)) (gN 11))
  (sSeq (sIf (EV.tB (e2 pInN (eC .non) (eComp [none,some 11,some 6,some 5] (iE (eV 10)) (gN 0) EV.tYes (eA fS (aCons (eV 0) (aCons (eV 1) (aCons (eV 2) (aCons (eV 3) aNil))))))))
  (sRt (eC (.bl false)))
  sNil)
  (sSeq (sFor (iR1 (eC (.int 4))) (gN 12)
  (sEx (eM1 pAppend (eV 10) (eA (nx iS) (aCons (eV 2) (aCons (e2 pIx (eV 10) (eV 12)) aNil))))))
  (sFor (iE (eV 10)) (gN 13)
  (sFor (iE (eA mkT (aCons (eV 11) (aCons (eA (nx (fG 50)) (aCons (eV 2) (aCons (eV 11) (aCons (eC (.int 3)) aNil)))) aNil)))) (gN 14)
  (sSeq (sAs (eA fS (aCons (eV 13) (aCons (eV 14) (aCons (eV 6) (aCons (eV 5) aNil))))) (gN 15))
  (sIf (EV.tAnd (EV.tB (e2 pIsNot (eV 15) (eC .non))) (EV.tNot (tV (eA (nx kH) (aCons (eV 2) (aCons (eV 13) (aCons (eV 15) (aCons (eV 6) (aCons (eV 5) aNil)))))))))
  (sRt (eC (.bl false)))
  sNil)))))))))))))))))
  (sRt (eC (.bl true))))
noncomputable def qX:Fn:=fnX 1 16 b_law
set_option genInjectivity false in
set_option genSizeOf false in
structure Adr where
 a_inverse:Addr
 d_inverse:FuncData
 a_deeds_back:Addr
 d_deeds_back:FuncData
 a_deed_back:Addr
 d_deed_back:FuncData
 a_shown:Addr
 d_shown:FuncData
 a_along:Addr
 d_along:FuncData
 a_along_one:Addr
 d_along_one:FuncData
 a_along_times:Addr
 d_along_times:FuncData
 a_just_these:Addr
 d_just_these:FuncData
 a_run:Addr
 d_run:FuncData
 a_done:Addr
 d_done:FuncData
 a_product_of:Addr
 d_product_of:FuncData
 a_l_box:Addr
 d_l_box:FuncData
 a_l_take:Addr
 d_l_take:FuncData
 a_l_n:Addr
 d_l_n:FuncData
 a_l_rest:Addr
 d_l_rest:FuncData
 a_l_rests:Addr
 d_l_rests:FuncData
 a_l_expr:Addr
 d_l_expr:FuncData
 a_l_worth:Addr
 d_l_worth:FuncData
 a_l_shared:Addr
 d_l_shared:FuncData
 a_l_unit:Addr
 d_l_unit:FuncData
 a_l_deed:Addr
 d_l_deed:FuncData
 a_l_inverse:Addr
 d_l_inverse:FuncData
 a_l_deeds_back:Addr
 d_l_deeds_back:FuncData
 a_l_row_by:Addr
 d_l_row_by:FuncData
 a_l_row_alone:Addr
 d_l_row_alone:FuncData
 a_l_run:Addr
 d_l_run:FuncData
 a_l_shelves:Addr
 d_l_shelves:FuncData
 a_l_triple:Addr
 d_l_triple:FuncData
 a_l_great:Addr
 d_l_great:FuncData
 a_l_paper:Addr
 d_l_paper:FuncData
 a_l_other_shelves:Addr
 d_l_other_shelves:FuncData
 a_l_spoilt:Addr
 d_l_spoilt:FuncData
 a_l_bent:Addr
 d_l_bent:FuncData
 a_l_row:Addr
 d_l_row:FuncData
 a_l_heard:Addr
 d_l_heard:FuncData
 a_l_true:Addr
 d_l_true:FuncData
 a_l_other_nums:Addr
 d_l_other_nums:FuncData
 a_law:Addr
 d_law:FuncData
 e_LentError:Addr
 e_NoPaper:Addr
 j_NoPaper:Addr
 g_NoPaper:FuncData
structure Tx (K:PySem.W.Frag) (mg:Str->Option Value) (a:Adr):Prop where
 f_inverse:Fun K "inverse" "inverse" eJ a.a_inverse a.d_inverse
 b_inverse:Binds K a.d_inverse ["n","k"] []
 k_inverse:PySem.W.keepIn K (.ref a.a_inverse)=true
 m_inverse:mg "inverse"=some (.ref a.a_inverse)
 f_deeds_back:Fun K "deeds_back" "deeds_back" cG a.a_deeds_back a.d_deeds_back
 b_deeds_back:Binds K a.d_deeds_back ["n","deeds"] []
 k_deeds_back:PySem.W.keepIn K (.ref a.a_deeds_back)=true
 m_deeds_back:mg "deeds_back"=some (.ref a.a_deeds_back)
 f_deed_back:Fun K "deed_back" "deed_back" cU a.a_deed_back a.d_deed_back
 b_deed_back:Binds K a.d_deed_back ["n","deed"] []
 k_deed_back:PySem.W.keepIn K (.ref a.a_deed_back)=true
 m_deed_back:mg "deed_back"=some (.ref a.a_deed_back)
 f_shown:Fun K "shown" "shown" gO a.a_shown a.d_shown
 b_shown:Binds K a.d_shown ["program","paper","S","B","C","by"] []
 k_shown:PySem.W.keepIn K (.ref a.a_shown)=true
 m_shown:mg "shown"=some (.ref a.a_shown)
 f_along:Fun K "along" "along" gP a.a_along a.d_along
 b_along:Binds K a.d_along ["n","deeds","at","paper","shelves","by","back"] []
 k_along:PySem.W.keepIn K (.ref a.a_along)=true
 m_along:mg "along"=some (.ref a.a_along)
 f_along_one:Fun K "along_one" "along_one" cS a.a_along_one a.d_along_one
 b_along_one:Binds K a.d_along_one ["n","deeds","at","shelves","by","back"] []
 k_along_one:PySem.W.keepIn K (.ref a.a_along_one)=true
 m_along_one:mg "along_one"=some (.ref a.a_along_one)
 f_along_times:Fun K "along_times" "along_times" cD a.a_along_times a.d_along_times
 b_along_times:Binds K a.d_along_times ["n","deeds","at","paper","shelves","by","back"] []
 k_along_times:PySem.W.keepIn K (.ref a.a_along_times)=true
 m_along_times:mg "along_times"=some (.ref a.a_along_times)
 f_just_these:Fun K "just_these" "just_these" cM a.a_just_these a.d_just_these
 b_just_these:Binds K a.d_just_these ["deeds","at","asked"] []
 k_just_these:PySem.W.keepIn K (.ref a.a_just_these)=true
 m_just_these:mg "just_these"=some (.ref a.a_just_these)
 f_run:Fun K "run" "run" lP a.a_run a.d_run
 b_run:Binds K a.d_run ["program","givens","contents"] []
 k_run:PySem.W.keepIn K (.ref a.a_run)=true
 m_run:mg "run"=some (.ref a.a_run)
 f_done:Fun K "done" "done" jA a.a_done a.d_done
 b_done:Binds K a.d_done ["n","deed","givens","contents"] []
 k_done:PySem.W.keepIn K (.ref a.a_done)=true
 m_done:mg "done"=some (.ref a.a_done)
 f_product_of:Fun K "product_of" "product_of" cN a.a_product_of a.d_product_of
 b_product_of:Binds K a.d_product_of ["places","numbers"] []
 k_product_of:PySem.W.keepIn K (.ref a.a_product_of)=true
 m_product_of:mg "product_of"=some (.ref a.a_product_of)
 f_l_box:Fun K "_law_box" "_law_box" gX a.a_l_box a.d_l_box
 b_l_box:Binds K a.d_l_box ["_law_script","_law_k"] []
 k_l_box:PySem.W.keepIn K (.ref a.a_l_box)=true
 m_l_box:mg "_law_box"=some (.ref a.a_l_box)
 f_l_take:Fun K "_law_take" "_law_take" fD a.a_l_take a.d_l_take
 b_l_take:Binds K a.d_l_take ["_law_box_here","_law_many"] []
 k_l_take:PySem.W.keepIn K (.ref a.a_l_take)=true
 m_l_take:mg "_law_take"=some (.ref a.a_l_take)
 f_l_n:Fun K "_law_n" "_law_n" lM a.a_l_n a.d_l_n
 b_l_n:Binds K a.d_l_n ["_law_box_here"] []
 k_l_n:PySem.W.keepIn K (.ref a.a_l_n)=true
 m_l_n:mg "_law_n"=some (.ref a.a_l_n)
 f_l_rest:Fun K "_law_rest" "_law_rest" fH a.a_l_rest a.d_l_rest
 b_l_rest:Binds K a.d_l_rest ["_law_box_here","_law_n_here"] []
 k_l_rest:PySem.W.keepIn K (.ref a.a_l_rest)=true
 m_l_rest:mg "_law_rest"=some (.ref a.a_l_rest)
 f_l_rests:Fun K "_law_rests" "_law_rests" dU a.a_l_rests a.d_l_rests
 b_l_rests:Binds K a.d_l_rests ["_law_box_here","_law_n_here","_law_many"] []
 k_l_rests:PySem.W.keepIn K (.ref a.a_l_rests)=true
 m_l_rests:mg "_law_rests"=some (.ref a.a_l_rests)
 f_l_expr:Fun K "_law_expr" "_law_expr" fK a.a_l_expr a.d_l_expr
 b_l_expr:Binds K a.d_l_expr ["_law_box_here","_law_givens","_law_room","_law_deep"] []
 k_l_expr:PySem.W.keepIn K (.ref a.a_l_expr)=true
 m_l_expr:mg "_law_expr"=some (.ref a.a_l_expr)
 f_l_worth:Fun K "_law_worth" "_law_worth" eO a.a_l_worth a.d_l_worth
 b_l_worth:Binds K a.d_l_worth ["_law_n_here","_law_expr_here","_law_given"] []
 k_l_worth:PySem.W.keepIn K (.ref a.a_l_worth)=true
 m_l_worth:mg "_law_worth"=some (.ref a.a_l_worth)
 f_l_shared:Fun K "_law_shared" "_law_shared" dN a.a_l_shared a.d_l_shared
 b_l_shared:Binds K a.d_l_shared ["_law_one","_law_other"] []
 k_l_shared:PySem.W.keepIn K (.ref a.a_l_shared)=true
 m_l_shared:mg "_law_shared"=some (.ref a.a_l_shared)
 f_l_unit:Fun K "_law_unit" "_law_unit" fC a.a_l_unit a.d_l_unit
 b_l_unit:Binds K a.d_l_unit ["_law_box_here","_law_n_here"] []
 k_l_unit:PySem.W.keepIn K (.ref a.a_l_unit)=true
 m_l_unit:mg "_law_unit"=some (.ref a.a_l_unit)
 f_l_deed:Fun K "_law_deed" "_law_deed" dX a.a_l_deed a.d_l_deed
 b_l_deed:Binds K a.d_l_deed ["_law_box_here","_law_n_here","_law_givens","_law_shelves_here"] []
 k_l_deed:PySem.W.keepIn K (.ref a.a_l_deed)=true
 m_l_deed:mg "_law_deed"=some (.ref a.a_l_deed)
 f_l_inverse:Fun K "_law_inverse" "_law_inverse" cR a.a_l_inverse a.d_l_inverse
 b_l_inverse:Binds K a.d_l_inverse ["_law_n_here","_law_u"] []
 k_l_inverse:PySem.W.keepIn K (.ref a.a_l_inverse)=true
 m_l_inverse:mg "_law_inverse"=some (.ref a.a_l_inverse)
 f_l_deeds_back:Fun K "_law_deeds_back" "_law_deeds_back" bX a.a_l_deeds_back a.d_l_deeds_back
 b_l_deeds_back:Binds K a.d_l_deeds_back ["_law_n_here","_law_deeds"] []
 k_l_deeds_back:PySem.W.keepIn K (.ref a.a_l_deeds_back)=true
 m_l_deeds_back:mg "_law_deeds_back"=some (.ref a.a_l_deeds_back)
 f_l_row_by:Fun K "_law_row_by" "_law_row_by" dM a.a_l_row_by a.d_l_row_by
 b_l_row_by:Binds K a.d_l_row_by ["_law_n_here","_law_expr_here","_law_ks","_law_kb","_law_kc"] []
 k_l_row_by:PySem.W.keepIn K (.ref a.a_l_row_by)=true
 m_l_row_by:mg "_law_row_by"=some (.ref a.a_l_row_by)
 f_l_row_alone:Fun K "_law_row_alone" "_law_row_alone" cC a.a_l_row_alone a.d_l_row_alone
 b_l_row_alone:Binds K a.d_l_row_alone ["_law_n_here","_law_expr_here","_law_ks","_law_kb","_law_kc"] []
 k_l_row_alone:PySem.W.keepIn K (.ref a.a_l_row_alone)=true
 m_l_row_alone:mg "_law_row_alone"=some (.ref a.a_l_row_alone)
 f_l_run:Fun K "_law_run" "_law_run" gR a.a_l_run a.d_l_run
 b_l_run:Binds K a.d_l_run ["_law_program","_law_given","_law_contents"] []
 k_l_run:PySem.W.keepIn K (.ref a.a_l_run)=true
 m_l_run:mg "_law_run"=some (.ref a.a_l_run)
 f_l_shelves:Fun K "_law_shelves" "_law_shelves" cO a.a_l_shelves a.d_l_shelves
 b_l_shelves:Binds K a.d_l_shelves ["_law_box_here","_law_deeds"] []
 k_l_shelves:PySem.W.keepIn K (.ref a.a_l_shelves)=true
 m_l_shelves:mg "_law_shelves"=some (.ref a.a_l_shelves)
 f_l_triple:Fun K "_law_triple" "_law_triple" cX a.a_l_triple a.d_l_triple
 b_l_triple:Binds K a.d_l_triple ["_law_box_here","_law_shelves_here"] []
 k_l_triple:PySem.W.keepIn K (.ref a.a_l_triple)=true
 m_l_triple:mg "_law_triple"=some (.ref a.a_l_triple)
 f_l_great:Fun K "_law_great" "_law_great" eP a.a_l_great a.d_l_great
 b_l_great:Binds K a.d_l_great ["_law_box_here","_law_givens"] []
 k_l_great:PySem.W.keepIn K (.ref a.a_l_great)=true
 m_l_great:mg "_law_great"=some (.ref a.a_l_great)
 f_l_paper:Fun K "_law_paper" "_law_paper" eK a.a_l_paper a.d_l_paper
 b_l_paper:Binds K a.d_l_paper ["_law_expr_here"] []
 k_l_paper:PySem.W.keepIn K (.ref a.a_l_paper)=true
 m_l_paper:mg "_law_paper"=some (.ref a.a_l_paper)
 f_l_other_shelves:Fun K "_law_other_shelves" "_law_other_shelves" bG a.a_l_other_shelves a.d_l_other_shelves
 b_l_other_shelves:Binds K a.d_l_other_shelves ["_law_box_here","_law_shelves_here","_law_deed_here","_law_form"] []
 k_l_other_shelves:PySem.W.keepIn K (.ref a.a_l_other_shelves)=true
 m_l_other_shelves:mg "_law_other_shelves"=some (.ref a.a_l_other_shelves)
 f_l_spoilt:Fun K "_law_spoilt" "_law_spoilt" dO a.a_l_spoilt a.d_l_spoilt
 b_l_spoilt:Binds K a.d_l_spoilt ["_law_box_here","_law_program"] []
 k_l_spoilt:PySem.W.keepIn K (.ref a.a_l_spoilt)=true
 m_l_spoilt:mg "_law_spoilt"=some (.ref a.a_l_spoilt)
 f_l_bent:Fun K "_law_bent" "_law_bent" fJ a.a_l_bent a.d_l_bent
 b_l_bent:Binds K a.d_l_bent ["_law_box_here","_law_paper_here","_law_deep"] []
 k_l_bent:PySem.W.keepIn K (.ref a.a_l_bent)=true
 m_l_bent:mg "_law_bent"=some (.ref a.a_l_bent)
 f_l_row:Fun K "_law_row" "_law_row" gQ a.a_l_row a.d_l_row
 b_l_row:Binds K a.d_l_row ["_law_by","_law_n_here","_law_expr_here","_law_places"] []
 k_l_row:PySem.W.keepIn K (.ref a.a_l_row)=true
 m_l_row:mg "_law_row"=some (.ref a.a_l_row)
 f_l_heard:Fun K "_law_heard" "_law_heard" eM a.a_l_heard a.d_l_heard
 b_l_heard:Binds K a.d_l_heard ["_law_program","_law_paper_here","_law_places","_law_by"] []
 k_l_heard:PySem.W.keepIn K (.ref a.a_l_heard)=true
 m_l_heard:mg "_law_heard"=some (.ref a.a_l_heard)
 f_l_true:Fun K "_law_true" "_law_true" fF a.a_l_true a.d_l_true
 b_l_true:Binds K a.d_l_true ["_law_box_here","_law_program","_law_found","_law_places","_law_by"] []
 k_l_true:PySem.W.keepIn K (.ref a.a_l_true)=true
 m_l_true:mg "_law_true"=some (.ref a.a_l_true)
 f_l_other_nums:Fun K "_law_other_nums" "_law_other_nums" bY a.a_l_other_nums a.d_l_other_nums
 b_l_other_nums:Binds K a.d_l_other_nums ["_law_box_here","_law_n_here","_law_expr_here"] []
 k_l_other_nums:PySem.W.keepIn K (.ref a.a_l_other_nums)=true
 m_l_other_nums:mg "_law_other_nums"=some (.ref a.a_l_other_nums)
 f_law:Fun K "law" "law" jH a.a_law a.d_law
 b_law:Binds K a.d_law ["_law_script"] []
 k_law:PySem.W.keepIn K (.ref a.a_law)=true
 m_law:mg "law"=some (.ref a.a_law)
 nm_LentError:PySem.W.nsIn K mainGlobals "LentError"=some (some (.ref a.e_LentError))
 m_LentError:mg "LentError"=some (.ref a.e_LentError)
 le:LeF K a.e_LentError
 xc_NoPaper:Xc K "NoPaper" a.e_NoPaper a.e_LentError
 m_NoPaper:mg "NoPaper"=some (.ref a.e_NoPaper)
 fi_NoPaper:Fun K "__init__" "NoPaper.__init__" dZ a.j_NoPaper a.g_NoPaper
 bi_NoPaper:Binds K a.g_NoPaper ["self","at"] []
 ti_NoPaper:PySem.W.typeIn K (.ref a.j_NoPaper)=some (.type "function")
 nf_NoPaper:PySem.W.findIn K (.ref a.e_NoPaper) "at"=some none
 sa_NoPaper:PySem.W.findIn K (.ref a.e_NoPaper) "__setattr__"=some (some (.builtin "object.__setattr__"))
 xb_NoPaper:xcB K a.e_NoPaper (.ref a.e_LentError::vb) (some (.ref a.j_NoPaper))=true
 kc_NoPaper:PySem.W.keepIn K (.ref a.e_NoPaper)=true
 z_int:mg "int"=none
 z_len:mg "len"=none
 z_list:mg "list"=none
 z_max:mg "max"=none
 z_min:mg "min"=none
 z_range:mg "range"=none
 z_reversed:mg "reversed"=none
 z_sorted:mg "sorted"=none
 z_tuple:mg "tuple"=none
theorem uY:FnScope ["self","at"] ["self","at"] (defScope dZ):=⟨rfl,rfl,rfl,by decide +kernel,rfl,by decide +kernel,by decide +kernel⟩
theorem fO:FnScope ["n","k","high","low","past","now","times"] ["n","k"] (defScope eJ):=⟨rfl,rfl,rfl,by decide +kernel,rfl,by decide +kernel,by decide +kernel⟩
theorem qY:FnScope ["n","deeds"] ["n","deeds"] (defScope cG):=⟨rfl,rfl,rfl,by decide +kernel,rfl,by decide +kernel,by decide +kernel⟩
theorem tI:FnScope ["n","deed"] ["n","deed"] (defScope cU):=⟨rfl,rfl,rfl,by decide +kernel,rfl,by decide +kernel,by decide +kernel⟩
theorem mX:FnScope ["program","paper","S","B","C","by","n","deeds","expr","end"] ["program","paper","S","B","C","by"] (defScope gO):=⟨rfl,rfl,rfl,by decide +kernel,rfl,by decide +kernel,by decide +kernel⟩
theorem fE:FnScope ["n","deeds","at","paper","shelves","by","back","word","other","one"] ["n","deeds","at","paper","shelves","by","back"] (defScope gP):=⟨rfl,rfl,rfl,by decide +kernel,rfl,by decide +kernel,by decide +kernel⟩
theorem iD:FnScope ["n","deeds","at","shelves","by","back","ts","deed","number"] ["n","deeds","at","shelves","by","back"] (defScope cS):=⟨rfl,rfl,rfl,by decide +kernel,rfl,by decide +kernel,by decide +kernel⟩
theorem bM:FnScope ["n","deeds","at","paper","shelves","by","back","S","B","C","one","middle","other","end","undone"] ["n","deeds","at","paper","shelves","by","back"] (defScope cD):=⟨rfl,rfl,rfl,by decide +kernel,rfl,by decide +kernel,by decide +kernel⟩
theorem iZ:FnScope ["deeds","at","asked","deed"] ["deeds","at","asked"] (defScope cM):=⟨rfl,rfl,rfl,by decide +kernel,rfl,by decide +kernel,by decide +kernel⟩
theorem wJ:FnScope ["program","givens","contents","deed"] ["program","givens","contents"] (defScope lP):=⟨rfl,rfl,rfl,by decide +kernel,rfl,by decide +kernel,by decide +kernel⟩
theorem mG:FnScope ["n","deed","givens","contents","shelf","number","lies"] ["n","deed","givens","contents"] (defScope jA):=⟨rfl,rfl,rfl,by decide +kernel,rfl,by decide +kernel,by decide +kernel⟩
theorem gW:FnScope ["places","numbers","told","place"] ["places","numbers"] (defScope cN):=⟨rfl,rfl,rfl,by decide +kernel,rfl,by decide +kernel,by decide +kernel⟩
theorem kE:FnScope ["_law_script","_law_k","_law_cell","_law_seed"] ["_law_script","_law_k"] (defScope gX):=⟨rfl,rfl,rfl,by decide +kernel,rfl,by decide +kernel,by decide +kernel⟩
theorem nH:FnScope ["_law_box_here","_law_many","_law_digit","_law_one"] ["_law_box_here","_law_many"] (defScope fD):=⟨rfl,rfl,rfl,by decide +kernel,rfl,by decide +kernel,by decide +kernel⟩
theorem sR:FnScope ["_law_box_here","_law_form","_law_some","_law_number"] ["_law_box_here"] (defScope lM):=⟨rfl,rfl,rfl,by decide +kernel,rfl,by decide +kernel,by decide +kernel⟩
theorem rZ:FnScope ["_law_box_here","_law_n_here","_law_form"] ["_law_box_here","_law_n_here"] (defScope fH):=⟨rfl,rfl,rfl,by decide +kernel,rfl,by decide +kernel,by decide +kernel⟩
theorem xH:FnScope ["_law_box_here","_law_n_here","_law_many"] ["_law_box_here","_law_n_here","_law_many"] (defScope dU):=⟨rfl,rfl,rfl,by decide +kernel,rfl,by decide +kernel,by decide +kernel⟩
theorem iI:FnScope ["_law_box_here","_law_givens","_law_room","_law_deep","_law_form","_law_number","_law_one","_law_word","_law_first"] ["_law_box_here","_law_givens","_law_room","_law_deep"] (defScope fK):=⟨rfl,rfl,rfl,by decide +kernel,rfl,by decide +kernel,by decide +kernel⟩
theorem qL:FnScope ["_law_n_here","_law_expr_here","_law_given","_law_one","_law_other"] ["_law_n_here","_law_expr_here","_law_given"] (defScope eO):=⟨rfl,rfl,rfl,by decide +kernel,rfl,by decide +kernel,by decide +kernel⟩
theorem oV:FnScope ["_law_one","_law_other"] ["_law_one","_law_other"] (defScope dN):=⟨rfl,rfl,rfl,by decide +kernel,rfl,by decide +kernel,by decide +kernel⟩
theorem nS:FnScope ["_law_box_here","_law_n_here","_law_u"] ["_law_box_here","_law_n_here"] (defScope fC):=⟨rfl,rfl,rfl,by decide +kernel,rfl,by decide +kernel,by decide +kernel⟩
theorem fW:FnScope ["_law_box_here","_law_n_here","_law_givens","_law_shelves_here","_law_ks","_law_form","_law_many","_law_gs","_law_others","_law_ts"] ["_law_box_here","_law_n_here","_law_givens","_law_shelves_here"] (defScope dX):=⟨rfl,rfl,rfl,by decide +kernel,rfl,by decide +kernel,by decide +kernel⟩
theorem dJ:FnScope ["_law_n_here","_law_u","_law_one","_law_other","_law_before","_law_here","_law_many"] ["_law_n_here","_law_u"] (defScope cR):=⟨rfl,rfl,rfl,by decide +kernel,rfl,by decide +kernel,by decide +kernel⟩
theorem hZ:FnScope ["_law_n_here","_law_deeds","_law_found","_law_deed_here"] ["_law_n_here","_law_deeds"] (defScope bX):=⟨rfl,rfl,rfl,by decide +kernel,rfl,by decide +kernel,by decide +kernel⟩
theorem iX:FnScope ["_law_n_here","_law_expr_here","_law_ks","_law_kb","_law_kc","_law_word","_law_one","_law_other"] ["_law_n_here","_law_expr_here","_law_ks","_law_kb","_law_kc"] (defScope dM):=⟨rfl,rfl,rfl,by decide +kernel,rfl,by decide +kernel,by decide +kernel⟩
theorem fX:FnScope ["_law_n_here","_law_expr_here","_law_ks","_law_kb","_law_kc","_law_word","_law_one","_law_other"] ["_law_n_here","_law_expr_here","_law_ks","_law_kb","_law_kc"] (defScope cC):=⟨rfl,rfl,rfl,by decide +kernel,rfl,by decide +kernel,by decide +kernel⟩
theorem hW:FnScope ["_law_program","_law_given","_law_contents","_law_lying","_law_deed_here","_law_more","_law_i","_law_kt"] ["_law_program","_law_given","_law_contents"] (defScope gR):=⟨rfl,rfl,rfl,by decide +kernel,rfl,by decide +kernel,by decide +kernel⟩
theorem mJ:FnScope ["_law_box_here","_law_deeds","_law_most"] ["_law_box_here","_law_deeds"] (defScope cO):=⟨rfl,rfl,rfl,by decide +kernel,rfl,by decide +kernel,by decide +kernel⟩
theorem oQ:FnScope ["_law_box_here","_law_shelves_here","_law_left"] ["_law_box_here","_law_shelves_here"] (defScope cX):=⟨rfl,rfl,rfl,by decide +kernel,rfl,by decide +kernel,by decide +kernel⟩
theorem fR:FnScope ["_law_box_here","_law_givens","_law_expr_here","_law_turn","_law_side"] ["_law_box_here","_law_givens"] (defScope eP):=⟨rfl,rfl,rfl,by decide +kernel,rfl,by decide +kernel,by decide +kernel⟩
theorem wV:FnScope ["_law_expr_here"] ["_law_expr_here"] (defScope eK):=⟨rfl,rfl,rfl,by decide +kernel,rfl,by decide +kernel,by decide +kernel⟩
theorem dA:FnScope ["_law_box_here","_law_shelves_here","_law_deed_here","_law_form","_law_some","_law_one","_law_ts"] ["_law_box_here","_law_shelves_here","_law_deed_here","_law_form"] (defScope bG):=⟨rfl,rfl,rfl,by decide +kernel,rfl,by decide +kernel,by decide +kernel⟩
theorem bS:FnScope ["_law_box_here","_law_program","_law_n_here","_law_givens","_law_shelves_here","_law_deeds","_law_at","_law_form","_law_deed_here","_law_other","_law_number","_law_gs"] ["_law_box_here","_law_program"] (defScope dO):=⟨rfl,rfl,rfl,by decide +kernel,rfl,by decide +kernel,by decide +kernel⟩
theorem sF:FnScope ["_law_box_here","_law_paper_here","_law_deep","_law_form"] ["_law_box_here","_law_paper_here","_law_deep"] (defScope fJ):=⟨rfl,rfl,rfl,by decide +kernel,rfl,by decide +kernel,by decide +kernel⟩
theorem aCq:FnScope ["_law_by","_law_n_here","_law_expr_here","_law_places"] ["_law_by","_law_n_here","_law_expr_here","_law_places"] (defScope gQ):=⟨rfl,rfl,rfl,by decide +kernel,rfl,by decide +kernel,by decide +kernel⟩
theorem jP:FnScope ["_law_program","_law_paper_here","_law_places","_law_by","_law_found"] ["_law_program","_law_paper_here","_law_places","_law_by"] (defScope eM):=⟨rfl,rfl,rfl,by decide +kernel,rfl,by decide +kernel,by decide +kernel⟩
theorem dS:FnScope ["_law_box_here","_law_program","_law_found","_law_places","_law_by","_law_n_here","_law_givens","_law_shelves_here","_law_deeds","_law_turn","_law_given","_law_contents","_law_more","_law_ks","_law_due"] ["_law_box_here","_law_program","_law_found","_law_places","_law_by"] (defScope fF):=⟨rfl,rfl,rfl,by decide +kernel,rfl,by decide +kernel,by decide +kernel⟩
theorem oZ:FnScope ["_law_box_here","_law_n_here","_law_expr_here"] ["_law_box_here","_law_n_here","_law_expr_here"] (defScope bY):=⟨rfl,rfl,rfl,by decide +kernel,rfl,by decide +kernel,by decide +kernel⟩
theorem eS:FnScope ["_law_script","_law_k","_law_box_here","_law_n_here","_law_givens","_law_by","_law_places","_law_expr_here","_law_rows","_law_shelves_here","_law_some","_law_paper_here","_law_turn","_law_program","_law_own","_law_found"] ["_law_script"] (defScope jH):=⟨rfl,rfl,rfl,by decide +kernel,rfl,by decide +kernel,by decide +kernel⟩
section
variable {P:Program} {w:World} {K:PySem.W.Frag} {mg:Str->Option Value} {base:Heap} {a:Adr}
theorem eI (T:Tx K mg a):FnOk P w K mg base (CX1 P w) 1 a.j_NoPaper a.g_NoPaper ["self","at"] (spXI a.e_NoPaper "at"):=by
 obtain ⟨cd,hc,_,hm⟩:=T.xc_NoPaper.cd
 exact aEt T.fi_NoPaper uY fun cdv A outer s H E=>vQ (yY (aDc T.le T.m_LentError T.xb_NoPaper (fL (pv 0) (fL aCc iJ)))) (xV (aFf hc hm (aJz T.xc_NoPaper hc) T.sa_NoPaper T.nf_NoPaper (pv 0) (pv 1)))
theorem xJ (T:Tx K mg a):FnOk P w K mg base CX0 1 a.a_inverse a.d_inverse ["n","k"] (spF K Z0 2 oG) :=
 dD (k:=0) T.f_inverse fO fun cdv A outer s H E hr=>show Ess _ K Z0 (defBody eJ) b_inverse from
  (aG (fN (i:=2) (j:=3) rfl fO.nd (aC (aD 0) (aC (aJ opMod (aD 1) (aD 0)) aF)))
  (aG (dW (aN (aC aE (aC aE aF))) (fP rfl (bB (aQ (i:=4) fO.nd) (bB (aQ (i:=5) fO.nd) eE))))
  (aG (mO NW PassesOwn.never (aW opGt (aD 3) aE (nomark _))
  (aG (aT (i:=6) fO.nd (aJ opDiv (aD 2) (aD 3)))
  (aG (fN (i:=2) (j:=3) rfl fO.nd (aC (aD 3) (aC (aJ opSub (aD 2) (aJ opMulA (aD 6) (aD 3))) aF)))
  (aH (fN (i:=4) (j:=5) rfl fO.nd (aC (aD 5) (aC (aJ opSub (aD 4) (aJ opMulA (aD 6) (aD 5))) aF)))))))
  (aG (bL (aW (opNe (aV hr)) (aD 2) aE (nomark _))
  (aH (aS pZ))
  aX)
  (aH (aS (aJ opMod (aD 4) (aD 0))))))))
theorem uD (T:Tx K mg a):FnOk P w K mg base CX0 2 a.a_deed_back a.d_deed_back ["n","deed"] (spF K Z0 2 gZ) :=
 dD (k:=1) T.f_deed_back tI fun cdv A outer s H E hr=>show Ess _ K Z0 (defBody cU) b_deed_back from
  (aG (bL (aW (opEq (aV hr)) (aI (aD 1) aE) aZ (nomark _))
  (aH (aS (aN (aC aZ (aC (aI (aD 1) aE) (aC (aK ((xJ T).mono (by omega)) hr T.m_inverse T.k_inverse T.b_inverse (aC (aD 0) (aC (aI (aD 1) aE) aF)) (hlen:=fun _ _ h=>uW h)) aF))))))
  aX)
  (aH (aS (aN (aC aZ (aC (aI (aD 1) aE) (aC (aJ opMod (wP (aI (aD 1) aE)) (aD 0)) (aC (aI (aD 1) aE) (aC (aI (aD 1) aE) aF)))))))))
theorem lL (T:Tx K mg a):FnOk P w K mg base CX0 3 a.a_deeds_back a.d_deeds_back ["n","deeds"] (spF K Z0 2 eX) :=
 dD (k:=2) T.f_deeds_back qY fun cdv A outer s H E hr=>show Ess _ K Z0 (defBody cG) b_deeds_back from
  (aH (aS (cQ callTup rfl T.z_tuple fZ (aC (iV rfl (CompOk.of (N0:=["n","deeds"]) (sc0:=defScope cG) (Nc:=["deed","n"]) (js:=[none,some 0]) (by decide +kernel)) (aCm T.z_reversed (aD 1)) (fun _ _ _ _ _ _=>(aQ (i:=0) (show (["deed","n"]:List Str).Nodup by decide +kernel))) (fun _ _ _ _ _ _=>iC) (fun _ _ _ _ _ _=>(aK ((uD T).mono (by omega)) hr T.m_deed_back T.k_deed_back T.b_deed_back (aC (aD 1) (aC (aD 0) aF)) (hlen:=fun _ _ h=>rE h)))) aF))))
theorem tT (T:Tx K mg a):FnOk P w K mg base (CX1 P w) 3 a.a_along_one a.d_along_one ["n","deeds","at","shelves","by","back"] (spX K 6 dY) :=
 lR (k:=2) T.f_along_one.g iD fun cdv A outer s H E hr hz=>show Ess _ K (ZR K (wishR E)) (defBody cS) b_along_one from
  (aG (aT (i:=6) iD.nd (aGg (lT (aD 4)) (aN (aC (aI (aD 3) aE) aF)) (aN aF)))
  (aG (bL (aW (opEq (aV hr)) (aD 2) (bT callLen rfl T.z_len PySem.boot_len (aC (aD 1) aF)) (nomark _))
  (aH (kO hz T.xc_NoPaper T.xb_NoPaper T.le T.ti_NoPaper (eI T) T.nf_NoPaper (hr.mono (by omega)) T.bi_NoPaper T.m_NoPaper T.kc_NoPaper rfl (aD 2)))
  aX)
  (aG (aT (i:=7) iD.nd (aI (aD 1) (aD 2)))
  (aG (bL (pB (oR (aW (opNe (aV hr)) (aI (aD 7) aE) aZ (nomark _)) (oR (aW (opNe (aV hr)) (aI (aD 7) aE) (aI (aD 3) aE) (nomark _)) (nO (aW (opNe (aV hr)) (aI (aD 7) aE) (aD 6) (nomark _))))))
  (aH (kO hz T.xc_NoPaper T.xb_NoPaper T.le T.ti_NoPaper (eI T) T.nf_NoPaper (hr.mono (by omega)) T.bi_NoPaper T.m_NoPaper T.kc_NoPaper rfl (aD 2)))
  aX)
  (aG (aT (i:=8) iD.nd (aGg (lT (aD 5)) (aJ opMod (wP (aI (aD 7) aE)) (aD 0)) (aI (aD 7) aE)))
  (aG (bL (aW (opEq (aV hr)) (bT callLen rfl T.z_len PySem.boot_len (aC (aI (aD 7) aE) aF)) aE (nomark _))
  (aH (aS (aN (aC (aN (aC aZ (aC (aD 8) aF))) (aC (aJ opAdd (aD 2) aE) aF)))))
  aX)
  (aG (bL (pB (oR (aW opGt (bT callLen rfl T.z_len PySem.boot_len (aC (aI (aD 7) aE) aF)) aE (nomark _)) (nO (aW (opNe (aV hr)) (aD 8) aE (nomark _)))))
  (aH (kO hz T.xc_NoPaper T.xb_NoPaper T.le T.ti_NoPaper (eI T) T.nf_NoPaper (hr.mono (by omega)) T.bi_NoPaper T.m_NoPaper T.kc_NoPaper rfl (aD 2)))
  aX)
  (aH (aS (aN (aC (aN (aC aZ (aC (aI (aI (aD 7) aE) aE) aF))) (aC (aJ opAdd (aD 2) aE) aF))))))))))))
theorem rH (T:Tx K mg a):FnOk P w K mg base (CX1 P w) 3 a.a_just_these a.d_just_these ["deeds","at","asked"] (spX K 3 eB) :=
 lR (k:=2) T.f_just_these.g iZ fun cdv A outer s H E hr hz=>show Ess _ K (ZR K (wishR E)) (defBody cM) b_just_these from
  (aG (gG PassesOwn.leaving rfl (oW (aD 2)) (aQ (i:=3) iZ.nd)
  (aG (bL (aW (opNe (aV hr)) (bK (aD 0) (cP (aD 1)) (cP (aJ opAdd (aD 1) aE))) (aN (aC (aD 3) aF)) (nomark _))
  (aH (kO hz T.xc_NoPaper T.xb_NoPaper T.le T.ti_NoPaper (eI T) T.nf_NoPaper (hr.mono (by omega)) T.bi_NoPaper T.m_NoPaper T.kc_NoPaper rfl (aD 1)))
  aX)
  (aH (aFe (i:=1) iZ.nd aHx aE))))
  (aH (aS (aD 1))))
theorem mH (T:Tx K mg a):∀ d:Nat,FnOk P w K mg base (CX1 P w) (d+3) a.a_along a.d_along ["n","deeds","at","paper","shelves","by","back"] (spX K 7 (dC (d)))/\FnOk P w K mg base (CX1 P w) (d+3) a.a_along_times a.d_along_times ["n","deeds","at","paper","shelves","by","back"] (spX K 7 (cE (d)))
 | 0=>⟨yH rfl,yH rfl⟩
 | d+1=>by
  have ih:=mH T d
  obtain ⟨ih_along,ih_along_times⟩:=ih
  rw [show d+1+3=(d+3)+1 by omega]
  exact ⟨lR (k:=d+3) T.f_along.g fE fun cdv A outer s H E hr hz=>show Ess _ K (ZR K (wishR E)) (defBody gP) (b_along (dC d) (cE d)) from
  (aG (aT (i:=7) fE.nd (aI (aD 3) aE))
  (aG (bL (aW (opEq (aV hr)) (aD 7) aZ (nomark _))
  (aH (aS (dR hz ((tT T).mono (by omega)) hr T.m_along_one T.k_along_one T.b_along_one (aC (aD 0) (aC (aD 1) (aC (aD 2) (aC (aD 4) (aC (aD 5) (aC (aD 6) aF)))))) (hlen:=fun _ _ h=>rJ h))))
  aX)
  (aG (bL (aW (opEq (aV hr)) (aD 7) aZ (nomark _))
  (aH (aS (dR hz ih_along_times hr T.m_along_times T.k_along_times T.b_along_times (aC (aD 0) (aC (aD 1) (aC (aD 2) (aC (aD 3) (aC (aD 4) (aC (aD 5) (aC (aD 6) aF))))))) (hlen:=fun _ _ h=>oX h))))
  aX)
  (aG (bL (lT (aD 6))
  (aG (dW (dR hz ih_along hr T.m_along T.k_along T.b_along (aC (aD 0) (aC (aD 1) (aC (aD 2) (aC (aI (aD 3) aE) (aC (aD 4) (aC (aD 5) (aC (jQ (opEq (aV hr)) (aD 7) aZ (nomark _)) aF))))))) (hlen:=fun _ _ h=>eW h)) (fP rfl (bB (aQ (i:=8) fE.nd) (bB (aQ (i:=2) fE.nd) eE))))
  (aH (dW (dR hz ih_along hr T.m_along T.k_along T.b_along (aC (aD 0) (aC (aD 1) (aC (aD 2) (aC (aI (aD 3) aE) (aC (aD 4) (aC (aD 5) (aC iU aF))))))) (hlen:=fun _ _ h=>eW h)) (fP rfl (bB (aQ (i:=9) fE.nd) (bB (aQ (i:=2) fE.nd) eE))))))
  (aG (dW (dR hz ih_along hr T.m_along T.k_along T.b_along (aC (aD 0) (aC (aD 1) (aC (aD 2) (aC (aI (aD 3) aE) (aC (aD 4) (aC (aD 5) (aC iU aF))))))) (hlen:=fun _ _ h=>eW h)) (fP rfl (bB (aQ (i:=9) fE.nd) (bB (aQ (i:=2) fE.nd) eE))))
  (aH (dW (dR hz ih_along hr T.m_along T.k_along T.b_along (aC (aD 0) (aC (aD 1) (aC (aD 2) (aC (aI (aD 3) aE) (aC (aD 4) (aC (aD 5) (aC (jQ (opEq (aV hr)) (aD 7) aZ (nomark _)) aF))))))) (hlen:=fun _ _ h=>eW h)) (fP rfl (bB (aQ (i:=8) fE.nd) (bB (aQ (i:=2) fE.nd) eE)))))))
  (aH (aS (aN (aC (aN (aC (aD 7) (aC (aD 9) (aC (aD 8) aF)))) (aC (aD 2) aF))))))))),
   lR (k:=d+3) T.f_along_times.g bM fun cdv A outer s H E hr hz=>show Ess _ K (ZR K (wishR E)) (defBody cD) (b_along_times (dC d) (cE d)) from
  (aG (dW (aD 4) (fP rfl (bB (aQ (i:=7) bM.nd) (bB (aQ (i:=8) bM.nd) (bB (aQ (i:=9) bM.nd) eE)))))
  (aG (bL (lT (aD 6))
  (aG (dW (dR hz ih_along hr T.m_along T.k_along T.b_along (aC (aD 0) (aC (aD 1) (aC (aD 2) (aC (aI (aD 3) aE) (aC (aN (aC (aD 7) (aC (aD 9) (aC (aD 8) aF)))) (aC iU (aC iU aF))))))) (hlen:=fun _ _ h=>eW h)) (fP rfl (bB (aQ (i:=10) bM.nd) (bB (aQ (i:=11) bM.nd) eE))))
  (aH (dW (dR hz ih_along hr T.m_along T.k_along T.b_along (aC (aD 0) (aC (aD 1) (aC (aD 11) (aC (aI (aD 3) aE) (aC (aN (aC (aD 9) (aC (aD 8) (aC (aD 7) aF)))) (aC (aD 5) (aC iU aF))))))) (hlen:=fun _ _ h=>eW h)) (fP rfl (bB (aQ (i:=12) bM.nd) (bB (aQ (i:=13) bM.nd) eE))))))
  (aG (dW (dR hz ih_along hr T.m_along T.k_along T.b_along (aC (aD 0) (aC (aD 1) (aC (aD 2) (aC (aI (aD 3) aE) (aC (aN (aC (aD 9) (aC (aD 8) (aC (aD 7) aF)))) (aC (aD 5) (aC iU aF))))))) (hlen:=fun _ _ h=>eW h)) (fP rfl (bB (aQ (i:=12) bM.nd) (bB (aQ (i:=11) bM.nd) eE))))
  (aH (dW (dR hz ih_along hr T.m_along T.k_along T.b_along (aC (aD 0) (aC (aD 1) (aC (aD 11) (aC (aI (aD 3) aE) (aC (aN (aC (aD 7) (aC (aD 9) (aC (aD 8) aF)))) (aC iU (aC iU aF))))))) (hlen:=fun _ _ h=>eW h)) (fP rfl (bB (aQ (i:=10) bM.nd) (bB (aQ (i:=13) bM.nd) eE)))))))
  (aG (aT (i:=14) bM.nd (aJ opAdd (cH ((lL T).mono (by omega)) hr T.m_deeds_back T.k_deeds_back T.b_deeds_back (aC (aD 0) (aC (bK (aD 1) (cP (aD 2)) (cP (aD 11))) aF)) (hlen:=fun _ _ h=>kD h)) (cH ((lL T).mono (by omega)) hr T.m_deeds_back T.k_deeds_back T.b_deeds_back (aC (aD 0) (aC (bK (aD 1) (cP (aD 11)) (cP (aD 13))) aF)) (hlen:=fun _ _ h=>kD h))))
  (aH (aS (aN (aC (aN (aC aZ (aC (aD 10) (aC (aD 12) aF)))) (aC (dR hz ((rH T).mono (by omega)) hr T.m_just_these T.k_just_these T.b_just_these (aC (aD 1) (aC (aD 13) (aC (aD 14) aF))) (hlen:=fun _ _ h=>pV h)) aF))))))))⟩
theorem aDl (d:Nat) (T:Tx K mg a):FnOk P w K mg base (CX1 P w) (d+3) a.a_along a.d_along ["n","deeds","at","paper","shelves","by","back"] (spX K 7 (dC d)):=(mH T d).1
theorem aBl (T:Tx K mg a):FnOk P w K mg base (CX1 P w) 54 a.a_shown a.d_shown ["program","paper","S","B","C","by"] (spX K 6 lF) :=
 lR (k:=53) T.f_shown.g mX fun cdv A outer s H E hr hz=>show Ess _ K (ZR K (wishR E)) (defBody gO) b_shown from
  (aG (fN (i:=6) (j:=7) rfl mX.nd (aC (aI (aD 0) aE) (aC (aI (aD 0) aE) aF)))
  (aG (dW (dR hz ((aDl 50 T).mono (by omega)) hr T.m_along T.k_along T.b_along (aC (aD 6) (aC (aD 7) (aC aE (aC (aD 1) (aC (aN (aC (aD 2) (aC (aD 3) (aC (aD 4) aF)))) (aC (aD 5) (aC iU aF))))))) (hlen:=fun _ _ h=>eW h)) (fP rfl (bB (aQ (i:=8) mX.nd) (bB (aQ (i:=9) mX.nd) eE))))
  (aG (bL (aW opLt (aD 9) (bT callLen rfl T.z_len PySem.boot_len (aC (aD 7) aF)) (nomark _))
  (aH (kO hz T.xc_NoPaper T.xb_NoPaper T.le T.ti_NoPaper (eI T) T.nf_NoPaper (hr.mono (by omega)) T.bi_NoPaper T.m_NoPaper T.kc_NoPaper rfl (aD 9)))
  aX)
  (aH (aS (aD 8))))))
theorem lK (T:Tx K mg a):FnOk P w K mg base CX0 1 a.a_product_of a.d_product_of ["places","numbers"] (spF K Z0 2 eY) :=
 dD (k:=0) T.f_product_of gW fun cdv A outer s H E hr=>show Ess _ K Z0 (defBody cN) b_product_of from
  (aG (aT (i:=2) gW.nd aE)
  (aG (gG PassesOwn.never rfl (oW (aD 0)) (aQ (i:=3) gW.nd)
  (aH (aT (i:=2) gW.nd (aJ opMulA (aD 2) (aI (aD 1) (aD 3))))))
  (aH (aS (aD 2)))))
theorem aFd (T:Tx K mg a):FnOk P w K mg base CX0 2 a.a_done a.d_done ["n","deed","givens","contents"] (spF K Z0 4 nK) :=
 dD (k:=1) T.f_done mG fun cdv A outer s H E hr=>show Ess _ K Z0 (defBody jA) b_done from
  (aG (fN (i:=4) (j:=5) rfl mG.nd (aC (aI (aD 1) aE) (aC (aI (aD 1) aE) aF)))
  (aG (aT (i:=6) mG.nd (aI (aD 3) (aD 4)))
  (aG (bL (aW (opEq (aV hr)) (aI (aD 1) aE) aZ (nomark _))
  (aH (aT (i:=6) mG.nd (aJ opMulA (aD 6) (aD 5))))
  (aH (aT (i:=6) mG.nd (aJ opAdd (aD 6) (aJ opMulA (aJ opMulA (aD 5) (aK ((lK T).mono (by omega)) hr T.m_product_of T.k_product_of T.b_product_of (aC (aI (aD 1) aE) (aC (aD 2) aF)) (hlen:=fun _ _ h=>kP h))) (aK ((lK T).mono (by omega)) hr T.m_product_of T.k_product_of T.b_product_of (aC (aI (aD 1) aE) (aC (aD 3) aF)) (hlen:=fun _ _ h=>kP h)))))))
  (aH (aS (aJ opAdd (aJ opAdd (bK (aD 3) eG (cP (aD 4))) (aN (aC (aJ opMod (aD 6) (aD 0)) aF))) (bK (aD 3) (cP (aJ opAdd (aD 4) aE)) eG)))))))
theorem aJf (T:Tx K mg a):FnOk P w K mg base CX0 3 a.a_run a.d_run ["program","givens","contents"] (spF K Z0 3 vB) :=
 dD (k:=2) T.f_run wJ fun cdv A outer s H E hr=>show Ess _ K Z0 (defBody lP) b_run from
  (aG (gG PassesOwn.never rfl (oW (aI (aD 0) aE)) (aQ (i:=3) wJ.nd)
  (aH (aT (i:=2) wJ.nd (aK ((aFd T).mono (by omega)) hr T.m_done T.k_done T.b_done (aC (aI (aD 0) aE) (aC (aD 3) (aC (aD 1) (aC (aD 2) aF)))) (hlen:=fun _ _ h=>aBh h)))))
  (aH (aS (aD 2))))
theorem aAz (T:Tx K mg a):FnOk P w K mg base CX0 1 a.a_l_box a.d_l_box ["_law_script","_law_k"] (spF K Z0 2 pJ) :=
 aJo (k:=0) T.f_l_box kE fun cdv A outer s H E hr=>show Ess _ K Z0 (defBody gX) b_l_box from
  (aG (aT (i:=2) kE.nd (aJ opAdd (aJ opMulA aE (aD 1)) aE))
  (aG (bL (aW opLt (aD 1) (bT callLen rfl T.z_len PySem.boot_len (aC (aD 0) aF)) (nomark _))
  (aH (aT (i:=2) kE.nd (aI (aD 0) (aD 1))))
  (aH (bL (aW opGt (bT callLen rfl T.z_len PySem.boot_len (aC (aD 0) aF)) aE (nomark _))
  (aH (aT (i:=2) kE.nd (aJ opAdd (aD 2) (aJ opMulA (aJ opMod (aI (aD 0) (aJ opMod (aD 1) (bT callLen rfl T.z_len PySem.boot_len (aC (aD 0) aF)))) aE) aE))))
  aX)))
  (aG (aT (i:=3) kE.nd (aJ opAdd (aJ opMod (aJ opAdd (aJ opMulA (aJ opMod (aD 2) aE) aE) (aJ opMulA aE (aD 1))) aE) aE))
  (aH (aS (yC (aC (aI (fQ (aC aE (aC (aD 2) aF))) (cQ callInt rfl T.z_int nT (aC (jQ opGe (aD 2) (aJ opPow aE aE) (nomark _)) aF))) (aC (aD 3) (aC aE aF)))))))))
theorem aP (T:Tx K mg a):FnOk P w K mg base CX0 1 a.a_l_take a.d_l_take ["_law_box_here","_law_many"] (spF K Z0 2 aU) :=
 dD (k:=0) T.f_l_take nH fun cdv A outer s H E hr=>show Ess _ K Z0 (defBody fD) b_l_take from
  (aG (bL (aW opGt (aI (aD 0) aE) aE (nomark _))
  (aG (aT (i:=2) nH.nd (aJ opMod (aI (aD 0) aE) (aD 1)))
  (aG (dW (aJ opDiv (aI (aD 0) aE) (aD 1)) (qU (aD 0) aE))
  (aH (aS (aD 2)))))
  aX)
  (aG (dW (aJ opAdd (aI (aD 0) aE) aE) (qU (aD 0) aE))
  (aG (aT (i:=3) nH.nd (aJ opMod (aJ opMulA (aJ opAdd (aI (aD 0) aE) (aJ opMulA aE (aI (aD 0) aE))) aE) aE))
  (aG (dW (aJ opAdd (aJ opMod (aJ opAdd (aJ opMulA (aD 3) aE) aE) aE) aE) (qU (aD 0) aE))
  (aH (aS (aJ opMod (aJ opDiv (aJ opAdd (aJ opMulA (aD 3) aE) (aI (aD 0) aE)) aE) (aD 1))))))))
theorem aIi (T:Tx K mg a):FnOk P w K mg base CX0 2 a.a_l_n a.d_l_n ["_law_box_here"] (spF K Z0 1 vF) :=
 dD (k:=1) T.f_l_n sR fun cdv A outer s H E hr=>show Ess _ K Z0 (defBody lM) b_l_n from
  (aG (aT (i:=1) sR.nd (aK ((aP T).mono (by omega)) hr T.m_l_take T.k_l_take T.b_l_take (aC (aD 0) (aC aE aF)) (hlen:=fun _ _ h=>aM h)))
  (aG (aT (i:=2) sR.nd (aFl (ns:=[2,3,4,5,6,7,8,9,12,16,30,36,49,64,91,97,210,1009,65536,999983,999999,1000000]) (by repeat constructor)))
  (aG (aT (i:=3) sR.nd (aI (aD 2) (aK ((aP T).mono (by omega)) hr T.m_l_take T.k_l_take T.b_l_take (aC (aD 0) (aC aE aF)) (hlen:=fun _ _ h=>aM h))))
  (aG (bL (aW (opEq (aV hr)) (aD 1) aE (nomark _))
  (aH (aS (aJ opAdd aE (aK ((aP T).mono (by omega)) hr T.m_l_take T.k_l_take T.b_l_take (aC (aD 0) (aC aE aF)) (hlen:=fun _ _ h=>aM h)))))
  aX)
  (aG (bL (aW opLt (aD 1) aE (nomark _))
  (aH (aS (aJ opAdd aE (aK ((aP T).mono (by omega)) hr T.m_l_take T.k_l_take T.b_l_take (aC (aD 0) (aC aE aF)) (hlen:=fun _ _ h=>aM h)))))
  aX)
  (aH (aS (aD 3))))))))
theorem nU (T:Tx K mg a):FnOk P w K mg base CX0 2 a.a_l_rest a.d_l_rest ["_law_box_here","_law_n_here"] (spF K Z0 2 iP) :=
 dD (k:=1) T.f_l_rest rZ fun cdv A outer s H E hr=>show Ess _ K Z0 (defBody fH) b_l_rest from
  (aG (aT (i:=2) rZ.nd (aK ((aP T).mono (by omega)) hr T.m_l_take T.k_l_take T.b_l_take (aC (aD 0) (aC aE aF)) (hlen:=fun _ _ h=>aM h)))
  (aG (bL (aW (opEq (aV hr)) (aD 2) aE (nomark _))
  (aH (aS (aI (fQ (aC aE (aC (aJ opMod aE (aD 1)) (aC (aJ opSub (aD 1) aE) (aC (aJ opMod (aJ opSub (aD 1) aE) (aD 1)) aF))))) (aK ((aP T).mono (by omega)) hr T.m_l_take T.k_l_take T.b_l_take (aC (aD 0) (aC aE aF)) (hlen:=fun _ _ h=>aM h)))))
  aX)
  (aH (aS (aK ((aP T).mono (by omega)) hr T.m_l_take T.k_l_take T.b_l_take (aC (aD 0) (aC (aD 1) aF)) (hlen:=fun _ _ h=>aM h))))))
theorem qT (T:Tx K mg a):FnOk P w K mg base CX0 3 a.a_l_rests a.d_l_rests ["_law_box_here","_law_n_here","_law_many"] (spF K Z0 3 iG) :=
 dD (k:=2) T.f_l_rests xH fun cdv A outer s H E hr=>show Ess _ K Z0 (defBody dU) b_l_rests from
  (aH (aS (cQ callTup rfl T.z_tuple fZ (aC (iV rfl (CompOk.of (N0:=["_law_box_here","_law_n_here","_law_many"]) (sc0:=defScope dU) (Nc:=["_law_k","_law_box_here","_law_n_here"]) (js:=[none,some 0,some 1]) (by decide +kernel)) (dF T.z_range (aD 2)) (fun _ _ _ _ _ _=>(aQ (i:=0) (show (["_law_k","_law_box_here","_law_n_here"]:List Str).Nodup by decide +kernel))) (fun _ _ _ _ _ _=>iC) (fun _ _ _ _ _ _=>(aK ((nU T).mono (by omega)) hr T.m_l_rest T.k_l_rest T.b_l_rest (aC (aD 1) (aC (aD 2) aF)) (hlen:=fun _ _ h=>lW h)))) aF))))
theorem lN (T:Tx K mg a):∀ d:Nat,FnOk P w K mg base CX0 (d+1) a.a_l_expr a.d_l_expr ["_law_box_here","_law_givens","_law_room","_law_deep"] (spF K Z0 4 (eF (d)))
 | 0=>lS rfl
 | d+1=>by
  have ih:=lN T d
  have ih_l_expr:=ih
  rw [show d+1+1=(d+1)+1 by omega]
  exact dD (k:=d+1) T.f_l_expr iI fun cdv A outer s H E hr=>show Ess _ K Z0 (defBody fK) (b_l_expr (eF d)) from
  (aG (aT (i:=4) iI.nd (aK ((aP T).mono (by omega)) hr T.m_l_take T.k_l_take T.b_l_take (aC (aD 0) (aC aE aF)) (hlen:=fun _ _ h=>aM h)))
  (aG (bL (pB (oR (aW opLt (aD 2) aE (nomark _)) (oR (aW (opEq (aV hr)) (aD 3) aE (nomark _)) (nO (aW (opEq (aV hr)) (aD 4) aE (nomark _))))))
  (aG (aT (i:=5) iI.nd (aI (fQ (aC (aK ((aP T).mono (by omega)) hr T.m_l_take T.k_l_take T.b_l_take (aC (aD 0) (aC aE aF)) (hlen:=fun _ _ h=>aM h)) (aC (aK ((aP T).mono (by omega)) hr T.m_l_take T.k_l_take T.b_l_take (aC (aD 0) (aC aE aF)) (hlen:=fun _ _ h=>aM h)) aF))) (cQ callInt rfl T.z_int nT (aC (jQ (opEq (aV hr)) (aK ((aP T).mono (by omega)) hr T.m_l_take T.k_l_take T.b_l_take (aC (aD 0) (aC aE aF)) (hlen:=fun _ _ h=>aM h)) aE (nomark _)) aF))))
  (aG (bL (pB (mB (aW opGt (aD 1) aE (nomark _)) (kQ (aW opGt (aK ((aP T).mono (by omega)) hr T.m_l_take T.k_l_take T.b_l_take (aC (aD 0) (aC aE aF)) (hlen:=fun _ _ h=>aM h)) aE (nomark _)))))
  (aH (aS (aN (aC aZ (aC (aK ((aP T).mono (by omega)) hr T.m_l_take T.k_l_take T.b_l_take (aC (aD 0) (aC (aD 1) aF)) (hlen:=fun _ _ h=>aM h)) aF)))))
  aX)
  (aH (aS (aN (aC aZ (aC (aD 5) aF)))))))
  aX)
  (aG (aT (i:=6) iI.nd (aJ opAdd aE (aK ((aP T).mono (by omega)) hr T.m_l_take T.k_l_take T.b_l_take (aC (aD 0) (aC (aJ opSub (aD 2) aE) aF)) (hlen:=fun _ _ h=>aM h))))
  (aG (aT (i:=7) iI.nd (aI (fQ (aC aZ (aC aZ (aC aZ (aC aZ aF))))) (aK ((aP T).mono (by omega)) hr T.m_l_take T.k_l_take T.b_l_take (aC (aD 0) (aC aE aF)) (hlen:=fun _ _ h=>aM h))))
  (aG (aT (i:=8) iI.nd (aK ih_l_expr hr T.m_l_expr T.k_l_expr T.b_l_expr (aC (aD 0) (aC (aD 1) (aC (aD 6) (aC (aJ opSub (aD 3) aE) aF)))) (hlen:=fun _ _ h=>iQ h)))
  (aH (aS (aN (aC (aD 7) (aC (aD 8) (aC (aK ih_l_expr hr T.m_l_expr T.k_l_expr T.b_l_expr (aC (aD 0) (aC (aD 1) (aC (aJ opSub (aJ opSub (aD 2) aE) (aD 6)) (aC (aJ opSub (aD 3) aE) aF)))) (hlen:=fun _ _ h=>iQ h)) aF)))))))))))
theorem nI (d:Nat) (T:Tx K mg a):FnOk P w K mg base CX0 (d+1) a.a_l_expr a.d_l_expr ["_law_box_here","_law_givens","_law_room","_law_deep"] (spF K Z0 4 (eF d)):=(lN T d)
theorem kF (T:Tx K mg a):∀ d:Nat,FnOk P w K mg base CX0 (d+0) a.a_l_worth a.d_l_worth ["_law_n_here","_law_expr_here","_law_given"] (spF K Z0 3 (dE (d)))
 | 0=>lS rfl
 | d+1=>by
  have ih:=kF T d
  have ih_l_worth:=ih
  rw [show d+1+0=(d+0)+1 by omega]
  exact dD (k:=d+0) T.f_l_worth qL fun cdv A outer s H E hr=>show Ess _ K Z0 (defBody eO) (b_l_worth (dE d)) from
  (aG (bL (aW (opEq (aV hr)) (aI (aD 1) aE) aZ (nomark _))
  (aH (aS (aJ opMod (aI (aD 1) aE) (aD 0))))
  aX)
  (aG (bL (aW (opEq (aV hr)) (aI (aD 1) aE) aZ (nomark _))
  (aH (aS (aI (aD 2) (aI (aD 1) aE))))
  aX)
  (aG (fN (i:=3) (j:=4) rfl qL.nd (aC (aK ih_l_worth hr T.m_l_worth T.k_l_worth T.b_l_worth (aC (aD 0) (aC (aI (aD 1) aE) (aC (aD 2) aF))) (hlen:=fun _ _ h=>kL h)) (aC (aK ih_l_worth hr T.m_l_worth T.k_l_worth T.b_l_worth (aC (aD 0) (aC (aI (aD 1) aE) (aC (aD 2) aF))) (hlen:=fun _ _ h=>kL h)) aF)))
  (aG (bL (aW (opEq (aV hr)) (aI (aD 1) aE) aZ (nomark _))
  (aH (aS (aJ opMod (aJ opAdd (aD 3) (aD 4)) (aD 0))))
  aX)
  (aG (bL (aW (opEq (aV hr)) (aI (aD 1) aE) aZ (nomark _))
  (aH (aS (aJ opMod (aJ opSub (aD 3) (aD 4)) (aD 0))))
  aX)
  (aH (aS (aJ opMod (aJ opMulA (aD 3) (aD 4)) (aD 0)))))))))
theorem vX (d:Nat) (T:Tx K mg a):FnOk P w K mg base CX0 (d+0) a.a_l_worth a.d_l_worth ["_law_n_here","_law_expr_here","_law_given"] (spF K Z0 3 (dE d)):=(kF T d)
theorem vR (T:Tx K mg a):FnOk P w K mg base CX0 1 a.a_l_shared a.d_l_shared ["_law_one","_law_other"] (spF K Z0 2 iK) :=
 dD (k:=0) T.f_l_shared oV fun cdv A outer s H E hr=>show Ess _ K Z0 (defBody dN) b_l_shared from
  (aG (mO NW PassesOwn.never (aW opGt (aD 1) aE (nomark _))
  (aH (fN (i:=0) (j:=1) rfl oV.nd (aC (aD 1) (aC (aJ opMod (aD 0) (aD 1)) aF)))))
  (aH (aS (aD 0))))
theorem aAm (T:Tx K mg a):FnOk P w K mg base CX0 2 a.a_l_unit a.d_l_unit ["_law_box_here","_law_n_here"] (spF K Z0 2 kK) :=
 dD (k:=1) T.f_l_unit nS fun cdv A outer s H E hr=>show Ess _ K Z0 (defBody fC) b_l_unit from
  (aG (aT (i:=2) nS.nd (aK ((aP T).mono (by omega)) hr T.m_l_take T.k_l_take T.b_l_take (aC (aD 0) (aC (aD 1) aF)) (hlen:=fun _ _ h=>aM h)))
  (aG (mO NW PassesOwn.never (aW (opNe (aV hr)) (aK ((vR T).mono (by omega)) hr T.m_l_shared T.k_l_shared T.b_l_shared (aC (aD 2) (aC (aD 1) aF)) (hlen:=fun _ _ h=>sQ h)) aE (nomark _))
  (aH (aT (i:=2) nS.nd (aJ opMod (aJ opAdd (aD 2) aE) (aD 1)))))
  (aH (aS (aD 2)))))
theorem rS (T:Tx K mg a):FnOk P w K mg base CX0 3 a.a_l_deed a.d_l_deed ["_law_box_here","_law_n_here","_law_givens","_law_shelves_here"] (spF K Z0 4 jF) :=
 dD (k:=2) T.f_l_deed fW fun cdv A outer s H E hr=>show Ess _ K Z0 (defBody dX) b_l_deed from
  (aG (aT (i:=4) fW.nd (aK ((aP T).mono (by omega)) hr T.m_l_take T.k_l_take T.b_l_take (aC (aD 0) (aC (aD 3) aF)) (hlen:=fun _ _ h=>aM h)))
  (aG (aT (i:=5) fW.nd (aK ((aP T).mono (by omega)) hr T.m_l_take T.k_l_take T.b_l_take (aC (aD 0) (aC aE aF)) (hlen:=fun _ _ h=>aM h)))
  (aG (bL (aW (opEq (aV hr)) (aD 5) aE (nomark _))
  (aH (aS (aN (aC aZ (aC (aD 4) (aC (aK ((aAm T).mono (by omega)) hr T.m_l_unit T.k_l_unit T.b_l_unit (aC (aD 0) (aC (aD 1) aF)) (hlen:=fun _ _ h=>wI h)) aF))))))
  aX)
  (aG (aT (i:=6) fW.nd (aJ opMulA (aK ((aP T).mono (by omega)) hr T.m_l_take T.k_l_take T.b_l_take (aC (aD 0) (aC (aI (fQ (aC aE (aC aE (aC aE aF)))) (aK ((aP T).mono (by omega)) hr T.m_l_take T.k_l_take T.b_l_take (aC (aD 0) (aC aE aF)) (hlen:=fun _ _ h=>aM h))) aF)) (hlen:=fun _ _ h=>aM h)) (cQ callInt rfl T.z_int nT (aC (jQ opGt (aD 2) aE (nomark _)) aF))))
  (aG (aT (i:=7) fW.nd (bT (callSorted rfl) rfl T.z_sorted lD (aC (iV rfl (CompOk.of (N0:=["_law_box_here","_law_n_here","_law_givens","_law_shelves_here","_law_ks","_law_form","_law_many","_law_gs","_law_others","_law_ts"]) (sc0:=defScope dX) (Nc:=["_law_k","_law_box_here","_law_givens"]) (js:=[none,some 0,some 2]) (by decide +kernel)) (dF T.z_range (aD 6)) (fun _ _ _ _ _ _=>(aQ (i:=0) (show (["_law_k","_law_box_here","_law_givens"]:List Str).Nodup by decide +kernel))) (fun _ _ _ _ _ _=>iC) (fun _ _ _ _ _ _=>(aK ((aP T).mono (by omega)) hr T.m_l_take T.k_l_take T.b_l_take (aC (aD 1) (aC (aD 2) aF)) (hlen:=fun _ _ h=>aM h)))) aF)))
  (aG (aT (i:=8) fW.nd (iV rfl (CompOk.of (N0:=["_law_box_here","_law_n_here","_law_givens","_law_shelves_here","_law_ks","_law_form","_law_many","_law_gs","_law_others","_law_ts"]) (sc0:=defScope dX) (Nc:=["_law_kt","_law_ks"]) (js:=[none,some 4]) (by decide +kernel)) (dF T.z_range (aD 3)) (fun _ _ _ _ _ _=>(aQ (i:=0) (show (["_law_kt","_law_ks"]:List Str).Nodup by decide +kernel))) (fun _ _ _ _ _ _=>(uH (aW (opNe (aV hr)) (aD 0) (aD 1) (nomark _)))) (fun _ _ _ _ _ _=>(aD 0))))
  (aG (aT (i:=9) fW.nd (fQ aF))
  (aG (bL (aW (opNe (aV hr)) (aD 8) (fQ aF) (nomark _))
  (aH (aT (i:=9) fW.nd (bT (callSorted rfl) rfl T.z_sorted lD (aC (iV rfl (CompOk.of (N0:=["_law_box_here","_law_n_here","_law_givens","_law_shelves_here","_law_ks","_law_form","_law_many","_law_gs","_law_others","_law_ts"]) (sc0:=defScope dX) (Nc:=["_law_k","_law_others","_law_box_here"]) (js:=[none,some 8,some 0]) (by decide +kernel)) (dF T.z_range (aK ((aP T).mono (by omega)) hr T.m_l_take T.k_l_take T.b_l_take (aC (aD 0) (aC (aI (fQ (aC aE (aC aE (aC aE aF)))) (aK ((aP T).mono (by omega)) hr T.m_l_take T.k_l_take T.b_l_take (aC (aD 0) (aC aE aF)) (hlen:=fun _ _ h=>aM h))) aF)) (hlen:=fun _ _ h=>aM h))) (fun _ _ _ _ _ _=>(aQ (i:=0) (show (["_law_k","_law_others","_law_box_here"]:List Str).Nodup by decide +kernel))) (fun _ _ _ _ _ _=>iC) (fun _ _ _ _ _ _=>(aI (aD 1) (aK ((aP T).mono (by omega)) hr T.m_l_take T.k_l_take T.b_l_take (aC (aD 2) (aC (bT callLen rfl T.z_len PySem.boot_len (aC (aD 1) aF)) aF)) (hlen:=fun _ _ h=>aM h))))) aF))))
  aX)
  (aH (aS (aN (aC aZ (aC (aD 4) (aC (aK ((nU T).mono (by omega)) hr T.m_l_rest T.k_l_rest T.b_l_rest (aC (aD 0) (aC (aD 1) aF)) (hlen:=fun _ _ h=>lW h)) (aC (cQ callTup rfl T.z_tuple fZ (aC (aD 7) aF)) (aC (cQ callTup rfl T.z_tuple fZ (aC (aD 9) aF)) aF))))))))))))))))
theorem uB (T:Tx K mg a):FnOk P w K mg base CX0 1 a.a_l_inverse a.d_l_inverse ["_law_n_here","_law_u"] (spF K Z0 2 kG) :=
 dD (k:=0) T.f_l_inverse dJ fun cdv A outer s H E hr=>show Ess _ K Z0 (defBody cR) b_l_inverse from
  (aG (dW (aN (aC (aD 0) (aC (aJ opMod (aD 1) (aD 0)) (aC aE (aC aE aF))))) (fP rfl (bB (aQ (i:=2) dJ.nd) (bB (aQ (i:=3) dJ.nd) (bB (aQ (i:=4) dJ.nd) (bB (aQ (i:=5) dJ.nd) eE))))))
  (aG (mO NW PassesOwn.never (aW opGt (aD 3) aE (nomark _))
  (aG (aT (i:=6) dJ.nd (aJ opDiv (aD 2) (aD 3)))
  (aG (fN (i:=2) (j:=3) rfl dJ.nd (aC (aD 3) (aC (aJ opSub (aD 2) (aJ opMulA (aD 6) (aD 3))) aF)))
  (aH (fN (i:=4) (j:=5) rfl dJ.nd (aC (aD 5) (aC (aJ opSub (aD 4) (aJ opMulA (aD 6) (aD 5))) aF)))))))
  (aH (aS (aJ opMod (aD 4) (aD 0))))))
theorem dG (T:Tx K mg a):FnOk P w K mg base CX0 2 a.a_l_deeds_back a.d_l_deeds_back ["_law_n_here","_law_deeds"] (spF K Z0 2 bZ) :=
 dD (k:=1) T.f_l_deeds_back hZ fun cdv A outer s H E hr=>show Ess _ K Z0 (defBody bX) b_l_deeds_back from
  (aG (aT (i:=2) hZ.nd (yC aF))
  (aG (gG PassesOwn.never rfl (aCm T.z_reversed (aD 1)) (aQ (i:=3) hZ.nd)
  (aH (bL (aW (opEq (aV hr)) (aI (aD 3) aE) aZ (nomark _))
  (aH (uA (oF (aD 2) (aN (aC aZ (aC (aI (aD 3) aE) (aC (aK ((uB T).mono (by omega)) hr T.m_l_inverse T.k_l_inverse T.b_l_inverse (aC (aD 0) (aC (aI (aD 3) aE) aF)) (hlen:=fun _ _ h=>rD h)) aF)))))))
  (aH (uA (oF (aD 2) (aJ opAdd (aJ opAdd (bK (aD 3) eG (cP aE)) (aN (aC (aJ opMod (aJ opSub aE (aI (aD 3) aE)) (aD 0)) aF))) (bK (aD 3) (cP aE) eG))))))))
  (aH (aS (cQ callTup rfl T.z_tuple fZ (aC (aD 2) aF))))))
theorem jX (T:Tx K mg a):∀ d:Nat,FnOk P w K mg base CX0 (d+2) a.a_l_row_by a.d_l_row_by ["_law_n_here","_law_expr_here","_law_ks","_law_kb","_law_kc"] (spF K Z0 5 (cL (d)))
 | 0=>lS rfl
 | d+1=>by
  have ih:=jX T d
  have ih_l_row_by:=ih
  rw [show d+1+2=(d+2)+1 by omega]
  exact dD (k:=d+2) T.f_l_row_by iX fun cdv A outer s H E hr=>show Ess _ K Z0 (defBody dM) (b_l_row_by (cL d)) from
  (aG (aT (i:=5) iX.nd (aI (aD 1) aE))
  (aG (bL (aW (opEq (aV hr)) (aD 5) aZ (nomark _))
  (aH (aS (aN (aC (aN (aC aZ (aC (aD 2) (aC (aJ opMod (aI (aD 1) aE) (aD 0)) (aC (aN aF) (aC (aN (aC (aD 3) aF)) aF)))))) aF))))
  aX)
  (aG (bL (aW (opEq (aV hr)) (aD 5) aZ (nomark _))
  (aH (aS (aN (aC (aN (aC aZ (aC (aD 2) (aC aE (aC (aN (aC (aI (aD 1) aE) aF)) (aC (aN (aC (aD 3) aF)) aF)))))) aF))))
  aX)
  (aG (bL (aW (opNe (aV hr)) (aD 5) aZ (nomark _))
  (aG (fN (i:=6) (j:=7) rfl iX.nd (aC (aK ih_l_row_by hr T.m_l_row_by T.k_l_row_by T.b_l_row_by (aC (aD 0) (aC (aI (aD 1) aE) (aC (aD 2) (aC (aD 3) (aC (aD 4) aF))))) (hlen:=fun _ _ h=>fA h)) (aC (aK ih_l_row_by hr T.m_l_row_by T.k_l_row_by T.b_l_row_by (aC (aD 0) (aC (aI (aD 1) aE) (aC (aD 2) (aC (aD 3) (aC (aD 4) aF))))) (hlen:=fun _ _ h=>fA h)) aF)))
  (aH (aS (aJ opAdd (aD 6) (aI (fQ (aC (aK ((dG T).mono (by omega)) hr T.m_l_deeds_back T.k_l_deeds_back T.b_l_deeds_back (aC (aD 0) (aC (aD 7) aF)) (hlen:=fun _ _ h=>cV h)) (aC (aD 7) aF))) (cQ callInt rfl T.z_int nT (aC (jQ (opEq (aV hr)) (aD 5) aZ (nomark _)) aF)))))))
  aX)
  (aG (fN (i:=6) (j:=7) rfl iX.nd (aC (aK ih_l_row_by hr T.m_l_row_by T.k_l_row_by T.b_l_row_by (aC (aD 0) (aC (aI (aD 1) aE) (aC (aD 4) (aC (aD 3) (aC (aD 2) aF))))) (hlen:=fun _ _ h=>fA h)) (aC (aK ih_l_row_by hr T.m_l_row_by T.k_l_row_by T.b_l_row_by (aC (aD 0) (aC (aI (aD 1) aE) (aC (aD 2) (aC (aD 4) (aC (aD 3) aF))))) (hlen:=fun _ _ h=>fA h)) aF)))
  (aH (aS (aJ opAdd (aJ opAdd (aJ opAdd (aD 6) (aD 7)) (aK ((dG T).mono (by omega)) hr T.m_l_deeds_back T.k_l_deeds_back T.b_l_deeds_back (aC (aD 0) (aC (aD 6) aF)) (hlen:=fun _ _ h=>cV h))) (aK ((dG T).mono (by omega)) hr T.m_l_deeds_back T.k_l_deeds_back T.b_l_deeds_back (aC (aD 0) (aC (aD 7) aF)) (hlen:=fun _ _ h=>cV h))))))))))
theorem oK (d:Nat) (T:Tx K mg a):FnOk P w K mg base CX0 (d+2) a.a_l_row_by a.d_l_row_by ["_law_n_here","_law_expr_here","_law_ks","_law_kb","_law_kc"] (spF K Z0 5 (cL d)):=(jX T d)
theorem iO (T:Tx K mg a):∀ d:Nat,FnOk P w K mg base CX0 (d+52) a.a_l_row_alone a.d_l_row_alone ["_law_n_here","_law_expr_here","_law_ks","_law_kb","_law_kc"] (spF K Z0 5 (bV (d)))
 | 0=>lS rfl
 | d+1=>by
  have ih:=iO T d
  have ih_l_row_alone:=ih
  rw [show d+1+52=(d+52)+1 by omega]
  exact dD (k:=d+52) T.f_l_row_alone fX fun cdv A outer s H E hr=>show Ess _ K Z0 (defBody cC) (b_l_row_alone (bV d)) from
  (aG (aT (i:=5) fX.nd (aI (aD 1) aE))
  (aG (bL (aW (opEq (aV hr)) (aD 5) aZ (nomark _))
  (aH (aS (aN (aC (aN (aC aZ (aC (aD 2) (aC (aJ opMod (aI (aD 1) aE) (aD 0)) (aC (aN aF) (aC (aN aF) aF)))))) aF))))
  aX)
  (aG (bL (aW (opEq (aV hr)) (aD 5) aZ (nomark _))
  (aH (aS (aN (aC (aN (aC aZ (aC (aD 2) (aC aE (aC (aN (aC (aI (aD 1) aE) aF)) (aC (aN aF) aF)))))) aF))))
  aX)
  (aG (bL (aW (opNe (aV hr)) (aD 5) aZ (nomark _))
  (aG (fN (i:=6) (j:=7) rfl fX.nd (aC (aK ih_l_row_alone hr T.m_l_row_alone T.k_l_row_alone T.b_l_row_alone (aC (aD 0) (aC (aI (aD 1) aE) (aC (aD 2) (aC (aD 3) (aC (aD 4) aF))))) (hlen:=fun _ _ h=>fM h)) (aC (aK ih_l_row_alone hr T.m_l_row_alone T.k_l_row_alone T.b_l_row_alone (aC (aD 0) (aC (aI (aD 1) aE) (aC (aD 2) (aC (aD 3) (aC (aD 4) aF))))) (hlen:=fun _ _ h=>fM h)) aF)))
  (aH (aS (aJ opAdd (aD 6) (aI (fQ (aC (aK ((dG T).mono (by omega)) hr T.m_l_deeds_back T.k_l_deeds_back T.b_l_deeds_back (aC (aD 0) (aC (aD 7) aF)) (hlen:=fun _ _ h=>cV h)) (aC (aD 7) aF))) (cQ callInt rfl T.z_int nT (aC (jQ (opEq (aV hr)) (aD 5) aZ (nomark _)) aF)))))))
  aX)
  (aG (fN (i:=6) (j:=7) rfl fX.nd (aC (aK ih_l_row_alone hr T.m_l_row_alone T.k_l_row_alone T.b_l_row_alone (aC (aD 0) (aC (aI (aD 1) aE) (aC (aD 4) (aC (aD 3) (aC (aD 2) aF))))) (hlen:=fun _ _ h=>fM h)) (aC (aK ((oK 50 T).mono (by omega)) hr T.m_l_row_by T.k_l_row_by T.b_l_row_by (aC (aD 0) (aC (aI (aD 1) aE) (aC (aD 2) (aC (aD 4) (aC (aD 3) aF))))) (hlen:=fun _ _ h=>fA h)) aF)))
  (aH (aS (aJ opAdd (aJ opAdd (aJ opAdd (aD 6) (aD 7)) (aK ((dG T).mono (by omega)) hr T.m_l_deeds_back T.k_l_deeds_back T.b_l_deeds_back (aC (aD 0) (aC (aD 6) aF)) (hlen:=fun _ _ h=>cV h))) (aK ((dG T).mono (by omega)) hr T.m_l_deeds_back T.k_l_deeds_back T.b_l_deeds_back (aC (aD 0) (aC (aD 7) aF)) (hlen:=fun _ _ h=>cV h))))))))))
theorem qC (d:Nat) (T:Tx K mg a):FnOk P w K mg base CX0 (d+52) a.a_l_row_alone a.d_l_row_alone ["_law_n_here","_law_expr_here","_law_ks","_law_kb","_law_kc"] (spF K Z0 5 (bV d)):=(iO T d)
theorem aBu (T:Tx K mg a):FnOk P w K mg base CX0 1 a.a_l_run a.d_l_run ["_law_program","_law_given","_law_contents"] (spF K Z0 3 mV) :=
 dD (k:=0) T.f_l_run hW fun cdv A outer s H E hr=>show Ess _ K Z0 (defBody gR) b_l_run from
  (aG (aT (i:=3) hW.nd (cQ callListR rfl T.z_list aEi (aC (aD 2) aF)))
  (aG (gG PassesOwn.never rfl (oW (aI (aD 0) aE)) (aQ (i:=4) hW.nd)
  (aH (bL (aW (opEq (aV hr)) (aI (aD 4) aE) aZ (nomark _))
  (aH (dW (aJ opMod (aJ opMulA (aI (aD 3) (aI (aD 4) aE)) (aI (aD 4) aE)) (aI (aD 0) aE)) (qU (aD 3) (aI (aD 4) aE))))
  (aG (aT (i:=5) hW.nd (aI (aD 4) aE))
  (aG (gG PassesOwn.never rfl (oW (aI (aD 4) aE)) (aQ (i:=6) hW.nd)
  (aH (aT (i:=5) hW.nd (aJ opMod (aJ opMulA (aD 5) (aI (aD 1) (aD 6))) (aI (aD 0) aE)))))
  (aG (gG PassesOwn.never rfl (oW (aI (aD 4) aE)) (aQ (i:=7) hW.nd)
  (aH (aT (i:=5) hW.nd (aJ opMod (aJ opMulA (aD 5) (aI (aD 3) (aD 7))) (aI (aD 0) aE)))))
  (aH (dW (aJ opMod (aJ opAdd (aI (aD 3) (aI (aD 4) aE)) (aD 5)) (aI (aD 0) aE)) (qU (aD 3) (aI (aD 4) aE))))))))))
  (aH (aS (cQ callTup rfl T.z_tuple fZ (aC (aD 3) aF))))))
theorem tK (T:Tx K mg a):FnOk P w K mg base CX0 2 a.a_l_shelves a.d_l_shelves ["_law_box_here","_law_deeds"] (spF K Z0 2 gY) :=
 dD (k:=1) T.f_l_shelves mJ fun cdv A outer s H E hr=>show Ess _ K Z0 (defBody cO) b_l_shelves from
  (aG (aT (i:=2) mJ.nd (bT (callMaxL rfl) rfl T.z_max xE (aC (iV rfl (CompOk.of (N0:=["_law_box_here","_law_deeds","_law_most"]) (sc0:=defScope cO) (Nc:=["_law_deed_here"]) (js:=[none]) (by decide +kernel)) (oW (aD 1)) (fun _ _ _ _ _ _=>(aQ (i:=0) (show (["_law_deed_here"]:List Str).Nodup by decide +kernel))) (fun _ _ _ _ _ _=>iC) (fun _ _ _ _ _ _=>(bT (callMaxL rfl) rfl T.z_max xE (aC (aJ opAdd (aN (aC (aI (aD 0) aE) aF)) (aI (aD 0) aE)) aF)))) aF)))
  (aH (aS (bT (callMin2 rfl) rfl T.z_min aDf (aC aE (aC (aJ opAdd (aJ opAdd aE (aD 2)) (aK ((aP T).mono (by omega)) hr T.m_l_take T.k_l_take T.b_l_take (aC (aD 0) (aC aE aF)) (hlen:=fun _ _ h=>aM h))) aF))))))
theorem uT (T:Tx K mg a):FnOk P w K mg base CX0 2 a.a_l_triple a.d_l_triple ["_law_box_here","_law_shelves_here"] (spF K Z0 2 iM) :=
 dD (k:=1) T.f_l_triple oQ fun cdv A outer s H E hr=>show Ess _ K Z0 (defBody cX) b_l_triple from
  (aG (aT (i:=2) oQ.nd (pS rfl T.z_list T.z_range (aD 1)))
  (aH (aS (cQ callTup rfl T.z_tuple fZ (aC (iV rfl (CompOk.of (N0:=["_law_box_here","_law_shelves_here","_law_left"]) (sc0:=defScope cX) (Nc:=["_law_k","_law_left","_law_box_here"]) (js:=[none,some 2,some 0]) (by decide +kernel)) (dF T.z_range aE) (fun _ _ _ _ _ _=>(aQ (i:=0) (show (["_law_k","_law_left","_law_box_here"]:List Str).Nodup by decide +kernel))) (fun _ _ _ _ _ _=>iC) (fun _ _ _ _ _ _=>(aDi (aD 1) (aK ((aP T).mono (by omega)) hr T.m_l_take T.k_l_take T.b_l_take (aC (aD 2) (aC (bT callLen rfl T.z_len PySem.boot_len (aC (aD 1) aF)) aF)) (hlen:=fun _ _ h=>aM h))))) aF)))))
theorem wG (T:Tx K mg a):FnOk P w K mg base CX0 52 a.a_l_great a.d_l_great ["_law_box_here","_law_givens"] (spF K Z0 2 jJ) :=
 dD (k:=51) T.f_l_great fR fun cdv A outer s H E hr=>show Ess _ K Z0 (defBody eP) b_l_great from
  (aG (aT (i:=2) fR.nd (aK ((nI 50 T).mono (by omega)) hr T.m_l_expr T.k_l_expr T.b_l_expr (aC (aD 0) (aC (aD 1) (aC aE (aC aE aF)))) (hlen:=fun _ _ h=>iQ h)))
  (aG (gG PassesOwn.never rfl (dF T.z_range (aJ opAdd aE (aK ((aP T).mono (by omega)) hr T.m_l_take T.k_l_take T.b_l_take (aC (aD 0) (aC aE aF)) (hlen:=fun _ _ h=>aM h)))) (aQ (i:=3) fR.nd)
  (aH (aT (i:=2) fR.nd (aN (aC aZ (aC (aD 2) (aC (aD 2) aF)))))))
  (aG (gG PassesOwn.never rfl (dF T.z_range (aJ opAdd aE (aK ((aP T).mono (by omega)) hr T.m_l_take T.k_l_take T.b_l_take (aC (aD 0) (aC aE aF)) (hlen:=fun _ _ h=>aM h)))) (aQ (i:=3) fR.nd)
  (aG (aT (i:=4) fR.nd (aK ((nI 50 T).mono (by omega)) hr T.m_l_expr T.k_l_expr T.b_l_expr (aC (aD 0) (aC (aD 1) (aC aE (aC aE aF)))) (hlen:=fun _ _ h=>iQ h)))
  (aH (aT (i:=2) fR.nd (aJ opAdd (aN (aC aZ aF)) (aI (fQ (aC (aN (aC (aD 2) (aC (aD 4) aF))) (aC (aN (aC (aD 4) (aC (aD 2) aF))) aF))) (aK ((aP T).mono (by omega)) hr T.m_l_take T.k_l_take T.b_l_take (aC (aD 0) (aC aE aF)) (hlen:=fun _ _ h=>aM h))))))))
  (aH (aS (aD 2))))))
theorem jZ (T:Tx K mg a):∀ d:Nat,FnOk P w K mg base CX0 (d+0) a.a_l_paper a.d_l_paper ["_law_expr_here"] (spF K Z0 1 (dH (d)))
 | 0=>lS rfl
 | d+1=>by
  have ih:=jZ T d
  have ih_l_paper:=ih
  rw [show d+1+0=(d+0)+1 by omega]
  exact dD (k:=d+0) T.f_l_paper wV fun cdv A outer s H E hr=>show Ess _ K Z0 (defBody eK) (b_l_paper (dH d)) from
  (aG (bL (aW opIn (aI (aD 0) aE) (aN (aC aZ (aC aZ aF))) (by with_unfolding_all rfl))
  (aH (aS (aN (aC aZ aF))))
  aX)
  (aH (aS (aN (aC (aI (aD 0) aE) (aC (aK ih_l_paper hr T.m_l_paper T.k_l_paper T.b_l_paper (aC (aI (aD 0) aE) aF) (hlen:=fun _ _ h=>kN h)) (aC (aK ih_l_paper hr T.m_l_paper T.k_l_paper T.b_l_paper (aC (aI (aD 0) aE) aF) (hlen:=fun _ _ h=>kN h)) aF)))))))
theorem vY (d:Nat) (T:Tx K mg a):FnOk P w K mg base CX0 (d+0) a.a_l_paper a.d_l_paper ["_law_expr_here"] (spF K Z0 1 (dH d)):=(jZ T d)
theorem mC (T:Tx K mg a):FnOk P w K mg base CX0 2 a.a_l_other_shelves a.d_l_other_shelves ["_law_box_here","_law_shelves_here","_law_deed_here","_law_form"] (spF K Z0 4 dL) :=
 dD (k:=1) T.f_l_other_shelves dA fun cdv A outer s H E hr=>show Ess _ K Z0 (defBody bG) b_l_other_shelves from
  (aG (bL (pB (oR (aW (opEq (aV hr)) (aD 3) aE (nomark _)) (nO (aW (opEq (aV hr)) (aD 1) aE (nomark _)))))
  (aG (sL (i:=4) dA.nd rfl (CompOk.of (N0:=["_law_box_here","_law_shelves_here","_law_deed_here","_law_form","_law_some","_law_one","_law_ts"]) (sc0:=defScope bG) (Nc:=["_law_ks","_law_deed_here"]) (js:=[none,some 2]) (by decide +kernel)) (dF T.z_range (aD 1)) (fun _ _ _ _ _ _=>(aQ (i:=0) (show (["_law_ks","_law_deed_here"]:List Str).Nodup by decide +kernel))) (fun _ _ _ _ _ _=>(uH (aW opNotIn (aD 0) (aI (aD 1) aE) (by with_unfolding_all rfl)))) (fun _ _ _ _ _ _=>(aD 0)))
  (aH (aS (aJ opAdd (aJ opAdd (bK (aD 2) eG (cP aE)) (aN (aC (aI (aD 4) (aK ((aP T).mono (by omega)) hr T.m_l_take T.k_l_take T.b_l_take (aC (aD 0) (aC (bT callLen rfl T.z_len PySem.boot_len (aC (aD 4) aF)) aF)) (hlen:=fun _ _ h=>aM h))) aF))) (bK (aD 2) (cP aE) eG)))))
  aX)
  (aG (sL (i:=4) dA.nd rfl (CompOk.of (N0:=["_law_box_here","_law_shelves_here","_law_deed_here","_law_form","_law_some","_law_one","_law_ts"]) (sc0:=defScope bG) (Nc:=["_law_kt","_law_deed_here"]) (js:=[none,some 2]) (by decide +kernel)) (dF T.z_range (aD 1)) (fun _ _ _ _ _ _=>(aQ (i:=0) (show (["_law_kt","_law_deed_here"]:List Str).Nodup by decide +kernel))) (fun _ _ _ _ _ _=>(uH (aW (opNe (aV hr)) (aD 0) (aI (aD 1) aE) (nomark _)))) (fun _ _ _ _ _ _=>(aD 0)))
  (aG (fN (i:=5) (j:=6) rfl dA.nd (aC (aI (aD 4) (aK ((aP T).mono (by omega)) hr T.m_l_take T.k_l_take T.b_l_take (aC (aD 0) (aC (bT callLen rfl T.z_len PySem.boot_len (aC (aD 4) aF)) aF)) (hlen:=fun _ _ h=>aM h))) (aC (aI (aD 2) aE) aF)))
  (aG (aT (i:=6) dA.nd (aI (fQ (aC (aJ opAdd (aD 6) (aN (aC (aD 5) aF))) (aC (bK (aD 6) eG (cP (wP aE))) (aC (aN (aC (aD 5) aF)) (aC (aJ opAdd (aD 6) (aD 6)) aF))))) (aK ((aP T).mono (by omega)) hr T.m_l_take T.k_l_take T.b_l_take (aC (aD 0) (aC aE aF)) (hlen:=fun _ _ h=>aM h))))
  (aH (aS (aJ opAdd (bK (aD 2) eG (cP aE)) (aN (aC (bK (cQ callTup rfl T.z_tuple fZ (aC (bT (callSortT rfl) rfl T.z_sorted lD (aC (aD 6) aF)) aF)) eG (cP aE)) aF)))))))))
theorem uK (T:Tx K mg a):FnOk P w K mg base CX0 4 a.a_l_spoilt a.d_l_spoilt ["_law_box_here","_law_program"] (spF K Z0 2 iS) :=
 dD (k:=3) T.f_l_spoilt bS fun cdv A outer s H E hr=>show Ess _ K Z0 (defBody dO) b_l_spoilt from
  (aG (dW (aD 1) (fP rfl (bB (aQ (i:=2) bS.nd) (bB (aQ (i:=3) bS.nd) (bB (aQ (i:=4) bS.nd) (bB (aQ (i:=5) bS.nd) eE))))))
  (aG (bL (aW (opEq (aV hr)) (aD 5) (aN aF) (nomark _))
  (aH (aS (aN (aC (aD 2) (aC (aD 3) (aC (aD 4) (aC (aN (aC (aK ((rS T).mono (by omega)) hr T.m_l_deed T.k_l_deed T.b_l_deed (aC (aD 0) (aC (aD 2) (aC (aD 3) (aC (aD 4) aF)))) (hlen:=fun _ _ h=>qO h)) aF)) aF)))))))
  aX)
  (aG (aT (i:=6) bS.nd (aK ((aP T).mono (by omega)) hr T.m_l_take T.k_l_take T.b_l_take (aC (aD 0) (aC (bT callLen rfl T.z_len PySem.boot_len (aC (aD 5) aF)) aF)) (hlen:=fun _ _ h=>aM h)))
  (aG (aT (i:=7) bS.nd (aK ((aP T).mono (by omega)) hr T.m_l_take T.k_l_take T.b_l_take (aC (aD 0) (aC aE aF)) (hlen:=fun _ _ h=>aM h)))
  (aG (aT (i:=8) bS.nd (aI (aD 5) (aD 6)))
  (aG (aT (i:=9) bS.nd (aK ((rS T).mono (by omega)) hr T.m_l_deed T.k_l_deed T.b_l_deed (aC (aD 0) (aC (aD 2) (aC (aD 3) (aC (aD 4) aF)))) (hlen:=fun _ _ h=>qO h)))
  (aG (bL (pB (mB (aW opGt (aD 7) aE (nomark _)) (kQ (aW (opEq (aV hr)) (aI (aD 8) aE) aZ (nomark _)))))
  (aH (aT (i:=9) bS.nd (aK ((mC T).mono (by omega)) hr T.m_l_other_shelves T.k_l_other_shelves T.b_l_other_shelves (aC (aD 0) (aC (aD 4) (aC (aD 8) (aC (aD 7) aF)))) (hlen:=fun _ _ h=>lI h))))
  aX)
  (aG (bL (pB (mB (aW opLt (aD 7) aE (nomark _)) (kQ (aW (opEq (aV hr)) (aI (aD 8) aE) aZ (nomark _)))))
  (aG (aT (i:=10) bS.nd (aJ opMod (aJ opAdd (aJ opAdd (aI (aD 8) aE) aE) (aK ((aP T).mono (by omega)) hr T.m_l_take T.k_l_take T.b_l_take (aC (aD 0) (aC (aJ opSub (aD 2) aE) aF)) (hlen:=fun _ _ h=>aM h))) (aD 2)))
  (aH (aT (i:=9) bS.nd (aJ opAdd (aJ opAdd (bK (aD 8) eG (cP aE)) (aN (aC (aD 10) aF))) (bK (aD 8) (cP aE) eG)))))
  aX)
  (aG (bL (pB (mB (aW (opEq (aV hr)) (aD 7) aE (nomark _)) (mB (aW (opEq (aV hr)) (aI (aD 8) aE) aZ (nomark _)) (kQ (aW opGt (aD 3) aE (nomark _))))))
  (aG (aT (i:=11) bS.nd (bK (cQ callTup rfl T.z_tuple fZ (aC (bT (callSortT rfl) rfl T.z_sorted lD (aC (aJ opAdd (aI (aD 8) aE) (aN (aC (aK ((aP T).mono (by omega)) hr T.m_l_take T.k_l_take T.b_l_take (aC (aD 0) (aC (aD 3) aF)) (hlen:=fun _ _ h=>aM h)) aF))) aF)) aF)) eG (cP aE)))
  (aH (aT (i:=9) bS.nd (aJ opAdd (aJ opAdd (bK (aD 8) eG (cP aE)) (aN (aC (aD 11) aF))) (bK (aD 8) (cP aE) eG)))))
  aX)
  (aG (bL (aW opIn (aD 7) (aN (aC aE (aC aE aF))) (by with_unfolding_all rfl))
  (aH (aS (aN (aC (aD 2) (aC (aD 3) (aC (aD 4) (aC (aJ opAdd (bK (aD 5) eG (cP (aJ opSub (aJ opAdd (aD 6) (aD 7)) aE))) (bK (aD 5) (cP (aJ opSub (aJ opAdd (aD 6) aE) (aD 7))) eG)) aF)))))))
  aX)
  (aG (bL (aW (opEq (aV hr)) (aD 7) aE (nomark _))
  (aH (aS (aN (aC (aD 2) (aC (aD 3) (aC (aD 4) (aC (aJ opAdd (aJ opAdd (bK (aD 5) eG (cP (aD 6))) (zO rfl T.z_tuple T.z_reversed (bK (aD 5) (cP (aD 6)) (cP (aJ opAdd (aD 6) aE))))) (bK (aD 5) (cP (aJ opAdd (aD 6) aE)) eG)) aF)))))))
  aX)
  (aG (bL (aW (opEq (aV hr)) (aD 7) aE (nomark _))
  (aG (aT (i:=6) bS.nd (aK ((aP T).mono (by omega)) hr T.m_l_take T.k_l_take T.b_l_take (aC (aD 0) (aC (aJ opAdd (bT callLen rfl T.z_len PySem.boot_len (aC (aD 5) aF)) aE) aF)) (hlen:=fun _ _ h=>aM h)))
  (aH (aS (aN (aC (aD 2) (aC (aD 3) (aC (aD 4) (aC (aJ opAdd (aJ opAdd (bK (aD 5) eG (cP (aD 6))) (aN (aC (aD 9) aF))) (bK (aD 5) (cP (aD 6)) eG)) aF))))))))
  aX)
  (aH (aS (aN (aC (aD 2) (aC (aD 3) (aC (aD 4) (aC (aJ opAdd (aJ opAdd (bK (aD 5) eG (cP (aD 6))) (aN (aC (aD 9) aF))) (bK (aD 5) (cP (aJ opAdd (aD 6) aE)) eG)) aF)))))))))))))))))))
theorem lJ (T:Tx K mg a):∀ d:Nat,FnOk P w K mg base CX0 (d+1) a.a_l_bent a.d_l_bent ["_law_box_here","_law_paper_here","_law_deep"] (spF K Z0 3 (fG (d)))
 | 0=>lS rfl
 | d+1=>by
  have ih:=lJ T d
  have ih_l_bent:=ih
  rw [show d+1+1=(d+1)+1 by omega]
  exact dD (k:=d+1) T.f_l_bent sF fun cdv A outer s H E hr=>show Ess _ K Z0 (defBody fJ) (b_l_bent (fG d)) from
  (aG (bL (aW (opEq (aV hr)) (aD 1) (aN (aC aZ aF)) (nomark _))
  (aH (aS (aN (aC (aI (fQ (aC aZ (aC aZ (aC aZ aF)))) (aK ((aP T).mono (by omega)) hr T.m_l_take T.k_l_take T.b_l_take (aC (aD 0) (aC aE aF)) (hlen:=fun _ _ h=>aM h))) (aC (aD 1) (aC (aD 1) aF))))))
  aX)
  (aG (aT (i:=3) sF.nd (aK ((aP T).mono (by omega)) hr T.m_l_take T.k_l_take T.b_l_take (aC (aD 0) (aC aE aF)) (hlen:=fun _ _ h=>aM h)))
  (aG (bL (pB (oR (aW (opEq (aV hr)) (aD 3) aE (nomark _)) (nO (aW (opEq (aV hr)) (aD 2) aE (nomark _)))))
  (aH (aS (aN (aC aZ aF))))
  aX)
  (aG (bL (aW (opEq (aV hr)) (aD 3) aE (nomark _))
  (aH (aS (aJ opAdd (aN (aC (aI (fQ (aC aZ (aC aZ (aC aZ aF)))) (aK ((aP T).mono (by omega)) hr T.m_l_take T.k_l_take T.b_l_take (aC (aD 0) (aC aE aF)) (hlen:=fun _ _ h=>aM h))) aF)) (bK (aD 1) (cP aE) eG))))
  aX)
  (aG (bL (aW (opEq (aV hr)) (aD 3) aE (nomark _))
  (aH (aS (aN (aC (aI (aD 1) aE) (aC (aI (aD 1) aE) (aC (aI (aD 1) aE) aF))))))
  aX)
  (aG (bL (aW opLt (aD 3) aE (nomark _))
  (aH (aS (aN (aC (aI (aD 1) aE) (aC (aK ih_l_bent hr T.m_l_bent T.k_l_bent T.b_l_bent (aC (aD 0) (aC (aI (aD 1) aE) (aC (aJ opSub (aD 2) aE) aF))) (hlen:=fun _ _ h=>mE h)) (aC (aI (aD 1) aE) aF))))))
  aX)
  (aH (aS (aN (aC (aI (aD 1) aE) (aC (aI (aD 1) aE) (aC (aK ih_l_bent hr T.m_l_bent T.k_l_bent T.b_l_bent (aC (aD 0) (aC (aI (aD 1) aE) (aC (aJ opSub (aD 2) aE) aF))) (hlen:=fun _ _ h=>mE h)) aF))))))))))))
theorem zI (d:Nat) (T:Tx K mg a):FnOk P w K mg base CX0 (d+1) a.a_l_bent a.d_l_bent ["_law_box_here","_law_paper_here","_law_deep"] (spF K Z0 3 (fG d)):=(lJ T d)
theorem aBj (T:Tx K mg a):FnOk P w K mg base CX0 103 a.a_l_row a.d_l_row ["_law_by","_law_n_here","_law_expr_here","_law_places"] (spF K Z0 4 mK) :=
 dD (k:=102) T.f_l_row aCq fun cdv A outer s H E hr=>show Ess _ K Z0 (defBody gQ) b_l_row from
  (aG (bL (lT (aD 0))
  (aH (aS (aK ((oK 50 T).mono (by omega)) hr T.m_l_row_by T.k_l_row_by T.b_l_row_by (aC (aD 1) (aC (aD 2) (aC (aI (aD 3) aE) (aC (aI (aD 3) aE) (aC (aI (aD 3) aE) aF))))) (hlen:=fun _ _ h=>fA h))))
  aX)
  (aH (aS (aK ((qC 50 T).mono (by omega)) hr T.m_l_row_alone T.k_l_row_alone T.b_l_row_alone (aC (aD 1) (aC (aD 2) (aC (aI (aD 3) aE) (aC (aI (aD 3) aE) (aC (aI (aD 3) aE) aF))))) (hlen:=fun _ _ h=>fM h)))))
theorem pX (T:Tx K mg a):FnOk P w K mg base (CX1 P w) 55 a.a_l_heard a.d_l_heard ["_law_program","_law_paper_here","_law_places","_law_by"] (spX K 4 fS) :=
 lR (k:=54) T.f_l_heard.g jP fun cdv A outer s H E hr hz=>show Ess _ K (ZR K (wishR E)) (defBody eM) b_l_heard from
  (aG (aT (i:=4) jP.nd pZ)
  (aG (aHn (aEa T.xc_NoPaper) T.m_NoPaper
  (aIk (i:=4) jP.nd (aGa ((aBl T).mono (by omega)) hr T.m_shown T.k_shown T.b_shown (aC (aD 0) (aC (aD 1) (aC (aI (aD 2) aE) (aC (aI (aD 2) aE) (aC (aI (aD 2) aE) (aC (aD 3) aF)))))) (hlen:=fun _ _ h=>zM h)))
  (fun _=>(aH (aT (i:=4) jP.nd pZ))))
  (aH (aS (aD 4)))))
theorem zA (T:Tx K mg a):FnOk P w K mg base CX0 51 a.a_l_true a.d_l_true ["_law_box_here","_law_program","_law_found","_law_places","_law_by"] (spF K Z0 5 kH) :=
 dD (k:=50) T.f_l_true dS fun cdv A outer s H E hr=>show Ess _ K Z0 (defBody fF) b_l_true from
  (aG (dW (aD 1) (fP rfl (bB (aQ (i:=5) dS.nd) (bB (aQ (i:=6) dS.nd) (bB (aQ (i:=7) dS.nd) (bB (aQ (i:=8) dS.nd) eE))))))
  (aG (gG PassesOwn.never rfl (dF T.z_range aE) (aQ (i:=9) dS.nd)
  (aG (fN (i:=10) (j:=11) rfl dS.nd (aC (aK ((qT T).mono (by omega)) hr T.m_l_rests T.k_l_rests T.b_l_rests (aC (aD 0) (aC (aD 5) (aC (aD 6) aF))) (hlen:=fun _ _ h=>oN h)) (aC (aK ((qT T).mono (by omega)) hr T.m_l_rests T.k_l_rests T.b_l_rests (aC (aD 0) (aC (aD 5) (aC (aD 7) aF))) (hlen:=fun _ _ h=>oN h)) aF)))
  (aG (aT (i:=12) dS.nd (aK ((vX 50 T).mono (by omega)) hr T.m_l_worth T.k_l_worth T.b_l_worth (aC (aD 5) (aC (aD 2) (aC (aD 10) aF))) (hlen:=fun _ _ h=>kL h)))
  (aG (bL (lT (aD 4))
  (aH (aT (i:=12) dS.nd (aJ opMulA (aD 12) (aI (aD 11) (aI (aD 3) aE)))))
  aX)
  (aG (aT (i:=13) dS.nd (aI (aD 3) aE))
  (aG (aT (i:=14) dS.nd (aJ opAdd (aJ opAdd (bK (aD 11) eG (cP (aD 13))) (aN (aC (aJ opMod (aJ opAdd (aI (aD 11) (aD 13)) (aD 12)) (aD 5)) aF))) (bK (aD 11) (cP (aJ opAdd (aD 13) aE)) eG)))
  (aH (bL (pB (oR (aW (opNe (aV hr)) (aK ((aBu T).mono (by omega)) hr T.m_l_run T.k_l_run T.b_l_run (aC (aD 1) (aC (aD 10) (aC (aD 11) aF))) (hlen:=fun _ _ h=>zE h)) (aD 14) (nomark _)) (nO (aW (opNe (aV hr)) (aK ((aJf T).mono (by omega)) hr T.m_run T.k_run T.b_run (aC (aD 1) (aC (aD 10) (aC (aD 11) aF))) (hlen:=fun _ _ h=>aEe h)) (aD 14) (nomark _)))))
  (aH (aS iU))
  aX))))))))
  (aH (aS iU))))
theorem iB (T:Tx K mg a):∀ d:Nat,FnOk P w K mg base CX0 (d+2) a.a_l_other_nums a.d_l_other_nums ["_law_box_here","_law_n_here","_law_expr_here"] (spF K Z0 3 (bP (d)))
 | 0=>lS rfl
 | d+1=>by
  have ih:=iB T d
  have ih_l_other_nums:=ih
  rw [show d+1+2=(d+2)+1 by omega]
  exact dD (k:=d+2) T.f_l_other_nums oZ fun cdv A outer s H E hr=>show Ess _ K Z0 (defBody bY) (b_l_other_nums (bP d)) from
  (aG (bL (aW (opEq (aV hr)) (aI (aD 2) aE) aZ (nomark _))
  (aH (aS (aN (aC aZ (aC (aK ((nU T).mono (by omega)) hr T.m_l_rest T.k_l_rest T.b_l_rest (aC (aD 0) (aC (aD 1) aF)) (hlen:=fun _ _ h=>lW h)) aF)))))
  aX)
  (aG (bL (aW (opEq (aV hr)) (aI (aD 2) aE) aZ (nomark _))
  (aH (aS (aD 2)))
  aX)
  (aH (aS (aN (aC (aI (aD 2) aE) (aC (aK ih_l_other_nums hr T.m_l_other_nums T.k_l_other_nums T.b_l_other_nums (aC (aD 0) (aC (aD 1) (aC (aI (aD 2) aE) aF))) (hlen:=fun _ _ h=>gK h)) (aC (aK ih_l_other_nums hr T.m_l_other_nums T.k_l_other_nums T.b_l_other_nums (aC (aD 0) (aC (aD 1) (aC (aI (aD 2) aE) aF))) (hlen:=fun _ _ h=>gK h)) aF))))))))
theorem pA (d:Nat) (T:Tx K mg a):FnOk P w K mg base CX0 (d+2) a.a_l_other_nums a.d_l_other_nums ["_law_box_here","_law_n_here","_law_expr_here"] (spF K Z0 3 (bP d)):=(iB T d)
theorem aIz (T:Tx K mg a):FnOk P w K mg base (CX1 P w) 104 a.a_law a.d_law ["_law_script"] (spX K 1 qX) :=
 lR (k:=103) T.f_law.g eS fun cdv A outer s H E hr hz=>show Ess _ K (ZR K (wishR E)) (defBody jH) b_law from
  (aG (gG PassesOwn.leaving rfl (dF T.z_range (bT (callMax2 rfl) rfl T.z_max xE (aC aE (aC (bT (callMin2 rfl) rfl T.z_min aDf (aC aE (aC (bT callLen rfl T.z_len PySem.boot_len (aC (aD 0) aF)) aF))) aF)))) (aQ (i:=1) eS.nd)
  (aG (aT (i:=2) eS.nd (cH ((aAz T).mono (by omega)) hr T.m_l_box T.k_l_box T.b_l_box (aC (aD 0) (aC (aD 1) aF)) (hlen:=fun _ _ h=>zK h)))
  (aG (aT (i:=3) eS.nd (aI (fQ (aC (cH ((aIi T).mono (by omega)) hr T.m_l_n T.k_l_n T.b_l_n (aC (aD 2) aF) (hlen:=fun _ _ h=>aFb h)) (aC (aJ opAdd aE (cH ((aP T).mono (by omega)) hr T.m_l_take T.k_l_take T.b_l_take (aC (aD 2) (aC aE aF)) (hlen:=fun _ _ h=>aM h))) aF))) (cQ callInt rfl T.z_int nT (aC (jQ opGt (cH ((aP T).mono (by omega)) hr T.m_l_take T.k_l_take T.b_l_take (aC (aD 2) (aC aE aF)) (hlen:=fun _ _ h=>aM h)) aE (nomark _)) aF))))
  (aG (dW (aN (aC (cH ((aP T).mono (by omega)) hr T.m_l_take T.k_l_take T.b_l_take (aC (aD 2) (aC aE aF)) (hlen:=fun _ _ h=>aM h)) (aC (jQ (opEq (aV hr)) (cH ((aP T).mono (by omega)) hr T.m_l_take T.k_l_take T.b_l_take (aC (aD 2) (aC aE aF)) (hlen:=fun _ _ h=>aM h)) aE (nomark _)) aF))) (fP rfl (bB (aQ (i:=4) eS.nd) (bB (aQ (i:=5) eS.nd) eE))))
  (aG (aT (i:=6) eS.nd (cH ((uT T).mono (by omega)) hr T.m_l_triple T.k_l_triple T.b_l_triple (aC (aD 2) (aC (aJ opAdd aE (cH ((aP T).mono (by omega)) hr T.m_l_take T.k_l_take T.b_l_take (aC (aD 2) (aC aE aF)) (hlen:=fun _ _ h=>aM h))) aF)) (hlen:=fun _ _ h=>tY h)))
  (aG (aT (i:=7) eS.nd (cH ((nI 50 T).mono (by omega)) hr T.m_l_expr T.k_l_expr T.b_l_expr (aC (aD 2) (aC (aD 4) (aC aE (aC aE aF)))) (hlen:=fun _ _ h=>iQ h)))
  (aG (bL (pB (mB (aW (opEq (aV hr)) (aD 1) aE (nomark _)) (kQ (aW (opEq (aV hr)) (cH ((aP T).mono (by omega)) hr T.m_l_take T.k_l_take T.b_l_take (aC (aD 2) (aC aE aF)) (hlen:=fun _ _ h=>aM h)) aE (nomark _)))))
  (aH (aT (i:=7) eS.nd (cH ((wG T).mono (by omega)) hr T.m_l_great T.k_l_great T.b_l_great (aC (aD 2) (aC (aD 4) aF)) (hlen:=fun _ _ h=>vG h))))
  aX)
  (aG (sL (i:=8) eS.nd rfl (CompOk.of (N0:=["_law_script","_law_k","_law_box_here","_law_n_here","_law_givens","_law_by","_law_places","_law_expr_here","_law_rows","_law_shelves_here","_law_some","_law_paper_here","_law_turn","_law_program","_law_own","_law_found"]) (sc0:=defScope jH) (Nc:=["_law_own","_law_by","_law_n_here","_law_places"]) (js:=[none,some 5,some 3,some 6]) (by decide +kernel)) (oW (aN (aC (aD 7) (aC (cH ((pA 50 T).mono (by omega)) hr T.m_l_other_nums T.k_l_other_nums T.b_l_other_nums (aC (aD 2) (aC (aD 3) (aC (aD 7) aF))) (hlen:=fun _ _ h=>gK h)) aF)))) (fun _ _ _ _ _ _=>(aQ (i:=0) (show (["_law_own","_law_by","_law_n_here","_law_places"]:List Str).Nodup by decide +kernel))) (fun _ _ _ _ _ _=>iC) (fun _ _ _ _ _ _=>(aK ((aBj T).mono (by omega)) hr T.m_l_row T.k_l_row T.b_l_row (aC (aD 1) (aC (aD 2) (aC (aD 0) (aC (aD 3) aF)))) (hlen:=fun _ _ h=>aAt h))))
  (aG (aT (i:=9) eS.nd (cH ((tK T).mono (by omega)) hr T.m_l_shelves T.k_l_shelves T.b_l_shelves (aC (aD 2) (aC (aI (aD 8) aE) aF)) (hlen:=fun _ _ h=>rK h)))
  (aG (aCz (i:=10) eS.nd rfl (CompOk.of (N0:=["_law_script","_law_k","_law_box_here","_law_n_here","_law_givens","_law_by","_law_places","_law_expr_here","_law_rows","_law_shelves_here","_law_some","_law_paper_here","_law_turn","_law_program","_law_own","_law_found"]) (sc0:=defScope jH) (Nc:=["_law_row_here","_law_n_here","_law_givens","_law_shelves_here"]) (js:=[none,some 3,some 4,some 9]) (by decide +kernel)) (oW (aD 8)) (fun _ _ _ _ _ _=>(aQ (i:=0) (show (["_law_row_here","_law_n_here","_law_givens","_law_shelves_here"]:List Str).Nodup by decide +kernel))) (fun _ _ _ _ _ _=>iC) (fun _ _ _ _ _ _=>(aN (aC (aD 1) (aC (aD 2) (aC (aD 3) (aC (aD 0) aF)))))))
  (aG (aT (i:=11) eS.nd (cH ((vY 50 T).mono (by omega)) hr T.m_l_paper T.k_l_paper T.b_l_paper (aC (aD 7) aF) (hlen:=fun _ _ h=>kN h)))
  (aG (bL (aW (opInN (aV hr)) pZ (iV rfl (CompOk.of (N0:=["_law_script","_law_k","_law_box_here","_law_n_here","_law_givens","_law_by","_law_places","_law_expr_here","_law_rows","_law_shelves_here","_law_some","_law_paper_here","_law_turn","_law_program","_law_own","_law_found"]) (sc0:=defScope jH) (Nc:=["_law_program","_law_paper_here","_law_places","_law_by"]) (js:=[none,some 11,some 6,some 5]) (by decide +kernel)) (oW (aD 10)) (fun _ _ _ _ _ _=>(aQ (i:=0) (show (["_law_program","_law_paper_here","_law_places","_law_by"]:List Str).Nodup by decide +kernel))) (fun _ _ _ _ _ _=>iC) (fun _ _ _ _ _ _=>(aBv ((pX T).mono (by omega)) hr T.m_l_heard T.k_l_heard T.b_l_heard (aC (aD 0) (aC (aD 1) (aC (aD 2) (aC (aD 3) aF)))) (hlen:=fun _ _ h=>oJ h)))) (by with_unfolding_all rfl))
  (aH (aS iU))
  aX)
  (aG (gG PassesOwn.leaving rfl (dF T.z_range aE) (aQ (i:=12) eS.nd)
  (aH (uA (oF (aD 10) (cH ((uK T).mono (by omega)) hr T.m_l_spoilt T.k_l_spoilt T.b_l_spoilt (aC (aD 2) (aC (aI (aD 10) (aD 12)) aF)) (hlen:=fun _ _ h=>tW h))))))
  (aH (gG PassesOwn.leaving rfl (oW (aD 10)) (aQ (i:=13) eS.nd)
  (aH (gG PassesOwn.leaving rfl (oW (aN (aC (aD 11) (aC (cH ((zI 50 T).mono (by omega)) hr T.m_l_bent T.k_l_bent T.b_l_bent (aC (aD 2) (aC (aD 11) (aC aE aF))) (hlen:=fun _ _ h=>mE h)) aF)))) (aQ (i:=14) eS.nd)
  (aG (aT (i:=15) eS.nd (dR hz ((pX T).mono (by omega)) hr T.m_l_heard T.k_l_heard T.b_l_heard (aC (aD 13) (aC (aD 14) (aC (aD 6) (aC (aD 5) aF)))) (hlen:=fun _ _ h=>oJ h)))
  (aH (bL (pB (mB (aW opIsNot (aD 15) pZ (nomark _)) (kQ (aHk (lT (cH ((zA T).mono (by omega)) hr T.m_l_true T.k_l_true T.b_l_true (aC (aD 2) (aC (aD 13) (aC (aD 15) (aC (aD 6) (aC (aD 5) aF))))) (hlen:=fun _ _ h=>wL h)))))))
  (aH (aS iU))
  aX))))))))))))))))))))
  (aH (aS iU)))
end
open PySem L2 EV LS
local macro_rules | `(tactic| clean_wf) => `(tactic| repeat decreasing_trivial_pre_omega)
local macro_rules | `(tactic| decreasing_trivial_pre_omega) => `(tactic| with_reducible first
 | apply cZ
 | apply lU
 | apply jE
 | apply aGc
 | refine aLk (by with_unfolding_all exact rfl) ?_
 | apply aLh
 | apply aLj
 | apply aKw
 | apply aLe
 | apply aGe
 | apply fB
 | apply aJx
 | apply nW
 | apply aKi
 | apply aKt
 | apply aJw
 | apply aDj
 | apply aFh
 | apply zV
 | apply aIr
 | apply aJk
 | apply aHm
 | (refine aJu ?hz ?_; case hz=>(with_unfolding_all first | exact rfl | decide | ((try simp only [decide_eq_true_eq,true_and,and_true,List.length_map,List.length_cons,List.length_nil,List.length_append,List.length_replicate]) <;> omega)))
 | (refine tE ?hz ?_; case hz=>(with_unfolding_all first | decide | ((try simp only [mulOk,decide_eq_true_eq,List.length_map,List.length_cons,List.length_nil,List.length_append,List.length_replicate]) <;> omega)))
 | apply aGt
 | apply aGv
 | apply aDa
 | apply aJb
 | refine iR (by with_unfolding_all exact rfl) ?_
 | refine eR (by with_unfolding_all exact rfl) ?_
 | refine xM (by with_unfolding_all exact rfl) ?_
 | refine nF (by assumption) (by with_unfolding_all exact rfl) ?_
 | refine nF (List.getElem?_set_self (by simpa only [List.length_set])) (by with_unfolding_all exact rfl) ?_
 | apply aEv
 | apply aFy
 | apply aIe
 | apply aJy
 | apply aEp
 | apply aKv
 | refine aJr (by with_unfolding_all exact rfl) (by with_unfolding_all simp) ?_
 | refine aJg (by with_unfolding_all exact rfl) (by with_unfolding_all simp) ?_
 | refine aHa (by with_unfolding_all exact rfl) (by with_unfolding_all simp) ?_
 | apply aFn
 | apply aEo
 | apply aEb
 | apply aFo
 | refine xY (by assumption) ?_
 | apply aFt
 | apply aHg
 | apply aJt
 | apply aKh
 | apply aKe
 | apply aGj
 | apply aGl
 | apply aJc
 | apply aGk
 | apply aHb
 | refine aKm (s:=⟨[],none⟩) ?_
 | apply aIc
 | refine rP (by with_unfolding_all (simp <;> omega)) ?_
 | apply aFj
 | apply aKz
 | apply aIu
 | apply aHu
 | apply sW
 | refine aKo (by with_unfolding_all exact rfl) ?_
 | refine ⟨_,rfl,?_⟩
 | refine ⟨_,_,_,_,rfl,rfl,by assumption,by with_unfolding_all exact rfl,?_⟩
 | refine ⟨_,_,_,_,rfl,rfl,List.getElem?_set_self (by simpa only [List.length_set]),by with_unfolding_all exact rfl,?_⟩
 | refine aBx (by with_unfolding_all decide) ?_
 | refine jC (by with_unfolding_all decide) ?_
 | refine ⟨fun h=>absurd h (by with_unfolding_all decide),fun _=>?_⟩
 | refine ⟨fun _=>?_,fun h=>absurd h (by with_unfolding_all decide)⟩
 | refine ⟨_,_,rfl,?_⟩
 | refine ⟨_,_,_,rfl,?_⟩)
theorem aO {M:Mm} {b:Nat} {m:Int} (h:Bx M b) (h0:0 < m) (h1:m < 18446744073709551616):Ok (aU [.ref b,.d (.int m)] M) fun w M'=>∃ d:Int,w=.d (.int d)/\0<=d/\d < m/\Nx b M M':=by
 have hb:=h.lt
 obtain ⟨x,y,z,e⟩:=h
 refine cF rfl ?_
 unfold b_l_take
 clean_wf
 refine iT (fun hx=>?_) (fun hx=>?_)
 ·clean_wf
  refine ⟨Int.emod_nonneg _ (by omega),Int.emod_lt_of_pos _ h0,x / m,y,z,?_⟩
  rw [List.take_of_length_le (by simp)]; rfl
 ·clean_wf
  refine ⟨Int.emod_nonneg _ (by omega),Int.emod_lt_of_pos _ h0,?_⟩
  rw [List.take_of_length_le (by simp)]
  exact ⟨_,_,_,by rw [List.set_set]; rfl⟩
theorem aBb {M:Mm} {ns:List Int} {k:Int} (h0:0<=k) (hl:ns.length<=63):Ok (pJ [.d (.fz (ns.map D.int)),.d (.int k)] M) fun w M'=>∃ x y z,w=.ref M.length/\M'=M++[[.int x,.int y,.int z]]:=by
 refine aIp rfl ?_
 have at_:∀ i:Int,0<=i->i < (ns.length:Int)->∃ n,atI (ns.map D.int) i=some (.int n):=fun i a b=>by
  have hi:i.toNat < ns.length:=by omega
  refine ⟨ns[i.toNat],?_⟩
  simp only [atI,ixN,List.length_map]
  rw [if_pos a,if_pos b]
  simp [hi]
 unfold b_l_box
 clean_wf
 refine iT (fun hx=>?_) (fun hx=>?_)
 ·rw [List.length_map] at hx
  obtain ⟨n,e⟩:=at_ k h0 hx
  clean_wf
  refine xM e ?_
  clean_wf
  refine eR (atBox _) ?_
  clean_wf
  exact ⟨M.length,[.int _,.int _,.int _],rfl,Nat.le_refl _,List.getElem?_concat_length,_,_,_,rfl,by rw [List.take_left]⟩
 ·clean_wf
  refine iT (fun hy=>?_) (fun hy=>?_)
  ·rw [List.length_map] at hy
   obtain ⟨n,e⟩:=at_ (k % ns.length) (Int.emod_nonneg _ (by omega)) (Int.emod_lt_of_pos _ hy)
   clean_wf
   rw [List.length_map]
   refine xM e ?_
   clean_wf
   refine eR (atBox _) ?_
   clean_wf
   exact ⟨M.length,[.int _,.int _,.int _],rfl,Nat.le_refl _,List.getElem?_concat_length,_,_,_,rfl,by rw [List.take_left]⟩
  ·clean_wf
   refine eR (atBox _) ?_
   clean_wf
   exact ⟨M.length,[.int _,.int _,.int _],rfl,Nat.le_refl _,List.getElem?_concat_length,_,_,_,rfl,by rw [List.take_left]⟩
theorem aHz {M:Mm} {b:Nat} (hb:Bx M b):Ok (vF [.ref b] M) fun w M'=>∃ n:Int,w=.d (.int n)/\2<=n/\n<=1000000/\Nx b M M':=by
 have n:=Nx.refl hb
 unfold vF
 refine cF rfl ?_
 unfold b_l_n
 clean_wf
 (refine (aO hb (by omega) (by omega)).mono ?_; rintro _ _ ⟨d1,rfl,l_d1,u_d1,n'⟩; replace n:=n.trans n'; replace hb:=n'.bx hb; clear n')
 clean_wf
 (refine (aO hb (by omega) (by omega)).mono ?_; rintro _ _ ⟨d2,rfl,l_d2,u_d2,n'⟩; replace n:=n.trans n'; replace hb:=n'.bx hb; clear n')
 obtain ⟨v,ev,mv⟩:=atInts (ns:=[2,3,4,5,6,7,8,9,12,16,30,36,49,64,91,97,210,1009,65536,999983,999999,1000000]) l_d2 (by simpa using u_d2)
 have hv:∀ x∈[2,3,4,5,6,7,8,9,12,16,30,36,49,64,91,97,210,1009,65536,999983,999999,(1000000:Int)],2<=x/\x<=1000000:=by decide
 refine eR ev ?_
 clean_wf
 refine iT (fun _=>?_) (fun _=>?_)
 ·clean_wf
  (refine (aO hb (by omega) (by omega)).mono ?_; rintro _ _ ⟨d3,rfl,l_d3,u_d3,n'⟩; replace n:=n.trans n'; replace hb:=n'.bx hb; clear n')
  clean_wf
  rw [n.take]
  exact ⟨by omega,by omega,n⟩
 ·clean_wf
  refine iT (fun _=>?_) (fun _=>?_)
  ·clean_wf
   (refine (aO hb (by omega) (by omega)).mono ?_; rintro _ _ ⟨d3,rfl,l_d3,u_d3,n'⟩; replace n:=n.trans n'; replace hb:=n'.bx hb; clear n')
   clean_wf
   rw [n.take]
   exact ⟨by omega,by omega,n⟩
  ·clean_wf
   rw [n.take]
   exact ⟨(hv v mv).1,(hv v mv).2,n⟩
theorem nV {M:Mm} {b:Nat} {m:Int} (hb:Bx M b) (h2:2<=m) (hn:m<=1000000):Ok (iP [.ref b,.d (.int m)] M) fun w M'=>∃ r:Int,w=.d (.int r)/\0<=r/\r < m/\Nx b M M':=by
 have n:=Nx.refl hb
 unfold iP
 refine cF rfl ?_
 unfold b_l_rest
 clean_wf
 (refine (aO hb (by omega) (by omega)).mono ?_; rintro _ _ ⟨d1,rfl,l_d1,u_d1,n'⟩; replace n:=n.trans n'; replace hb:=n'.bx hb; clear n')
 clean_wf
 refine iT (fun _=>?_) (fun _=>?_)
 ·clean_wf
  (refine (aO hb (by omega) (by omega)).mono ?_; rintro _ _ ⟨d2,rfl,l_d2,u_d2,n'⟩; replace n:=n.trans n'; replace hb:=n'.bx hb; clear n')
  have e1:(1:Int) % m=1:=Int.emod_eq_of_lt (by omega) (by omega)
  obtain ⟨w,ew,hw⟩:=at4 l_d2 u_d2 (.int 0) (.int (1 % m)) (.int (m - 1)) (.int ((m - 2) % m))
  refine eR ew ?_
  rcases hw with rfl | rfl | rfl | rfl
  ·clean_wf
   rw [n.take]
   exact ⟨by omega,by omega,n⟩
  ·clean_wf
   rw [n.take]
   exact ⟨by omega,by omega,n⟩
  ·clean_wf
   rw [n.take]
   exact ⟨by omega,by omega,n⟩
  ·clean_wf
   rw [n.take]
   exact ⟨Int.emod_nonneg _ (by omega),Int.emod_lt_of_pos _ (by omega),n⟩
 ·clean_wf
  (refine (aO hb (by omega) (by omega)).mono ?_; rintro _ _ ⟨d2,rfl,l_d2,u_d2,n'⟩; replace n:=n.trans n'; replace hb:=n'.bx hb; clear n')
  clean_wf
  rw [n.take]
  exact ⟨l_d2,u_d2,n⟩
theorem pT {M:Mm} {b:Nat} {n m:Int} (hb:Bx M b) (h2:2<=n) (hn:n<=1000000) (m0:0<=m) (m1:m < 1000):Ok (iG [.ref b,.d (.int n),.d (.int m)] M) fun w M'=>∃ cs:List Int,w=.d (intsD cs)/\(cs.length:Int)=m/\Rs n cs/\Nx b M M':=by
 unfold iG
 refine cF rfl ?_
 unfold b_l_rests
 clean_wf
 refine gD (fun i acc L' M'=>∃ cs:List Int,acc=cs.map D.int/\cs.length=i/\Rs n cs/\Nx b M M'/\Bx M' b/\∃ a,L'=[a,some (.ref b),some (.d (.int n))]) ?_
 clean_wf
 refine ⟨by simp only [in62,decide_eq_true_eq]; omega,⟨[],rfl,rfl,(fun c h=>by cases h),Nx.refl hb,hb,none,rfl⟩,?_,by simp only [rngD,List.length_map,List.length_range]; omega,?_,?_⟩
 ·rintro i acc L' M' hi ⟨cs,rfl,hl,_,n',_⟩
  exact ⟨n'.len,(fun t e=>by cases e),by simp [hl]⟩
 ·rintro i d acc _ M1 hx ⟨cs,rfl,hl,hr,n',hb',a,rfl⟩
  obtain ⟨hi,rfl⟩:=hV hx
  clean_wf
  refine (nV (hb'.app (J:=[cs.map D.int])) h2 hn).mono ?_
  rintro _ _ ⟨r,rfl,l,u,n2⟩
  obtain ⟨M2,rfl,n3⟩:=n2.unapp hb'.lt
  refine ⟨_,M2,rfl,rfl,cs++[r],by simp,by simp [hl],?_,n'.trans n3,n3.bx hb',_,rfl⟩
  intro c hc
  rcases List.mem_append.mp hc with hc | hc
  ·exact hr c hc
  ·rw [List.mem_singleton.mp hc]; exact ⟨l,u⟩
 ·rintro acc _ M1 ⟨cs,rfl,hl,hr,n',hb',a,rfl⟩
  clean_wf
  refine jL (xs:=cs.map D.int) rfl ?_
  clean_wf
  rw [n'.take]
  simp only [rngD,List.length_map,List.length_range] at hl
  exact ⟨by omega,hr,n'⟩
theorem vN {a b:Int} {M:Mm} (ha:0<=a) (hb:0<=b) (hb2:b<=1000000):Ok (iK [.d (.int a),.d (.int b)] M) fun w M'=>M'=M/\∃ g:Int,w=.d (.int g)/\0<=g/\g ∣ a/\g ∣ b/\∃ x y,a*x+b*y=g:=by
 unfold iK
 refine cF rfl ?_
 unfold b_l_shared
 clean_wf
 refine (sC (QS:=fun o M'=>M'=M/\∃ g t,o=.nx [some (.d (.int g)),t]/\0<=g/\g ∣ a/\g ∣ b/\∃ x y,a*x+b*y=g)
  (I:=fun m L M'=>M'=M/\∃ (h l:Int),L=[some (.d (.int h)),some (.d (.int l))]/\m=l.toNat/\0<=h/\0<=l/\l<=1000000/\(∃ x y,a*x+b*y=h)/\(∃ x y,a*x+b*y=l)/\∀ c:Int,c ∣ h->c ∣ l->c ∣ a/\c ∣ b) ?_ NW b.toNat _ _
  ⟨rfl,a,b,rfl,rfl,ha,hb,hb2,⟨1,0,by omega⟩,⟨0,1,by omega⟩,fun c h1 h2=>⟨h1,h2⟩⟩ (by rw [aGd]; omega)).mono ?_
 ·rintro m L _ ⟨rfl,h,l,rfl,rfl,h0,l0,l1,⟨x1,y1,e1⟩,⟨x2,y2,e2⟩,hd⟩
  clean_wf
  refine ⟨fun hl=>?_,fun hl=>?_⟩
  ·have hl:0 < l:=by simpa using hl
   have em1:=Int.emod_nonneg h (by omega:l≠0)
   have em2:=Int.emod_lt_of_pos h hl
   have e:h - l*(h / l)=h % l:=by rw [Int.emod_def]
   clean_wf
   refine ⟨(h % l).toNat,by omega,rfl,l,h % l,rfl,rfl,by omega,em1,by omega,⟨x2,y2,e2⟩,⟨x1 - x2*(h / l),y1 - y2*(h / l),?_⟩,?_⟩
   ·rw [<- e,<- e1,<- e2]; grind
   ·intro c g1 g2
    refine hd c ?_ g1
    have:=Int.dvd_add g2 (Int.dvd_trans g1 (Int.dvd_mul_right l (h / l)))
    rwa [<- e,show h - l*(h / l)+l*(h / l)=h by omega] at this
  ·have hl:l=0:=by simp at hl; omega
   subst hl
   have:=hd h (Int.dvd_refl h) (Int.dvd_zero h)
   exact ⟨rfl,h,_,rfl,h0,this.1,this.2,x1,y1,e1⟩
 ·rintro _ _ ⟨rfl,g,t,rfl,h0,d1,d2,x,y,e⟩
  clean_wf
  exact ⟨by simp,_,rfl,h0,d1,d2,x,y,e⟩
theorem aAk {M:Mm} {b:Nat} {m:Int} (hb:Bx M b) (h2:2<=m) (hn:m<=1000000):Ok (kK [.ref b,.d (.int m)] M) fun w M'=>∃ u:Int,w=.d (.int u)/\Un m u/\Nx b M M':=by
 have n:=Nx.refl hb
 unfold kK
 refine cF rfl ?_
 unfold b_l_unit
 clean_wf
 (refine (aO hb (by omega) (by omega)).mono ?_; rintro _ _ ⟨d1,rfl,l_d1,u_d1,n'⟩; replace n:=n.trans n'; replace hb:=n'.bx hb; clear n')
 rename_i M1
 clean_wf
 refine (sC (QS:=fun o M'=>M'=M1/\∃ u,o=.nx [some (.ref b),some (.d (.int m)),some (.d (.int u))]/\Un m u)
  (I:=fun k L M'=>M'=M1/\∃ u:Int,L=[some (.ref b),some (.d (.int m)),some (.d (.int u))]/\0<=u/\u < m/\k=(if u<=1 then 1 - u else m+1 - u).toNat) ?_ NW (if d1<=1 then 1 - d1 else m+1 - d1).toNat _ _
  ⟨rfl,d1,rfl,l_d1,u_d1,rfl⟩ (by rw [aGd]; split <;> omega)).mono ?_
 ·rintro k L _ ⟨rfl,u,rfl,u0,u1,rfl⟩
  clean_wf
  refine (vN u0 (by omega) hn).mono ?_
  rintro _ _ ⟨rfl,g,rfl,g0,q1,q2,x,y,e⟩
  clean_wf
  refine ⟨fun hg=>?_,fun hg=>?_⟩
  ·have hg:g≠1:=by simpa using hg
   have hu:u≠1:=by
    rintro rfl
    have:=Int.le_of_dvd (by omega) q1
    have:g≠0:=by rintro rfl; have:=Int.zero_dvd.mp q1; omega
    omega
   clean_wf
   by_cases hm:u+1=m
   ·rw [hm,Int.emod_self]
    refine ⟨_,?_,rfl,0,rfl,by omega,by omega,rfl⟩
    split <;> split <;> omega
   ·rw [Int.emod_eq_of_lt (by omega) (by omega)]
    refine ⟨_,?_,rfl,u+1,rfl,by omega,by omega,rfl⟩
    split <;> split <;> omega
  ·have hg:g=1:=by simpa using hg
   subst hg
   refine ⟨rfl,u,rfl,u0,u1,x % m,Int.emod_nonneg _ (by omega),Int.emod_lt_of_pos _ (by omega),?_⟩
   refine Cg.emod ((Cg.mul Cg.rfl Cg.mod).trans ⟨-y,?_⟩)
   rw [<- e]; grind
 ·rintro _ _ ⟨rfl,u,rfl,hu⟩
  clean_wf
  rw [n.take]
  exact ⟨hu,n⟩
theorem zD {M:Mm} {b:Nat} {m k:Int} (hb:Bx M b) (hk:0<=k) (hk2:k < 60) (hm:0 < k->0 < m) (hm2:m < 1000) {js:List (Option Nat)} {fi:FI} {L:Lc} {Q:W->Mm->Prop} (e:outL js L=[none,some (.ref b),some (.d (.int m))]) (hi:Ok (fi L M) fun s M1=>s=⟨rngD 0 k.toNat,none⟩/\M1=M)
  (q:∀ (ns:List Nat) M',(ns.length:Int)=k->(∀ x∈ns,(x:Int) < m)->Nx b M M'->Bx M' b->Q (.d (.lst (ns.map fun x=>.int (x:Nat)))) M'):Ok (eComp js fi (gN 0) EV.tYes (eA aU (aCons (eV 1) (aCons (eV 2) aNil))) L M) Q:=by
 refine gD (fun i acc L' M'=>∃ ns:List Nat,acc=ns.map (fun x=>.int (x:Nat))/\ns.length=i/\(∀ x∈ns,(x:Int) < m)/\Nx b M M'/\Bx M' b/\∃ a,L'=[a,some (.ref b),some (.d (.int m))]) ?_
 refine hi.mono ?_
 rintro _ _ ⟨rfl,rfl⟩
 refine ⟨⟨[],rfl,rfl,(fun _ h=>by cases h),Nx.refl hb,hb,none,e⟩,?_,by simp only [rngD,List.length_map,List.length_range]; omega,?_,?_⟩
 ·rintro i acc L' M' hi ⟨ns,rfl,hl,_,n',_⟩
  exact ⟨n'.len,(fun t e=>by cases e),by simp [hl]⟩
 ·rintro i d acc _ M1 hx ⟨ns,rfl,hl,hr,n',hb',a,rfl⟩
  obtain ⟨hi,rfl⟩:=hV hx
  clean_wf
  have q1:=aO (hb'.app (J:=[ns.map fun x=>D.int (x:Nat)])) (hm (by omega)) (by omega)
  refine q1.mono ?_
  rintro _ _ ⟨r,rfl,l,u,n2⟩
  obtain ⟨M2,rfl,n3⟩:=n2.unapp hb'.lt
  obtain ⟨r,rfl⟩:∃ k:Nat,r=k:=⟨r.toNat,by omega⟩
  refine ⟨_,M2,rfl,rfl,ns++[r],by simp,by simp [hl],?_,n'.trans n3,n3.bx hb',_,rfl⟩
  intro c hc
  rcases List.mem_append.mp hc with hc | hc
  ·exact hr c hc
  ·rw [List.mem_singleton.mp hc]; exact u
 ·rintro acc _ M1 ⟨ns,rfl,hl,hr,n',hb',a,rfl⟩
  simp only [rngD,List.length_map,List.length_range] at hl
  exact q ns M1 (by omega) hr n' hb'
theorem sH {M:Mm} {b G S:Nat} {m:Int} (hb:Bx M b) (h2:2<=m) (hn:m<=1000000) (hG:G<=8) (hS:1<=S) (hS2:S<=9):Ok (jF [.ref b,.d (.int m),.d (.int G),.d (.int S)] M) fun w M'=>∃ d:Dd,w=.d (encD d)/\OkD m G S d/\SrtD d/\Nx b M M':=by
 have n:=Nx.refl hb
 unfold jF
 refine cF rfl ?_
 unfold b_l_deed
 clean_wf
 (refine (aO hb (by omega) (by omega)).mono ?_; rintro _ _ ⟨d1,rfl,l_d1,u_d1,n'⟩; replace n:=n.trans n'; replace hb:=n'.bx hb; clear n')
 obtain ⟨ks,rfl⟩:∃ k:Nat,d1=k:=⟨d1.toNat,by omega⟩
 clean_wf
 (refine (aO hb (by omega) (by omega)).mono ?_; rintro _ _ ⟨d2,rfl,l_d2,u_d2,n'⟩; replace n:=n.trans n'; replace hb:=n'.bx hb; clear n')
 clean_wf
 refine iT (fun _=>?_) (fun _=>?_)
 ·clean_wf
  refine (aAk hb h2 hn).mono ?_
  rintro _ _ ⟨u,rfl,hu,n'⟩
  replace n:=n.trans n'
  clean_wf
  rw [n.take]
  exact ⟨.scale ks u,rfl,⟨by omega,hu⟩,trivial,n⟩
 clean_wf
 (refine (aO hb (by omega) (by omega)).mono ?_; rintro _ _ ⟨d3,rfl,l_d3,u_d3,n'⟩; replace n:=n.trans n'; replace hb:=n'.bx hb; clear n')
 obtain ⟨w3,e3,h3⟩:=at3 l_d3 u_d3 (.int 3) (.int 3) (.int 5)
 obtain ⟨k3,rfl,k30,k31⟩:∃ k:Int,w3=.int k/\3<=k/\k<=5:=by
  rcases h3 with rfl | rfl | rfl
  ·exact ⟨_,rfl,by omega,by omega⟩
  ·exact ⟨_,rfl,by omega,by omega⟩
  ·exact ⟨_,rfl,by omega,by omega⟩
 refine eR e3 ?_
 clean_wf
 (refine (aO hb (by omega) (by omega)).mono ?_; rintro _ _ ⟨d4,rfl,l_d4,u_d4,n'⟩; replace n:=n.trans n'; replace hb:=n'.bx hb; clear n')
 clean_wf
 have hmany:∃ k:Int,d4*(if decide (0 < (G:Int))=true then 1 else 0)=k/\0<=k/\k<=4/\(0 < k->0 < (G:Int)):=by
  by_cases hg:0 < (G:Int)
  ·exact ⟨d4,by rw [if_pos (by simpa using hg),Int.mul_one],by omega,by omega,fun _=>hg⟩
  ·exact ⟨0,by rw [if_neg (by simpa using hg),Int.mul_zero],by omega,by omega,fun h=>by omega⟩
 obtain ⟨k,ek,hk0,hk1,hkG⟩:=hmany
 rw [ek]
 clean_wf
 refine zD hb hk0 (by omega) hkG (by omega) rfl ?_ ?_
 ·clean_wf
  refine ⟨by simp only [in62,decide_eq_true_eq]; omega,rfl,rfl⟩
 intro gs M1 gl gr n' hb'
 replace n:=n.trans n'
 clear hb n'
 have hb:=hb'
 clear hb'
 obtain ⟨g,eg,pg,og⟩:=nB gs
 clean_wf
 refine rO (ns:=gs.map fun k:Nat=>(k:Int)) rfl (fT gs) (by simp; omega) ?_
 rw [eg]
 clean_wf
 refine gD (fun i acc L' M'=>acc=((List.range i).filter (·≠ks)).map (fun x=>.int (x:Nat))/\M'=M1/\∃ a,L'=[a,some (.d (.int ks))]) ?_
 clean_wf
 refine ⟨by simp only [in62,decide_eq_true_eq]; omega,⟨rfl,rfl,none,rfl⟩,?_,by simp only [rngD,List.length_map,List.length_range]; omega,?_,?_⟩
 ·rintro i acc L' M' hi ⟨rfl,rfl,_⟩
  exact ⟨rfl,(fun t e=>by cases e),by simp only [List.length_map]; exact Nat.le_trans (List.length_filter_le _ _) (by simp)⟩
 ·rintro i d acc _ _ hx ⟨rfl,rfl,a,rfl⟩
  obtain ⟨hi,rfl⟩:=hV hx
  clean_wf
  refine ⟨fun h=>?_,fun h=>?_⟩
  ·clean_wf
   have hne:i≠ks:=by simp at h; omega
   refine ⟨_,_,rfl,rfl,?_,rfl,_,rfl⟩
   rw [List.range_succ,List.filter_append]
   simp [hne]
  ·have hne:i=ks:=by simp at h; omega
   refine ⟨_,rfl,?_,rfl,_,rfl⟩
   rw [List.range_succ,List.filter_append]
   simp [hne]
 rintro acc _ _ ⟨rfl,rfl,a,rfl⟩
 simp only [rngD,List.length_map,List.length_range,Int.toNat_natCast]
 rw [show (List.range S).filter (·≠ks)=othersL S ks from rfl]
 have hts:∀ x∈othersL S ks,x < S/\x≠ks:=fun x hx=>wX.mp hx
 have hle:(othersL S ks).length<=9:=Nat.le_trans (List.length_filter_le _ _) (by simp; omega)
 generalize othersL S ks=os at hts hle
 clean_wf
 refine rN rfl rfl (by simp [dep,deps]; have:=aAn os; omega) ?_
 rw [aCa]
 clean_wf
 refine Ok.mono (Q:=fun o M2=>∃ (ts:List Nat),o=.nx [some (.ref b),some (.d (.int m)),some (.d (.int G)),some (.d (.int S)),some (.d (.int ks)),some (.d (.int d2)),some (.d (.int k)),some (.d (.lst ((g.map fun k:Nat=>(k:Int)).map D.int))),some (.d (.lst (os.map fun x=>.int (x:Nat)))),some (.d (.lst ((ts.map fun k:Nat=>(k:Int)).map D.int)))]/\(∀ x∈ts,x < S/\x≠ks)/\ts.length<=4/\ts.Pairwise (·<=·)/\Nx b M M2/\Bx M2 b) ?_ ?_
 ·refine iT (fun hos=>?_) (fun _=>?_)
  ·have hos:os≠[]:=by simpa using hos
   have hpos:0 < os.length:=List.length_pos_iff.mpr hos
   clean_wf
   refine gD (fun i acc L' M'=>∃ ns:List Nat,acc=ns.map (fun x=>.int (x:Nat))/\ns.length=i/\(∀ x∈ns,x∈os)/\Nx b M M'/\Bx M' b/\∃ a,L'=[a,some (.d (.lst (os.map fun x=>.int (x:Nat)))),some (.ref b)]) ?_
   clean_wf
   (refine (aO hb (by omega) (by omega)).mono ?_; rintro _ _ ⟨d5,rfl,l_d5,u_d5,n'⟩; replace n:=n.trans n'; replace hb:=n'.bx hb; clear n')
   obtain ⟨w5,e5,h5⟩:=at3 l_d5 u_d5 (.int 2) (.int 3) (.int 5)
   obtain ⟨k5,rfl,k50,k51⟩:∃ k:Int,w5=.int k/\2<=k/\k<=5:=by
    rcases h5 with rfl | rfl | rfl
    ·exact ⟨_,rfl,by omega,by omega⟩
    ·exact ⟨_,rfl,by omega,by omega⟩
    ·exact ⟨_,rfl,by omega,by omega⟩
   refine eR e5 ?_
   clean_wf
   (refine (aO hb (by omega) (by omega)).mono ?_; rintro _ _ ⟨d6,rfl,l_d6,u_d6,n'⟩; replace n:=n.trans n'; replace hb:=n'.bx hb; clear n')
   clean_wf
   refine ⟨by simp only [in62,decide_eq_true_eq]; omega,⟨[],rfl,rfl,(fun _ h=>by cases h),n,hb,none,rfl⟩,?_,by simp only [rngD,List.length_map,List.length_range]; omega,?_,?_⟩
   ·rintro i acc L' M' hi ⟨ns,rfl,hl,_,n',_⟩
    exact ⟨by rw [n'.len,n.len],(fun t e=>by cases e),by simp [hl]⟩
   ·rintro i d acc _ M2 hx ⟨ns,rfl,hl,hr,n',hb',a,rfl⟩
    clean_wf
    have q1:=aO (hb'.app (J:=[ns.map fun x=>D.int (x:Nat)])) (m:=((os.map fun x=>D.int (x:Nat)).length:Int)) (by simp; omega) (by simp; omega)
    refine q1.mono ?_
    rintro _ _ ⟨r,rfl,l,u,n2⟩
    obtain ⟨M3,rfl,n3⟩:=n2.unapp hb'.lt
    obtain ⟨x,hx1,hx2⟩:=pN l (by simpa using u)
    refine eR hx2 ?_
    refine ⟨_,M3,rfl,rfl,ns++[x],by simp,by simp [hl],?_,n'.trans n3,n3.bx hb',_,rfl⟩
    intro c hc
    rcases List.mem_append.mp hc with hc | hc
    ·exact hr c hc
    ·rw [List.mem_singleton.mp hc]; exact hx1
   ·rintro acc _ M2 ⟨ns,rfl,hl,hr,n',hb',a,rfl⟩
    simp only [rngD,List.length_map,List.length_range] at hl
    obtain ⟨ts,et,pt,ot⟩:=nB ns
    clean_wf
    refine rO (ns:=ns.map fun k:Nat=>(k:Int)) rfl (fT ns) (by simp; omega) ?_
    rw [et]
    clean_wf
    exact ⟨fun x hx=>hts x (hr x (pt.mem_iff.mp hx)),by rw [pt.length_eq]; omega,ot,n',hb'⟩
  ·clean_wf
   exact ⟨[],rfl,by simp,by simp,.nil,n,hb⟩
 clear n hb
 rintro _ M2 ⟨ts,rfl,ht1,ht2,ht3,n,hb⟩
 clean_wf
 refine (nV hb h2 hn).mono ?_
 rintro _ _ ⟨c,rfl,c0,c1,n'⟩
 replace n:=n.trans n'
 clean_wf
 refine jL (xs:=(g.map fun k:Nat=>(k:Int)).map D.int) rfl ?_
 clean_wf
 refine jL (xs:=(ts.map fun k:Nat=>(k:Int)).map D.int) rfl ?_
 clean_wf
 rw [n.take]
 refine ⟨.add ks c g ts,by simp only [encD,natsD]; rw [fT,fT],⟨by omega,c0,c1,?_,fun x hx=>(ht1 x hx).1,fun hk=>(ht1 ks hk).2 rfl,by rw [pg.length_eq]; omega,ht2⟩,⟨og,ht3⟩,n⟩
 intro i hi
 have:=gr i (pg.mem_iff.mp hi)
 omega
theorem nR {G:Nat} (g1:G < 1000):∀ (k:Nat) (fuel:Nat) (M:Mm) (b:Nat) (r e:Int),Bx M b->r < 1000->e=k->k < fuel->Ok (eF fuel [.ref b,.d (.int G),.d (.int r),.d (.int e)] M) fun w M'=>∃ e:E,w=.d (enc e)/\dp e<=k/\wf G e/\Nx b M M':=by
 intro k
 induction k using Nat.strongRecOn with
 | ind k ih =>
 intro fuel M b r e hb r1 he hf
 obtain ⟨f,rfl⟩:∃ f,fuel=f+1:=⟨fuel - 1,by omega⟩
 subst he
 have n:=Nx.refl hb
 unfold eF
 refine cF rfl ?_
 unfold b_l_expr
 clean_wf
 (refine (aO hb (by omega) (by omega)).mono ?_; rintro _ _ ⟨d1,rfl,l_d1,u_d1,n'⟩; replace n:=n.trans n'; replace hb:=n'.bx hb; clear n')
 rename_i M1
 refine jE (cZ (fB (Ok.mono (Q:=fun c M2=>M2=M1/\(c=false->3<=r/\k≠0)) ?_ ?_)))
 ·clean_wf
  refine ⟨fun h=>⟨rfl,fun h=>by simp at h⟩,fun h=>?_⟩
  clean_wf
  refine ⟨fun h=>⟨rfl,fun h=>by simp at h⟩,fun h'=>?_⟩
  clean_wf
  exact ⟨rfl,fun _=>⟨by simpa using h,by simpa using h'⟩⟩
 rintro c _ ⟨rfl,hc⟩
 refine gJ (fun h=>?_) (fun h=>?_)
 ·clean_wf
  (refine (aO hb (by omega) (by omega)).mono ?_; rintro _ _ ⟨d2,rfl,l_d2,u_d2,n'⟩; replace n:=n.trans n'; replace hb:=n'.bx hb; clear n')
  clean_wf
  (refine (aO hb (by omega) (by omega)).mono ?_; rintro _ _ ⟨d3,rfl,l_d3,u_d3,n'⟩; replace n:=n.trans n'; replace hb:=n'.bx hb; clear n')
  clean_wf
  (refine (aO hb (by omega) (by omega)).mono ?_; rintro _ _ ⟨d4,rfl,l_d4,u_d4,n'⟩; replace n:=n.trans n'; replace hb:=n'.bx hb; clear n')
  clean_wf
  refine eR (at2I _ _ _) ?_
  refine jE (cZ (fB (Ok.mono (Q:=fun c M2=>Nx b M M2/\Bx M2 b/\(c=true->0 < G)) ?_ ?_)))
  ·clean_wf
   refine ⟨fun h=>?_,fun _=>⟨n,hb,by simp⟩⟩
   clean_wf
   (refine (aO hb (by omega) (by omega)).mono ?_; rintro _ _ ⟨d5,rfl,l_d5,u_d5,n'⟩; replace n:=n.trans n'; replace hb:=n'.bx hb; clear n')
   clean_wf
   exact ⟨n,hb,fun _=>by simpa using h⟩
  clear n hb
  rintro c M2 ⟨n,hb,hg⟩
  refine gJ (fun h=>?_) (fun _=>?_)
  ·have hg:=hg h
   clean_wf
   (refine (aO hb (by omega) (by omega)).mono ?_; rintro _ _ ⟨d6,rfl,l_d6,u_d6,n'⟩; replace n:=n.trans n'; replace hb:=n'.bx hb; clear n')
   obtain ⟨i,rfl⟩:∃ i:Nat,d6=i:=⟨d6.toNat,by omega⟩
   clean_wf
   rw [n.take]
   exact ⟨.giv i,rfl,by simp [dp],by simp only [wf]; omega,n⟩
  ·clean_wf
   rw [n.take]
   exact ⟨.num _,rfl,by simp [dp],by simp only [wf]; split <;> omega,n⟩
 ·obtain ⟨hr,hk⟩:=hc h
  obtain ⟨k',rfl⟩:∃ k',k=k'+1:=⟨k - 1,by omega⟩
  clean_wf
  (refine (aO hb (by omega) (by omega)).mono ?_; rintro _ _ ⟨d2,rfl,l_d2,u_d2,n'⟩; replace n:=n.trans n'; replace hb:=n'.bx hb; clear n')
  clean_wf
  (refine (aO hb (by omega) (by omega)).mono ?_; rintro _ _ ⟨d3,rfl,l_d3,u_d3,n'⟩; replace n:=n.trans n'; replace hb:=n'.bx hb; clear n')
  obtain ⟨w,ew,hw⟩:=at4 l_d3 u_d3 (.str "sum") (.str "less") (.str "times") (.str "times")
  refine eR ew ?_
  clean_wf
  refine (ih k' (by omega) f _ b _ _ hb (by omega) (by omega) (by omega)).mono ?_
  rintro _ _ ⟨a1,rfl,i1,w1,n'⟩
  replace n:=n.trans n'
  replace hb:=n'.bx hb
  clear n'
  clean_wf
  refine (ih k' (by omega) f _ b _ _ hb (by omega) (by omega) (by omega)).mono ?_
  rintro _ _ ⟨a2,rfl,i2,w2,n'⟩
  replace n:=n.trans n'
  clean_wf
  rw [n.take]
  have hw':∃ s:Wd,w=.str s.str:=by
   rcases hw with rfl | rfl | rfl | rfl
   ·exact ⟨.sum,rfl⟩
   ·exact ⟨.less,rfl⟩
   ·exact ⟨.times,rfl⟩
   ·exact ⟨.times,rfl⟩
  obtain ⟨s,rfl⟩:=hw'
  exact ⟨.op s a1 a2,rfl,by simp only [dp]; omega,⟨w1,w2⟩,n⟩
theorem vJ {M:Mm} {b:Nat} {m:Int} (hb:Bx M b) (h0:3<=m) (h1:m<=9):Ok (iM [.ref b,.d (.int m)] M) fun w M'=>∃ x y z:Int,w=.d (.tup [.int x,.int y,.int z])/\(x≠y/\x≠z/\y≠z)/\(0<=x/\x < m)/\(0<=y/\y < m)/\(0<=z/\z < m)/\Nx b M M':=by
 unfold iM
 refine cF rfl ?_
 unfold b_l_triple
 clean_wf
 refine aHt (by omega) (by omega) ?_
 clean_wf
 refine gD (fun i acc L' M'=>∃ (Mi:Mm) (lf ns:List Int),M'=Mi++[lf.map D.int]/\Nx b M Mi/\Bx Mi b/\(lf.length:Int)=m - i/\acc=ns.map D.int/\ns.length=i/\(ns++lf).Nodup/\(∀ x∈ns++lf,0<=x/\x < m)/\∃ a,L'=[a,some (.ref M.length),some (.ref b)]) ?_
 clean_wf
 refine ⟨by decide,⟨M,(List.range m.toNat).map fun k=>(0:Int)+(k:Nat),[],?_,Nx.refl hb,hb,by simp; omega,rfl,rfl,?_,?_,none,rfl⟩,?_,by decide,?_,?_⟩
 ·rw [sD]; rfl
 ·simp only [List.nil_append]
  refine List.Pairwise.map _ (fun a b h=>?_) List.nodup_range
  omega
 ·intro x hx
  obtain ⟨k,hk,rfl⟩:=List.mem_map.mp (by simpa only [List.nil_append] using hx)
  have:=List.mem_range.mp hk
  omega
 ·rintro i acc L' M' hi ⟨Mi,lf,ns,rfl,n,_,_,rfl,hl,_⟩
  exact ⟨by simp [n.len],(fun t e=>by cases e),by simp [hl]⟩
 ·rintro i d acc _ _ hx ⟨Mi,lf,ns,rfl,n,hb',hlf,rfl,hl,nd,rg,a,rfl⟩
  obtain ⟨hi,rfl⟩:=hV hx
  have e1:M.length=Mi.length:=n.len.symm
  clean_wf
  refine xY (xs:=lf.map D.int) (by rw [e1]; simp) ?_
  clean_wf
  rw [show Mi++[lf.map D.int]++[ns.map D.int]=Mi++[lf.map D.int,ns.map D.int] by simp]
  refine (aO (hb'.app (J:=[lf.map D.int,ns.map D.int])) (by simp; omega) (by simp; omega)).mono ?_
  rintro _ _ ⟨d2,rfl,l2,u2,n'⟩
  obtain ⟨M2,rfl,n2⟩:=n'.unapp hb'.lt
  have e2:M.length=M2.length:=by rw [n2.len,e1]
  have u2':d2.toNat < lf.length:=by simp at u2; omega
  refine aCr (xs:=lf.map D.int) (d:=.int lf[d2.toNat]) (by rw [e2]; simp) l2 u2 (by simp; omega) (by simp [u2']) ?_
  have hp:List.Perm ((ns++[lf[d2.toNat]])++lf.eraseIdx d2.toNat) (ns++lf):=by
   rw [List.append_assoc]
   refine List.Perm.append_left ns ?_
   exact wQ lf _ u2'
  refine ⟨_,M2++[(lf.eraseIdx d2.toNat).map D.int],rfl,?_,M2,lf.eraseIdx d2.toNat,ns++[lf[d2.toNat]],rfl,n.trans n2,n2.bx hb',?_,by simp,by simp [hl],(hp.nodup_iff).mpr nd,fun x hx=>rg x (hp.mem_iff.mp hx),_,rfl⟩
  ·rw [e2]; simp [zC]
  ·rw [List.length_eraseIdx_of_lt u2']; omega
 ·rintro acc _ _ ⟨Mi,lf,ns,rfl,n,hb',hlf,rfl,hl,nd,rg,a,rfl⟩
  have hl3:ns.length=3:=hl
  clean_wf
  refine jL (xs:=ns.map D.int) rfl ?_
  clean_wf
  rw [show List.take M.length (Mi++[lf.map D.int])=Mi by rw [<- n.len]; simp]
  match ns,hl3 with
  | [x,y,z],_ =>
   refine ⟨x,y,z,rfl,?_,rg x (by simp),rg y (by simp),rg z (by simp),n⟩
   simp at nd
   refine ⟨?_,?_,?_⟩ <;> (intro h; subst h; simp at nd)
theorem mW {xs:List Int} {is:List Nat} {n:Int} {M:Mm} (hx:Rs n xs) (hn:n<=1000000) (hi:∀ i∈is,i < xs.length):Ok (eY [.d (natsD is),.d (intsD xs)] M) fun w M'=>w=.d (.int (pr xs is))/\M'=M:=by
 unfold eY
 refine cF rfl ?_
 unfold b_product_of natsD intsD
 clean_wf
 refine dB (fun i L M'=>M'=M/\∃ a,L=[some (.d (.tup (is.map fun k=>.int (k:Nat)))),some (.d (.tup (xs.map .int))),some (.d (.int (pr xs (is.take i)))),a]) ⟨rfl,none,rfl⟩ (fun i L M _ _ t e=>by cases e) ?_ ?_
 ·rintro i d _ _ hd ⟨rfl,a,rfl⟩
  simp only [List.getElem?_map,Option.map_eq_some_iff] at hd
  obtain ⟨k,hk,rfl⟩:=hd
  have hm:=hi k (List.mem_of_getElem? hk)
  have hr:=hx.getD hm
  have hb:=aBc hr.1 hr.2 hn
  clean_wf
  refine iR (gU hm) ?_
  refine tE (by simp only [mulOk,decide_eq_true_eq]; exact .inr (.inl hb)) ?_
  clean_wf
  refine ⟨rfl,some (.d (.int k)),?_⟩
  rw [List.take_add_one,hk]
  simp [pr]
 ·rintro _ _ ⟨rfl,a,rfl⟩
  clean_wf
  rw [List.take_of_length_le (by simp)]
  exact ⟨rfl,by simp⟩
theorem aAe {n:Int} {d:Dd} {gs cs:List Int} {M:Mm} (hn:2<=n) (hn2:n<=1000000) (hg:Rs n gs) (hc:Rs n cs) (h:OkD n gs.length cs.length d) (hz:cs.length<=1000):Ok (nK [.d (.int n),.d (encD d),.d (intsD gs),.d (intsD cs)] M) fun w M'=>w=.d (intsD (dn n gs cs d))/\M'=M:=by
 cases d with
 | add s c g t =>
  obtain ⟨hs,c0,c1,hgi,hti,_,hgl,htl⟩:=h
  have hr:=hc.getD hs
  unfold nK
  refine cF rfl ?_
  unfold b_done encD
  have e1:atI (cs.map D.int) (s:Int)=some (.int (cs.getD s 0)):=gU hs
  clean_wf
  simp only [intsD]
  refine iR e1 ?_
  clean_wf
  refine (mW (xs:=gs) (is:=g) hg hn2 hgi).mono ?_
  rintro _ _ ⟨rfl,rfl⟩
  refine tE (by simp only [mulOk,decide_eq_true_eq]; exact .inl (aBc c0 c1 hn2)) ?_
  clean_wf
  refine (mW (xs:=cs) (is:=t) hc hn2 hti).mono ?_
  rintro _ _ ⟨rfl,rfl⟩
  have b1:=aBg hg (by omega) hn2 hgl
  have b2:=aBg hc (by omega) hn2 htl
  have b3:=qS (a:=c) (x:=1000000) (by omega) b1
  refine tE (by simp only [mulOk,decide_eq_true_eq]; exact .inr (.inr ⟨aDk b3 (by decide),aDk b2 (by decide)⟩)) ?_
  clean_wf
  rw [wK (by simp; omega)]
  refine bE (by simp; omega) ?_
  clean_wf
  rw [show ((s:Int)+1)=((s+1:Nat):Int) by simp,wN (by simp; omega)]
  refine bE (by simp; omega) ?_
  clean_wf
  rw [sV hs]
  exact ⟨rfl,by simp⟩
 | scale s u =>
  obtain ⟨hs,hu⟩:=h
  have hr:=hc.getD hs
  unfold nK
  refine cF rfl ?_
  unfold b_done encD
  have e1:atI (cs.map D.int) (s:Int)=some (.int (cs.getD s 0)):=gU hs
  clean_wf
  simp only [intsD]
  refine iR e1 ?_
  clean_wf
  rw [wK (by simp; omega)]
  refine bE (by simp; omega) ?_
  clean_wf
  rw [show ((s:Int)+1)=((s+1:Nat):Int) by simp,wN (by simp; omega)]
  refine bE (by simp; omega) ?_
  clean_wf
  rw [sV hs]
  exact ⟨rfl,by simp⟩
theorem aDe {n G S:Int} {ds:List Dd} {gs cs:List Int} {M:Mm} (hn:2<=n) (hn2:n<=1000000) (hg:Rs n gs) (hc:Rs n cs) (h:∀ d∈ds,OkD n gs.length cs.length d) (hz:cs.length<=1000):Ok (vB [.d (encP n G S ds),.d (intsD gs),.d (intsD cs)] M) fun w M'=>w=.d (intsD (rn n gs ds cs))/\M'=M:=by
 unfold vB
 refine cF rfl ?_
 unfold b_run encP
 clean_wf
 refine dB (fun i L M'=>M'=M/\∃ a,L=[some (.d (encP n G S ds)),some (.d (intsD gs)),some (.d (intsD (rn n gs (ds.take i) cs))),a]) ⟨rfl,none,rfl⟩ (fun i L M _ _ t e=>by cases e) ?_ ?_
 ·rintro i d _ _ hd ⟨rfl,a,rfl⟩
  simp only [List.getElem?_map,Option.map_eq_some_iff] at hd
  obtain ⟨k,hk,rfl⟩:=hd
  have hm:=h k (List.mem_of_getElem? hk)
  unfold encP
  clean_wf
  refine (aAe (cs:=rn n gs (ds.take i) cs) hn hn2 hg (hc.rn (by omega)) (by rw [oB]; exact hm) (by rw [oB]; exact hz)).mono ?_
  rintro _ _ ⟨rfl,rfl⟩
  clean_wf
  refine ⟨rfl,some (.d (encD k)),?_⟩
  rw [List.take_add_one,hk]
  simp only [Option.toList_some,cW,gC,nP]
  rfl
 ·rintro _ _ ⟨rfl,a,rfl⟩
  clean_wf
  rw [List.take_of_length_le (by simp)]
  exact ⟨rfl,by simp⟩
theorem wR {n G S:Int} {ds:List Dd} {gs cs:List Int} {M:Mm} (hn:2<=n) (hn2:n<=1000000) (hg:Rs n gs) (hc:Rs n cs) (h:∀ d∈ds,OkD n gs.length cs.length d) (hz:cs.length<=1000):Ok (mV [.d (encP n G S ds),.d (intsD gs),.d (intsD cs)] M) fun w M'=>w=.d (intsD (rn n gs ds cs))/\M'=M:=by
 unfold mV
 refine cF rfl ?_
 unfold b_l_run
 clean_wf
 refine aDx (xs:=cs.map D.int) rfl ?_
 clean_wf
 unfold encP
 clean_wf
 refine dB (fun i L M'=>M'=M++[(rn n gs (ds.take i) cs).map D.int]/\∃ a b c d,L=[some (.d (encP n G S ds)),some (.d (intsD gs)),some (.d (intsD cs)),some (.ref M.length),a,b,c,d]) ⟨rfl,none,none,none,none,rfl⟩ (fun i L M _ _ t e=>by cases e) ?_ ?_
 ·rintro i d _ _ hd ⟨rfl,a,b,c,d',rfl⟩
  simp only [List.getElem?_map,Option.map_eq_some_iff] at hd
  obtain ⟨k,hk,rfl⟩:=hd
  have hm:=h k (List.mem_of_getElem? hk)
  have hc':Rs n (rn n gs (ds.take i) cs):=hc.rn (by omega)
  have hl':(rn n gs (ds.take i) cs).length=cs.length:=oB
  have fin:rn n gs (ds.take (i+1)) cs=dn n gs (rn n gs (ds.take i) cs) k:=by
   rw [List.take_add_one,hk]
   simp only [Option.toList_some,cW,gC,nP]
  rw [fin]
  generalize rn n gs (ds.take i) cs=xs at hc' hl'
  rw [<- hl'] at hm
  have gM:(M++[xs.map D.int])[M.length]?=some (xs.map D.int):=by simp
  unfold encP
  cases k with
  | scale s u =>
   obtain ⟨hs,hu⟩:=hm
   have hr:=hc'.getD hs
   simp only [encD]
   clean_wf
   refine nF gM (gU hs) ?_
   clean_wf
   refine ⟨_,_,_,s,rfl,rfl,gM,by rw [List.length_map]; exact yV hs,?_⟩
   refine ⟨?_,_,_,_,_,rfl⟩
   rw [yX]
   simp [dn]
  | add s c g t =>
   obtain ⟨hs,c0,c1,hgi,hti,_,hgl,htl⟩:=hm
   simp only [encD]
   clean_wf
   unfold natsD
   refine dB (fun i L M'=>M'=M++[xs.map D.int]/\∃ b,L=[some (.d (encP n G S ds)),some (.d (intsD gs)),some (.d (intsD cs)),some (.ref M.length),some (.d (encD (.add s c g t))),some (.d (.int ((g.take i).foldl (fun a i=>a*gs.getD i 0 % n) c))),b,d']) ⟨rfl,_,rfl⟩ (fun i L M _ _ t e=>by cases e) ?_ ?_
   ·rintro i d _ _ hd ⟨rfl,b,rfl⟩
    simp only [List.getElem?_map,Option.map_eq_some_iff] at hd
    obtain ⟨k,hk,rfl⟩:=hd
    have hm:=hgi k (List.mem_of_getElem? hk)
    have hr:=hg.getD hm
    unfold encP intsD
    clean_wf
    refine iR (gU hm) ?_
    clean_wf
    refine ⟨rfl,some (.d (.int k)),?_⟩
    rw [List.take_add_one,hk]
    simp only [Option.toList_some,List.foldl_append,List.foldl_cons,List.foldl_nil]
    rfl
   ·rintro _ _ ⟨rfl,b,rfl⟩
    simp only [List.length_map,List.take_length]
    have r1:=oP (by omega:0 < n) (xs:=gs) g c0 c1
    have q1:=foldm (n:=n) (xs:=gs) g c
    generalize g.foldl (fun a i=>a*gs.getD i 0 % n) c=v at r1 q1
    simp only [encD]
    clean_wf
    unfold natsD
    refine dB (fun i L M'=>M'=M++[xs.map D.int]/\∃ b d,L=[some (.d (encP n G S ds)),some (.d (intsD gs)),some (.d (intsD cs)),some (.ref M.length),some (.d (encD (.add s c g t))),some (.d (.int ((t.take i).foldl (fun a i=>a*xs.getD i 0 % n) v))),b,d]) ⟨rfl,_,_,rfl⟩ (fun i L M _ _ t e=>by cases e) ?_ ?_
    ·rintro i d _ _ hd ⟨rfl,b,d2,rfl⟩
     simp only [List.getElem?_map,Option.map_eq_some_iff] at hd
     obtain ⟨k,hk,rfl⟩:=hd
     have hm:=hti k (List.mem_of_getElem? hk)
     have hr:=hc'.getD hm
     unfold encP
     clean_wf
     refine nF gM (gU hm) ?_
     clean_wf
     refine ⟨rfl,b,some (.d (.int k)),?_⟩
     rw [List.take_add_one,hk]
     simp only [Option.toList_some,List.foldl_append,List.foldl_cons,List.foldl_nil]
     rfl
    ·rintro _ _ ⟨rfl,b,d2,rfl⟩
     simp only [List.length_map,List.take_length]
     have r2:=oP (by omega:0 < n) (xs:=xs) t r1.1 r1.2
     have q2:=foldm (n:=n) (xs:=xs) t v
     generalize t.foldl (fun a i=>a*xs.getD i 0 % n) v=z at r2 q2
     simp only [encD]; unfold encP
     clean_wf
     refine nF gM (gU hs) ?_
     clean_wf
     refine ⟨_,_,_,s,rfl,rfl,gM,by rw [List.length_map]; exact yV hs,?_⟩
     refine ⟨?_,_,_,_,_,rfl⟩
     rw [yX]
     have:(xs.getD s 0+z) % n=(xs.getD s 0+c*pr gs g*pr xs t) % n:=Cg.emod (Cg.add Cg.rfl (q2.trans (Cg.mul q1 Cg.rfl)))
     simp only [dn,<- this]
     simp
 ·rintro _ _ ⟨rfl,a,b,c,d',rfl⟩
  rw [show List.take (List.map encD ds).length ds=ds from List.take_of_length_le (by simp)]
  clean_wf
  refine jL (xs:=(rn n gs ds cs).map D.int) ?_ ?_
  ·simp [sv,lr,lv]
  clean_wf
  exact ⟨rfl,by simp⟩
theorem xK {n:Int} {gs:List Int} (hn:2<=n) (hn2:n<=1000000) (hg:Rs n gs):∀ {e:E},wf gs.length e->∀ fuel,dp e < fuel->∀ M:Mm,
  Ok (dE fuel [.d (.int n),.d (enc e),.d (intsD gs)] M) (fun w M'=>w=.d (.int (val n gs e))/\M'=M):=by
 intro e
 induction e with
 | num c =>
  intro _ fuel hf M
  obtain ⟨f,rfl⟩:∃ f,fuel=f+1:=⟨fuel - 1,by omega⟩
  unfold dE
  simp only [enc,val]
  refine cF rfl ?_
  unfold b_l_worth
  clean_wf
  exact ⟨rfl,by simp⟩
 | giv i =>
  intro h fuel hf M
  obtain ⟨f,rfl⟩:∃ f,fuel=f+1:=⟨fuel - 1,by omega⟩
  unfold dE
  simp only [enc,val]
  refine cF rfl ?_
  unfold b_l_worth intsD
  clean_wf
  refine iR (gU h) ?_
  clean_wf
  exact ⟨rfl,by simp⟩
 | op w a b iha ihb =>
  intro h fuel hf M
  obtain ⟨f,rfl⟩:∃ f,fuel=f+1:=⟨fuel - 1,by omega⟩
  have d1:dp a < f:=by simp only [dp] at hf; omega
  have d2:dp b < f:=by simp only [dp] at hf; omega
  have x:=nZ (by omega:0 < n) hg (e:=a)
  have y:=nZ (by omega:0 < n) hg (e:=b)
  have wa:=fun M=>iha h.1 f d1 M
  have wb:=fun M=>ihb h.2 f d2 M
  unfold dE
  simp only [enc,val]
  revert wa wb x y
  generalize val n gs a=x
  generalize val n gs b=y
  intro rx ry wa wb
  refine cF rfl ?_
  unfold b_l_worth
  cases w with
  | sum =>
   simp only [Wd.str,Wd.ev]
   clean_wf
   refine (wa _).mono ?_
   rintro _ _ ⟨rfl,rfl⟩
   clean_wf
   refine (wb _).mono ?_
   rintro _ _ ⟨rfl,rfl⟩
   clean_wf
   exact ⟨rfl,by simp⟩
  | less =>
   simp only [Wd.str,Wd.ev]
   clean_wf
   refine (wa _).mono ?_
   rintro _ _ ⟨rfl,rfl⟩
   clean_wf
   refine (wb _).mono ?_
   rintro _ _ ⟨rfl,rfl⟩
   clean_wf
   exact ⟨rfl,by simp⟩
  | times =>
   simp only [Wd.str,Wd.ev]
   clean_wf
   refine (wa _).mono ?_
   rintro _ _ ⟨rfl,rfl⟩
   clean_wf
   refine (wb _).mono ?_
   rintro _ _ ⟨rfl,rfl⟩
   clean_wf
   exact ⟨rfl,by simp⟩
noncomputable def At (ds:List Dd) (i:Nat) (X:List Dd):Prop:=∃ p q,ds=p++X++q/\p.length=i
theorem At.left {ds:List Dd} {i:Nat} {X Y:List Dd}:At ds i (X++Y)->At ds i X:=by
 rintro ⟨p,q,rfl,rfl⟩
 exact ⟨p,Y++q,by simp,rfl⟩
theorem At.right {ds:List Dd} {i:Nat} {X Y:List Dd}:At ds i (X++Y)->At ds (i+X.length) Y:=by
 rintro ⟨p,q,rfl,rfl⟩
 exact ⟨p++X,q,by simp,by simp⟩
theorem At.le {ds:List Dd} {i:Nat} {X:List Dd}:At ds i X->i+X.length<=ds.length:=by
 rintro ⟨p,q,rfl,rfl⟩
 simp
theorem At.cut {ds:List Dd} {i:Nat} {X:List Dd}:At ds i X->∀ {a b:Int},a=i->b=i+X.length->EV.cut (ds.map encD) (some a) (some b)=X.map encD:=by
 rintro ⟨p,q,rfl,rfl⟩ a b rfl rfl
 rw [show ((p.length:Int)+X.length)=((p.length+X.length:Nat):Int) by omega]
 simp only [EV.cut,HT.sIx_nat]
 rw [Nat.min_eq_left (by simp),Nat.min_eq_left (by simp)]
 simp
theorem At.get {ds:List Dd} {i:Nat} {d:Dd} {X:List Dd}:At ds i (d::X)->∀ {a:Int},a=i->atI (ds.map encD) a=some (encD d):=by
 rintro ⟨p,q,rfl,rfl⟩ a rfl
 simp only [atI,ixN]
 rw [if_pos (by omega),if_pos (by simp; omega)]
 simp
theorem qK:∀ xs:List Nat,deps (xs.map fun k=>D.int (k:Nat))=0:=fun xs=>by induction xs with | nil=>rfl | cons x r ih=>simp [deps,dep,ih]
theorem kS (d:Dd):dep (encD d)<=10:=by
 cases d <;> simp [encD,natsD,dep,deps,qK]
theorem kY:∀ {xs ys:List Nat},eqDs (xs.map fun k=>D.int (k:Nat)) (ys.map fun k=>D.int (k:Nat))=true->xs=ys
 | [],[],_=>rfl
 | [],_::_,h=>by simp [eqDs] at h
 | _::_,[],h=>by simp [eqDs] at h
 | x::r,y::t,h=>by
  simp only [List.map_cons,eqDs,eqD,Bool.and_eq_true,beq_iff_eq] at h
  have:=kY h.2
  have:x=y:=by have:=h.1; omega
  simp [*]
theorem aCh {d k:Dd} (h:eqD (encD d) (encD k)=true):d=k:=by
 cases d with
 | add s c gs ts =>
  cases k with
  | add s' c' gs' ts' =>
   simp only [encD,natsD,eqD,eqDs,Bool.and_eq_true,beq_iff_eq,Bool.and_true] at h
   obtain ⟨_,h1,h2,h3,h4⟩:=h
   rw [kY h3,kY h4,h2]
   have:s=s':=by omega
   rw [this]
  | scale s' u=>simp [encD,natsD,eqD,eqDs] at h
 | scale s u =>
  cases k with
  | add s' c' gs' ts'=>simp [encD,natsD,eqD,eqDs] at h
  | scale s' u' =>
   simp only [encD,eqD,eqDs,Bool.and_eq_true,beq_iff_eq,Bool.and_true] at h
   obtain ⟨_,h1,h2⟩:=h
   have:s=s':=by omega
   rw [this,h2]
noncomputable def NoP (M:Mm):D->Mm->Prop:=fun x M'=>(∃ j:Int,x=.exn "NoPaper" "at" [.int j])/\M'=M
theorem At.nil {ds:List Dd} {i:Nat} (h:i<=ds.length):At ds i []:=⟨ds.take i,ds.drop i,by simp,by simp; omega⟩
theorem At.snoc {ds X:List Dd} {i:Nat} {d:Dd} (h:At ds i X) (g:ds[i+X.length]?=some d):At ds i (X++[d]):=by
 obtain ⟨p,q,rfl,rfl⟩:=h
 rw [List.getElem?_append_right (by simp)] at g
 simp only [List.length_append,Nat.sub_self] at g
 cases q with
 | nil=>simp at g
 | cons a r =>
  simp at g
  subst g
  exact ⟨p,r,by simp,rfl⟩
theorem At.app {ds X Y:List Dd} {i:Nat} (h:At ds i X) (g:At ds (i+X.length) Y):At ds i (X++Y):=by
 obtain ⟨p,q,rfl,rfl⟩:=h
 obtain ⟨p',q',e,el⟩:=g
 have:p++X=p':=by
  have h1:=congrArg (List.take (p.length+X.length)) e
  rw [show p.length+X.length=(p++X).length by simp,List.take_left,show (p++X).length=p'.length by simp [el]] at h1
  rw [h1,List.append_assoc,List.take_left]
 subst this
 refine ⟨p,q',?_,rfl⟩
 rw [e]
 simp
theorem cut1 {ds:List Dd} {q:Nat}:cut (ds.map encD) (some (q:Int)) (some ((q:Int)+1))=(ds[q]?.toList).map encD:=by
 rw [show ((q:Int)+1)=((q+1:Nat):Int) by omega]
 simp only [EV.cut,HT.sIx_nat]
 by_cases h:q < ds.length
 ·rw [Nat.min_eq_left (by simp; omega),Nat.min_eq_left (by simp; omega),List.getElem?_eq_getElem h,List.drop_eq_getElem_cons (by simpa using h)]
  simp
 ·rw [List.getElem?_eq_none (by omega),Nat.min_eq_right (by simp; omega)]
  simp
  omega
theorem kI {ds X:List Dd} {i:Nat} {a:Int} {M:Mm} (hi:i<=ds.length) (ha:a=i):Okx (NoP M) (eB [.d (.tup (ds.map encD)),.d (.int a),.d (.tup (X.map encD))] M) fun w M'=>(w=.d (.int (a+X.length))/\At ds i X)/\M'=M:=by
 unfold eB
 refine eU rfl ?_
 unfold b_just_these
 clean_wf
 refine dB (fun j L M'=>M'=M/\At ds i (X.take j)/\j<=X.length/\∃ o,L=[some (.d (.tup (ds.map encD))),some (.d (.int (a+j))),some (.d (.tup (X.map encD))),o]) ⟨rfl,At.nil hi,Nat.zero_le _,none,by simp⟩ (fun i L M _ _ t e=>by cases e) ?_ ?_
 ·rintro j d _ _ hx ⟨rfl,hA,hjl,o,rfl⟩
  simp only [List.getElem?_map,Option.map_eq_some_iff] at hx
  obtain ⟨k,hk,rfl⟩:=hx
  obtain ⟨hj,_⟩:=List.getElem?_eq_some_iff.mp hk
  have hle:=hA.le
  rw [List.length_take,Nat.min_eq_left (by omega)] at hle
  clean_wf
  rw [show a+(j:Int)=((i+j:Nat):Int) by omega,cut1]
  have hd1:dep (.tup ((ds[i+j]?.toList).map encD))<=100:=by
   cases ds[i+j]? with
   | none=>simp [dep,deps]
   | some d'=>have:=kS d'; simp only [Option.toList,List.map_cons,List.map_nil,dep,deps]; omega
  refine rN (a:=.tup ((ds[i+j]?.toList).map encD)) (b:=.tup [encD k]) rfl rfl ⟨hd1,by have:=kS k; simp only [dep,deps]; omega⟩ ?_
  refine ⟨_,rfl,?_⟩
  refine gJ (fun h=>?_) (fun h=>?_)
  ·clean_wf
   exact ⟨⟨_,rfl⟩,by simp⟩
  ·have hk2:ds[i+j]?=some k:=by
    cases e:ds[i+j]? with
    | none=>rw [e] at h; simp [eqD,eqDs] at h
    | some d' =>
     rw [e] at h
     simp only [Option.toList,List.map_cons,List.map_nil,eqD,eqDs,Bool.and_true,Bool.not_eq_false'] at h
     rw [aCh h]
   clean_wf
   refine yQ (by rfl) ?_
   clean_wf
   refine ⟨rfl,?_,by omega,some (.d (encD k)),by rw [show ((i+j:Nat):Int)+1=a+((j+1:Nat):Int) by omega]; rfl⟩
   rw [List.take_add_one,hk]
   refine hA.snoc ?_
   rw [List.length_take,Nat.min_eq_left (by omega)]
   exact hk2
 ·rintro _ _ ⟨rfl,hA,_,o,rfl⟩
  clean_wf
  refine ⟨⟨by simp,?_⟩,by simp⟩
  simpa using hA
noncomputable def row (n:Int) (byb:Bool) (e:E) (s b c:Nat):List Dd:=if byb then rowBy n e s b c else rowAl n e s b c
noncomputable def sg (n:Int) (back:Bool) (ds:List Dd):List Dd:=if back then bDs n ds else ds
theorem neg2 {n v:Int} (h0:0<=v) (h1:v < n) : -(-v % n) % n=v:=by
 rw [Int.emod_def (-v) n,show -(-v - n*(-v / n))=v+n*(-v / n) by generalize n*(-v / n)=X; omega,Int.add_mul_emod_self_left,Int.emod_eq_of_lt h0 h1]
theorem aEn {xs ys:List Nat} (h:(!eqD (natsD xs) (natsD ys))=false):xs=ys:=by
 simp only [natsD,eqD,Bool.not_eq_false'] at h
 exact kY h
theorem qZ {n:Int} {G SH:Nat} {ds:List Dd} {i s b c:Nat} {a:Int} {byb back:Bool} {M:Mm} (hn:2<=n) (hn2:n<=1000000) (hok:∀ d∈ds,OkD n G SH d) (hi:i<=ds.length) (ha:a=i) :
  Okx (NoP M) (dY [.d (.int n),.d (.tup (ds.map encD)),.d (.int a),.d (.tup [.int s,.int b,.int c]),.d (.bl byb),.d (.bl back)] M) fun w M'=>(∃ e:E,(∃ k,e=.num k\/∃ j,e=.giv j)/\wf G e/\w=.d (.tup [enc e,.int (a+1)])/\At ds i (sg n back (row n byb e s b c)))/\M'=M:=by
 obtain ⟨ts,hts⟩:∃ ts:List Nat,ts=if byb then [b] else []:=⟨_,rfl⟩
 unfold dY
 refine eU rfl ?_
 unfold b_along_one
 refine cZ (lU (Okx.mono (Q:=fun w M2=>w=.d (natsD ts)/\M2=M) ?_ ?_))
 ·subst hts
  cases byb
  ·clean_wf
   exact ⟨rfl,rfl⟩
  ·clean_wf
   exact ⟨rfl,rfl⟩
 rintro _ M ⟨rfl,rfl⟩
 clean_wf
 refine gJ (fun h=>?_) (fun h=>?_)
 ·clean_wf
  exact ⟨⟨_,rfl⟩,by simp⟩
 have hl:i < ds.length:=by simp at h; omega
 obtain ⟨d,hd⟩:∃ d,ds[i]?=some d:=⟨_,List.getElem?_eq_getElem hl⟩
 have hD:=hok d (List.mem_of_getElem? hd)
 have hA:=(At.nil (ds:=ds) hi).snoc (by simpa using hd)
 clean_wf
 refine iR (hA.get ha) ?_
 refine jE (cZ (fB (Okx.mono (Q:=fun cnd M2=>M2=M/\(cnd=false->∃ v gs,d=.add s v gs ts)) ?_ ?_)))
 ·cases d with
  | scale s' u =>
   simp only [encD]
   clean_wf
   exact ⟨rfl,fun h=>by simp at h⟩
  | add s' v gs ts' =>
   simp only [encD]
   clean_wf
   refine ⟨fun h=>⟨rfl,fun h'=>by simp at h'⟩,fun h1=>?_⟩
   have h1:s'=s:=by simp at h1; omega
   clean_wf
   refine rN (a:=natsD ts') (b:=natsD ts) rfl rfl (by simp [natsD,dep,qK]) ?_
   refine ⟨_,rfl,rfl,fun h2=>?_⟩
   exact ⟨v,gs,by rw [h1,aEn h2]⟩
 rintro cnd M ⟨rfl,hc⟩
 refine gJ (fun h=>?_) (fun h=>?_)
 ·clean_wf
  exact ⟨⟨_,rfl⟩,by simp⟩
 obtain ⟨v,gs,rfl⟩:=hc h
 obtain ⟨o1,o2,o3,o4,o5,o6,o7,o8⟩:=hD
 simp only [List.nil_append] at hA
 have b1:=Int.emod_nonneg (-v) (by omega:n≠0)
 have b2:=Int.emod_lt_of_pos (-v) (by omega:0 < n)
 refine nW (cZ (lU (Okx.mono (Q:=fun w M2=>w=.d (.int (if back then -v % n else v))/\M2=M) ?_ ?_)))
 ·simp only [encD]
  cases back
  ·clean_wf
   exact ⟨rfl,rfl⟩
  ·clean_wf
   exact ⟨rfl,rfl⟩
 rintro _ M ⟨rfl,rfl⟩
 obtain ⟨u,hu⟩:∃ u:Int,u=if back then -v % n else v:=⟨_,rfl⟩
 rw [<- hu]
 have u0:0<=u/\u < n:=by rw [hu]; split <;> omega
 have hv:v=if back then -u % n else u:=by
  rw [hu]
  cases back
  ·rfl
  ·simp only [if_true]; exact (neg2 o2 o3).symm
 simp only [encD]
 cases gs with
 | nil =>
  simp only [natsD,List.map_nil]
  clean_wf
  refine ⟨⟨.num u,⟨u,.inl rfl⟩,⟨u0.1,by omega⟩,rfl,?_⟩,by simp⟩
  have e1:row n byb (.num u) s b c=[.add s u [] ts]:=by
   rw [hts]
   cases byb <;> simp only [row,rowBy,rowAl,Int.emod_eq_of_lt u0.1 u0.2] <;> rfl
  rw [e1]
  cases back
  ·simp only [sg]; rw [hv] at hA; exact hA
  ·simp only [sg,if_true,bDs,List.reverse_cons,List.reverse_nil,List.nil_append,List.map_cons,List.map_nil,bD]; rw [hv] at hA; exact hA
 | cons g r =>
  cases r with
  | nil =>
   simp only [natsD,List.map_cons,List.map_nil]
   clean_wf
   refine jC (by simp) ?_
   refine nW (cZ (fB (Okx.mono (Q:=fun cnd M2=>M2=M/\cnd=!decide (u=1)) ?_ ?_)))
   ·clean_wf
    refine ⟨fun h=>absurd h (by simp),fun _=>?_⟩
    clean_wf
    exact ⟨rfl,rfl⟩
   rintro cnd M ⟨rfl,rfl⟩
   refine gJ (fun h=>?_) (fun h=>?_)
   ·clean_wf
    exact ⟨⟨_,rfl⟩,by simp⟩
   have hu1:u=1:=by simpa using h
   clean_wf
   refine ⟨⟨.giv g,⟨0,.inr ⟨g,rfl⟩⟩,o4 g (by simp),rfl,?_⟩,by simp⟩
   have e1:row n byb (.giv g) s b c=[.add s 1 [g] ts]:=by
    rw [hts]
    cases byb <;> rfl
   rw [e1]
   rw [hu1] at hv
   cases back
   ·simp only [sg]; rw [hv] at hA; exact hA
   ·simp only [sg,if_true,bDs,List.reverse_cons,List.reverse_nil,List.nil_append,List.map_cons,List.map_nil,bD]; rw [hv] at hA; exact hA
  | cons g' r =>
   simp only [natsD,List.map_cons,List.map_nil]
   clean_wf
   refine jC (by simp; omega) ?_
   refine nW (cZ (fB (Okx.mono (Q:=fun cnd M2=>M2=M/\cnd=true) ?_ ?_)))
   ·clean_wf
    refine ⟨fun _=>⟨rfl,rfl⟩,fun h=>absurd h (by simp; omega)⟩
   rintro cnd M ⟨rfl,rfl⟩
   refine aBx rfl ?_
   clean_wf
   exact ⟨⟨_,rfl⟩,by simp⟩
noncomputable def AddD:Dd->Prop
 | .add _ _ _ _=>True
 | .scale _ _=>False
theorem AddD.backs {n:Int} {ds:List Dd} (h:∀ d∈ds,AddD d):∀ d∈bDs n ds,AddD d:=by
 intro d hd
 obtain ⟨x,hx,rfl⟩:=List.mem_map.mp hd
 have:=h x (List.mem_reverse.mp hx)
 cases x with
 | add s c g t=>trivial
 | scale s u=>exact this
theorem cJ {n:Int}:∀ {e:E} {s b c:Nat},∀ d∈rowBy n e s b c,AddD d
 | .num _,_,_,_=>fun d hd=>by rw [List.mem_singleton.mp hd]; trivial
 | .giv _,_,_,_=>fun d hd=>by rw [List.mem_singleton.mp hd]; trivial
 | .op .sum x y,s,b,c=>bR cJ cJ
 | .op .less x y,s,b,c=>bR cJ (AddD.backs cJ)
 | .op .times x y,s,b,c=>bR (bR (bR cJ cJ) (AddD.backs cJ)) (AddD.backs cJ)
theorem eQ {n:Int}:∀ {e:E} {s b c:Nat},∀ d∈rowAl n e s b c,AddD d
 | .num _,_,_,_=>fun d hd=>by rw [List.mem_singleton.mp hd]; trivial
 | .giv _,_,_,_=>fun d hd=>by rw [List.mem_singleton.mp hd]; trivial
 | .op .sum x y,s,b,c=>bR eQ eQ
 | .op .less x y,s,b,c=>bR eQ (AddD.backs eQ)
 | .op .times x y,s,b,c=>bR (bR (bR eQ cJ) (AddD.backs eQ)) (AddD.backs cJ)
theorem qE {n:Int} {d:Dd} {M:Mm} (hn:2<=n) (h:AddD d):Ok (gZ [.d (.int n),.d (encD d)] M) fun w M'=>w=.d (encD (bD n d))/\M'=M:=by
 cases d with
 | add s c g t =>
  unfold gZ
  refine cF rfl ?_
  unfold b_deed_back
  simp only [encD,bD]
  clean_wf
  exact ⟨rfl,by simp⟩
 | scale s u=>exact h.elim
theorem cK {n:Int} {ds:List Dd} {M:Mm} (hn:2<=n) (hd:∀ d∈ds,AddD d) (hl:ds.length<=16777216):Ok (eX [.d (.int n),.d (.tup (ds.map encD))] M) fun w M'=>w=.d (.tup ((bDs n ds).map encD))/\M'=M:=by
 unfold eX
 refine cF rfl ?_
 unfold b_deeds_back
 clean_wf
 refine gD (fun i acc L' M'=>acc=((ds.reverse.take i).map (bD n)).map encD/\M'=M/\∃ a,L'=[a,some (.d (.int n))]) ?_
 clean_wf
 refine ⟨ds.map encD,.inl rfl,⟨rfl,rfl,none,rfl⟩,?_,by simpa using hl,?_,?_⟩
 ·rintro i acc L' M' hi ⟨rfl,rfl,_⟩
  exact ⟨rfl,(fun t e=>by cases e),by simp; omega⟩
 ·rintro i d acc _ _ hx ⟨rfl,rfl,a,rfl⟩
  rw [<- List.map_reverse] at hx
  simp only [List.getElem?_map,Option.map_eq_some_iff] at hx
  obtain ⟨k,hk,rfl⟩:=hx
  have hm:k∈ds:=List.mem_reverse.mp (List.mem_of_getElem? hk)
  clean_wf
  refine (qE hn (hd k hm)).mono ?_
  rintro _ _ ⟨rfl,rfl⟩
  exact ⟨_,_,rfl,rfl,by rw [List.take_add_one,hk]; simp,rfl,_,rfl⟩
 ·rintro acc L' M' ⟨rfl,rfl,_⟩
  clean_wf
  refine jL rfl ?_
  clean_wf
  exact ⟨by rw [List.take_of_length_le (by simp)]; rfl,by simp⟩
theorem bW {n:Int} {ds:List Dd} {M:Mm} (hn:2<=n) (hd:∀ d∈ds,AddD d) (hl:ds.length<=16777216):Ok (bZ [.d (.int n),.d (.tup (ds.map encD))] M) fun w M'=>w=.d (.tup ((bDs n ds).map encD))/\M'=M:=by
 unfold bZ
 refine cF rfl ?_
 unfold b_l_deeds_back
 clean_wf
 refine ⟨ds.map encD,.inl rfl,?_⟩
 refine dB (fun i L M'=>M'=M++[((ds.reverse.take i).map (bD n)).map encD]/\∃ a,L=[some (.d (.int n)),some (.d (.tup (ds.map encD))),some (.ref M.length),a]) ⟨rfl,none,rfl⟩ (fun i L M _ _ t e=>by cases e) ?_ ?_
 ·rintro i d _ _ hx ⟨rfl,a,rfl⟩
  simp only at hx
  rw [<- List.map_reverse] at hx
  simp only [List.getElem?_map,Option.map_eq_some_iff] at hx
  obtain ⟨k,hk,rfl⟩:=hx
  have hm:k∈ds:=List.mem_reverse.mp (List.mem_of_getElem? hk)
  have hok:=hd k hm
  have hi:i < ds.length:=by have:=(List.getElem?_eq_some_iff.mp hk).1; simpa using this
  have e1:ds.reverse.take (i+1)=ds.reverse.take i++[k]:=by rw [List.take_add_one,hk]; rfl
  rw [e1]
  cases k with
  | scale s u=>exact hok.elim
  | add s c g t =>
   simp only [encD]
   clean_wf
   refine bE (by simp [cut,HT.sIx]) ?_
   clean_wf
   refine bE (by simp [cut,HT.sIx]) ?_
   refine rV (xs:=((ds.reverse.take i).map (bD n)).map encD) (by simp) (by simp; omega) ?_
   clean_wf
   exact ⟨by simp [bD,encD,cut,HT.sIx],_,rfl⟩
 ·rintro _ _ ⟨rfl,a,rfl⟩
  rw [List.take_of_length_le (by simp)]
  clean_wf
  refine jL (xs:=(bDs n ds).map encD) ?_ ?_
  ·simp [sv,lr,lv,bDs]
  clean_wf
  exact ⟨rfl,by simp⟩
noncomputable def pap:E->D
 | .num _=>.tup [.str "one"]
 | .giv _=>.tup [.str "one"]
 | .op w a b=>.tup [.str w.str,pap a,pap b]
theorem jN {n:Int} {byb:Bool} {e:E} {s b c:Nat}:∀ d∈row n byb e s b c,AddD d:=by
 cases byb
 ·exact eQ
 ·exact cJ
theorem bH {n:Int} {byb:Bool} {e:E} {s b c:Nat}:(row n byb e s b c).length=many e:=by
 cases byb
 ·exact bQ
 ·exact bC
theorem fV {n:Int} {back:Bool} {ds:List Dd}:(sg n back ds).length=ds.length:=by
 cases back
 ·rfl
 ·exact bI
theorem At.ok {n:Int} {G SH:Nat} {ds X:List Dd} {i:Nat} (hok:∀ d∈ds,OkD n G SH d) (h:At ds i X):∀ d∈X,OkD n G SH d:=by
 obtain ⟨p,q,rfl,rfl⟩:=h
 exact fun d hd=>hok d (by simp [hd])
noncomputable def Snd (n:Int) (G:Nat) (ds:List Dd) (i:Nat) (a:Int) (D0:Nat) (byb back:Bool) (s b c:Nat) (w:W):Prop:=∃ e:E,dp e=D0/\wf G e/\w=.d (.tup [enc e,.int (a+(many e:Nat))])/\At ds i (sg n back (row n byb e s b c))
theorem aAs {n:Int} {G SH:Nat} (hn:2<=n) (hn2:n<=1000000) {ds:List Dd} (hz:ds.length<=16777216) (hok:∀ d∈ds,OkD n G SH d):∀ {e:E} {s b c:Nat} {byb back:Bool} {i:Nat} {a:Int},i<=ds.length->a=i->∀ fuel,2*dp e < fuel->∀ M:Mm,
  Okx (NoP M) (dC fuel [.d (.int n),.d (.tup (ds.map encD)),.d (.int a),.d (pap e),.d (.tup [.int s,.int b,.int c]),.d (.bl byb),.d (.bl back)] M) fun w M'=>Snd n G ds i a (dp e) byb back s b c w/\M'=M:=by
 have one:∀ {s b c:Nat} {byb back:Bool} {i:Nat} {a:Int},i<=ds.length->a=i->∀ M:Mm,Okx (NoP M) (dY [.d (.int n),.d (.tup (ds.map encD)),.d (.int a),.d (.tup [.int s,.int b,.int c]),.d (.bl byb),.d (.bl back)] M) fun w M'=>Snd n G ds i a 0 byb back s b c w/\M'=M:=by
  intro s b c byb back i a hi ha M
  refine (qZ hn hn2 hok hi ha).mono ?_
  rintro w M ⟨⟨e,⟨k,he⟩,hw,rfl,hA⟩,rfl⟩
  refine ⟨⟨e,?_,hw,?_,hA⟩,rfl⟩
  ·rcases he with rfl | ⟨j,rfl⟩ <;> rfl
  ·rcases he with rfl | ⟨j,rfl⟩ <;> rfl
 intro e
 induction e with
 | num k =>
  intro s b c byb back i a hi ha fuel hf M
  obtain ⟨f,rfl⟩:∃ f,fuel=f+1:=⟨fuel - 1,by omega⟩
  unfold dC
  refine eU rfl ?_
  unfold b_along
  simp only [pap]
  clean_wf
  refine (one hi ha M).monoX ?_ ?_
  ·rintro w M ⟨h,rfl⟩
   obtain ⟨e,h1,h2,rfl,h4⟩:=h
   exact sW ⟨⟨e,h1,h2,rfl,h4⟩,by simp⟩
  ·rintro x M ⟨h,rfl⟩
   exact ⟨h,by simp⟩
 | giv k =>
  intro s b c byb back i a hi ha fuel hf M
  obtain ⟨f,rfl⟩:∃ f,fuel=f+1:=⟨fuel - 1,by omega⟩
  unfold dC
  refine eU rfl ?_
  unfold b_along
  simp only [pap]
  clean_wf
  refine (one hi ha M).monoX ?_ ?_
  ·rintro w M ⟨h,rfl⟩
   obtain ⟨e,h1,h2,rfl,h4⟩:=h
   exact sW ⟨⟨e,h1,h2,rfl,h4⟩,by simp⟩
  ·rintro x M ⟨h,rfl⟩
   exact ⟨h,by simp⟩
 | op w x y ihx ihy =>
  intro s b c byb back i a hi ha fuel hf M
  obtain ⟨f,rfl⟩:∃ f,fuel=f+1:=⟨fuel - 1,by omega⟩
  have d1:2*dp x+1 < f:=by simp only [dp] at hf; omega
  have d2:2*dp y+1 < f:=by simp only [dp] at hf; omega
  unfold dC
  refine eU rfl ?_
  unfold b_along
  cases w with
  | sum =>
   simp only [pap,Wd.str]
   have e1:∀ ex ey,row n byb (.op .sum ex ey) s b c=row n byb ex s b c++row n byb ey s b c:=by intro ex ey; cases byb <;> rfl
   cases back with
   | false =>
    clean_wf
    refine (ihx (back:=false) hi ha f (by omega) _).monoX ?_ ?_
    rotate_left
    ·rintro z M ⟨h,rfl⟩
     exact ⟨h,by simp⟩
    rintro _ M ⟨⟨ex,x1,x2,rfl,x4⟩,rfl⟩
    have lx:=x4.le
    rw [fV,bH] at lx
    clean_wf
    refine (ihy (back:=false) (i:=i+many ex) lx (by omega) f (by omega) _).monoX ?_ ?_
    rotate_left
    ·rintro z M ⟨h,rfl⟩
     exact ⟨h,by simp⟩
    rintro _ M ⟨⟨ey,y1,y2,rfl,y4⟩,rfl⟩
    clean_wf
    refine ⟨⟨.op .sum ex ey,by simp only [dp,x1,y1],⟨x2,y2⟩,by simp [enc,many,Wd.str]; omega,?_⟩,by simp⟩
    have g2:At ds (i+(sg n false (row n byb ex s b c)).length) (sg n false (row n byb ey s b c)):=by rw [fV,bH]; exact y4
    have hA:=At.app x4 g2
    rw [e1]
    exact hA
   | true =>
    clean_wf
    refine (ihy (back:=true) hi ha f (by omega) _).monoX ?_ ?_
    rotate_left
    ·rintro z M ⟨h,rfl⟩
     exact ⟨h,by simp⟩
    rintro _ M ⟨⟨ey,y1,y2,rfl,y4⟩,rfl⟩
    have lx:=y4.le
    rw [fV,bH] at lx
    clean_wf
    refine (ihx (back:=true) (i:=i+many ey) lx (by omega) f (by omega) _).monoX ?_ ?_
    rotate_left
    ·rintro z M ⟨h,rfl⟩
     exact ⟨h,by simp⟩
    rintro _ M ⟨⟨ex,x1,x2,rfl,x4⟩,rfl⟩
    clean_wf
    refine ⟨⟨.op .sum ex ey,by simp only [dp,x1,y1],⟨x2,y2⟩,by simp [enc,many,Wd.str]; omega,?_⟩,by simp⟩
    have g2:At ds (i+(sg n true (row n byb ey s b c)).length) (sg n true (row n byb ex s b c)):=by rw [fV,bH]; exact x4
    have hA:=At.app y4 g2
    rw [e1]
    simp only [sg,if_true] at hA ⊢
    rw [dQ]
    exact hA
  | less =>
   simp only [pap,Wd.str]
   have e1:∀ ex ey,row n byb (.op .less ex ey) s b c=row n byb ex s b c++bDs n (row n byb ey s b c):=by intro ex ey; cases byb <;> rfl
   cases back with
   | false =>
    clean_wf
    refine (ihx (back:=false) hi ha f (by omega) _).monoX ?_ ?_
    rotate_left
    ·rintro z M ⟨h,rfl⟩
     exact ⟨h,by simp⟩
    rintro _ M ⟨⟨ex,x1,x2,rfl,x4⟩,rfl⟩
    have lx:=x4.le
    rw [fV,bH] at lx
    clean_wf
    refine (ihy (back:=true) (i:=i+many ex) lx (by omega) f (by omega) _).monoX ?_ ?_
    rotate_left
    ·rintro z M ⟨h,rfl⟩
     exact ⟨h,by simp⟩
    rintro _ M ⟨⟨ey,y1,y2,rfl,y4⟩,rfl⟩
    clean_wf
    refine ⟨⟨.op .less ex ey,by simp only [dp,x1,y1],⟨x2,y2⟩,by simp [enc,many,Wd.str]; omega,?_⟩,by simp⟩
    have g2:At ds (i+(sg n false (row n byb ex s b c)).length) (sg n true (row n byb ey s b c)):=by rw [fV,bH]; exact y4
    have hA:=At.app x4 g2
    rw [e1]
    exact hA
   | true =>
    clean_wf
    refine (ihy (back:=false) hi ha f (by omega) _).monoX ?_ ?_
    rotate_left
    ·rintro z M ⟨h,rfl⟩
     exact ⟨h,by simp⟩
    rintro _ M ⟨⟨ey,y1,y2,rfl,y4⟩,rfl⟩
    have lx:=y4.le
    rw [fV,bH] at lx
    clean_wf
    refine (ihx (back:=true) (i:=i+many ey) lx (by omega) f (by omega) _).monoX ?_ ?_
    rotate_left
    ·rintro z M ⟨h,rfl⟩
     exact ⟨h,by simp⟩
    rintro _ M ⟨⟨ex,x1,x2,rfl,x4⟩,rfl⟩
    clean_wf
    refine ⟨⟨.op .less ex ey,by simp only [dp,x1,y1],⟨x2,y2⟩,by simp [enc,many,Wd.str]; omega,?_⟩,by simp⟩
    have g2:At ds (i+(sg n false (row n byb ey s b c)).length) (sg n true (row n byb ex s b c)):=by rw [fV,bH]; exact x4
    have hA:=At.app y4 g2
    rw [e1]
    have ky:∀ d∈row n byb ey s b c,OkD n G SH d:=At.ok hok y4
    show At ds i (bDs n (row n byb ex s b c++bDs n (row n byb ey s b c)))
    rw [dQ,kT (by omega) ky]
    exact hA
  | times =>
   have e1:∀ ex ey,row n byb (.op .times ex ey) s b c=row n byb ey c b s++row n true ex s c b++bDs n (row n byb ey c b s)++bDs n (row n true ex s c b):=by intro ex ey; cases byb <;> rfl
   simp only [pap,Wd.str]
   clean_wf
   obtain ⟨f,rfl⟩:∃ f',f=f'+1:=⟨f - 1,by omega⟩
   unfold cE
   refine eU rfl ?_
   unfold b_along_times
   cases back with
   | false =>
    clean_wf
    refine (ihy (byb:=byb) (back:=false) (s:=c) (b:=b) (c:=s) hi ha f (by omega) _).monoX ?_ ?_
    rotate_left
    ·rintro z M ⟨h,rfl⟩
     exact ⟨h,by simp⟩
    rintro _ M ⟨⟨ey,y1,y2,rfl,y4⟩,rfl⟩
    have y4:At ds i (row n byb ey c b s):=y4
    have lf:(row n byb ey c b s).length=many ey:=bH
    have lx:=y4.le
    rw [lf] at lx
    clean_wf
    refine (ihx (byb:=true) (back:=false) (s:=s) (b:=c) (c:=b) (i:=i+many ey) lx (by omega) f (by omega) _).monoX ?_ ?_
    rotate_left
    ·rintro z M ⟨h,rfl⟩
     exact ⟨h,by simp⟩
    rintro _ M ⟨⟨ex,x1,x2,rfl,x4⟩,rfl⟩
    have x4:At ds (i+many ey) (row n true ex s c b):=x4
    have lg:(row n true ex s c b).length=many ex:=bH
    have ly:=x4.le
    rw [lg] at ly
    clean_wf
    rw [y4.cut (a:=a) (b:=a+(many ey:Nat)) (by omega) (by omega)]
    clean_wf
    refine (cK hn (jN (n:=n) (e:=ey)) (by omega)).mono ?_
    rintro _ _ ⟨rfl,rfl⟩
    clean_wf
    rw [x4.cut (a:=a+(many ey:Nat)) (b:=a+(many ey:Nat)+(many ex:Nat)) (by omega) (by omega)]
    clean_wf
    refine (cK hn (jN (n:=n) (e:=ex)) (by omega)).mono ?_
    rintro _ _ ⟨rfl,rfl⟩
    refine bE (by simp [bI]; omega) ?_
    clean_wf
    rw [<- List.map_append]
    refine (kI (i:=i+many ey+many ex) (by omega) (by omega)).monoX ?_ ?_
    rotate_left
    ·rintro z M ⟨h,rfl⟩
     exact ⟨h,by simp⟩
    rintro _ M ⟨⟨rfl,hT⟩,rfl⟩
    have hA:At ds i (row n byb ey c b s++row n true ex s c b++(bDs n (row n byb ey c b s)++bDs n (row n true ex s c b))):=At.app (At.app y4 (by rw [lf]; exact x4)) (by rw [List.length_append,lf,lg,<- Nat.add_assoc]; exact hT)
    clean_wf
    refine ⟨⟨.op .times ex ey,by simp only [dp,x1,y1],⟨x2,y2⟩,by simp [enc,many,Wd.str,bI,lf,lg]; omega,?_⟩,by simp⟩
    rw [e1]
    have e2:row n byb ey c b s++row n true ex s c b++(bDs n (row n byb ey c b s)++bDs n (row n true ex s c b))=row n byb ey c b s++row n true ex s c b++bDs n (row n byb ey c b s)++bDs n (row n true ex s c b):=by simp
    rw [<- e2]
    exact hA
   | true =>
    clean_wf
    refine (ihx (byb:=true) (back:=false) (s:=s) (b:=c) (c:=b) hi ha f (by omega) _).monoX ?_ ?_
    rotate_left
    ·rintro z M ⟨h,rfl⟩
     exact ⟨h,by simp⟩
    rintro _ M ⟨⟨ex,x1,x2,rfl,x4⟩,rfl⟩
    have x4:At ds i (row n true ex s c b):=x4
    have lf:(row n true ex s c b).length=many ex:=bH
    have lx:=x4.le
    rw [lf] at lx
    clean_wf
    refine (ihy (byb:=byb) (back:=false) (s:=c) (b:=b) (c:=s) (i:=i+many ex) lx (by omega) f (by omega) _).monoX ?_ ?_
    rotate_left
    ·rintro z M ⟨h,rfl⟩
     exact ⟨h,by simp⟩
    rintro _ M ⟨⟨ey,y1,y2,rfl,y4⟩,rfl⟩
    have y4:At ds (i+many ex) (row n byb ey c b s):=y4
    have lg:(row n byb ey c b s).length=many ey:=bH
    have ly:=y4.le
    rw [lg] at ly
    clean_wf
    rw [x4.cut (a:=a) (b:=a+(many ex:Nat)) (by omega) (by omega)]
    clean_wf
    refine (cK hn (jN (n:=n) (e:=ex)) (by omega)).mono ?_
    rintro _ _ ⟨rfl,rfl⟩
    clean_wf
    rw [y4.cut (a:=a+(many ex:Nat)) (b:=a+(many ex:Nat)+(many ey:Nat)) (by omega) (by omega)]
    clean_wf
    refine (cK hn (jN (n:=n) (e:=ey)) (by omega)).mono ?_
    rintro _ _ ⟨rfl,rfl⟩
    refine bE (by simp [bI]; omega) ?_
    clean_wf
    rw [<- List.map_append]
    refine (kI (i:=i+many ex+many ey) (by omega) (by omega)).monoX ?_ ?_
    rotate_left
    ·rintro z M ⟨h,rfl⟩
     exact ⟨h,by simp⟩
    rintro _ M ⟨⟨rfl,hT⟩,rfl⟩
    have hA:At ds i (row n true ex s c b++row n byb ey c b s++(bDs n (row n true ex s c b)++bDs n (row n byb ey c b s))):=At.app (At.app x4 (by rw [lf]; exact y4)) (by rw [List.length_append,lf,lg,<- Nat.add_assoc]; exact hT)
    clean_wf
    refine ⟨⟨.op .times ex ey,by simp only [dp,x1,y1],⟨x2,y2⟩,by simp [enc,many,Wd.str,bI,lf,lg]; omega,?_⟩,by simp⟩
    rw [e1]
    show At ds i (bDs n (row n byb ey c b s++row n true ex s c b++bDs n (row n byb ey c b s)++bDs n (row n true ex s c b)))
    rw [dQ,dQ,dQ,kT (by omega) (At.ok hok y4),kT (by omega) (At.ok hok x4)]
    have e2:row n true ex s c b++row n byb ey c b s++(bDs n (row n true ex s c b)++bDs n (row n byb ey c b s))=row n true ex s c b++(row n byb ey c b s++(bDs n (row n true ex s c b)++bDs n (row n byb ey c b s))):=by simp
    rw [<- e2]
    exact hA
theorem zQ {n:Int} {G SH:Nat} (hn:2<=n) (hn2:n<=1000000) {ds:List Dd} (hz:ds.length<=16777216) (hok:∀ d∈ds,OkD n G SH d) {e:E} {s b c:Nat} {byb:Bool} (hd:dp e<=20) {M:Mm} :
  Okx (NoP M) (lF [.d (.tup [.int n,.int G,.int SH,.tup (ds.map encD)]),.d (pap e),.d (.int s),.d (.int b),.d (.int c),.d (.bl byb)] M) fun w M'=>(∃ e':E,dp e'=dp e/\wf G e'/\w=.d (enc e')/\ds=row n byb e' s b c)/\M'=M:=by
 unfold lF
 refine eU rfl ?_
 unfold b_shown
 clean_wf
 refine (aAs hn hn2 hz hok (Nat.zero_le _) rfl 50 (by omega) _).monoX ?_ ?_
 rotate_left
 ·rintro z M ⟨h,rfl⟩
  exact ⟨h,by simp⟩
 rintro _ M ⟨⟨e',h1,h2,rfl,h4⟩,rfl⟩
 have h4:At ds 0 (row n byb e' s b c):=h4
 have l4:=h4.le
 rw [bH] at l4
 clean_wf
 refine gJ (fun h=>?_) (fun h=>?_)
 ·clean_wf
  exact ⟨⟨_,rfl⟩,by simp⟩
 clean_wf
 refine ⟨⟨e',h1,h2,rfl,?_⟩,by simp⟩
 obtain ⟨p,q,rfl,hp⟩:=h4
 have:p=[]:=List.length_eq_zero_iff.mp hp
 subst this
 have hq:q=[]:=by
  simp only [List.nil_append,List.length_append,List.length_map,bH] at h l4
  simp at h
  exact List.length_eq_zero_iff.mp (by omega)
 subst hq
 simp
theorem aAl {n:Int} {G SH:Nat} (hn:2<=n) (hn2:n<=1000000) {ds:List Dd} (hz:ds.length<=16777216) (hok:∀ d∈ds,OkD n G SH d) {e:E} {s b c:Nat} {byb:Bool} (hd:dp e<=20) {M:Mm} :
  Ok (fS [.d (.tup [.int n,.int G,.int SH,.tup (ds.map encD)]),.d (pap e),.d (.tup [.int s,.int b,.int c]),.d (.bl byb)] M) fun w M'=>(w=.d .non\/∃ e':E,dp e'=dp e/\wf G e'/\w=.d (enc e')/\ds=row n byb e' s b c)/\M'=M:=by
 unfold fS
 refine eU rfl ?_
 unfold b_l_heard
 clean_wf
 refine yK ?_
 clean_wf
 refine (zQ hn hn2 hz hok hd).monoX ?_ ?_
 ·rintro _ M ⟨⟨e',h1,h2,rfl,h4⟩,rfl⟩
  clean_wf
  exact ⟨.inr ⟨e',h1,h2,rfl,h4⟩,by simp⟩
 ·rintro _ M ⟨⟨j,rfl⟩,rfl⟩
  refine ⟨rfl,?_⟩
  clean_wf
  exact ⟨.inl rfl,by simp⟩
theorem aJa {cs ex:List Int} {t:List Nat} (h:∀ i∈t,i < cs.length):pr (cs++ex) t=pr cs t:=by
 have:∀ (t:List Nat) (a:Int),(∀ i∈t,i < cs.length)->t.foldl (fun a i=>a*(cs++ex).getD i 0) a=t.foldl (fun a i=>a*cs.getD i 0) a:=by
  intro t
  induction t with
  | nil=>intro a _; rfl
  | cons i r ih =>
   intro a h
   have hi:=h i (by simp)
   simp only [List.foldl_cons]
   rw [ih _ fun j hj=>h j (by simp [hj]),show (cs++ex).getD i 0=cs.getD i 0 by simp [List.getD,List.getElem?_append_left hi]]
 exact this t 1 h
theorem aHc {n:Int} {G:Nat} {gs cs ex:List Int} {d:Dd} (h:OkD n G cs.length d):dn n gs (cs++ex) d=dn n gs cs d++ex:=by
 cases d with
 | add s c g t =>
  obtain ⟨o1,_,_,_,o5,_⟩:=h
  simp only [dn]
  rw [aJa o5,show (cs++ex).getD s 0=cs.getD s 0 by simp [List.getD,List.getElem?_append_left o1],List.set_append_left _ _ o1]
 | scale s u =>
  obtain ⟨o1,_⟩:=h
  simp only [dn]
  rw [show (cs++ex).getD s 0=cs.getD s 0 by simp [List.getD,List.getElem?_append_left o1],List.set_append_left _ _ o1]
theorem aBq {n:Int} {G:Nat} {gs ex:List Int}:∀ {ds:List Dd} {cs:List Int},(∀ d∈ds,OkD n G cs.length d)->rn n gs ds (cs++ex)=rn n gs ds cs++ex
 | [],_,_=>rfl
 | d::ds,cs,h=>by
  rw [gC,gC,aHc (h d (by simp))]
  exact aBq fun x hx=>by rw [oE]; exact h x (by simp [hx])
theorem nC {n:Int}:∀ {e:E} {s b c:Nat},∃ v g t,Dd.add s v g t∈rowBy n e s b c
 | .num _,_,_,_=>⟨_,_,_,by simp only [rowBy]; exact List.mem_singleton.mpr rfl⟩
 | .giv _,_,_,_=>⟨_,_,_,by simp only [rowBy]; exact List.mem_singleton.mpr rfl⟩
 | .op .sum x y,s,b,c=>by obtain ⟨v,g,t,h⟩:=nC (n:=n) (e:=x) (s:=s) (b:=b) (c:=c); exact ⟨v,g,t,by simp only [rowBy,List.mem_append]; exact .inl h⟩
 | .op .less x y,s,b,c=>by obtain ⟨v,g,t,h⟩:=nC (n:=n) (e:=x) (s:=s) (b:=b) (c:=c); exact ⟨v,g,t,by simp only [rowBy,List.mem_append]; exact .inl h⟩
 | .op .times x y,s,b,c=>by obtain ⟨v,g,t,h⟩:=nC (n:=n) (e:=x) (s:=s) (b:=c) (c:=b); exact ⟨v,g,t,by simp only [rowBy,List.mem_append]; exact .inl (.inl (.inr h))⟩
theorem pL {n:Int}:∀ {e:E} {s b c:Nat},∃ s' v g t,Dd.add s' v g t∈rowBy n e s b c/\b∈t
 | .num _,_,_,_=>⟨_,_,_,_,by simp only [rowBy]; exact List.mem_singleton.mpr rfl,by simp⟩
 | .giv _,_,_,_=>⟨_,_,_,_,by simp only [rowBy]; exact List.mem_singleton.mpr rfl,by simp⟩
 | .op .sum x y,s,b,c=>by obtain ⟨s',v,g,t,h,k⟩:=pL (n:=n) (e:=x) (s:=s) (b:=b) (c:=c); exact ⟨s',v,g,t,by simp only [rowBy,List.mem_append]; exact .inl h,k⟩
 | .op .less x y,s,b,c=>by obtain ⟨s',v,g,t,h,k⟩:=pL (n:=n) (e:=x) (s:=s) (b:=b) (c:=c); exact ⟨s',v,g,t,by simp only [rowBy,List.mem_append]; exact .inl h,k⟩
 | .op .times x y,s,b,c=>by obtain ⟨s',v,g,t,h,k⟩:=pL (n:=n) (e:=y) (s:=c) (b:=b) (c:=s); exact ⟨s',v,g,t,by simp only [rowBy,List.mem_append]; exact .inl (.inl (.inl h)),k⟩
theorem tM {n:Int}:∀ {e:E} {s b c:Nat},∃ v g t,Dd.add s v g t∈rowAl n e s b c
 | .num _,_,_,_=>⟨_,_,_,by simp only [rowAl]; exact List.mem_singleton.mpr rfl⟩
 | .giv _,_,_,_=>⟨_,_,_,by simp only [rowAl]; exact List.mem_singleton.mpr rfl⟩
 | .op .sum x y,s,b,c=>by obtain ⟨v,g,t,h⟩:=tM (n:=n) (e:=x) (s:=s) (b:=b) (c:=c); exact ⟨v,g,t,by simp only [rowAl,List.mem_append]; exact .inl h⟩
 | .op .less x y,s,b,c=>by obtain ⟨v,g,t,h⟩:=tM (n:=n) (e:=x) (s:=s) (b:=b) (c:=c); exact ⟨v,g,t,by simp only [rowAl,List.mem_append]; exact .inl h⟩
 | .op .times x y,s,b,c=>by obtain ⟨v,g,t,h⟩:=nC (n:=n) (e:=x) (s:=s) (b:=c) (c:=b); exact ⟨v,g,t,by simp only [rowAl,List.mem_append]; exact .inl (.inl (.inr h))⟩
theorem aDn {n:Int} {gs cs:List Int} {e:E} {s b c:Nat} {byb:Bool} (hn:2<=n) (hw:wf gs.length e) (h1:s≠b) (h2:s≠c) (h3:b≠c) (hs:s < 10) (hb:b < 10) (hc:c < 10) (hr:Rs n cs) (hok:∀ d∈row n byb e s b c,OkD n gs.length cs.length d) :
  s < cs.length/\(byb=true->b < cs.length)/\rn n gs (row n byb e s b c) cs=cs.set s ((cs.getD s 0+val n gs e*(if byb then cs.getD b 0 else 1)) % n):=by
 have hex:Rs n (cs++List.replicate 10 0):=by
  intro x hx
  rcases List.mem_append.mp hx with h | h
  ·exact hr x h
  ·rw [List.eq_of_mem_replicate h]; omega
 have hlen:(cs++List.replicate 10 (0:Int)).length=cs.length+10:=by simp
 have hx:=aBq (gs:=gs) (ex:=List.replicate 10 0) hok
 cases byb with
 | true =>
  simp only [row,if_true] at hok hx ⊢
  have s1:s < cs.length:=by obtain ⟨v,g,t,h⟩:=nC (n:=n) (e:=e) (s:=s) (b:=b) (c:=c); exact (hok _ h).1
  have b1:b < cs.length:=by obtain ⟨s',v,g,t,h,k⟩:=pL (n:=n) (e:=e) (s:=s) (b:=b) (c:=c); exact (hok _ h).2.2.2.2.1 b k
  refine ⟨s1,fun _=>b1,?_⟩
  have hr2:=fU (n:=n) (gs:=gs) (S:=cs.length+10) (by omega) (e:=e) (s:=s) (b:=b) (c:=c) hw (by omega) (by omega) (by omega) h1 h2 h3 _ hex hlen
  rw [hx,List.set_append_left _ _ s1] at hr2
  have:=List.append_cancel_right hr2
  rw [this]
  simp [List.getD,List.getElem?_append_left s1,List.getElem?_append_left b1]
 | false =>
  have e0:row n false e s b c=rowAl n e s b c:=rfl
  rw [e0] at hok hx ⊢
  have s1:s < cs.length:=by obtain ⟨v,g,t,h⟩:=tM (n:=n) (e:=e) (s:=s) (b:=b) (c:=c); exact (hok _ h).1
  refine ⟨s1,(fun h=>by cases h),?_⟩
  have hr2:=iH (n:=n) (gs:=gs) (S:=cs.length+10) (by omega) (e:=e) (s:=s) (b:=b) (c:=c) hw (by omega) (by omega) (by omega) h1 h2 h3 _ hex hlen
  rw [hx,List.set_append_left _ _ s1] at hr2
  have:=List.append_cancel_right hr2
  rw [this]
  simp [List.getD,List.getElem?_append_left s1]
theorem zG {n:Int} {G SH:Nat} {e:E} {s b c q:Nat} {byb:Bool} {M:Mm} (hn:2<=n) (hn2:n<=1000000) (hG:G < 1000) (hS:SH < 1000) (hw:wf G e) (hd:dp e<=20) (h1:s≠b) (h2:s≠c) (h3:b≠c) (hs:s < 10) (hb:b < 10) (hc:c < 10)
  (hok:∀ d∈row n byb e s b c,OkD n G SH d) (hz:(row n byb e s b c).length<=16777216) (hq:Bx M q) :
  Ok (kH [.ref q,.d (.tup [.int n,.int G,.int SH,.tup ((row n byb e s b c).map encD)]),.d (enc e),.d (.tup [.int s,.int b,.int c]),.d (.bl byb)] M) fun w M'=>w=.d (.bl true)/\Nx q M M':=by
 unfold kH
 refine cF rfl ?_
 unfold b_l_true
 clean_wf
 refine ⟨by decide,?_⟩
 refine dB (fun i L M'=>Nx q M M'/\Bx M' q/\∃ o9 o10 o11 o12 o13 o14,L=[some (.ref q),some (.d (.tup [.int n,.int G,.int SH,.tup ((row n byb e s b c).map encD)])),some (.d (enc e)),some (.d (.tup [.int s,.int b,.int c])),some (.d (.bl byb)),some (.d (.int n)),some (.d (.int G)),some (.d (.int SH)),some (.d (.tup ((row n byb e s b c).map encD))),o9,o10,o11,o12,o13,o14]) ⟨Nx.refl hq,hq,_,_,_,_,_,_,rfl⟩ (fun i L M _ _ t e=>by cases e) ?_ ?_
 ·rintro i d _ M1 hd' ⟨n1,q1,o9,o10,o11,o12,o13,o14,rfl⟩
  clean_wf
  refine (pT q1 hn hn2 (by omega) (by omega)).mono ?_
  rintro _ M2 ⟨gs,rfl,gl,gr,n2⟩
  have q2:=n2.bx q1
  clean_wf
  refine (pT q2 hn hn2 (by omega) (by omega)).mono ?_
  rintro _ M3 ⟨cs,rfl,cl,cr,n3⟩
  have q3:=n3.bx q2
  have gl:gs.length=G:=by omega
  have cl:cs.length=SH:=by omega
  subst gl cl
  obtain ⟨s1,b1,hrun⟩:=aDn hn hw h1 h2 h3 hs hb hc cr hok
  clean_wf
  refine (xK hn hn2 gr hw 50 (by omega) _).mono ?_
  rintro _ M3 ⟨rfl,rfl⟩
  have v0:0<=val n gs e/\val n gs e < n:=nZ (by omega) gr
  obtain ⟨k,hk⟩:∃ k:Int,k=if byb then cs.getD b 0 else 1:=⟨_,rfl⟩
  rw [<- hk] at hrun
  have k0:0<=k/\k<=n:=by
   rw [hk]
   split
   ·rename_i h; have:=cr.getD (b1 h); omega
   ·omega
  refine jE (cZ (Okx.mono (Q:=fun o M'=>M'=M3/\o=.nx [some (.ref q),some (.d (.tup [.int n,.int gs.length,.int cs.length,.tup ((row n byb e s b c).map encD)])),some (.d (enc e)),some (.d (.tup [.int s,.int b,.int c])),some (.d (.bl byb)),some (.d (.int n)),some (.d (.int gs.length)),some (.d (.int cs.length)),some (.d (.tup ((row n byb e s b c).map encD))),some (.d d),some (.d (intsD gs)),some (.d (intsD cs)),some (.d (.int (val n gs e*k))),o13,o14]) ?_ ?_))
  ·cases byb with
   | true =>
    have e1:atI (cs.map D.int) (b:Int)=some (.int (cs.getD b 0)):=gU (b1 rfl)
    simp only [if_true] at hk
    subst hk
    clean_wf
    simp only [intsD]
    refine iR e1 ?_
    clean_wf
    exact ⟨rfl,rfl⟩
   | false =>
    have hk:k=1:=hk
    subst hk
    clean_wf
    exact ⟨rfl,by rw [Int.mul_one]; rfl⟩
  rintro _ M3 ⟨rfl,rfl⟩
  have e2:atI (cs.map D.int) (s:Int)=some (.int (cs.getD s 0)):=gU s1
  clean_wf
  simp only [intsD]
  clean_wf
  refine iR e2 ?_
  clean_wf
  rw [wK (by simp; omega)]
  refine bE (by simp; omega) ?_
  clean_wf
  rw [show ((s:Int)+1)=((s+1:Nat):Int) by simp,wN (by simp; omega)]
  refine bE (by simp; omega) ?_
  clean_wf
  rw [sV s1,<- hrun]
  refine (wR (G:=gs.length) (S:=cs.length) hn hn2 gr cr hok (by omega)).mono ?_
  rintro _ _ ⟨rfl,rfl⟩
  clean_wf
  refine uE (a:=intsD (rn n gs (row n byb e s b c) cs)) rfl rfl rfl (oO _) ?_
  clean_wf
  refine (aDe (G:=gs.length) (S:=cs.length) hn hn2 gr cr hok (by omega)).mono ?_
  rintro _ _ ⟨rfl,rfl⟩
  clean_wf
  refine uE (a:=intsD (rn n gs (row n byb e s b c) cs)) rfl rfl rfl (oO _) ?_
  clean_wf
  exact ⟨(n1.trans n2).trans n3,q3,_,_,_,_,_,_,rfl⟩
 ·rintro _ M1 ⟨n1,q1,o9,o10,o11,o12,o13,o14,rfl⟩
  clean_wf
  exact ⟨rfl,by rw [n1.take]; exact n1⟩
theorem sM:∀ {e:E},∀ fuel,dp e < fuel->∀ M:Mm,Ok (dH fuel [.d (enc e)] M) fun w M'=>w=.d (pap e)/\M'=M:=by
 intro e
 induction e with
 | num k =>
  intro fuel hf M
  obtain ⟨f,rfl⟩:∃ f,fuel=f+1:=⟨fuel - 1,by omega⟩
  unfold dH
  refine cF rfl ?_
  unfold b_l_paper
  simp only [enc]
  clean_wf
  refine vI (by rfl) (by rfl) (by rfl) ?_
  clean_wf
  exact ⟨rfl,by simp⟩
 | giv k =>
  intro fuel hf M
  obtain ⟨f,rfl⟩:∃ f,fuel=f+1:=⟨fuel - 1,by omega⟩
  unfold dH
  refine cF rfl ?_
  unfold b_l_paper
  simp only [enc]
  clean_wf
  refine vI (by rfl) (by rfl) (by rfl) ?_
  clean_wf
  exact ⟨rfl,by simp⟩
 | op w x y ihx ihy =>
  intro fuel hf M
  obtain ⟨f,rfl⟩:∃ f,fuel=f+1:=⟨fuel - 1,by omega⟩
  have d1:dp x < f:=by simp only [dp] at hf; omega
  have d2:dp y < f:=by simp only [dp] at hf; omega
  unfold dH
  refine cF rfl ?_
  unfold b_l_paper
  have e2:(if false=true then !([D.str "num",D.str "given"].any fun y=>eqD y (.str w.str)) else ([D.str "num",D.str "given"].any fun y=>eqD y (.str w.str)))=false:=by cases w <;> decide
  simp only [enc]
  clean_wf
  refine vI (by rfl) (by rfl) (by rfl) ?_
  rw [e2]
  clean_wf
  refine (ihx f d1 _).mono ?_
  rintro _ _ ⟨rfl,rfl⟩
  clean_wf
  refine (ihy f d2 _).mono ?_
  rintro _ _ ⟨rfl,rfl⟩
  clean_wf
  exact ⟨by simp [pap],by simp⟩
theorem pC {n:Int} {G q:Nat} (hn:2<=n) (hn2:n<=1000000):∀ {e:E},wf G e->∀ fuel,dp e < fuel->∀ M:Mm,Bx M q->Ok (bP fuel [.ref q,.d (.int n),.d (enc e)] M) fun w M'=>∃ e':E,w=.d (enc e')/\pap e'=pap e/\dp e'=dp e/\many e'=many e/\wf G e'/\Nx q M M':=by
 intro e
 induction e with
 | num k =>
  intro hw fuel hf M hq
  obtain ⟨f,rfl⟩:∃ f,fuel=f+1:=⟨fuel - 1,by omega⟩
  unfold bP
  refine cF rfl ?_
  unfold b_l_other_nums
  simp only [enc]
  clean_wf
  refine (nV hq hn hn2).mono ?_
  rintro _ M1 ⟨r,rfl,r0,r1,n1⟩
  clean_wf
  exact ⟨.num r,rfl,rfl,rfl,rfl,⟨r0,by omega⟩,by rw [n1.take]; exact n1⟩
 | giv k =>
  intro hw fuel hf M hq
  obtain ⟨f,rfl⟩:∃ f,fuel=f+1:=⟨fuel - 1,by omega⟩
  unfold bP
  refine cF rfl ?_
  unfold b_l_other_nums
  simp only [enc]
  clean_wf
  exact ⟨.giv k,rfl,rfl,rfl,rfl,hw,by simp; exact Nx.refl hq⟩
 | op w x y ihx ihy =>
  intro hw fuel hf M hq
  obtain ⟨f,rfl⟩:∃ f,fuel=f+1:=⟨fuel - 1,by omega⟩
  have d1:dp x < f:=by simp only [dp] at hf; omega
  have d2:dp y < f:=by simp only [dp] at hf; omega
  unfold bP
  refine cF rfl ?_
  unfold b_l_other_nums
  simp only [enc]
  clean_wf
  refine jC (by cases w <;> decide) ?_
  clean_wf
  refine jC (by cases w <;> decide) ?_
  clean_wf
  refine (ihx hw.1 f d1 _ hq).mono ?_
  rintro _ M1 ⟨ex,rfl,x1,x2,x3,x4,n1⟩
  clean_wf
  refine (ihy hw.2 f d2 _ (n1.bx hq)).mono ?_
  rintro _ M2 ⟨ey,rfl,y1,y2,y3,y4,n2⟩
  clean_wf
  have n3:=n1.trans n2
  refine ⟨.op w ex ey,rfl,by simp only [pap,x1,y1],by simp only [dp,x2,y2],by cases w <;> simp only [many,x3,y3],⟨x4,y4⟩,by rw [n3.take]; exact n3⟩
theorem sO:∀ e:E,dep (pap e)<=dp e+2
 | .num _=>by simp [pap,dep,deps,dp]
 | .giv _=>by simp [pap,dep,deps,dp]
 | .op w a b=>by have:=sO a; have:=sO b; simp [pap,dep,deps,dp]; omega
theorem aHp (e:E):eqD (pap e) (.tup [.str "one"])=decide (dp e=0):=by
 cases e with
 | num _=>rfl
 | giv _=>rfl
 | op w a b=>simp [pap,eqD,eqDs,dp]
theorem yD {t:Int} (h0:0<=t) (h1:t < 3):∃ w:Wd,atI [D.str "sum",D.str "less",D.str "times"] t=some (.str w.str):=by
 have:t=0\/t=1\/t=2:=by omega
 rcases this with rfl | rfl | rfl
 ·exact ⟨.sum,rfl⟩
 ·exact ⟨.less,rfl⟩
 ·exact ⟨.times,rfl⟩
theorem aAp {q:Nat}:∀ (k:Nat) {e:E},dp e<=20->∀ fuel,k < fuel->∀ M:Mm,Bx M q->Ok (fG fuel [.ref q,.d (pap e),.d (.int k)] M) fun w M'=>∃ e':E,w=.d (pap e')/\dp e'<=dp e+1/\Nx q M M':=by
 intro k
 induction k using Nat.strongRecOn with
 | ind k ih =>
 intro e hd fuel hf M hb
 have n:=Nx.refl hb
 obtain ⟨f,rfl⟩:∃ f,fuel=f+1:=⟨fuel - 1,by omega⟩
 unfold fG
 refine cF rfl ?_
 unfold b_l_bent
 clean_wf
 refine yR (a:=pap e) (b:=.tup [.str "one"]) rfl rfl ⟨by have:=sO e; omega,by simp [dep,deps]⟩ ?_
 refine ⟨_,rfl,?_⟩
 rw [aHp]
 refine gJ (fun h=>?_) (fun h=>?_)
 ·clean_wf
  (refine (aO hb (by omega) (by omega)).mono ?_; rintro _ _ ⟨t1,rfl,l_t1,u_t1,n'⟩; replace n:=n.trans n'; replace hb:=n'.bx hb; clear n')
  obtain ⟨w,ew⟩:=yD l_t1 u_t1
  clean_wf
  refine eR ew ?_
  clean_wf
  exact ⟨.op w e e,rfl,by simp [dp],by rw [n.take]; exact n⟩
 cases e with
 | num _=>simp [dp] at h
 | giv _=>simp [dp] at h
 | op w x y =>
 have dx:dp x<=20:=by simp only [dp] at hd; omega
 have dy:dp y<=20:=by simp only [dp] at hd; omega
 simp only [pap]
 clean_wf
 (refine (aO hb (by omega) (by omega)).mono ?_; rintro _ _ ⟨t1,rfl,l_t1,u_t1,n'⟩; replace n:=n.trans n'; replace hb:=n'.bx hb; clear n')
 rename_i M1
 refine jE (cZ (fB (Okx.mono (Q:=fun c M2=>M2=M1/\(c=false->t1≠0/\k≠0)) ?_ ?_)))
 ·clean_wf
  refine ⟨fun h=>⟨rfl,fun h=>by simp at h⟩,fun h=>?_⟩
  clean_wf
  refine ⟨rfl,fun h'=>⟨by simpa using h,by simp at h'; omega⟩⟩
 rintro cnd M1 ⟨rfl,hc⟩
 refine gJ (fun h=>?_) (fun h=>?_)
 ·clean_wf
  exact ⟨.num 0,rfl,by simp [dp],by rw [n.take]; exact n⟩
 obtain ⟨t0,k0⟩:=hc h
 clean_wf
 refine iT (fun h=>?_) (fun h=>?_)
 ·clean_wf
  (refine (aO hb (by omega) (by omega)).mono ?_; rintro _ _ ⟨t2,rfl,l_t2,u_t2,n'⟩; replace n:=n.trans n'; replace hb:=n'.bx hb; clear n')
  obtain ⟨w',ew⟩:=yD l_t2 u_t2
  clean_wf
  refine eR ew ?_
  clean_wf
  rw [show cut [D.str w.str,pap x,pap y] (some 1) none=[pap x,pap y] from rfl]
  refine bE (by simp) ?_
  clean_wf
  exact ⟨.op w' x y,rfl,by simp only [dp]; omega,by rw [n.take]; exact n⟩
 clean_wf
 refine iT (fun h=>?_) (fun h=>?_)
 ·clean_wf
  exact ⟨.op w y x,rfl,by simp only [dp]; omega,by rw [n.take]; exact n⟩
 clean_wf
 refine iT (fun h=>?_) (fun h=>?_)
 ·clean_wf
  rw [show ((k:Int) - 1)=((k - 1:Nat):Int) by omega]
  refine (ih (k - 1) (by omega) (e:=x) dx f (by omega) _ hb).mono ?_
  rintro _ M2 ⟨e',rfl,he,n'⟩
  have n:=n.trans n'
  clean_wf
  exact ⟨.op w e' y,rfl,by simp only [dp]; omega,by rw [n.take]; exact n⟩
 clean_wf
 rw [show ((k:Int) - 1)=((k - 1:Nat):Int) by omega]
 refine (ih (k - 1) (by omega) (e:=y) dy f (by omega) _ hb).mono ?_
 rintro _ M2 ⟨e',rfl,he,n'⟩
 have n:=n.trans n'
 clean_wf
 exact ⟨.op w x e',rfl,by simp only [dp]; omega,by rw [n.take]; exact n⟩
noncomputable def asR (n:Int):E->E
 | .num c=>.num (c % n)
 | .giv i=>.giv i
 | .op w a b=>.op w (asR n a) (asR n b)
theorem jW {ds X:List Dd} {i:Nat} {a:Int} {M:Mm} (h:At ds i X) (ha:a=i):Ok (eB [.d (.tup (ds.map encD)),.d (.int a),.d (.tup (X.map encD))] M) fun w M'=>w=.d (.int (a+X.length))/\M'=M:=by
 unfold eB
 refine eU rfl ?_
 unfold b_just_these
 clean_wf
 refine dB (fun j L M'=>M'=M/\∃ o,L=[some (.d (.tup (ds.map encD))),some (.d (.int (a+j))),some (.d (.tup (X.map encD))),o]) ⟨rfl,none,by simp⟩ (fun i L M _ _ t e=>by cases e) ?_ ?_
 ·rintro j d _ _ hx ⟨rfl,o,rfl⟩
  simp only [List.getElem?_map,Option.map_eq_some_iff] at hx
  obtain ⟨k,hk,rfl⟩:=hx
  obtain ⟨hj,hk⟩:=List.getElem?_eq_some_iff.mp hk
  have h1:At ds (i+j) [k]:=by
   have e1:X=X.take j++([k]++X.drop (j+1)):=by
    have:=List.take_append_drop j X
    rw [List.drop_eq_getElem_cons hj,hk] at this
    exact this.symm
   rw [e1] at h
   have:=h.right.left
   rwa [List.length_take,Nat.min_eq_left (by omega)] at this
  clean_wf
  rw [h1.cut (a:=a+j) (b:=a+j+1) (by omega) (by simp; omega)]
  clean_wf
  refine uE (a:=.tup [encD k]) rfl rfl rfl (by have:=kS k; simp only [dep,deps]; omega) ?_
  clean_wf
  refine yQ (by rfl) ?_
  clean_wf
  exact ⟨rfl,_,by rw [show a+j+1=a+((j+1:Nat):Int) by omega]; rfl⟩
 ·rintro _ _ ⟨rfl,o,rfl⟩
  clean_wf
  exact ⟨by simp,by simp⟩
theorem jY {ds r:List Dd} {i s b c:Nat} {a n v:Int} {ks ts:List Nat} {byb back:Bool} {res:D} {M:Mm} (hn:2<=n) (h:At ds i (.add s v ks ts::r)) (ha:a=i) (ht:ts=if byb then [b] else [])
  (hk:(ks=[]/\res=.tup [.str "num",.int (if back then -v % n else v)])\/∃ j:Nat,ks=[j]/\(if back then -v % n else v)=1/\res=.tup [.str "given",.int j]) :
  Ok (dY [.d (.int n),.d (.tup (ds.map encD)),.d (.int a),.d (.tup [.int s,.int b,.int c]),.d (.bl byb),.d (.bl back)] M) fun w M'=>w=.d (.tup [res,.int (a+1)])/\M'=M:=by
 have hl:=h.le
 simp only [List.length_cons] at hl
 unfold dY
 refine eU rfl ?_
 unfold b_along_one
 refine cZ (lU (Ok.mono (Q:=fun w M2=>w=.d (natsD ts)/\M2=M) ?_ ?_))
 ·subst ht
  cases byb
  ·clean_wf
   exact ⟨rfl,rfl⟩
  ·clean_wf
   exact ⟨rfl,rfl⟩
 rintro _ M ⟨rfl,rfl⟩
 clean_wf
 refine jC (by simp; omega) ?_
 clean_wf
 refine iR (h.get ha) ?_
 refine jE (cZ (fB (Ok.mono (Q:=fun c M2=>c=false/\M2=M) ?_ ?_)))
 ·simp only [encD]
  clean_wf
  refine ⟨fun h=>absurd h (by simp),fun _=>?_⟩
  clean_wf
  refine uE (a:=natsD ts) rfl rfl rfl (by simp [natsD,dep,qK]) ?_
  exact ⟨_,rfl,rfl,rfl⟩
 rintro _ M ⟨rfl,rfl⟩
 refine jC rfl (nW (cZ (lU (Ok.mono (Q:=fun w M2=>w=.d (.int (if back then -v % n else v))/\M2=M) ?_ ?_))))
 ·simp only [encD]
  cases back
  ·clean_wf
   exact ⟨rfl,rfl⟩
  ·clean_wf
   exact ⟨rfl,rfl⟩
 rintro _ M ⟨rfl,rfl⟩
 simp only [encD]
 rcases hk with ⟨rfl,rfl⟩ | ⟨j,rfl,hj,rfl⟩
 ·simp only [natsD,List.map_nil]
  clean_wf
  exact ⟨rfl,by simp⟩
 ·rw [hj]
  simp only [natsD,List.map_cons,List.map_nil]
  clean_wf
  refine jC (by simp) ?_
  clean_wf
  refine ⟨fun h=>absurd h (by simp),fun _=>?_⟩
  clean_wf
  exact ⟨rfl,by simp⟩
theorem pY {n:Int} {G S:Nat} {byb:Bool} (hn:1 < n) {e:E} {s b c:Nat} (hw:wf G e) (hs:s < S) (hb:b < S) (hc:c < S) (h1:s≠b) (h2:s≠c) (h3:b≠c):∀ d∈row n byb e s b c,OkD n G S d:=by
 cases byb
 ·exact gE hn hw hs hb hc h1 h2 h3
 ·exact cY hn hw hs hb hc h1 h2 h3
theorem oU {n v:Int} (hn:2<=n) : -(-(v % n) % n) % n=v % n:=by
 refine Cg.emod ?_
 exact (Cg.neg (Cg.modT (Cg.neg Cg.mod))).trans (Cg.of_eq (by omega))
theorem wW {n:Int} {G S:Nat} (hn:2<=n) (hn2:n<=1000000) {ds:List Dd} (hz:ds.length<=16777216):∀ {e:E} {s b c:Nat} {byb back:Bool} {i:Nat} {a:Int},wf G e->s < S->b < S->c < S->s≠b->s≠c->b≠c->At ds i (sg n back (row n byb e s b c))->a=i->∀ fuel,2*dp e < fuel->∀ M:Mm,
  Ok (dC fuel [.d (.int n),.d (.tup (ds.map encD)),.d (.int a),.d (pap e),.d (.tup [.int s,.int b,.int c]),.d (.bl byb),.d (.bl back)] M) fun w M'=>w=.d (.tup [enc (asR n e),.int (a+(many e:Nat))])/\M'=M:=by
 intro e
 induction e with
 | num k =>
  intro s b c byb back i a hw hs hb hc h1 h2 h3 h ha fuel hf M
  obtain ⟨f,rfl⟩:∃ f,fuel=f+1:=⟨fuel - 1,by omega⟩
  unfold dC
  refine eU rfl ?_
  unfold b_along
  simp only [pap]
  clean_wf
  have h':At ds i [.add s (if back then -(k % n) % n else k % n) [] (if byb then [b] else [])]:=by
   cases byb <;> cases back <;> exact h
  refine (jY (res:=.tup [.str "num",.int (k % n)]) hn h' ha rfl (.inl ⟨rfl,?_⟩)).mono ?_
  ·cases back
   ·rfl
   ·simp only [if_true]
    rw [oU hn]
  rintro _ _ ⟨rfl,rfl⟩
  clean_wf
  exact ⟨rfl,by simp⟩
 | giv k =>
  intro s b c byb back i a hw hs hb hc h1 h2 h3 h ha fuel hf M
  obtain ⟨f,rfl⟩:∃ f,fuel=f+1:=⟨fuel - 1,by omega⟩
  unfold dC
  refine eU rfl ?_
  unfold b_along
  simp only [pap]
  clean_wf
  have h':At ds i [.add s (if back then -(1:Int) % n else 1) [k] (if byb then [b] else [])]:=by
   cases byb <;> cases back <;> exact h
  have e1:(1:Int) % n=1:=Int.emod_eq_of_lt (by omega) (by omega)
  refine (jY (res:=.tup [.str "given",.int k]) hn h' ha rfl (.inr ⟨k,rfl,?_,rfl⟩)).mono ?_
  ·cases back
   ·rfl
   ·simp only [if_true]
    have:=oU (v:=1) hn
    rwa [e1] at this
  rintro _ _ ⟨rfl,rfl⟩
  clean_wf
  exact ⟨rfl,by simp⟩
 | op w x y ihx ihy =>
  intro s b c byb back i a hw hs hb hc h1 h2 h3 h ha fuel hf M
  obtain ⟨f,rfl⟩:∃ f,fuel=f+1:=⟨fuel - 1,by omega⟩
  have d1:2*dp x+1 < f:=by simp only [dp] at hf; omega
  have d2:2*dp y+1 < f:=by simp only [dp] at hf; omega
  unfold dC
  refine eU rfl ?_
  unfold b_along
  cases w with
  | sum =>
   have e1:row n byb (.op .sum x y) s b c=row n byb x s b c++row n byb y s b c:=by cases byb <;> rfl
   rw [e1] at h
   simp only [pap,Wd.str]
   cases back with
   | false =>
    have g2:=h.right
    rw [bH] at g2
    clean_wf
    refine (ihx (back:=false) hw.1 hs hb hc h1 h2 h3 h.left ha f (by omega) _).mono ?_
    rintro _ _ ⟨rfl,rfl⟩
    clean_wf
    refine (ihy (back:=false) hw.2 hs hb hc h1 h2 h3 g2 (by omega) f (by omega) _).mono ?_
    rintro _ _ ⟨rfl,rfl⟩
    clean_wf
    exact ⟨by simp [asR,enc,many,Wd.str]; omega,by simp⟩
   | true =>
    have h:At ds i (bDs n (row n byb x s b c++row n byb y s b c)):=h
    rw [dQ] at h
    have g2:=h.right
    rw [bI,bH] at g2
    clean_wf
    refine (ihy (back:=true) hw.2 hs hb hc h1 h2 h3 h.left ha f (by omega) _).mono ?_
    rintro _ _ ⟨rfl,rfl⟩
    clean_wf
    refine (ihx (back:=true) hw.1 hs hb hc h1 h2 h3 g2 (by omega) f (by omega) _).mono ?_
    rintro _ _ ⟨rfl,rfl⟩
    clean_wf
    exact ⟨by simp [asR,enc,many,Wd.str]; omega,by simp⟩
  | less =>
   have e1:row n byb (.op .less x y) s b c=row n byb x s b c++bDs n (row n byb y s b c):=by cases byb <;> rfl
   rw [e1] at h
   simp only [pap,Wd.str]
   cases back with
   | false =>
    have g2:=h.right
    rw [bH] at g2
    clean_wf
    refine (ihx (back:=false) hw.1 hs hb hc h1 h2 h3 h.left ha f (by omega) _).mono ?_
    rintro _ _ ⟨rfl,rfl⟩
    clean_wf
    refine (ihy (back:=true) hw.2 hs hb hc h1 h2 h3 g2 (by omega) f (by omega) _).mono ?_
    rintro _ _ ⟨rfl,rfl⟩
    clean_wf
    exact ⟨by simp [asR,enc,many,Wd.str]; omega,by simp⟩
   | true =>
    have h:At ds i (bDs n (row n byb x s b c++bDs n (row n byb y s b c))):=h
    rw [dQ,kT (G:=G) (S:=S) (by omega) (pY (by omega) hw.2 hs hb hc h1 h2 h3)] at h
    have g2:=h.right
    rw [bH] at g2
    clean_wf
    refine (ihy (back:=false) hw.2 hs hb hc h1 h2 h3 h.left ha f (by omega) _).mono ?_
    rintro _ _ ⟨rfl,rfl⟩
    clean_wf
    refine (ihx (back:=true) hw.1 hs hb hc h1 h2 h3 g2 (by omega) f (by omega) _).mono ?_
    rintro _ _ ⟨rfl,rfl⟩
    clean_wf
    exact ⟨by simp [asR,enc,many,Wd.str]; omega,by simp⟩
  | times =>
   have e1:row n byb (.op .times x y) s b c=row n byb y c b s++row n true x s c b++bDs n (row n byb y c b s)++bDs n (row n true x s c b):=by cases byb <;> rfl
   rw [e1] at h
   have kA:∀ d∈row n byb y c b s,OkD n G S d:=pY (by omega) hw.2 hc hb hs h3.symm h2.symm h1.symm
   have kB:∀ d∈row n true x s c b,OkD n G S d:=pY (by omega) hw.1 hs hc hb h2 h1 h3.symm
   have aA:∀ d∈row n byb y c b s,AddD d:=jN
   have aB:∀ d∈row n true x s c b,AddD d:=jN
   have lA:(row n byb y c b s).length=many y:=bH
   have lB:(row n true x s c b).length=many x:=bH
   simp only [pap,Wd.str]
   clean_wf
   obtain ⟨f,rfl⟩:∃ f',f=f'+1:=⟨f - 1,by omega⟩
   unfold cE
   refine eU rfl ?_
   unfold b_along_times
   cases back with
   | false =>
    have h:At ds i (row n byb y c b s++row n true x s c b++bDs n (row n byb y c b s)++bDs n (row n true x s c b)):=h
    have hl:=h.le
    simp only [List.length_append,bI,lA,lB] at hl
    have gA:=h.left.left.left
    have gB:=h.left.left.right
    have gT:At ds (i+(many y+many x)) (bDs n (row n byb y c b s)++bDs n (row n true x s c b)):=by
     have:=(List.append_assoc ..▸h).right
     rwa [List.length_append,lA,lB] at this
    rw [lA] at gB
    clean_wf
    refine (ihy (back:=false) hw.2 hc hb hs h3.symm h2.symm h1.symm gA ha f (by omega) _).mono ?_
    rintro _ _ ⟨rfl,rfl⟩
    clean_wf
    refine (ihx (byb:=true) (back:=false) hw.1 hs hc hb h2 h1 h3.symm gB (by omega) f (by omega) _).mono ?_
    rintro _ _ ⟨rfl,rfl⟩
    clean_wf
    rw [gA.cut (a:=a) (b:=a+(many y:Nat)) (by omega) (by omega)]
    clean_wf
    refine (cK hn aA (by omega)).mono ?_
    rintro _ _ ⟨rfl,rfl⟩
    clean_wf
    rw [gB.cut (a:=a+(many y:Nat)) (b:=a+(many y:Nat)+(many x:Nat)) (by omega) (by omega)]
    clean_wf
    refine (cK hn aB (by omega)).mono ?_
    rintro _ _ ⟨rfl,rfl⟩
    refine bE (by simp [bI]; omega) ?_
    clean_wf
    rw [<- List.map_append]
    refine (jW gT (by omega)).mono ?_
    rintro _ _ ⟨rfl,rfl⟩
    clean_wf
    exact ⟨by simp [asR,enc,many,Wd.str,bI,lA,lB]; omega,by simp⟩
   | true =>
    have h:At ds i (bDs n (row n byb y c b s++row n true x s c b++bDs n (row n byb y c b s)++bDs n (row n true x s c b))):=h
    rw [dQ,dQ,dQ,kT (by omega) kA,kT (by omega) kB] at h
    have hl:=h.le
    simp only [List.length_append,bI,lA,lB] at hl
    have gB:=h.left
    have gA:=h.right.left
    have gT:=h.right.right
    rw [lB] at gA
    rw [lA,lB] at gT
    clean_wf
    refine (ihx (byb:=true) (back:=false) hw.1 hs hc hb h2 h1 h3.symm gB ha f (by omega) _).mono ?_
    rintro _ _ ⟨rfl,rfl⟩
    clean_wf
    refine (ihy (back:=false) hw.2 hc hb hs h3.symm h2.symm h1.symm gA (by omega) f (by omega) _).mono ?_
    rintro _ _ ⟨rfl,rfl⟩
    clean_wf
    rw [gB.cut (a:=a) (b:=a+(many x:Nat)) (by omega) (by omega)]
    clean_wf
    refine (cK hn aB (by omega)).mono ?_
    rintro _ _ ⟨rfl,rfl⟩
    clean_wf
    rw [gA.cut (a:=a+(many x:Nat)) (b:=a+(many x:Nat)+(many y:Nat)) (by omega) (by omega)]
    clean_wf
    refine (cK hn aA (by omega)).mono ?_
    rintro _ _ ⟨rfl,rfl⟩
    refine bE (by simp [bI]; omega) ?_
    clean_wf
    rw [<- List.map_append]
    refine (jW gT (by omega)).mono ?_
    rintro _ _ ⟨rfl,rfl⟩
    clean_wf
    exact ⟨by simp [asR,enc,many,Wd.str,bI,lA,lB]; omega,by simp⟩
theorem vH {n:Int} {G SH:Nat} (hn:2<=n) (hn2:n<=1000000) {e p:E} (hp:pap p=pap e) {s b c:Nat} {byb:Bool} (hw:wf G e) (hs:s < 10) (hb:b < 10) (hc:c < 10) (h1:s≠b) (h2:s≠c) (h3:b≠c) (hz:many e<=16777216) (hd:dp e<=20) {M:Mm} :
  Ok (fS [.d (.tup [.int n,.int G,.int SH,.tup ((row n byb e s b c).map encD)]),.d (pap p),.d (.tup [.int s,.int b,.int c]),.d (.bl byb)] M) fun w M'=>w=.d (enc (asR n e))/\M'=M:=by
 rw [hp]
 have hA:At (row n byb e s b c) 0 (row n byb e s b c):=⟨[],[],by simp,rfl⟩
 have hl:(row n byb e s b c).length=many e:=bH
 unfold fS
 refine eU rfl ?_
 unfold b_l_heard
 clean_wf
 refine yK ?_
 clean_wf
 unfold lF
 refine eU rfl ?_
 unfold b_shown
 clean_wf
 refine (wW (G:=G) (S:=10) (back:=false) hn hn2 (by omega) hw hs hb hc h1 h2 h3 hA rfl 50 (by omega) _).mono ?_
 rintro _ M ⟨rfl,rfl⟩
 clean_wf
 refine jC (by simp [hl]) ?_
 clean_wf
 exact ⟨rfl,by simp⟩
theorem lO {n:Int} {G S:Nat} (hn:2<=n) (hn2:n<=1000000):∀ {e:E} {s b c:Nat},wf G e->s < S->b < S->c < S->s≠b->s≠c->b≠c->many e<=4194304->∀ fuel,dp e < fuel->∀ M:Mm,
  Ok (cL fuel [.d (.int n),.d (enc e),.d (.int s),.d (.int b),.d (.int c)] M) (fun w M'=>w=.d (.tup ((rowBy n e s b c).map encD))/\M'=M):=by
 intro e
 induction e with
 | num k =>
  intro s b c _ _ _ _ _ _ _ _ fuel hf M
  obtain ⟨f,rfl⟩:∃ f,fuel=f+1:=⟨fuel - 1,by omega⟩
  unfold cL
  refine cF rfl ?_
  unfold b_l_row_by
  simp only [enc]
  clean_wf
  exact ⟨rfl,by simp⟩
 | giv k =>
  intro s b c _ _ _ _ _ _ _ _ fuel hf M
  obtain ⟨f,rfl⟩:∃ f,fuel=f+1:=⟨fuel - 1,by omega⟩
  unfold cL
  refine cF rfl ?_
  unfold b_l_row_by
  simp only [enc]
  clean_wf
  exact ⟨rfl,by simp⟩
 | op w x y ihx ihy =>
  intro s b c hw hs hb hc h1 h2 h3 hm fuel hf M
  obtain ⟨f,rfl⟩:∃ f,fuel=f+1:=⟨fuel - 1,by omega⟩
  have hm':=yN (w:=w) (x:=x) (y:=y)
  have d1:dp x < f:=by simp only [dp] at hf; omega
  have d2:dp y < f:=by simp only [dp] at hf; omega
  unfold cL
  refine cF rfl ?_
  unfold b_l_row_by
  cases w with
  | sum =>
   simp only [enc,Wd.str]
   clean_wf
   refine (ihx hw.1 hs hb hc h1 h2 h3 (by omega) f d1 _).mono ?_
   rintro _ _ ⟨rfl,rfl⟩
   clean_wf
   refine (ihy hw.2 hs hb hc h1 h2 h3 (by omega) f d2 _).mono ?_
   rintro _ _ ⟨rfl,rfl⟩
   clean_wf
   refine (bW hn cJ (by rw [bC]; omega)).mono ?_
   rintro _ _ ⟨rfl,rfl⟩
   clean_wf
   refine bE (by simp [bC]; omega) ?_
   clean_wf
   exact ⟨by simp [rowBy],by simp⟩
  | less =>
   simp only [enc,Wd.str]
   clean_wf
   refine (ihx hw.1 hs hb hc h1 h2 h3 (by omega) f d1 _).mono ?_
   rintro _ _ ⟨rfl,rfl⟩
   clean_wf
   refine (ihy hw.2 hs hb hc h1 h2 h3 (by omega) f d2 _).mono ?_
   rintro _ _ ⟨rfl,rfl⟩
   clean_wf
   refine (bW hn cJ (by rw [bC]; omega)).mono ?_
   rintro _ _ ⟨rfl,rfl⟩
   clean_wf
   refine bE (by simp [bC,bI]; omega) ?_
   clean_wf
   exact ⟨by simp [rowBy],by simp⟩
  | times =>
   have hm2:2*(many x+many y)<=4194304:=by simp only [many] at hm; omega
   simp only [enc,Wd.str]
   clean_wf
   refine (ihy hw.2 hc hb hs h3.symm h2.symm h1.symm (by omega) f d2 _).mono ?_
   rintro _ _ ⟨rfl,rfl⟩
   clean_wf
   refine (ihx hw.1 hs hc hb h2 h1 h3.symm (by omega) f d1 _).mono ?_
   rintro _ _ ⟨rfl,rfl⟩
   clean_wf
   refine bE (by simp [bC]; omega) ?_
   clean_wf
   refine (bW hn cJ (by rw [bC]; omega)).mono ?_
   rintro _ _ ⟨rfl,rfl⟩
   refine bE (by simp [bC,bI]; omega) ?_
   clean_wf
   refine (bW hn cJ (by rw [bC]; omega)).mono ?_
   rintro _ _ ⟨rfl,rfl⟩
   refine bE (by simp [bC,bI]; omega) ?_
   clean_wf
   exact ⟨by simp [rowBy],by simp⟩
theorem nX {n:Int} {G S:Nat} (hn:2<=n) (hn2:n<=1000000):∀ {e:E} {s b c:Nat},wf G e->s < S->b < S->c < S->s≠b->s≠c->b≠c->many e<=4194304->∀ fuel,dp e < fuel->fuel<=50->∀ M:Mm,
  Ok (bV fuel [.d (.int n),.d (enc e),.d (.int s),.d (.int b),.d (.int c)] M) (fun w M'=>w=.d (.tup ((rowAl n e s b c).map encD))/\M'=M):=by
 intro e
 induction e with
 | num k =>
  intro s b c _ _ _ _ _ _ _ _ fuel hf hf2 M
  obtain ⟨f,rfl⟩:∃ f,fuel=f+1:=⟨fuel - 1,by omega⟩
  unfold bV
  refine cF rfl ?_
  unfold b_l_row_alone
  simp only [enc]
  clean_wf
  exact ⟨rfl,by simp⟩
 | giv k =>
  intro s b c _ _ _ _ _ _ _ _ fuel hf hf2 M
  obtain ⟨f,rfl⟩:∃ f,fuel=f+1:=⟨fuel - 1,by omega⟩
  unfold bV
  refine cF rfl ?_
  unfold b_l_row_alone
  simp only [enc]
  clean_wf
  exact ⟨rfl,by simp⟩
 | op w x y ihx ihy =>
  intro s b c hw hs hb hc h1 h2 h3 hm fuel hf hf2 M
  obtain ⟨f,rfl⟩:∃ f,fuel=f+1:=⟨fuel - 1,by omega⟩
  have hm':=yN (w:=w) (x:=x) (y:=y)
  have d1:dp x < f:=by simp only [dp] at hf; omega
  have d2:dp y < f:=by simp only [dp] at hf; omega
  unfold bV
  refine cF rfl ?_
  unfold b_l_row_alone
  cases w with
  | sum =>
   simp only [enc,Wd.str]
   clean_wf
   refine (ihx hw.1 hs hb hc h1 h2 h3 (by omega) f d1 (by omega) _).mono ?_
   rintro _ _ ⟨rfl,rfl⟩
   clean_wf
   refine (ihy hw.2 hs hb hc h1 h2 h3 (by omega) f d2 (by omega) _).mono ?_
   rintro _ _ ⟨rfl,rfl⟩
   clean_wf
   refine (bW hn eQ (by rw [bQ]; omega)).mono ?_
   rintro _ _ ⟨rfl,rfl⟩
   clean_wf
   refine bE (by simp [bQ]; omega) ?_
   clean_wf
   exact ⟨by simp [rowAl],by simp⟩
  | less =>
   simp only [enc,Wd.str]
   clean_wf
   refine (ihx hw.1 hs hb hc h1 h2 h3 (by omega) f d1 (by omega) _).mono ?_
   rintro _ _ ⟨rfl,rfl⟩
   clean_wf
   refine (ihy hw.2 hs hb hc h1 h2 h3 (by omega) f d2 (by omega) _).mono ?_
   rintro _ _ ⟨rfl,rfl⟩
   clean_wf
   refine (bW hn eQ (by rw [bQ]; omega)).mono ?_
   rintro _ _ ⟨rfl,rfl⟩
   clean_wf
   refine bE (by simp [bQ,bI]; omega) ?_
   clean_wf
   exact ⟨by simp [rowAl],by simp⟩
  | times =>
   have hm2:2*(many x+many y)<=4194304:=by simp only [many] at hm; omega
   simp only [enc,Wd.str]
   clean_wf
   refine (ihy hw.2 hc hb hs h3.symm h2.symm h1.symm (by omega) f d2 (by omega) _).mono ?_
   rintro _ _ ⟨rfl,rfl⟩
   clean_wf
   refine (lO hn hn2 hw.1 hs hc hb h2 h1 h3.symm (by omega) 50 (by omega) _).mono ?_
   rintro _ _ ⟨rfl,rfl⟩
   clean_wf
   refine bE (by simp [bQ,bC]; omega) ?_
   clean_wf
   refine (bW hn eQ (by rw [bQ]; omega)).mono ?_
   rintro _ _ ⟨rfl,rfl⟩
   refine bE (by simp [bQ,bC,bI]; omega) ?_
   clean_wf
   refine (bW hn cJ (by rw [bC]; omega)).mono ?_
   rintro _ _ ⟨rfl,rfl⟩
   refine bE (by simp [bQ,bC,bI]; omega) ?_
   clean_wf
   exact ⟨by simp [rowAl],by simp⟩
theorem pW {n:Int} {G:Nat} {e:E} {s b c:Nat} {byb:Bool} {M:Mm} (hn:2<=n) (hn2:n<=1000000) (hw:wf G e) (hs:s < 10) (hb:b < 10) (hc:c < 10) (h1:s≠b) (h2:s≠c) (h3:b≠c) (hz:many e<=4194304) (hd:dp e<=20) :
  Ok (mK [.d (.bl byb),.d (.int n),.d (enc e),.d (.tup [.int s,.int b,.int c])] M) fun w M'=>w=.d (.tup ((row n byb e s b c).map encD))/\M'=M:=by
 unfold mK
 refine cF rfl ?_
 unfold b_l_row
 cases byb with
 | true =>
  clean_wf
  refine (lO (S:=10) hn hn2 hw hs hb hc h1 h2 h3 hz 50 (by omega) _).mono ?_
  rintro _ _ ⟨rfl,rfl⟩
  clean_wf
  exact ⟨rfl,by simp⟩
 | false =>
  clean_wf
  refine (nX (S:=10) hn hn2 hw hs hb hc h1 h2 h3 hz 50 (by omega) (by omega) _).mono ?_
  rintro _ _ ⟨rfl,rfl⟩
  clean_wf
  exact ⟨rfl,by simp⟩
theorem wS {G q:Nat} {M:Mm} (hG:G < 1000) (hb:Bx M q):Ok (jJ [.ref q,.d (.int G)] M) fun w M'=>∃ e:E,w=.d (enc e)/\wf G e/\dp e<=7/\Nx q M M':=by
 have n:=Nx.refl hb
 unfold jJ
 refine cF rfl ?_
 unfold b_l_great
 clean_wf
 refine (nR hG 0 50 _ q 1 0 hb (by omega) rfl (by omega)).mono ?_
 rintro _ M1 ⟨e0,rfl,d0,w0,n'⟩
 replace n:=n.trans n'
 replace hb:=n'.bx hb
 clear n'
 clean_wf
 (refine (aO hb (by omega) (by omega)).mono ?_; rintro _ _ ⟨t1,rfl,l_t1,u_t1,n'⟩; replace n:=n.trans n'; replace hb:=n'.bx hb; clear n')
 rename_i M2
 clean_wf
 refine ⟨by simp only [in62,decide_eq_true_eq]; omega,?_⟩
 refine dB (fun i L M'=>M'=M2/\∃ (e:E) (o3:Option W),wf G e/\dp e<=i/\L=[some (.ref q),some (.d (.int G)),some (.d (enc e)),o3,none]) ⟨rfl,e0,none,w0,d0,rfl⟩ (fun i L M _ _ t e=>by cases e) ?_ ?_
 ·rintro i d _ M2 hd ⟨rfl,e,o3,hw,hdp,rfl⟩
  clean_wf
  exact ⟨rfl,.op .times e e,_,⟨hw,hw⟩,by simp only [dp]; omega,rfl⟩
 rintro _ M2 ⟨rfl,e,o3,hw,hdp,rfl⟩
 have hdp:dp e<=3:=by simp only [rngD,List.length_map,List.length_range] at hdp; omega
 clean_wf
 (refine (aO hb (by omega) (by omega)).mono ?_; rintro _ _ ⟨t2,rfl,l_t2,u_t2,n'⟩; replace n:=n.trans n'; replace hb:=n'.bx hb; clear n')
 rename_i M3
 clean_wf
 refine ⟨by simp only [in62,decide_eq_true_eq]; omega,?_⟩
 refine dB (fun i L M'=>Nx q M M'/\Bx M' q/\∃ (e:E) (o3 o4:Option W),wf G e/\dp e<=3+i/\L=[some (.ref q),some (.d (.int G)),some (.d (enc e)),o3,o4]) ⟨n,hb,e,_,none,hw,hdp,rfl⟩ (fun i L M _ _ t e=>by cases e) ?_ ?_
 ·clear n hb hw hdp
  rintro i d _ M4 hd ⟨n,hb,e,o3,o4,hw,hdp,rfl⟩
  clean_wf
  refine (nR hG 0 50 _ q 1 0 hb (by omega) rfl (by omega)).mono ?_
  rintro _ M5 ⟨e1,rfl,d1,w1,n'⟩
  replace n:=n.trans n'
  replace hb:=n'.bx hb
  clear n'
  clean_wf
  (refine (aO hb (by omega) (by omega)).mono ?_; rintro _ _ ⟨t3,rfl,l_t3,u_t3,n'⟩; replace n:=n.trans n'; replace hb:=n'.bx hb; clear n')
  obtain ⟨w,ew,hw2⟩:=at2 l_t3 u_t3 (.tup [enc e,enc e1]) (.tup [enc e1,enc e])
  clean_wf
  refine eR ew ?_
  rcases hw2 with rfl | rfl
  ·refine bE (by simp) ?_
   clean_wf
   exact ⟨n,hb,.op .times e e1,_,_,⟨hw,w1⟩,by simp only [dp]; omega,rfl⟩
  ·refine bE (by simp) ?_
   clean_wf
   exact ⟨n,hb,.op .times e1 e,_,_,⟨w1,hw⟩,by simp only [dp]; omega,rfl⟩
 ·clear n hb hw hdp
  rintro _ M4 ⟨n,hb,e,o3,o4,hw,hdp,rfl⟩
  have hdp:dp e<=7:=by simp only [rngD,List.length_map,List.length_range] at hdp; omega
  clean_wf
  exact ⟨hw,hdp,by rw [n.take]; exact n⟩
noncomputable def topS:Dd->List Int
 | .add s _ _ t=>(s:Int)::t.map fun k:Nat=>(k:Int)
 | .scale s _=>[(s:Int)]
theorem yM (d:Dd):topS d≠[]:=by cases d <;> simp [topS]
theorem uG {n:Int} {G q:Nat} {ds:List Dd} {M:Mm} (hz:ds.length<=100000) (h0:ds≠[]) (hA:∀ d∈ds,AddD d) (hok:∀ d∈ds,OkD n G 9 d) (hb:Bx M q) :
  Ok (gY [.ref q,.d (.tup (ds.map encD))] M) fun w M'=>(∃ SH:Nat,w=.d (.int SH)/\1<=SH/\SH<=9/\∀ d∈ds,OkD n G SH d)/\Nx q M M':=by
 have n0:=Nx.refl hb
 unfold gY
 refine cF rfl ?_
 unfold b_l_shelves
 clean_wf
 refine gD (fun i acc L' M'=>acc=((ds.take i).map fun d=>mxL (topS d)).map D.int/\M'=M/\∃ a,L'=[a]) ?_
 clean_wf
 refine ⟨⟨rfl,rfl,none,rfl⟩,?_,by simp; omega,?_,?_⟩
 ·rintro i acc L' M' hi ⟨rfl,rfl,_⟩
  exact ⟨rfl,(fun t e=>by cases e),by simp; omega⟩
 ·rintro i d acc _ M hx ⟨rfl,rfl,a,rfl⟩
  simp only [List.getElem?_map,Option.map_eq_some_iff] at hx
  obtain ⟨d,hd,rfl⟩:=hx
  have hm:=List.mem_of_getElem? hd
  have hi:ds.take (i+1)=ds.take i++[d]:=by rw [List.take_add_one,hd]; rfl
  cases d with
  | scale s u=>exact (hA _ hm).elim
  | add s v g t =>
   have ht:=(hok _ hm).2.2.2.2.2.2.2
   simp only [encD,natsD]
   clean_wf
   refine bE (by simp; omega) ?_
   clean_wf
   refine xW (ns:=topS (.add s v g t)) rfl (by simp [topS,List.map_map]) (yM _) ?_
   exact ⟨_,_,rfl,rfl,by rw [hi]; simp,rfl,_,rfl⟩
 ·rintro acc _ M ⟨rfl,rfl,a,rfl⟩
  have e1:ds.take (Src.ds { ds:=ds.map encD,k:=none:Src }).length=ds:=by simp
  rw [e1]
  clean_wf
  have hne:(ds.map fun d=>mxL (topS d))≠[]:=by simpa using h0
  refine xW (ns:=ds.map fun d=>mxL (topS d)) rfl rfl hne ?_
  obtain ⟨m,hm⟩:∃ m,mxL (ds.map fun d=>mxL (topS d))=m:=⟨_,rfl⟩
  have up:∀ d∈ds,∀ x∈topS d,x<=m:=by
   intro d hd x hx
   rw [<- hm]
   exact Int.le_trans (wF hx) (wF (List.mem_map.mpr ⟨d,hd,rfl⟩))
  have lo:0<=m/\m<=8:=by
   obtain ⟨d,hd,e⟩:=List.mem_map.mp (tN hne)
   have h1:=tN (yM d)
   rw [e,hm] at h1
   cases d with
   | scale s u=>exact (hA _ hd).elim
   | add s v g t =>
    obtain ⟨o1,_,_,_,o5,_⟩:=hok _ hd
    simp only [topS,List.mem_cons,List.mem_map] at h1
    rcases h1 with h1 | ⟨k,hk,h1⟩
    ·omega
    ·have:=o5 k hk; omega
  rw [hm]
  clean_wf
  refine (aO hb (by omega) (by omega)).mono ?_
  rintro _ M1 ⟨t1,rfl,l1,u1,n1⟩
  clean_wf
  obtain ⟨SH,e2,b1,b2,b3⟩:∃ SH:Nat,(if 1+m+t1 < 9 then 1+m+t1 else 9)=(SH:Int)/\1<=SH/\SH<=9/\m < SH:=⟨(if 1+m+t1 < 9 then 1+m+t1 else 9).toNat,by split <;> omega,by split <;> omega,by split <;> omega,by split <;> omega⟩
  rw [e2]
  refine ⟨⟨SH,rfl,b1,b2,fun d hd=>?_⟩,by rw [n1.take]; exact n1⟩
  have hu:=up d hd
  cases d with
  | scale s u=>exact (hA _ hd).elim
  | add s v g t =>
   obtain ⟨o1,o2,o3,o4,o5,o6,o7,o8⟩:=hok _ hd
   have us:=hu s (by simp [topS])
   refine ⟨by omega,o2,o3,o4,fun k hk=>?_,o6,o7,o8⟩
   have:=hu (k:Int) (by simp only [topS,List.mem_cons,List.mem_map]; exact .inr ⟨k,hk,rfl⟩)
   omega
theorem qG {p:Nat->Bool} {m:Nat} {M:Mm} {Q:W->Mm->Prop} {L:Lc} {js:List (Option Nat)} {fi:FI} {ct:FT} {w:W} (hm:m<=100) (e:outL js L=[none,some w])
  (hi:Ok (fi L M) fun s M'=>s=⟨rngD 0 m,none⟩/\M'=M) (hp:∀ (i:Nat) (M:Mm),i < m->Ok (ct [some (.d (.int i)),some w] M) fun b M'=>b=p i/\M'=M)
  (q:Q (.d (.lst (((List.range m).filter p).map fun k=>D.int (k:Nat)))) M):Ok (eComp js fi (gN 0) ct (eV 0) L M) Q:=by
 refine gD (fun i acc L' M'=>acc=((List.range i).filter p).map (fun k=>D.int (k:Nat))/\M'=M/\∃ a,L'=[a,some w]) ?_
 refine hi.mono ?_
 rintro _ M ⟨rfl,rfl⟩
 refine ⟨⟨rfl,rfl,none,e⟩,?_,by simp [rngD]; omega,?_,?_⟩
 ·rintro i acc L' M' hi ⟨rfl,rfl,_⟩
  refine ⟨rfl,(fun t e=>by cases e),?_⟩
  have:=List.length_filter_le p (List.range i)
  simp only [List.length_map,List.length_range] at this ⊢
  omega
 ·rintro i d acc _ M hx ⟨rfl,rfl,a,rfl⟩
  obtain ⟨hi,rfl⟩:=hV hx
  rw [show (0+(i:Int))=((i:Nat):Int) by omega]
  clean_wf
  refine (hp i _ (by omega)).mono ?_
  rintro _ _ ⟨rfl,rfl⟩
  refine ⟨fun h=>?_,fun h=>?_⟩
  ·clean_wf
   exact ⟨_,_,rfl,rfl,by rw [List.range_succ,List.filter_append]; simp [h],rfl,_,rfl⟩
  ·exact ⟨_,rfl,by rw [List.range_succ,List.filter_append]; simp [h],rfl,_,rfl⟩
 ·rintro acc _ M ⟨rfl,rfl,a,rfl⟩
  rw [show (Src.ds { ds:=rngD 0 m,k:=none:Src }).length=m by simp [rngD]]
  exact q
theorem vD {t:List Nat} {i:Nat}:((t.map fun k=>D.int (k:Nat)).any fun y=>eqD y (.int i))=decide (i∈t):=by
 induction t with
 | nil=>simp
 | cons a r ih =>
  simp only [List.map_cons,List.any_cons,ih,eqD]
  by_cases h:a=i
  ·subst h; simp
  ·have h1:¬ ((a:Int)=(i:Int)):=by omega
   have h2:¬ i=a:=fun z=>h z.symm
   simp [h1,h2]
theorem sB (t:List Nat):(t.map fun k=>D.int (k:Nat)).all flatD=true:=by
 induction t with
 | nil=>rfl
 | cons a r ih=>rw [List.map_cons,List.all_cons,ih]; rfl
theorem pN {l:List Nat} {t:Int} (h0:0<=t) (h1:t < (l.length:Nat)):∃ k,k∈l/\atI (l.map fun k=>D.int (k:Nat)) t=some (.int (k:Nat)):=by
 obtain ⟨j,rfl⟩:∃ j:Nat,t=j:=⟨t.toNat,by omega⟩
 have hj:j < l.length:=by omega
 refine ⟨l[j],List.getElem_mem hj,?_⟩
 simp only [atI,ixN]
 rw [if_pos (by omega),if_pos (by simp; omega)]
 simp [hj]
theorem qP (t:List Nat) (lo hi:Option Int):∃ t':List Nat,cut (t.map fun k=>D.int (k:Nat)) lo hi=(t'.map fun k=>D.int (k:Nat))/\(∀ i∈t',i∈t)/\t'.length<=t.length:=by
 unfold cut
 refine ⟨_,by rw [<- List.map_drop,<- List.map_take],fun i h=>List.mem_of_mem_drop (List.mem_of_mem_take h),?_⟩
 simp only [List.length_take,List.length_drop]
 omega
theorem lV {n:Int} {G SH q s:Nat} {v form:Int} {g t:List Nat} {M:Mm} (hS:1<=SH) (hS2:SH<=9) (hok:OkD n G SH (.add s v g t)) (hb:Bx M q) :
  Ok (dL [.ref q,.d (.int SH),.d (encD (.add s v g t)),.d (.int form)] M) fun w M'=>∃ d:Dd,w=.d (encD d)/\OkD n G SH d/\Nx q M M':=by
 obtain ⟨o1,o2,o3,o4,o5,o6,o7,o8⟩:=hok
 have n0:=Nx.refl hb
 unfold dL
 refine cF rfl ?_
 unfold b_l_other_shelves
 simp only [encD]
 refine cZ (fB (Okx.mono (Q:=fun c M2=>M2=M/\(c=false->2<=SH)) ?_ ?_))
 ·clean_wf
  refine ⟨fun h=>⟨rfl,fun h=>by simp at h⟩,fun h=>?_⟩
  clean_wf
  exact ⟨rfl,fun h=>by simp at h; omega⟩
 rintro cnd M ⟨rfl,hc⟩
 refine gJ (fun h=>?_) (fun h=>?_)
 ·clean_wf
  refine qG (p:=fun i=>!decide (i∈t)) (m:=SH) (by omega) rfl ?_ ?_ ?_
  ·clean_wf
   exact ⟨by simp only [in62,decide_eq_true_eq]; omega,rfl,rfl⟩
  ·intro i M hi
   clean_wf
   refine vI (neg:=true) (d:=.int i) (xs:=t.map fun k=>D.int (k:Nat)) rfl rfl (sB t) ?_
   rw [vD]
   exact ⟨_,rfl,rfl,rfl⟩
  have hs:s∈(List.range SH).filter fun i=>!decide (i∈t):=by simp [o1,o6]
  obtain ⟨l,hl⟩:∃ l,l=(List.range SH).filter fun i=>!decide (i∈t):=⟨_,rfl⟩
  rw [<- hl] at hs ⊢
  have lp:0 < l.length:=List.length_pos_of_mem hs
  have ll:l.length<=9:=by rw [hl]; have:=List.length_filter_le (fun i=>!decide (i∈t)) (List.range SH); simp only [List.length_range] at this; omega
  clean_wf
  refine (aO hb (by simp; omega) (by simp; omega)).mono ?_
  rintro _ M1 ⟨t1,rfl,l1,u1,n1⟩
  obtain ⟨k,hk,ek⟩:=pN (l:=l) l1 (by simpa using u1)
  clean_wf
  refine eR ek ?_
  clean_wf
  rw [show cut [D.str "add",.int s,.int v,natsD g,natsD t] none (some 1)=[D.str "add"] from rfl]
  refine bE (by simp) ?_
  clean_wf
  rw [show cut [D.str "add",.int s,.int v,natsD g,natsD t] (some 2) none=[.int v,natsD g,natsD t] from rfl]
  refine bE (by simp) ?_
  clean_wf
  rw [hl] at hk
  have hk2:k < SH/\k∉t:=by simpa using hk
  exact ⟨.add k v g t,rfl,⟨hk2.1,o2,o3,o4,o5,hk2.2,o7,o8⟩,by rw [n1.take]; exact n1⟩
 have hS3:=hc h
 clean_wf
 refine qG (p:=fun i=>!decide (i=s)) (m:=SH) (by omega) rfl ?_ ?_ ?_
 ·clean_wf
  exact ⟨by simp only [in62,decide_eq_true_eq]; omega,rfl,rfl⟩
 ·intro i M hi
  clean_wf
  refine ⟨?_,rfl⟩
  by_cases h:i=s
  ·simp [h]
  ·have:¬ ((i:Int)=(s:Int)):=by omega
   simp [h,this]
 obtain ⟨l,hl⟩:∃ l,l=(List.range SH).filter fun i=>!decide (i=s):=⟨_,rfl⟩
 have lm:∀ k∈l,k < SH/\k≠s:=by intro k hk; rw [hl] at hk; simpa using hk
 have lp:0 < l.length:=by
  have:(if s=0 then 1 else 0)∈l:=by rw [hl]; split <;> simp <;> omega
  exact List.length_pos_of_mem this
 have ll:l.length<=9:=by rw [hl]; have:=List.length_filter_le (fun i=>!decide (i=s)) (List.range SH); simp only [List.length_range] at this; omega
 rw [<- hl]
 clean_wf
 refine (aO hb (by simp; omega) (by simp; omega)).mono ?_
 rintro _ M1 ⟨t1,rfl,l1,u1,n1⟩
 have hb1:=n1.bx hb
 obtain ⟨k,hk,ek⟩:=pN (l:=l) l1 (by simpa using u1)
 clean_wf
 refine eR ek ?_
 clean_wf
 simp only [natsD]
 refine bE (by simp; omega) ?_
 clean_wf
 obtain ⟨t',et,ht1,ht2⟩:=qP t none (some (-1))
 refine bE (by simp; omega) ?_
 clean_wf
 refine (aO hb1 (by omega) (by omega)).mono ?_
 rintro _ M2 ⟨t2,rfl,l2,u2,n2⟩
 have n3:=n1.trans n2
 have four:∃ ts:List Nat,atI [D.tup (t.map (fun k=>D.int (k:Nat))++[.int k]),D.tup (cut (t.map fun k=>D.int (k:Nat)) none (some (-1))),D.tup [.int k],D.tup (t.map (fun k=>D.int (k:Nat))++t.map fun k=>D.int (k:Nat))] t2=some (.tup (ts.map fun k=>D.int (k:Nat)))/\ts.length<=8/\∀ i∈ts,i < SH/\i≠s:=by
  have kt:∀ i∈t,i < SH/\i≠s:=fun i hi=>⟨o5 i hi,fun z=>o6 (z▸hi)⟩
  have:t2=0\/t2=1\/t2=2\/t2=3:=by omega
  rcases this with rfl | rfl | rfl | rfl
  ·refine ⟨t++[k],by rw [List.map_append]; rfl,by simp; omega,fun i hi=>?_⟩
   rcases List.mem_append.mp hi with h | h
   ·exact kt i h
   ·rw [List.mem_singleton.mp h]; exact lm k hk
  ·exact ⟨t',by rw [et]; rfl,by omega,fun i hi=>kt i (ht1 i hi)⟩
  ·exact ⟨[k],rfl,by simp,fun i hi=>by rw [List.mem_singleton.mp hi]; exact lm k hk⟩
  ·refine ⟨t++t,by rw [List.map_append]; rfl,by simp; omega,fun i hi=>?_⟩
   rcases List.mem_append.mp hi with h | h <;> exact kt i h
 obtain ⟨ts,ets,tl,tm⟩:=four
 clean_wf
 refine eR ets ?_
 clean_wf
 refine uU (ns:=ts.map fun k:Nat=>(k:Int)) (fT _) (by simp; omega) ?_
 rw [rT]
 clean_wf
 refine jL (xs:=((srtN ts).map fun k:Nat=>(k:Int)).map D.int) rfl ?_
 rw [show ((srtN ts).map fun k:Nat=>(k:Int)).map D.int=(srtN ts).map fun k=>D.int (k:Nat) by rw [List.map_map]; rfl]
 obtain ⟨t4,e4,m4,q4⟩:=qP (srtN ts) none (some 4)
 have l4:t4.length<=4:=by
  have:=congrArg List.length e4
  rw [List.length_map] at this
  rw [<- this]
  simp only [cut,List.length_take,List.length_drop]
  refine Nat.le_trans (Nat.min_le_left _ _) (Nat.le_trans (Nat.sub_le _ _) ?_)
  simp only [HT.sIx]
  rw [if_neg (by omega)]
  exact Nat.le_trans (Nat.min_le_left _ _) (by decide)
 clean_wf
 rw [e4,show cut [D.str "add",.int s,.int v,.tup (g.map fun k=>D.int (k:Nat)),.tup (t.map fun k=>D.int (k:Nat))] none (some 4)=[D.str "add",.int s,.int v,.tup (g.map fun k=>D.int (k:Nat))] from rfl]
 refine bE (by simp) ?_
 clean_wf
 have g4:∀ i∈t4,i < SH/\i≠s:=fun i hi=>tm i (uL.mp (m4 i hi))
 exact ⟨.add s v g t4,rfl,⟨o1,o2,o3,o4,fun i hi=>(g4 i hi).1,fun z=>(g4 s z).2 rfl,o7,l4⟩,by rw [n3.take]; exact n3⟩
theorem jM (ds:List Dd) (lo hi:Option Int):∃ ds':List Dd,cut (ds.map encD) lo hi=ds'.map encD/\(∀ d∈ds',d∈ds)/\ds'.length<=ds.length:=by
 unfold cut
 refine ⟨_,by rw [<- List.map_drop,<- List.map_take],fun i h=>List.mem_of_mem_drop (List.mem_of_mem_take h),?_⟩
 simp only [List.length_take,List.length_drop]
 omega
theorem aKp {ds:List Dd} {t:Int} (h0:0<=t) (h1:t < (ds.length:Nat)):∃ d,d∈ds/\atI (ds.map encD) t=some (encD d):=by
 obtain ⟨j,rfl⟩:∃ j:Nat,t=j:=⟨t.toNat,by omega⟩
 have hj:j < ds.length:=by omega
 refine ⟨ds[j],List.getElem_mem hj,?_⟩
 simp only [atI,ixN]
 rw [if_pos (by omega),if_pos (by simp; omega)]
 simp [hj]
theorem yG:∀ ds:List Dd,deps (ds.map encD)<=10
 | []=>by simp [deps]
 | d::r=>by have:=kS d; have:=yG r; simp only [List.map_cons,deps]; omega
theorem vC {n:Int} {G SH q:Nat} {ds:List Dd} {M:Mm} (hn:2<=n) (hn2:n<=1000000) (hG:G<=8) (hS:1<=SH) (hS2:SH<=9) (hok:∀ d∈ds,OkD n G SH d) (hz:ds.length<=5000000) (hb:Bx M q) :
  Ok (iS [.ref q,.d (.tup [.int n,.int G,.int SH,.tup (ds.map encD)])] M) fun w M'=>∃ ds':List Dd,w=.d (.tup [.int n,.int G,.int SH,.tup (ds'.map encD)])/\(∀ d∈ds',OkD n G SH d)/\ds'.length<=3*ds.length+1/\Nx q M M':=by
 have n0:=Nx.refl hb
 unfold iS
 refine cF rfl ?_
 unfold b_l_spoilt
 clean_wf
 refine yR (a:=.tup (ds.map encD)) (b:=.tup []) rfl rfl ⟨by have:=yG ds; simp only [dep]; omega,by simp [dep,deps]⟩ ?_
 refine ⟨_,rfl,?_⟩
 refine gJ (fun h=>?_) (fun h=>?_)
 ·clean_wf
  refine (sH hb hn hn2 hG hS hS2).mono ?_
  rintro _ M1 ⟨d,rfl,od,_,n1⟩
  clean_wf
  exact ⟨[d],rfl,fun x hx=>by rw [List.mem_singleton.mp hx]; exact od,by simp,by rw [n1.take]; exact n1⟩
 have hl:0 < ds.length:=by
  cases ds with
  | nil=>simp [eqD,eqDs] at h
  | cons a r=>simp
 clean_wf
 refine (aO hb (by simp; omega) (by simp; omega)).mono ?_
 rintro _ M1 ⟨t1,rfl,l1,u1,n1⟩
 have hb1:=n1.bx hb
 clean_wf
 refine (aO hb1 (by omega) (by omega)).mono ?_
 rintro _ M2 ⟨t2,rfl,l2,u2,n2⟩
 have hb2:=n2.bx hb1
 obtain ⟨d8,hd8,e8⟩:=aKp (ds:=ds) l1 (by simpa using u1)
 have o8:=hok d8 hd8
 clean_wf
 refine iR e8 ?_
 clean_wf
 refine (sH hb2 hn hn2 hG hS hS2).mono ?_
 rintro _ M3 ⟨d9,rfl,o9,_,n3⟩
 have hb3:=n3.bx hb2
 have nn:=(n1.trans n2).trans n3
 clear n1 n2 n3 hb hb1 hb2 n0
 refine jE (cZ (Okx.mono (Q:=fun o M'=>Nx q M M'/\Bx M' q/\∃ (d9:Dd) (o10 o11:Option W),OkD n G SH d9/\o=.nx [some (.ref q),some (.d (.tup [.int n,.int G,.int SH,.tup (ds.map encD)])),some (.d (.int n)),some (.d (.int G)),some (.d (.int SH)),some (.d (.tup (ds.map encD))),some (.d (.int t1)),some (.d (.int t2)),some (.d (encD d8)),some (.d (encD d9)),o10,o11]) ?_ ?_))
 ·refine fB (Okx.mono (Q:=fun c M2=>M2=M3/\(c=true->∃ s v g t,d8=.add s v g t)) ?_ ?_)
  ·cases d8 with
   | add s v g t =>
    simp only [encD]
    clean_wf
    refine ⟨fun _=>?_,fun _=>⟨rfl,fun h=>by cases h⟩⟩
    clean_wf
    exact ⟨rfl,fun _=>⟨s,v,g,t,rfl⟩⟩
   | scale s u =>
    simp only [encD]
    clean_wf
    refine ⟨fun _=>?_,fun _=>⟨rfl,fun h=>by cases h⟩⟩
    clean_wf
    exact ⟨rfl,fun h=>absurd h (by decide)⟩
  rintro c M3 ⟨rfl,hc⟩
  refine gJ (fun h=>?_) (fun h=>?_)
  ·obtain ⟨s,v,g,t,rfl⟩:=hc h
   clean_wf
   refine (lV hS hS2 o8 hb3).mono ?_
   rintro _ M4 ⟨d,rfl,od,n4⟩
   clean_wf
   exact ⟨nn.trans n4,n4.bx hb3,d,none,none,od,rfl⟩
  ·clean_wf
   exact ⟨nn,hb3,d9,none,none,o9,rfl⟩
 clear nn hb3
 rintro _ M3 ⟨nn,hb3,d9,o10,o11,o9,rfl⟩
 refine cZ (Okx.mono (Q:=fun o M'=>Nx q M M'/\Bx M' q/\∃ (d9:Dd) (o10 o11:Option W),OkD n G SH d9/\o=.nx [some (.ref q),some (.d (.tup [.int n,.int G,.int SH,.tup (ds.map encD)])),some (.d (.int n)),some (.d (.int G)),some (.d (.int SH)),some (.d (.tup (ds.map encD))),some (.d (.int t1)),some (.d (.int t2)),some (.d (encD d8)),some (.d (encD d9)),o10,o11]) ?_ ?_)
 ·refine fB (Okx.mono (Q:=fun c M2=>M2=M3/\(c=true->∃ s v g t,d8=.add s v g t)) ?_ ?_)
  ·cases d8 with
   | add s v g t =>
    simp only [encD]
    clean_wf
    refine ⟨fun _=>?_,fun _=>⟨rfl,fun h=>by cases h⟩⟩
    clean_wf
    exact ⟨rfl,fun _=>⟨s,v,g,t,rfl⟩⟩
   | scale s u =>
    simp only [encD]
    clean_wf
    refine ⟨fun _=>?_,fun _=>⟨rfl,fun h=>by cases h⟩⟩
    clean_wf
    exact ⟨rfl,fun h=>absurd h (by decide)⟩
  rintro c M3 ⟨rfl,hc⟩
  refine gJ (fun h=>?_) (fun h=>?_)
  ·obtain ⟨s,v,g,t,rfl⟩:=hc h
   obtain ⟨a1,a2,a3,a4,a5,a6,a7,a8⟩:=o8
   simp only [encD]
   clean_wf
   refine (aO hb3 (by omega) (by omega)).mono ?_
   rintro _ M4 ⟨t3,rfl,l3,u3,n4⟩
   clean_wf
   rw [show cut [D.str "add",.int s,.int v,natsD g,natsD t] none (some 2)=[D.str "add",.int s] from rfl]
   refine bE (by simp) ?_
   clean_wf
   rw [show cut [D.str "add",.int s,.int v,natsD g,natsD t] (some 3) none=[natsD g,natsD t] from rfl]
   refine bE (by simp) ?_
   clean_wf
   exact ⟨nn.trans n4,n4.bx hb3,.add s ((v+1+t3) % n) g t,_,_,⟨a1,Int.emod_nonneg _ (by omega),Int.emod_lt_of_pos _ (by omega),a4,a5,a6,a7,a8⟩,rfl⟩
  ·clean_wf
   exact ⟨nn,hb3,d9,o10,o11,o9,rfl⟩
 clear nn hb3
 rintro _ M3 ⟨nn,hb3,d9,o10,o11,o9,rfl⟩
 refine cZ (Okx.mono (Q:=fun o M'=>Nx q M M'/\Bx M' q/\∃ (d9:Dd) (o10 o11:Option W),OkD n G SH d9/\o=.nx [some (.ref q),some (.d (.tup [.int n,.int G,.int SH,.tup (ds.map encD)])),some (.d (.int n)),some (.d (.int G)),some (.d (.int SH)),some (.d (.tup (ds.map encD))),some (.d (.int t1)),some (.d (.int t2)),some (.d (encD d8)),some (.d (encD d9)),o10,o11]) ?_ ?_)
 ·refine fB (Okx.mono (Q:=fun c M2=>M2=M3/\(c=true->(∃ s v g t,d8=.add s v g t)/\0 < G)) ?_ ?_)
  ·cases d8 with
   | add s v g t =>
    simp only [encD]
    clean_wf
    refine ⟨fun _=>?_,fun _=>⟨rfl,fun h=>by cases h⟩⟩
    clean_wf
    exact ⟨rfl,fun h=>⟨⟨s,v,g,t,rfl⟩,by simpa using h⟩⟩
   | scale s u =>
    simp only [encD]
    clean_wf
    refine ⟨fun _=>?_,fun _=>⟨rfl,fun h=>by cases h⟩⟩
    clean_wf
    exact ⟨rfl,fun h=>absurd h (by decide)⟩
  rintro c M3 ⟨rfl,hc⟩
  refine gJ (fun h=>?_) (fun h=>?_)
  ·obtain ⟨⟨s,v,g,t,rfl⟩,G0⟩:=hc h
   obtain ⟨a1,a2,a3,a4,a5,a6,a7,a8⟩:=o8
   simp only [encD]
   clean_wf
   refine (aO hb3 (by omega) (by omega)).mono ?_
   rintro _ M4 ⟨t3,rfl,l3,u3,n4⟩
   have lt3:∃ k:Nat,t3=k/\k < G:=⟨t3.toNat,by omega,by omega⟩
   obtain ⟨k3,rfl,k3l⟩:=lt3
   clean_wf
   simp only [natsD]
   refine bE (by simp; omega) ?_
   clean_wf
   refine uU (ns:=(g++[k3]).map fun k:Nat=>(k:Int)) (by rw [<- fT,List.map_append]; rfl) (by simp; omega) ?_
   rw [rT]
   clean_wf
   refine jL (xs:=((srtN (g++[k3])).map fun k:Nat=>(k:Int)).map D.int) rfl ?_
   rw [show ((srtN (g++[k3])).map fun k:Nat=>(k:Int)).map D.int=(srtN (g++[k3])).map fun k=>D.int (k:Nat) by rw [List.map_map]; rfl]
   obtain ⟨t4,e4,m4,q4⟩:=qP (srtN (g++[k3])) none (some 4)
   have l4:t4.length<=4:=by
    have:=congrArg List.length e4
    rw [List.length_map] at this
    rw [<- this]
    simp only [cut,List.length_take,List.length_drop]
    refine Nat.le_trans (Nat.min_le_left _ _) (Nat.le_trans (Nat.sub_le _ _) ?_)
    simp only [HT.sIx]
    rw [if_neg (by omega)]
    exact Nat.le_trans (Nat.min_le_left _ _) (by decide)
   clean_wf
   rw [e4,show cut [D.str "add",.int s,.int v,.tup (g.map fun k=>D.int (k:Nat)),.tup (t.map fun k=>D.int (k:Nat))] none (some 3)=[D.str "add",.int s,.int v] from rfl]
   refine bE (by simp) ?_
   clean_wf
   rw [show cut [D.str "add",.int s,.int v,.tup (g.map fun k=>D.int (k:Nat)),.tup (t.map fun k=>D.int (k:Nat))] (some 4) none=[.tup (t.map fun k=>D.int (k:Nat))] from rfl]
   refine bE (by simp) ?_
   clean_wf
   have g4:∀ i∈t4,i < G:=fun i hi=>by
    rcases List.mem_append.mp (uL.mp (m4 i hi)) with h | h
    ·exact a4 i h
    ·rw [List.mem_singleton.mp h]; exact k3l
   exact ⟨nn.trans n4,n4.bx hb3,.add s v t4 t,_,_,⟨a1,a2,a3,g4,a5,a6,l4,a8⟩,rfl⟩
  ·clean_wf
   exact ⟨nn,hb3,d9,o10,o11,o9,rfl⟩
 clear nn hb3
 rintro _ M3 ⟨nn,hb3,d9,o10,o11,o9,rfl⟩
 have mem2:∀ {x y:List Dd},(∀ d∈x,d∈ds)->(∀ d∈y,d∈ds)->∀ d∈x++y,OkD n G SH d:=fun h1 h2 d hd=>by
  rcases List.mem_append.mp hd with h | h
  ·exact hok d (h1 d h)
  ·exact hok d (h2 d h)
 refine cZ (fB (Okx.mono (Q:=fun c M2=>M2=M3) ?_ ?_))
 ·clean_wf
  refine vI (neg:=false) (d:=.int t2) (xs:=[.int 3,.int 4]) rfl rfl rfl ?_
  exact ⟨_,rfl,rfl⟩
 rintro c _ rfl
 refine gJ (fun h=>?_) (fun h=>?_)
 ·clean_wf
  obtain ⟨x1,e1,m1,q1⟩:=jM ds none (some (t1+t2 - 3))
  obtain ⟨x2,e2,m2,q2⟩:=jM ds (some (t1+4 - t2)) none
  rw [e1,e2]
  refine bE (by simp; omega) ?_
  rw [<- List.map_append]
  clean_wf
  exact ⟨mem2 m1 m2,by simp; omega,by rw [nn.take]; exact nn⟩
 refine nW (cZ (fB (aGe (aGc ?_))))
 clean_wf
 refine gJ (fun h=>?_) (fun h=>?_)
 ·clean_wf
  obtain ⟨x1,e1,m1,q1⟩:=jM ds none (some t1)
  obtain ⟨x2,e2,m2,q2⟩:=jM ds (some t1) (some (t1+2))
  obtain ⟨x3,e3,m3,q3⟩:=jM ds (some (t1+2)) none
  rw [e1,e2]
  refine rP (by simp; omega) ?_
  rw [<- List.map_reverse]
  refine bE (by simp; omega) ?_
  clean_wf
  rw [e3]
  refine bE (by simp; omega) ?_
  rw [<- List.map_append,<- List.map_append]
  clean_wf
  refine ⟨fun d hd=>?_,by simp; omega,by rw [nn.take]; exact nn⟩
  rcases List.mem_append.mp hd with h | h
  ·rcases List.mem_append.mp h with h | h
   ·exact hok d (m1 d h)
   ·exact hok d (m2 d (List.mem_reverse.mp h))
  ·exact hok d (m3 d h)
 clean_wf
 refine gJ (fun h=>?_) (fun h=>?_)
 ·clean_wf
  refine (aO hb3 (by simp <;> omega) (by simp <;> omega)).mono ?_
  rintro _ M4 ⟨t3,rfl,l3,u3,n4⟩
  replace nn:=nn.trans n4
  clean_wf
  obtain ⟨x1,e1,m1,q1⟩:=jM ds none (some t3)
  obtain ⟨x2,e2,m2,q2⟩:=jM ds (some t3) none
  rw [e1]
  refine bE (by simp; omega) ?_
  clean_wf
  rw [e2]
  refine bE (by simp; omega) ?_
  rw [show x1.map encD++[encD d9]++x2.map encD=(x1++[d9]++x2).map encD by simp]
  clean_wf
  refine ⟨fun d hd=>?_,by simp; omega,by rw [nn.take]; exact nn⟩
  rcases List.mem_append.mp hd with h | h
  ·rcases List.mem_append.mp h with h | h
   ·exact hok d (m1 d h)
   ·rw [List.mem_singleton.mp h]; exact o9
  ·exact hok d (m2 d h)
 clean_wf
 obtain ⟨x1,e1,m1,q1⟩:=jM ds none (some t1)
 obtain ⟨x2,e2,m2,q2⟩:=jM ds (some (t1+1)) none
 rw [e1]
 refine bE (by simp; omega) ?_
 clean_wf
 rw [e2]
 refine bE (by simp; omega) ?_
 rw [show x1.map encD++[encD d9]++x2.map encD=(x1++[d9]++x2).map encD by simp]
 clean_wf
 refine ⟨fun d hd=>?_,by simp; omega,by rw [nn.take]; exact nn⟩
 rcases List.mem_append.mp hd with h | h
 ·rcases List.mem_append.mp h with h | h
  ·exact hok d (m1 d h)
  ·rw [List.mem_singleton.mp h]; exact o9
 ·exact hok d (m2 d h)
noncomputable def SD (S:Nat):Dd->Prop
 | .add s _ _ t=>s < S/\∀ i∈t,i < S
 | .scale s _=>s < S
noncomputable def AllS (S:Nat) (ds:List Dd):Prop:=∀ d∈ds,SD S d
theorem SD.bD {S:Nat} {n:Int} {d:Dd}:SD S (bD n d) ↔ SD S d:=by cases d <;> rfl
theorem AllS.app {S:Nat} {x y:List Dd}:AllS S (x++y) ↔ AllS S x/\AllS S y:=by
 constructor
 ·exact fun h=>⟨fun d hd=>h d (List.mem_append.mpr (.inl hd)),fun d hd=>h d (List.mem_append.mpr (.inr hd))⟩
 ·rintro ⟨h,g⟩ d hd
  exact (List.mem_append.mp hd).elim (h d) (g d)
theorem AllS.bDs {S:Nat} {n:Int} {x:List Dd}:AllS S (bDs n x) ↔ AllS S x:=by
 unfold LS.bDs
 constructor
 ·intro h d hd
  exact SD.bD.mp (h _ (List.mem_map.mpr ⟨d,List.mem_reverse.mpr hd,rfl⟩))
 ·intro h d hd
  obtain ⟨d',h',rfl⟩:=List.mem_map.mp hd
  exact SD.bD.mpr (h d' (List.mem_reverse.mp h'))
theorem aDp {u w:Wd} (h:u.str=w.str):u=w:=by cases u <;> cases w <;> first | rfl | exact absurd h (by decide)
theorem tP {n:Int} {S:Nat}:∀ {e e':E} {s b c:Nat},pap e'=pap e->AllS S (rowBy n e s b c)->AllS S (rowBy n e' s b c):=by
 intro e
 induction e with
 | num k =>
  intro e' s b c h g
  have:=g _ (List.mem_singleton.mpr rfl)
  cases e' with
  | op w x y=>simp [pap] at h
  | _=>intro d hd; rw [List.mem_singleton.mp hd]; exact this
 | giv k =>
  intro e' s b c h g
  have:=g _ (List.mem_singleton.mpr rfl)
  cases e' with
  | op w x y=>simp [pap] at h
  | _=>intro d hd; rw [List.mem_singleton.mp hd]; exact this
 | op w x y ihx ihy =>
  intro e' s b c h g
  cases e' with
  | num k=>simp [pap] at h
  | giv k=>simp [pap] at h
  | op u x' y' =>
   simp only [pap,D.tup.injEq,List.cons.injEq,and_true,D.str.injEq] at h
   obtain ⟨h0,h1,h2⟩:=h
   have h0:=aDp h0
   subst h0
   cases u <;> simp only [rowBy,AllS.app,AllS.bDs] at g ⊢
   ·exact ⟨ihx h1 g.1,ihy h2 g.2⟩
   ·exact ⟨ihx h1 g.1,ihy h2 g.2⟩
   ·exact ⟨⟨⟨ihy h2 g.1.1.1,ihx h1 g.1.1.2⟩,ihy h2 g.1.1.1⟩,ihx h1 g.1.1.2⟩
theorem aEx {n:Int} {S:Nat}:∀ {e e':E} {s b c:Nat},pap e'=pap e->AllS S (rowAl n e s b c)->AllS S (rowAl n e' s b c):=by
 intro e
 induction e with
 | num k =>
  intro e' s b c h g
  have:=g _ (List.mem_singleton.mpr rfl)
  cases e' with
  | op w x y=>simp [pap] at h
  | _=>intro d hd; rw [List.mem_singleton.mp hd]; exact this
 | giv k =>
  intro e' s b c h g
  have:=g _ (List.mem_singleton.mpr rfl)
  cases e' with
  | op w x y=>simp [pap] at h
  | _=>intro d hd; rw [List.mem_singleton.mp hd]; exact this
 | op w x y ihx ihy =>
  intro e' s b c h g
  cases e' with
  | num k=>simp [pap] at h
  | giv k=>simp [pap] at h
  | op u x' y' =>
   simp only [pap,D.tup.injEq,List.cons.injEq,and_true,D.str.injEq] at h
   obtain ⟨h0,h1,h2⟩:=h
   have h0:=aDp h0
   subst h0
   cases u <;> simp only [rowAl,AllS.app,AllS.bDs] at g ⊢
   ·exact ⟨ihx h1 g.1,ihy h2 g.2⟩
   ·exact ⟨ihx h1 g.1,ihy h2 g.2⟩
   ·exact ⟨⟨⟨ihy h2 g.1.1.1,tP h1 g.1.1.2⟩,ihy h2 g.1.1.1⟩,tP h1 g.1.1.2⟩
theorem aCg {n:Int} {G SH:Nat} {byb:Bool} {e e':E} {s b c:Nat} (hn:1 < n) (hw:wf G e') (hs:s < 9) (hb:b < 9) (hc:c < 9) (h1:s≠b) (h2:s≠c) (h3:b≠c) (hp:pap e'=pap e) (h:∀ d∈row n byb e s b c,OkD n G SH d):∀ d∈row n byb e' s b c,OkD n G SH d:=by
 have g:AllS SH (row n byb e s b c):=fun d hd=>by
  have:=h d hd
  cases d with
  | add s v g t=>exact ⟨this.1,this.2.2.2.2.1⟩
  | scale s u=>exact this.1
 have g':AllS SH (row n byb e' s b c):=by
  cases byb
  ·exact aEx hp g
  ·exact tP hp g
 intro d hd
 have k1:=pY hn hw hs hb hc h1 h2 h3 d hd
 have k2:=g' d hd
 cases d with
 | add s v g t=>obtain ⟨a1,a2,a3,a4,a5,a6⟩:=k1; exact ⟨k2.1,a2,a3,a4,k2.2,a6⟩
 | scale s u=>exact ⟨k2,k1.2⟩
theorem pO:∀ e:E,dep (enc e)<=dp e+3
 | .num _=>by simp [enc,dep,deps,dp]
 | .giv _=>by simp [enc,dep,deps,dp]
 | .op w a b=>by have:=pO a; have:=pO b; simp [enc,dep,deps,dp]; omega
theorem wT {n:Int}:∀ e:E,dp (asR n e)=dp e
 | .num _=>rfl
 | .giv _=>rfl
 | .op w a b=>by simp [asR,dp,wT a,wT b]
theorem sA {EX:D->Mm->Prop} {L:Lc} {M:Mm} {f:FE} {Q:W->Mm->Prop} {js:List (Option Nat)} {fi:FI} (h:Okx EX (fi L M) fun s M1=>∃ g:Nat->D,s.ds.length<=16777216/\Chk s M1/\(∀ i d,s.ds[i]?=some d->∀ acc,Ok (f (some (.d d)::outL js L) (M1++[acc])) fun w M'=>w=.d (g i)/\M'=M1++[acc])/\Q (.d (.lst ((List.range s.ds.length).map g))) M1):Okx EX (eComp (none::js) fi (gN 0) EV.tYes f L M) Q:=by
 refine gD (fun i acc L' M'=>∃ s M1 g,fi L M=.ok s M1/\(s.ds.length<=16777216/\Chk s M1/\(∀ i d,s.ds[i]?=some d->∀ acc,Ok (f (some (.d d)::outL js L) (M1++[acc])) fun w M'=>w=.d (g i)/\M'=M1++[acc])/\Q (.d (.lst ((List.range s.ds.length).map g))) M1)/\acc=(List.range i).map g/\M'=M1/\∃ a,L'=a::outL js L) (h.self.mono ?_)
 rintro s M1 ⟨e,g,hz,hc,hf,q⟩
 refine ⟨⟨s,M1,g,e,⟨hz,hc,hf,q⟩,rfl,rfl,none,rfl⟩,?_,hz,?_,?_⟩
 ·rintro i acc L' M' hi ⟨s',M1',g',e',_,rfl,rfl,_⟩
  rw [e] at e'
  cases e'
  exact ⟨rfl,hc.app,by simp⟩
 ·rintro i d acc L' M' hd ⟨s',M1',g',e',⟨_,_,hf',q'⟩,rfl,rfl,a,rfl⟩
  rw [e] at e'
  cases e'
  refine jE (aY ⟨fun _=>(hf' i d hd _).mono ?_,fun h=>by cases h⟩)
  rintro _ _ ⟨rfl,rfl⟩
  refine ⟨_,_,rfl,rfl,s,_,g',e,⟨hz,hc,hf',q'⟩,?_,rfl,_,rfl⟩
  rw [List.range_succ,List.map_append]; rfl
 ·rintro acc L' M' ⟨s',M1',g',e',⟨_,_,_,q'⟩,rfl,rfl,_⟩
  rw [e] at e'
  cases e'
  exact q'
theorem aIm (ns:List Int) (hn:ns.length<=63):Ok (qX [.d (.fz (ns.map D.int))] []) fun w _=>w=.d (.bl true):=by
 unfold qX
 refine eU rfl ?_
 unfold b_law
 clean_wf
 refine ⟨by simp only [in62,decide_eq_true_eq]; repeat split <;> omega,?_⟩
 refine dB (fun i L M=>∃ (o1 o2 o3 o4 o5 o6 o7 o8 o9 o10 o11 o12 o13 o14 o15:Option W),L=[some (.d (.fz (ns.map D.int))),o1,o2,o3,o4,o5,o6,o7,o8,o9,o10,o11,o12,o13,o14,o15]) ⟨_,_,_,_,_,_,_,_,_,_,_,_,_,_,_,rfl⟩ (fun i L M _ _ t e=>by cases e) ?_ ?_
 ·rintro i d _ M hd ⟨o1,o2,o3,o4,o5,o6,o7,o8,o9,o10,o11,o12,o13,o14,o15,rfl⟩
  obtain ⟨hi,rfl⟩:=hV hd
  clean_wf
  refine (aBb (by omega) hn).mono ?_
  rintro _ _ ⟨x,y,z,rfl,rfl⟩
  have hb:Bx (M++[[.int x,.int y,.int z]]) M.length:=⟨x,y,z,by simp⟩
  have n:=Nx.refl hb
  clean_wf
  refine (aHz hb).mono ?_
  rintro _ _ ⟨m0,rfl,m02,m01,n'⟩
  replace n:=n.trans n'
  replace hb:=n'.bx hb
  clear n'
  clean_wf
  (refine (aO hb (by omega) (by omega)).mono ?_; rintro _ _ ⟨d1,rfl,l_d1,u_d1,n'⟩; replace n:=n.trans n'; replace hb:=n'.bx hb; clear n')
  clean_wf
  (refine (aO hb (by omega) (by omega)).mono ?_; rintro _ _ ⟨d2,rfl,l_d2,u_d2,n'⟩; replace n:=n.trans n'; replace hb:=n'.bx hb; clear n')
  clean_wf
  refine eR (d:=.int (if 0 < d2 then 2+d1 else m0)) (by by_cases h:0 < d2 <;> simp [h] <;> rfl) ?_
  obtain ⟨m,hm⟩:∃ m,m=if 0 < d2 then 2+d1 else m0:=⟨_,rfl⟩
  rw [<- hm]
  have m2:2<=m:=by rw [hm]; split <;> omega
  have m1:m<=1000000:=by rw [hm]; split <;> omega
  clear hm m02 m01 l_d1 u_d1 l_d2 u_d2
  clean_wf
  (refine (aO hb (by omega) (by omega)).mono ?_; rintro _ _ ⟨d3,rfl,l_d3,u_d3,n'⟩; replace n:=n.trans n'; replace hb:=n'.bx hb; clear n')
  clean_wf
  (refine (aO hb (by omega) (by omega)).mono ?_; rintro _ _ ⟨d4,rfl,l_d4,u_d4,n'⟩; replace n:=n.trans n'; replace hb:=n'.bx hb; clear n')
  clean_wf
  obtain ⟨G,rfl⟩:∃ k:Nat,d3=k:=⟨d3.toNat,by omega⟩
  obtain ⟨byb,hby⟩:∃ v,v=decide (d4=0):=⟨_,rfl⟩
  rw [<- hby]
  (refine (aO hb (by omega) (by omega)).mono ?_; rintro _ _ ⟨d5,rfl,l_d5,u_d5,n'⟩; replace n:=n.trans n'; replace hb:=n'.bx hb; clear n')
  clean_wf
  refine (vJ hb (by omega) (by omega)).mono ?_
  rintro _ _ ⟨s,b,c,rfl,⟨h1,h2,h3⟩,⟨s0,s1⟩,⟨b0,b1⟩,⟨c0,c1⟩,n'⟩
  replace n:=n.trans n'
  replace hb:=n'.bx hb
  clear n'
  obtain ⟨s,rfl⟩:∃ k:Nat,s=k:=⟨s.toNat,by omega⟩
  obtain ⟨b,rfl⟩:∃ k:Nat,b=k:=⟨b.toNat,by omega⟩
  obtain ⟨c,rfl⟩:∃ k:Nat,c=k:=⟨c.toNat,by omega⟩
  clean_wf
  refine (nR (G:=G) (by omega) 8 50 _ _ _ _ hb (by omega) (by rfl) (by omega)).mono ?_
  rintro _ M1 ⟨e,rfl,he,hw,n'⟩
  replace n:=n.trans n'
  replace hb:=n'.bx hb
  clear n'
  refine jE (cZ (Okx.mono (Q:=fun o M'=>∃ e:E,dp e<=8/\wf G e/\Nx M.length (M++[[.int x,.int y,.int z]]) M'/\Bx M' M.length/\o=.nx [some (.d (.fz (ns.map D.int))),some (.d (.int (0+(i:Nat)))),some (.ref M.length),some (.d (.int m)),some (.d (.int G)),some (.d (.bl byb)),some (.d (.tup [.int s,.int b,.int c])),some (.d (enc e)),o8,o9,o10,o11,o12,o13,o14,o15]) ?_ ?_))
  ·refine fB (Okx.mono (Q:=fun _ M'=>Nx M.length M1 M') ?_ ?_)
   ·clean_wf
    refine ⟨fun _=>?_,fun _=>Nx.refl hb⟩
    clean_wf
    refine (aO hb (by omega) (by omega)).mono ?_
    rintro _ M2 ⟨t1,rfl,_,_,n1⟩
    clean_wf
    exact n1
   rintro cnd M2 n1
   have hb2:=n1.bx hb
   refine gJ (fun h=>?_) (fun h=>?_)
   ·clean_wf
    refine (wS (G:=G) (by omega) hb2).mono ?_
    rintro _ M3 ⟨e',rfl,hw',he',n3⟩
    clean_wf
    exact ⟨e',by omega,hw',(n.trans n1).trans n3,n3.bx hb2,rfl⟩
   ·clean_wf
    exact ⟨e,he,hw,n.trans n1,hb2,rfl⟩
  clear he hw n hb e
  rintro _ M1 ⟨e,he,hw,n,hb,rfl⟩
  have hm:many e<=65536:=aCu he
  refine cZ (lU (Okx.mono (Q:=fun w M'=>∃ e':E,pap e'=pap e/\dp e'=dp e/\many e'=many e/\wf G e'/\w=.d (.lst [.tup ((row m byb e s b c).map encD),.tup ((row m byb e' s b c).map encD)])/\Nx M.length M1 M') ?_ ?_))
  ·refine sA ?_
   clean_wf
   refine (pC m2 m1 hw 50 (by omega) _ hb).mono ?_
   rintro _ M2 ⟨e',rfl,p1,p2,p3,p4,n1⟩
   clean_wf
   refine ⟨fun j=>.tup ((row m byb (if j=0 then e else e') s b c).map encD),by simp,(fun t h=>by cases h),?_,e',p1,p2,p3,p4,rfl,n1⟩
   intro j d hd acc
   have hj:(j=0/\d=enc e)\/(j=1/\d=enc e'):=by
    match j,hd with
    | 0,hd=>exact .inl ⟨rfl,by simpa using hd.symm⟩
    | 1,hd=>exact .inr ⟨rfl,by simpa using hd.symm⟩
   clear hd
   rcases hj with ⟨rfl,rfl⟩ | ⟨rfl,rfl⟩
   ·clean_wf
    exact pW m2 m1 hw (by omega) (by omega) (by omega) (by omega) (by omega) (by omega) (by omega) (by omega)
   ·clean_wf
    exact pW m2 m1 p4 (by omega) (by omega) (by omega) (by omega) (by omega) (by omega) (by omega) (by omega)
  rintro _ M2 ⟨e',p1,p2,p3,p4,rfl,n1⟩
  replace n:=n.trans n1
  replace hb:=n1.bx hb
  clear n1
  have okE:∀ d∈row m byb e s b c,OkD m G 9 d:=pY (by omega) hw (by omega) (by omega) (by omega) (by omega) (by omega) (by omega)
  have lE:(row m byb e s b c).length=many e:=bH
  have lE':(row m byb e' s b c).length=many e':=bH
  have pE:=qB (e:=e)
  clean_wf
  refine (uG (n:=m) (G:=G) (by omega) (by intro h; rw [h] at lE; simp at lE; omega) jN okE hb).mono ?_
  rintro _ M3 ⟨⟨SH,rfl,sh1,sh2,okS⟩,n1⟩
  replace n:=n.trans n1
  replace hb:=n1.bx hb
  clear n1
  have okS':∀ d∈row m byb e' s b c,OkD m G SH d:=aCg (by omega) p4 (by omega) (by omega) (by omega) (by omega) (by omega) (by omega) p1 okS
  refine jE (cZ (lU (Okx.mono (Q:=fun w M'=>w=.ref M3.length/\M'=M3++[[.tup [.int m,.int G,.int SH,.tup ((row m byb e s b c).map encD)],.tup [.int m,.int G,.int SH,.tup ((row m byb e' s b c).map encD)]]]) ?_ ?_)))
  ·refine aAj ?_
   clean_wf
   refine ⟨fun d=>.tup [.int m,.int G,.int SH,d],by simp,(fun t h=>by cases h),fun d hd acc=>?_,rfl,rfl⟩
   clean_wf
   exact ⟨rfl,rfl⟩
  rintro _ M4 ⟨rfl,rfl⟩
  clean_wf
  refine (sM 50 (by omega) _).mono ?_
  rintro _ _ ⟨rfl,rfl⟩
  refine jE (cZ (fB (Okx.mono (Q:=fun cc M'=>cc=false/\M'=M3++[[.tup [.int m,.int G,.int SH,.tup ((row m byb e s b c).map encD)],.tup [.int m,.int G,.int SH,.tup ((row m byb e' s b c).map encD)]]]) ?_ ?_)))
  ·clean_wf
   refine sA ?_
   clean_wf
   refine ⟨⟨[.tup [.int m,.int G,.int SH,.tup ((row m byb e s b c).map encD)],.tup [.int m,.int G,.int SH,.tup ((row m byb e' s b c).map encD)]],some M3.length⟩,by simp [srcOf],fun j=>enc (asR m (if j=0 then e else e')),by simp,(fun t h=>by cases h; simp),?_,?_⟩
   ·intro j d hd acc
    have hj:(j=0/\d=.tup [.int m,.int G,.int SH,.tup ((row m byb e s b c).map encD)])\/(j=1/\d=.tup [.int m,.int G,.int SH,.tup ((row m byb e' s b c).map encD)]):=by
     match j,hd with
     | 0,hd=>exact .inl ⟨rfl,by simpa using hd.symm⟩
     | 1,hd=>exact .inr ⟨rfl,by simpa using hd.symm⟩
    clear hd
    rcases hj with ⟨rfl,rfl⟩ | ⟨rfl,rfl⟩
    ·clean_wf
     exact vH m2 m1 rfl hw (by omega) (by omega) (by omega) (by omega) (by omega) (by omega) (by omega) (by omega)
    ·clean_wf
     exact vH m2 m1 p1.symm p4 (by omega) (by omega) (by omega) (by omega) (by omega) (by omega) (by omega) (by omega)
   ·have f1:=pO (asR m e)
    have f2:=pO (asR m e')
    rw [wT] at f1 f2
    refine aHj (xs:=[enc (asR m e),enc (asR m e')]) rfl (by simp only [deps]; omega) ?_
    refine ⟨_,rfl,?_,rfl⟩
    cases e <;> cases e' <;> rfl
  rintro _ _ ⟨rfl,rfl⟩
  refine jC rfl ?_
  clean_wf
  refine ⟨rfl,?_⟩
  refine dB (fun i' L M'=>∃ (N:Mm) (ps:List (List Dd)) (o12:Option W),M'=N++[ps.map fun X=>D.tup [.int m,.int G,.int SH,.tup (X.map encD)]]/\Nx M.length M3 N/\Bx N M.length/\ps.length=2+i'/\(∀ X∈ps,(∀ d∈X,OkD m G SH d)/\X.length<=65536*4 ^ i')/\L=[some (.d (.fz (ns.map D.int))),some (.d (.int (0+(i:Nat)))),some (.ref M.length),some (.d (.int m)),some (.d (.int G)),some (.d (.bl byb)),some (.d (.tup [.int s,.int b,.int c])),some (.d (enc e)),some (.d (.lst [.tup ((row m byb e s b c).map encD),.tup ((row m byb e' s b c).map encD)])),some (.d (.int SH)),some (.ref M3.length),some (.d (pap e)),o12,o13,o14,o15]) ⟨M3,[row m byb e s b c,row m byb e' s b c],_,rfl,Nx.refl hb,hb,rfl,?_,rfl⟩ (fun i L M _ _ t e=>by cases e) ?_ ?_
  ·intro X hX
   rcases List.mem_cons.mp hX with rfl | hX
   ·exact ⟨okS,by omega⟩
   ·rw [List.mem_singleton.mp hX]
    exact ⟨okS',by omega⟩
  ·rintro j d _ _ hd ⟨N,ps,o12,rfl,nN,bN,lps,ok,rfl⟩
   obtain ⟨hj,rfl⟩:=hV hd
   have eN:=nN.len
   have hjl:j < ps.length:=by omega
   obtain ⟨okX,lX⟩:=ok ps[j] (List.getElem_mem hjl)
   have pw:65536*4 ^ j<=4194304:=by
    have:j=0\/j=1\/j=2\/j=3:=by simp at hj; omega
    rcases this with rfl | rfl | rfl | rfl <;> decide
   clean_wf
   refine nF (xs:=ps.map fun X=>D.tup [.int m,.int G,.int SH,.tup (X.map encD)]) (d:=.tup [.int m,.int G,.int SH,.tup (ps[j].map encD)]) (by rw [<- eN]; simp) ?_ ?_
   ·simp only [atI,ixN]
    rw [if_pos (by omega),if_pos (by simp; omega)]
    rw [show (0+(j:Int)).toNat=j by omega,Option.bind_some,List.getElem?_map,List.getElem?_eq_getElem hjl]
    rfl
   clean_wf
   refine (vC (G:=G) m2 m1 (by omega) sh1 sh2 okX (by omega) bN.app).mono ?_
   rintro _ _ ⟨Y,rfl,okY,lY,nY⟩
   obtain ⟨N2,rfl,n2⟩:=nY.unapp bN.lt
   have e2:=n2.len
   clean_wf
   refine rV (xs:=ps.map fun X=>D.tup [.int m,.int G,.int SH,.tup (X.map encD)]) (by rw [show M3.length=N2.length by omega]; simp) (by simp; omega) ?_
   rw [show M3.length=N2.length by omega]
   clean_wf
   refine ⟨N2,ps++[Y],_,by simp,nN.trans n2,n2.bx bN,by simp; omega,?_,by rw [show N2.length=M3.length by omega]; rfl⟩
   have p1:4 ^ (j+1)=4 ^ j*4:=Nat.pow_succ ..
   have p2:0 < 4 ^ j:=Nat.pow_pos (by omega)
   rw [p1]
   generalize 4 ^ j=P at p2 lX ok
   intro X hX
   rcases List.mem_append.mp hX with h | h
   ·exact ⟨(ok X h).1,by have:=(ok X h).2; omega⟩
   ·rw [List.mem_singleton.mp h]
    exact ⟨okY,by omega⟩
  ·rintro _ _ ⟨N,ps,o12,rfl,nN,bN,lps,ok,rfl⟩
   have ok:∀ X∈ps,(∀ d∈X,OkD m G SH d)/\X.length<=16777216:=ok
   have eN:=nN.len
   clear okS okS' okE lE lE' p1 p2 p3 p4
   clean_wf
   refine ⟨⟨ps.map fun X=>D.tup [.int m,.int G,.int SH,.tup (X.map encD)],some M3.length⟩,by simp [srcOf,eN.symm],?_⟩
   refine dB (fun i' L M'=>∃ (N:Mm) (o13 o14 o15:Option W),M'=N++[ps.map fun X=>D.tup [.int m,.int G,.int SH,.tup (X.map encD)]]/\Nx M.length M3 N/\Bx N M.length/\L=[some (.d (.fz (ns.map D.int))),some (.d (.int (0+(i:Nat)))),some (.ref M.length),some (.d (.int m)),some (.d (.int G)),some (.d (.bl byb)),some (.d (.tup [.int s,.int b,.int c])),some (.d (enc e)),some (.d (.lst [.tup ((row m byb e s b c).map encD),.tup ((row m byb e' s b c).map encD)])),some (.d (.int SH)),some (.ref M3.length),some (.d (pap e)),o12,o13,o14,o15]) ⟨N,_,_,_,rfl,nN,bN,rfl⟩ ?_ ?_ ?_
   ·rintro i' L M' _ ⟨N,_,_,_,rfl,nN,_⟩ t h
    cases h
    have:=nN.len
    simp [this.symm]
   ·rintro j d _ _ hd ⟨N,o13,o14,o15,rfl,nN,bN,rfl⟩
    simp only [List.getElem?_map,Option.map_eq_some_iff] at hd
    obtain ⟨X,hX,rfl⟩:=hd
    obtain ⟨okX,lX⟩:=ok X (List.mem_of_getElem? hX)
    clean_wf
    refine (aAp 3 (by omega) 50 (by omega) _ bN.app).mono ?_
    rintro _ _ ⟨e2,rfl,d2,n2'⟩
    obtain ⟨N2,rfl,n2⟩:=n2'.unapp bN.lt
    clear n2'
    replace nN:=nN.trans n2
    replace bN:=n2.bx bN
    clean_wf
    refine dB (fun i' L M'=>∃ (N:Mm) (o14 o15:Option W),M'=N++[ps.map fun X=>D.tup [.int m,.int G,.int SH,.tup (X.map encD)]]/\Nx M.length M3 N/\Bx N M.length/\L=[some (.d (.fz (ns.map D.int))),some (.d (.int (0+(i:Nat)))),some (.ref M.length),some (.d (.int m)),some (.d (.int G)),some (.d (.bl byb)),some (.d (.tup [.int s,.int b,.int c])),some (.d (enc e)),some (.d (.lst [.tup ((row m byb e s b c).map encD),.tup ((row m byb e' s b c).map encD)])),some (.d (.int SH)),some (.ref M3.length),some (.d (pap e)),o12,some (.d (.tup [.int m,.int G,.int SH,.tup (X.map encD)])),o14,o15]) ⟨N2,_,_,rfl,nN,bN,rfl⟩ (fun i L M _ _ t e=>by cases e) ?_ ?_
    ·rintro j' d _ _ hd ⟨N,o14,o15,rfl,nN,bN,rfl⟩
     obtain ⟨e3,rfl,d3⟩:∃ e3:E,d=pap e3/\dp e3<=9:=by
      have:=List.mem_of_getElem? hd
      simp only [List.mem_cons,List.not_mem_nil,or_false] at this
      rcases this with rfl | rfl
      ·exact ⟨e,rfl,by omega⟩
      ·exact ⟨e2,rfl,by omega⟩
     clear hd
     clean_wf
     refine (aAl m2 m1 lX okX (e:=e3) (by omega)).mono ?_
     rintro _ _ ⟨rfl | ⟨e4,d4,w4,rfl,rfl⟩,rfl⟩
     ·clean_wf
      exact ⟨N,_,_,rfl,nN,bN,rfl⟩
     ·clean_wf
      refine ⟨fun _=>?_,fun h=>by cases e4 <;> cases h⟩
      clean_wf
      refine (zG m2 m1 (by omega) (by omega) w4 (by omega) (by omega) (by omega) (by omega) (by omega) (by omega) (by omega) okX lX bN.app).mono ?_
      rintro _ _ ⟨rfl,n3'⟩
      obtain ⟨N3,rfl,n3⟩:=n3'.unapp bN.lt
      clean_wf
      exact ⟨N3,_,_,rfl,nN.trans n3,n3.bx bN,rfl⟩
    ·rintro _ _ ⟨N,o14,o15,rfl,nN,bN,rfl⟩
     clean_wf
     exact ⟨N,_,_,_,rfl,nN,bN,rfl⟩
   ·rintro _ _ ⟨N,o13,o14,o15,rfl,nN,bN,rfl⟩
    clean_wf
    exact ⟨_,_,_,_,_,_,_,_,_,_,_,_,_,_,_,rfl⟩
 ·rintro _ _ ⟨o1,o2,o3,o4,o5,o6,o7,o8,o9,o10,o11,o12,o13,o14,o15,rfl⟩
  clean_wf
  rfl
theorem aBd (ns:List Int) (hn:ns.length<=63):∃ M',qX [.d (.fz (ns.map D.int))] []=.ok (.d (.bl true)) M':=by
 obtain ⟨_,M,e,rfl⟩:=jB.mp (aIm ns hn)
 exact ⟨M,e⟩
theorem aJi {l:PySem.W.OpenLaw} {w:World} {K:PySem.W.Frag} {h:Heap} {mg:Str->Option Value} {fa:Addr} {f1 f2 f3 f4 f5 f6 f7 f8 f9 f10 f11 f12 f13 f14 f15 f16 f17 f18 f19 f20 f21 f22 f23 f24 f25 f26 f27 f28 f29 f30 f31 f32 f33 f34 f35 f36 f37 f38 eL eNoPaper jNoPaper:Addr} {od1 an1 od2 an2 od3 an3 od4 an4 od5 an5 od6 an6 od7 an7 od8 an8 od9 an9 od10 an10 od11 an11 od12 an12 od13 an13 od14 an14 od15 an15 od16 an16 od17 an17 od18 an18 od19 an19 od20 an20 od21 an21 od22 an22 od23 an23 od24 an24 od25 an25 od26 an26 od27 an27 od28 an28 od29 an29 od30 an30 od31 an31 od32 an32 od33 an33 od34 an34 od35 an35 od36 an36 od37 an37 od38 an38 odNoPaper anNoPaper:Option Addr} {sl1 sl2 sl3 sl4 sl5 sl6 sl7 sl8 sl9 sl10 sl11 sl12 sl13 sl14 sl15 sl16 sl17 sl18 sl19 sl20 sl21 sl22 sl23 sl24 sl25 sl26 sl27 sl28 sl29 sl30 sl31 sl32 sl33 sl34 sl35 sl36 sl37 sl38 slNoPaper:Array (Option Value)} {oc1 kV1 dc1 pm1 cd1 ct1 oc2 kV2 dc2 pm2 cd2 ct2 oc3 kV3 dc3 pm3 cd3 ct3 oc4 kV4 dc4 pm4 cd4 ct4 oc5 kV5 dc5 pm5 cd5 ct5 oc6 kV6 dc6 pm6 cd6 ct6 oc7 kV7 dc7 pm7 cd7 ct7 oc8 kV8 dc8 pm8 cd8 ct8 oc9 kV9 dc9 pm9 cd9 ct9 oc10 kV10 dc10 pm10 cd10 ct10 oc11 kV11 dc11 pm11 cd11 ct11 oc12 kV12 dc12 pm12 cd12 ct12 oc13 kV13 dc13 pm13 cd13 ct13 oc14 kV14 dc14 pm14 cd14 ct14 oc15 kV15 dc15 pm15 cd15 ct15 oc16 kV16 dc16 pm16 cd16 ct16 oc17 kV17 dc17 pm17 cd17 ct17 oc18 kV18 dc18 pm18 cd18 ct18 oc19 kV19 dc19 pm19 cd19 ct19 oc20 kV20 dc20 pm20 cd20 ct20 oc21 kV21 dc21 pm21 cd21 ct21 oc22 kV22 dc22 pm22 cd22 ct22 oc23 kV23 dc23 pm23 cd23 ct23 oc24 kV24 dc24 pm24 cd24 ct24 oc25 kV25 dc25 pm25 cd25 ct25 oc26 kV26 dc26 pm26 cd26 ct26 oc27 kV27 dc27 pm27 cd27 ct27 oc28 kV28 dc28 pm28 cd28 ct28 oc29 kV29 dc29 pm29 cd29 ct29 oc30 kV30 dc30 pm30 cd30 ct30 oc31 kV31 dc31 pm31 cd31 ct31 oc32 kV32 dc32 pm32 cd32 ct32 oc33 kV33 dc33 pm33 cd33 ct33 oc34 kV34 dc34 pm34 cd34 ct34 oc35 kV35 dc35 pm35 cd35 ct35 oc36 kV36 dc36 pm36 cd36 ct36 oc37 kV37 dc37 pm37 cd37 ct37 oc38 kV38 dc38 pm38 cd38 ct38 ocNoPaper kVNoPaper dcNoPaper pmNoPaper cdNoPaper ctNoPaper:Value} (X:K.In h) (G:h.Ns mainGlobals mg) (hfa:mg "law"=some (.ref fa))
  (a1:PySem.W.nsIn K mainGlobals "inverse"=some (some (.ref f1)))
  (l1:K.lookup f1=some ⟨oc1,od1,.func (PySem.W.fnOf "inverse" "inverse" (defArgs eJ) (defBody eJ) (defScope eJ) .none kV1 dc1 pm1 an1 cd1 ct1),sl1⟩)
  (c1:PySem.W.codeIn K cd1 "inverse"=true)
  (k1:PySem.W.keepIn K (.ref f1)=true)
  (a2:PySem.W.nsIn K mainGlobals "deeds_back"=some (some (.ref f2)))
  (l2:K.lookup f2=some ⟨oc2,od2,.func (PySem.W.fnOf "deeds_back" "deeds_back" (defArgs cG) (defBody cG) (defScope cG) .none kV2 dc2 pm2 an2 cd2 ct2),sl2⟩)
  (c2:PySem.W.codeIn K cd2 "deeds_back"=true)
  (k2:PySem.W.keepIn K (.ref f2)=true)
  (a3:PySem.W.nsIn K mainGlobals "deed_back"=some (some (.ref f3)))
  (l3:K.lookup f3=some ⟨oc3,od3,.func (PySem.W.fnOf "deed_back" "deed_back" (defArgs cU) (defBody cU) (defScope cU) .none kV3 dc3 pm3 an3 cd3 ct3),sl3⟩)
  (c3:PySem.W.codeIn K cd3 "deed_back"=true)
  (k3:PySem.W.keepIn K (.ref f3)=true)
  (a4:PySem.W.nsIn K mainGlobals "shown"=some (some (.ref f4)))
  (l4:K.lookup f4=some ⟨oc4,od4,.func (PySem.W.fnOf "shown" "shown" (defArgs gO) (defBody gO) (defScope gO) .none kV4 dc4 pm4 an4 cd4 ct4),sl4⟩)
  (c4:PySem.W.codeIn K cd4 "shown"=true)
  (k4:PySem.W.keepIn K (.ref f4)=true)
  (a5:PySem.W.nsIn K mainGlobals "along"=some (some (.ref f5)))
  (l5:K.lookup f5=some ⟨oc5,od5,.func (PySem.W.fnOf "along" "along" (defArgs gP) (defBody gP) (defScope gP) .none kV5 dc5 pm5 an5 cd5 ct5),sl5⟩)
  (c5:PySem.W.codeIn K cd5 "along"=true)
  (k5:PySem.W.keepIn K (.ref f5)=true)
  (a6:PySem.W.nsIn K mainGlobals "along_one"=some (some (.ref f6)))
  (l6:K.lookup f6=some ⟨oc6,od6,.func (PySem.W.fnOf "along_one" "along_one" (defArgs cS) (defBody cS) (defScope cS) .none kV6 dc6 pm6 an6 cd6 ct6),sl6⟩)
  (c6:PySem.W.codeIn K cd6 "along_one"=true)
  (k6:PySem.W.keepIn K (.ref f6)=true)
  (a7:PySem.W.nsIn K mainGlobals "along_times"=some (some (.ref f7)))
  (l7:K.lookup f7=some ⟨oc7,od7,.func (PySem.W.fnOf "along_times" "along_times" (defArgs cD) (defBody cD) (defScope cD) .none kV7 dc7 pm7 an7 cd7 ct7),sl7⟩)
  (c7:PySem.W.codeIn K cd7 "along_times"=true)
  (k7:PySem.W.keepIn K (.ref f7)=true)
  (a8:PySem.W.nsIn K mainGlobals "just_these"=some (some (.ref f8)))
  (l8:K.lookup f8=some ⟨oc8,od8,.func (PySem.W.fnOf "just_these" "just_these" (defArgs cM) (defBody cM) (defScope cM) .none kV8 dc8 pm8 an8 cd8 ct8),sl8⟩)
  (c8:PySem.W.codeIn K cd8 "just_these"=true)
  (k8:PySem.W.keepIn K (.ref f8)=true)
  (a9:PySem.W.nsIn K mainGlobals "run"=some (some (.ref f9)))
  (l9:K.lookup f9=some ⟨oc9,od9,.func (PySem.W.fnOf "run" "run" (defArgs lP) (defBody lP) (defScope lP) .none kV9 dc9 pm9 an9 cd9 ct9),sl9⟩)
  (c9:PySem.W.codeIn K cd9 "run"=true)
  (k9:PySem.W.keepIn K (.ref f9)=true)
  (a10:PySem.W.nsIn K mainGlobals "done"=some (some (.ref f10)))
  (l10:K.lookup f10=some ⟨oc10,od10,.func (PySem.W.fnOf "done" "done" (defArgs jA) (defBody jA) (defScope jA) .none kV10 dc10 pm10 an10 cd10 ct10),sl10⟩)
  (c10:PySem.W.codeIn K cd10 "done"=true)
  (k10:PySem.W.keepIn K (.ref f10)=true)
  (a11:PySem.W.nsIn K mainGlobals "product_of"=some (some (.ref f11)))
  (l11:K.lookup f11=some ⟨oc11,od11,.func (PySem.W.fnOf "product_of" "product_of" (defArgs cN) (defBody cN) (defScope cN) .none kV11 dc11 pm11 an11 cd11 ct11),sl11⟩)
  (c11:PySem.W.codeIn K cd11 "product_of"=true)
  (k11:PySem.W.keepIn K (.ref f11)=true)
  (a12:PySem.W.nsIn K mainGlobals "_law_box"=some (some (.ref f12)))
  (l12:K.lookup f12=some ⟨oc12,od12,.func (PySem.W.fnOf "_law_box" "_law_box" (defArgs gX) (defBody gX) (defScope gX) .none kV12 dc12 pm12 an12 cd12 ct12),sl12⟩)
  (c12:PySem.W.codeIn K cd12 "_law_box"=true)
  (k12:PySem.W.keepIn K (.ref f12)=true)
  (a13:PySem.W.nsIn K mainGlobals "_law_take"=some (some (.ref f13)))
  (l13:K.lookup f13=some ⟨oc13,od13,.func (PySem.W.fnOf "_law_take" "_law_take" (defArgs fD) (defBody fD) (defScope fD) .none kV13 dc13 pm13 an13 cd13 ct13),sl13⟩)
  (c13:PySem.W.codeIn K cd13 "_law_take"=true)
  (k13:PySem.W.keepIn K (.ref f13)=true)
  (a14:PySem.W.nsIn K mainGlobals "_law_n"=some (some (.ref f14)))
  (l14:K.lookup f14=some ⟨oc14,od14,.func (PySem.W.fnOf "_law_n" "_law_n" (defArgs lM) (defBody lM) (defScope lM) .none kV14 dc14 pm14 an14 cd14 ct14),sl14⟩)
  (c14:PySem.W.codeIn K cd14 "_law_n"=true)
  (k14:PySem.W.keepIn K (.ref f14)=true)
  (a15:PySem.W.nsIn K mainGlobals "_law_rest"=some (some (.ref f15)))
  (l15:K.lookup f15=some ⟨oc15,od15,.func (PySem.W.fnOf "_law_rest" "_law_rest" (defArgs fH) (defBody fH) (defScope fH) .none kV15 dc15 pm15 an15 cd15 ct15),sl15⟩)
  (c15:PySem.W.codeIn K cd15 "_law_rest"=true)
  (k15:PySem.W.keepIn K (.ref f15)=true)
  (a16:PySem.W.nsIn K mainGlobals "_law_rests"=some (some (.ref f16)))
  (l16:K.lookup f16=some ⟨oc16,od16,.func (PySem.W.fnOf "_law_rests" "_law_rests" (defArgs dU) (defBody dU) (defScope dU) .none kV16 dc16 pm16 an16 cd16 ct16),sl16⟩)
  (c16:PySem.W.codeIn K cd16 "_law_rests"=true)
  (k16:PySem.W.keepIn K (.ref f16)=true)
  (a17:PySem.W.nsIn K mainGlobals "_law_expr"=some (some (.ref f17)))
  (l17:K.lookup f17=some ⟨oc17,od17,.func (PySem.W.fnOf "_law_expr" "_law_expr" (defArgs fK) (defBody fK) (defScope fK) .none kV17 dc17 pm17 an17 cd17 ct17),sl17⟩)
  (c17:PySem.W.codeIn K cd17 "_law_expr"=true)
  (k17:PySem.W.keepIn K (.ref f17)=true)
  (a18:PySem.W.nsIn K mainGlobals "_law_worth"=some (some (.ref f18)))
  (l18:K.lookup f18=some ⟨oc18,od18,.func (PySem.W.fnOf "_law_worth" "_law_worth" (defArgs eO) (defBody eO) (defScope eO) .none kV18 dc18 pm18 an18 cd18 ct18),sl18⟩)
  (c18:PySem.W.codeIn K cd18 "_law_worth"=true)
  (k18:PySem.W.keepIn K (.ref f18)=true)
  (a19:PySem.W.nsIn K mainGlobals "_law_shared"=some (some (.ref f19)))
  (l19:K.lookup f19=some ⟨oc19,od19,.func (PySem.W.fnOf "_law_shared" "_law_shared" (defArgs dN) (defBody dN) (defScope dN) .none kV19 dc19 pm19 an19 cd19 ct19),sl19⟩)
  (c19:PySem.W.codeIn K cd19 "_law_shared"=true)
  (k19:PySem.W.keepIn K (.ref f19)=true)
  (a20:PySem.W.nsIn K mainGlobals "_law_unit"=some (some (.ref f20)))
  (l20:K.lookup f20=some ⟨oc20,od20,.func (PySem.W.fnOf "_law_unit" "_law_unit" (defArgs fC) (defBody fC) (defScope fC) .none kV20 dc20 pm20 an20 cd20 ct20),sl20⟩)
  (c20:PySem.W.codeIn K cd20 "_law_unit"=true)
  (k20:PySem.W.keepIn K (.ref f20)=true)
  (a21:PySem.W.nsIn K mainGlobals "_law_deed"=some (some (.ref f21)))
  (l21:K.lookup f21=some ⟨oc21,od21,.func (PySem.W.fnOf "_law_deed" "_law_deed" (defArgs dX) (defBody dX) (defScope dX) .none kV21 dc21 pm21 an21 cd21 ct21),sl21⟩)
  (c21:PySem.W.codeIn K cd21 "_law_deed"=true)
  (k21:PySem.W.keepIn K (.ref f21)=true)
  (a22:PySem.W.nsIn K mainGlobals "_law_inverse"=some (some (.ref f22)))
  (l22:K.lookup f22=some ⟨oc22,od22,.func (PySem.W.fnOf "_law_inverse" "_law_inverse" (defArgs cR) (defBody cR) (defScope cR) .none kV22 dc22 pm22 an22 cd22 ct22),sl22⟩)
  (c22:PySem.W.codeIn K cd22 "_law_inverse"=true)
  (k22:PySem.W.keepIn K (.ref f22)=true)
  (a23:PySem.W.nsIn K mainGlobals "_law_deeds_back"=some (some (.ref f23)))
  (l23:K.lookup f23=some ⟨oc23,od23,.func (PySem.W.fnOf "_law_deeds_back" "_law_deeds_back" (defArgs bX) (defBody bX) (defScope bX) .none kV23 dc23 pm23 an23 cd23 ct23),sl23⟩)
  (c23:PySem.W.codeIn K cd23 "_law_deeds_back"=true)
  (k23:PySem.W.keepIn K (.ref f23)=true)
  (a24:PySem.W.nsIn K mainGlobals "_law_row_by"=some (some (.ref f24)))
  (l24:K.lookup f24=some ⟨oc24,od24,.func (PySem.W.fnOf "_law_row_by" "_law_row_by" (defArgs dM) (defBody dM) (defScope dM) .none kV24 dc24 pm24 an24 cd24 ct24),sl24⟩)
  (c24:PySem.W.codeIn K cd24 "_law_row_by"=true)
  (k24:PySem.W.keepIn K (.ref f24)=true)
  (a25:PySem.W.nsIn K mainGlobals "_law_row_alone"=some (some (.ref f25)))
  (l25:K.lookup f25=some ⟨oc25,od25,.func (PySem.W.fnOf "_law_row_alone" "_law_row_alone" (defArgs cC) (defBody cC) (defScope cC) .none kV25 dc25 pm25 an25 cd25 ct25),sl25⟩)
  (c25:PySem.W.codeIn K cd25 "_law_row_alone"=true)
  (k25:PySem.W.keepIn K (.ref f25)=true)
  (a26:PySem.W.nsIn K mainGlobals "_law_run"=some (some (.ref f26)))
  (l26:K.lookup f26=some ⟨oc26,od26,.func (PySem.W.fnOf "_law_run" "_law_run" (defArgs gR) (defBody gR) (defScope gR) .none kV26 dc26 pm26 an26 cd26 ct26),sl26⟩)
  (c26:PySem.W.codeIn K cd26 "_law_run"=true)
  (k26:PySem.W.keepIn K (.ref f26)=true)
  (a27:PySem.W.nsIn K mainGlobals "_law_shelves"=some (some (.ref f27)))
  (l27:K.lookup f27=some ⟨oc27,od27,.func (PySem.W.fnOf "_law_shelves" "_law_shelves" (defArgs cO) (defBody cO) (defScope cO) .none kV27 dc27 pm27 an27 cd27 ct27),sl27⟩)
  (c27:PySem.W.codeIn K cd27 "_law_shelves"=true)
  (k27:PySem.W.keepIn K (.ref f27)=true)
  (a28:PySem.W.nsIn K mainGlobals "_law_triple"=some (some (.ref f28)))
  (l28:K.lookup f28=some ⟨oc28,od28,.func (PySem.W.fnOf "_law_triple" "_law_triple" (defArgs cX) (defBody cX) (defScope cX) .none kV28 dc28 pm28 an28 cd28 ct28),sl28⟩)
  (c28:PySem.W.codeIn K cd28 "_law_triple"=true)
  (k28:PySem.W.keepIn K (.ref f28)=true)
  (a29:PySem.W.nsIn K mainGlobals "_law_great"=some (some (.ref f29)))
  (l29:K.lookup f29=some ⟨oc29,od29,.func (PySem.W.fnOf "_law_great" "_law_great" (defArgs eP) (defBody eP) (defScope eP) .none kV29 dc29 pm29 an29 cd29 ct29),sl29⟩)
  (c29:PySem.W.codeIn K cd29 "_law_great"=true)
  (k29:PySem.W.keepIn K (.ref f29)=true)
  (a30:PySem.W.nsIn K mainGlobals "_law_paper"=some (some (.ref f30)))
  (l30:K.lookup f30=some ⟨oc30,od30,.func (PySem.W.fnOf "_law_paper" "_law_paper" (defArgs eK) (defBody eK) (defScope eK) .none kV30 dc30 pm30 an30 cd30 ct30),sl30⟩)
  (c30:PySem.W.codeIn K cd30 "_law_paper"=true)
  (k30:PySem.W.keepIn K (.ref f30)=true)
  (a31:PySem.W.nsIn K mainGlobals "_law_other_shelves"=some (some (.ref f31)))
  (l31:K.lookup f31=some ⟨oc31,od31,.func (PySem.W.fnOf "_law_other_shelves" "_law_other_shelves" (defArgs bG) (defBody bG) (defScope bG) .none kV31 dc31 pm31 an31 cd31 ct31),sl31⟩)
  (c31:PySem.W.codeIn K cd31 "_law_other_shelves"=true)
  (k31:PySem.W.keepIn K (.ref f31)=true)
  (a32:PySem.W.nsIn K mainGlobals "_law_spoilt"=some (some (.ref f32)))
  (l32:K.lookup f32=some ⟨oc32,od32,.func (PySem.W.fnOf "_law_spoilt" "_law_spoilt" (defArgs dO) (defBody dO) (defScope dO) .none kV32 dc32 pm32 an32 cd32 ct32),sl32⟩)
  (c32:PySem.W.codeIn K cd32 "_law_spoilt"=true)
  (k32:PySem.W.keepIn K (.ref f32)=true)
  (a33:PySem.W.nsIn K mainGlobals "_law_bent"=some (some (.ref f33)))
  (l33:K.lookup f33=some ⟨oc33,od33,.func (PySem.W.fnOf "_law_bent" "_law_bent" (defArgs fJ) (defBody fJ) (defScope fJ) .none kV33 dc33 pm33 an33 cd33 ct33),sl33⟩)
  (c33:PySem.W.codeIn K cd33 "_law_bent"=true)
  (k33:PySem.W.keepIn K (.ref f33)=true)
  (a34:PySem.W.nsIn K mainGlobals "_law_row"=some (some (.ref f34)))
  (l34:K.lookup f34=some ⟨oc34,od34,.func (PySem.W.fnOf "_law_row" "_law_row" (defArgs gQ) (defBody gQ) (defScope gQ) .none kV34 dc34 pm34 an34 cd34 ct34),sl34⟩)
  (c34:PySem.W.codeIn K cd34 "_law_row"=true)
  (k34:PySem.W.keepIn K (.ref f34)=true)
  (a35:PySem.W.nsIn K mainGlobals "_law_heard"=some (some (.ref f35)))
  (l35:K.lookup f35=some ⟨oc35,od35,.func (PySem.W.fnOf "_law_heard" "_law_heard" (defArgs eM) (defBody eM) (defScope eM) .none kV35 dc35 pm35 an35 cd35 ct35),sl35⟩)
  (c35:PySem.W.codeIn K cd35 "_law_heard"=true)
  (k35:PySem.W.keepIn K (.ref f35)=true)
  (a36:PySem.W.nsIn K mainGlobals "_law_true"=some (some (.ref f36)))
  (l36:K.lookup f36=some ⟨oc36,od36,.func (PySem.W.fnOf "_law_true" "_law_true" (defArgs fF) (defBody fF) (defScope fF) .none kV36 dc36 pm36 an36 cd36 ct36),sl36⟩)
  (c36:PySem.W.codeIn K cd36 "_law_true"=true)
  (k36:PySem.W.keepIn K (.ref f36)=true)
  (a37:PySem.W.nsIn K mainGlobals "_law_other_nums"=some (some (.ref f37)))
  (l37:K.lookup f37=some ⟨oc37,od37,.func (PySem.W.fnOf "_law_other_nums" "_law_other_nums" (defArgs bY) (defBody bY) (defScope bY) .none kV37 dc37 pm37 an37 cd37 ct37),sl37⟩)
  (c37:PySem.W.codeIn K cd37 "_law_other_nums"=true)
  (k37:PySem.W.keepIn K (.ref f37)=true)
  (a38:PySem.W.nsIn K mainGlobals "law"=some (some (.ref f38)))
  (l38:K.lookup f38=some ⟨oc38,od38,.func (PySem.W.fnOf "law" "law" (defArgs jH) (defBody jH) (defScope jH) .none kV38 dc38 pm38 an38 cd38 ct38),sl38⟩)
  (c38:PySem.W.codeIn K cd38 "law"=true)
  (k38:PySem.W.keepIn K (.ref f38)=true)
  (aL:PySem.W.nsIn K mainGlobals "LentError"=some (some (.ref eL)))
  (oL:xcB K eL vb none=true)
  (rL:PySem.W.readsIn K eL (.type "type")=true)
  (gL:PySem.W.specialIn K (.ref eL) "__getattribute__"=some (some (.builtin "type.__getattribute__")))
  (iL:PySem.W.findCls K (.ref eL) (.type "type") "__init__"=some (.val (.builtin "ValueError.__init__")))
  (tL:PySem.W.tailIn K vb (.ref eL::vb)=true)
  (aNoPaper:PySem.W.nsIn K mainGlobals "NoPaper"=some (some (.ref eNoPaper)))
  (xNoPaper:xkB K "NoPaper" eNoPaper eL=true)
  (jNoPaper_:PySem.W.findIn K (.ref eNoPaper) "__init__"=some (some (.ref jNoPaper)))
  (bNoPaper:xcB K eNoPaper (.ref eL::vb) (some (.ref jNoPaper))=true)
  (lNoPaper:K.lookup jNoPaper=some ⟨ocNoPaper,odNoPaper,.func (PySem.W.fnOf "__init__" "NoPaper.__init__" (defArgs dZ) (defBody dZ) (defScope dZ) .none kVNoPaper dcNoPaper pmNoPaper anNoPaper cdNoPaper ctNoPaper),slNoPaper⟩)
  (cNoPaper:PySem.W.codeIn K cdNoPaper "NoPaper.__init__"=true)
  (kNoPaper:PySem.W.keepIn K (.ref jNoPaper)=true)
  (tNoPaper:PySem.W.typeIn K (.ref jNoPaper)=some (.type "function"))
  (nNoPaper:PySem.W.findIn K (.ref eNoPaper) "at"=some none)
  (sNoPaper:PySem.W.findIn K (.ref eNoPaper) "__setattr__"=some (some (.builtin "object.__setattr__")))
  (qNoPaper:PySem.W.keepIn K (.ref eNoPaper)=true)
  (z_int:PySem.W.nsIn K mainGlobals "int"=some none)
  (z_len:PySem.W.nsIn K mainGlobals "len"=some none)
  (z_list:PySem.W.nsIn K mainGlobals "list"=some none)
  (z_max:PySem.W.nsIn K mainGlobals "max"=some none)
  (z_min:PySem.W.nsIn K mainGlobals "min"=some none)
  (z_range:PySem.W.nsIn K mainGlobals "range"=some none)
  (z_reversed:PySem.W.nsIn K mainGlobals "reversed"=some none)
  (z_sorted:PySem.W.nsIn K mainGlobals "sorted"=some none)
  (z_tuple:PySem.W.nsIn K mainGlobals "tuple"=some none)
  : ∃ fd:FuncData,(∀ (s:Shared) (v:Value),BindsTo s fd ⟨[v],[]⟩ [("_law_script",v)])/\∀ base:Heap,K.In base->base.Ns mainGlobals mg->FnOk l.prog w K mg base (CX1 l.prog w) 104 fa fd ["_law_script"] (spX K 1 qX):=by
 have e:=hfa.symm.trans (PySem.W.mg_of X G a38)
 cases e
 have T:Tx K mg ⟨f1,(PySem.W.fnOf "inverse" "inverse" (defArgs eJ) (defBody eJ) (defScope eJ) .none kV1 dc1 pm1 an1 cd1 ct1),f2,(PySem.W.fnOf "deeds_back" "deeds_back" (defArgs cG) (defBody cG) (defScope cG) .none kV2 dc2 pm2 an2 cd2 ct2),f3,(PySem.W.fnOf "deed_back" "deed_back" (defArgs cU) (defBody cU) (defScope cU) .none kV3 dc3 pm3 an3 cd3 ct3),f4,(PySem.W.fnOf "shown" "shown" (defArgs gO) (defBody gO) (defScope gO) .none kV4 dc4 pm4 an4 cd4 ct4),f5,(PySem.W.fnOf "along" "along" (defArgs gP) (defBody gP) (defScope gP) .none kV5 dc5 pm5 an5 cd5 ct5),f6,(PySem.W.fnOf "along_one" "along_one" (defArgs cS) (defBody cS) (defScope cS) .none kV6 dc6 pm6 an6 cd6 ct6),f7,(PySem.W.fnOf "along_times" "along_times" (defArgs cD) (defBody cD) (defScope cD) .none kV7 dc7 pm7 an7 cd7 ct7),f8,(PySem.W.fnOf "just_these" "just_these" (defArgs cM) (defBody cM) (defScope cM) .none kV8 dc8 pm8 an8 cd8 ct8),f9,(PySem.W.fnOf "run" "run" (defArgs lP) (defBody lP) (defScope lP) .none kV9 dc9 pm9 an9 cd9 ct9),f10,(PySem.W.fnOf "done" "done" (defArgs jA) (defBody jA) (defScope jA) .none kV10 dc10 pm10 an10 cd10 ct10),f11,(PySem.W.fnOf "product_of" "product_of" (defArgs cN) (defBody cN) (defScope cN) .none kV11 dc11 pm11 an11 cd11 ct11),f12,(PySem.W.fnOf "_law_box" "_law_box" (defArgs gX) (defBody gX) (defScope gX) .none kV12 dc12 pm12 an12 cd12 ct12),f13,(PySem.W.fnOf "_law_take" "_law_take" (defArgs fD) (defBody fD) (defScope fD) .none kV13 dc13 pm13 an13 cd13 ct13),f14,(PySem.W.fnOf "_law_n" "_law_n" (defArgs lM) (defBody lM) (defScope lM) .none kV14 dc14 pm14 an14 cd14 ct14),f15,(PySem.W.fnOf "_law_rest" "_law_rest" (defArgs fH) (defBody fH) (defScope fH) .none kV15 dc15 pm15 an15 cd15 ct15),f16,(PySem.W.fnOf "_law_rests" "_law_rests" (defArgs dU) (defBody dU) (defScope dU) .none kV16 dc16 pm16 an16 cd16 ct16),f17,(PySem.W.fnOf "_law_expr" "_law_expr" (defArgs fK) (defBody fK) (defScope fK) .none kV17 dc17 pm17 an17 cd17 ct17),f18,(PySem.W.fnOf "_law_worth" "_law_worth" (defArgs eO) (defBody eO) (defScope eO) .none kV18 dc18 pm18 an18 cd18 ct18),f19,(PySem.W.fnOf "_law_shared" "_law_shared" (defArgs dN) (defBody dN) (defScope dN) .none kV19 dc19 pm19 an19 cd19 ct19),f20,(PySem.W.fnOf "_law_unit" "_law_unit" (defArgs fC) (defBody fC) (defScope fC) .none kV20 dc20 pm20 an20 cd20 ct20),f21,(PySem.W.fnOf "_law_deed" "_law_deed" (defArgs dX) (defBody dX) (defScope dX) .none kV21 dc21 pm21 an21 cd21 ct21),f22,(PySem.W.fnOf "_law_inverse" "_law_inverse" (defArgs cR) (defBody cR) (defScope cR) .none kV22 dc22 pm22 an22 cd22 ct22),f23,(PySem.W.fnOf "_law_deeds_back" "_law_deeds_back" (defArgs bX) (defBody bX) (defScope bX) .none kV23 dc23 pm23 an23 cd23 ct23),f24,(PySem.W.fnOf "_law_row_by" "_law_row_by" (defArgs dM) (defBody dM) (defScope dM) .none kV24 dc24 pm24 an24 cd24 ct24),f25,(PySem.W.fnOf "_law_row_alone" "_law_row_alone" (defArgs cC) (defBody cC) (defScope cC) .none kV25 dc25 pm25 an25 cd25 ct25),f26,(PySem.W.fnOf "_law_run" "_law_run" (defArgs gR) (defBody gR) (defScope gR) .none kV26 dc26 pm26 an26 cd26 ct26),f27,(PySem.W.fnOf "_law_shelves" "_law_shelves" (defArgs cO) (defBody cO) (defScope cO) .none kV27 dc27 pm27 an27 cd27 ct27),f28,(PySem.W.fnOf "_law_triple" "_law_triple" (defArgs cX) (defBody cX) (defScope cX) .none kV28 dc28 pm28 an28 cd28 ct28),f29,(PySem.W.fnOf "_law_great" "_law_great" (defArgs eP) (defBody eP) (defScope eP) .none kV29 dc29 pm29 an29 cd29 ct29),f30,(PySem.W.fnOf "_law_paper" "_law_paper" (defArgs eK) (defBody eK) (defScope eK) .none kV30 dc30 pm30 an30 cd30 ct30),f31,(PySem.W.fnOf "_law_other_shelves" "_law_other_shelves" (defArgs bG) (defBody bG) (defScope bG) .none kV31 dc31 pm31 an31 cd31 ct31),f32,(PySem.W.fnOf "_law_spoilt" "_law_spoilt" (defArgs dO) (defBody dO) (defScope dO) .none kV32 dc32 pm32 an32 cd32 ct32),f33,(PySem.W.fnOf "_law_bent" "_law_bent" (defArgs fJ) (defBody fJ) (defScope fJ) .none kV33 dc33 pm33 an33 cd33 ct33),f34,(PySem.W.fnOf "_law_row" "_law_row" (defArgs gQ) (defBody gQ) (defScope gQ) .none kV34 dc34 pm34 an34 cd34 ct34),f35,(PySem.W.fnOf "_law_heard" "_law_heard" (defArgs eM) (defBody eM) (defScope eM) .none kV35 dc35 pm35 an35 cd35 ct35),f36,(PySem.W.fnOf "_law_true" "_law_true" (defArgs fF) (defBody fF) (defScope fF) .none kV36 dc36 pm36 an36 cd36 ct36),f37,(PySem.W.fnOf "_law_other_nums" "_law_other_nums" (defArgs bY) (defBody bY) (defScope bY) .none kV37 dc37 pm37 an37 cd37 ct37),fa,(PySem.W.fnOf "law" "law" (defArgs jH) (defBody jH) (defScope jH) .none kV38 dc38 pm38 an38 cd38 ct38),eL,eNoPaper,jNoPaper,(PySem.W.fnOf "__init__" "NoPaper.__init__" (defArgs dZ) (defBody dZ) (defScope dZ) .none kVNoPaper dcNoPaper pmNoPaper anNoPaper cdNoPaper ctNoPaper)⟩ :=
  ⟨aR l1 c1 k1,
   (aR (st:=eJ) l1 c1 k1).binds (ps:=["n","k"]) (fun _ _ _ _ _ _=>ex2 fun _ _=>rfl),
   k1,
   PySem.W.mg_of X G a1,
   aR l2 c2 k2,
   (aR (st:=cG) l2 c2 k2).binds (ps:=["n","deeds"]) (fun _ _ _ _ _ _=>ex2 fun _ _=>rfl),
   k2,
   PySem.W.mg_of X G a2,
   aR l3 c3 k3,
   (aR (st:=cU) l3 c3 k3).binds (ps:=["n","deed"]) (fun _ _ _ _ _ _=>ex2 fun _ _=>rfl),
   k3,
   PySem.W.mg_of X G a3,
   aR l4 c4 k4,
   (aR (st:=gO) l4 c4 k4).binds (ps:=["program","paper","S","B","C","by"]) (fun _ _ _ _ _ _=>ex6 fun _ _ _ _ _ _=>rfl),
   k4,
   PySem.W.mg_of X G a4,
   aR l5 c5 k5,
   (aR (st:=gP) l5 c5 k5).binds (ps:=["n","deeds","at","paper","shelves","by","back"]) (fun _ _ _ _ _ _=>ex7 fun _ _ _ _ _ _ _=>rfl),
   k5,
   PySem.W.mg_of X G a5,
   aR l6 c6 k6,
   (aR (st:=cS) l6 c6 k6).binds (ps:=["n","deeds","at","shelves","by","back"]) (fun _ _ _ _ _ _=>ex6 fun _ _ _ _ _ _=>rfl),
   k6,
   PySem.W.mg_of X G a6,
   aR l7 c7 k7,
   (aR (st:=cD) l7 c7 k7).binds (ps:=["n","deeds","at","paper","shelves","by","back"]) (fun _ _ _ _ _ _=>ex7 fun _ _ _ _ _ _ _=>rfl),
   k7,
   PySem.W.mg_of X G a7,
   aR l8 c8 k8,
   (aR (st:=cM) l8 c8 k8).binds (ps:=["deeds","at","asked"]) (fun _ _ _ _ _ _=>ex3 fun _ _ _=>rfl),
   k8,
   PySem.W.mg_of X G a8,
   aR l9 c9 k9,
   (aR (st:=lP) l9 c9 k9).binds (ps:=["program","givens","contents"]) (fun _ _ _ _ _ _=>ex3 fun _ _ _=>rfl),
   k9,
   PySem.W.mg_of X G a9,
   aR l10 c10 k10,
   (aR (st:=jA) l10 c10 k10).binds (ps:=["n","deed","givens","contents"]) (fun _ _ _ _ _ _=>ex4 fun _ _ _ _=>rfl),
   k10,
   PySem.W.mg_of X G a10,
   aR l11 c11 k11,
   (aR (st:=cN) l11 c11 k11).binds (ps:=["places","numbers"]) (fun _ _ _ _ _ _=>ex2 fun _ _=>rfl),
   k11,
   PySem.W.mg_of X G a11,
   aR l12 c12 k12,
   (aR (st:=gX) l12 c12 k12).binds (ps:=["_law_script","_law_k"]) (fun _ _ _ _ _ _=>ex2 fun _ _=>rfl),
   k12,
   PySem.W.mg_of X G a12,
   aR l13 c13 k13,
   (aR (st:=fD) l13 c13 k13).binds (ps:=["_law_box_here","_law_many"]) (fun _ _ _ _ _ _=>ex2 fun _ _=>rfl),
   k13,
   PySem.W.mg_of X G a13,
   aR l14 c14 k14,
   (aR (st:=lM) l14 c14 k14).binds (ps:=["_law_box_here"]) (fun _ _ _ _ _ _=>ex1 fun _=>rfl),
   k14,
   PySem.W.mg_of X G a14,
   aR l15 c15 k15,
   (aR (st:=fH) l15 c15 k15).binds (ps:=["_law_box_here","_law_n_here"]) (fun _ _ _ _ _ _=>ex2 fun _ _=>rfl),
   k15,
   PySem.W.mg_of X G a15,
   aR l16 c16 k16,
   (aR (st:=dU) l16 c16 k16).binds (ps:=["_law_box_here","_law_n_here","_law_many"]) (fun _ _ _ _ _ _=>ex3 fun _ _ _=>rfl),
   k16,
   PySem.W.mg_of X G a16,
   aR l17 c17 k17,
   (aR (st:=fK) l17 c17 k17).binds (ps:=["_law_box_here","_law_givens","_law_room","_law_deep"]) (fun _ _ _ _ _ _=>ex4 fun _ _ _ _=>rfl),
   k17,
   PySem.W.mg_of X G a17,
   aR l18 c18 k18,
   (aR (st:=eO) l18 c18 k18).binds (ps:=["_law_n_here","_law_expr_here","_law_given"]) (fun _ _ _ _ _ _=>ex3 fun _ _ _=>rfl),
   k18,
   PySem.W.mg_of X G a18,
   aR l19 c19 k19,
   (aR (st:=dN) l19 c19 k19).binds (ps:=["_law_one","_law_other"]) (fun _ _ _ _ _ _=>ex2 fun _ _=>rfl),
   k19,
   PySem.W.mg_of X G a19,
   aR l20 c20 k20,
   (aR (st:=fC) l20 c20 k20).binds (ps:=["_law_box_here","_law_n_here"]) (fun _ _ _ _ _ _=>ex2 fun _ _=>rfl),
   k20,
   PySem.W.mg_of X G a20,
   aR l21 c21 k21,
   (aR (st:=dX) l21 c21 k21).binds (ps:=["_law_box_here","_law_n_here","_law_givens","_law_shelves_here"]) (fun _ _ _ _ _ _=>ex4 fun _ _ _ _=>rfl),
   k21,
   PySem.W.mg_of X G a21,
   aR l22 c22 k22,
   (aR (st:=cR) l22 c22 k22).binds (ps:=["_law_n_here","_law_u"]) (fun _ _ _ _ _ _=>ex2 fun _ _=>rfl),
   k22,
   PySem.W.mg_of X G a22,
   aR l23 c23 k23,
   (aR (st:=bX) l23 c23 k23).binds (ps:=["_law_n_here","_law_deeds"]) (fun _ _ _ _ _ _=>ex2 fun _ _=>rfl),
   k23,
   PySem.W.mg_of X G a23,
   aR l24 c24 k24,
   (aR (st:=dM) l24 c24 k24).binds (ps:=["_law_n_here","_law_expr_here","_law_ks","_law_kb","_law_kc"]) (fun _ _ _ _ _ _=>ex5 fun _ _ _ _ _=>rfl),
   k24,
   PySem.W.mg_of X G a24,
   aR l25 c25 k25,
   (aR (st:=cC) l25 c25 k25).binds (ps:=["_law_n_here","_law_expr_here","_law_ks","_law_kb","_law_kc"]) (fun _ _ _ _ _ _=>ex5 fun _ _ _ _ _=>rfl),
   k25,
   PySem.W.mg_of X G a25,
   aR l26 c26 k26,
   (aR (st:=gR) l26 c26 k26).binds (ps:=["_law_program","_law_given","_law_contents"]) (fun _ _ _ _ _ _=>ex3 fun _ _ _=>rfl),
   k26,
   PySem.W.mg_of X G a26,
   aR l27 c27 k27,
   (aR (st:=cO) l27 c27 k27).binds (ps:=["_law_box_here","_law_deeds"]) (fun _ _ _ _ _ _=>ex2 fun _ _=>rfl),
   k27,
   PySem.W.mg_of X G a27,
   aR l28 c28 k28,
   (aR (st:=cX) l28 c28 k28).binds (ps:=["_law_box_here","_law_shelves_here"]) (fun _ _ _ _ _ _=>ex2 fun _ _=>rfl),
   k28,
   PySem.W.mg_of X G a28,
   aR l29 c29 k29,
   (aR (st:=eP) l29 c29 k29).binds (ps:=["_law_box_here","_law_givens"]) (fun _ _ _ _ _ _=>ex2 fun _ _=>rfl),
   k29,
   PySem.W.mg_of X G a29,
   aR l30 c30 k30,
   (aR (st:=eK) l30 c30 k30).binds (ps:=["_law_expr_here"]) (fun _ _ _ _ _ _=>ex1 fun _=>rfl),
   k30,
   PySem.W.mg_of X G a30,
   aR l31 c31 k31,
   (aR (st:=bG) l31 c31 k31).binds (ps:=["_law_box_here","_law_shelves_here","_law_deed_here","_law_form"]) (fun _ _ _ _ _ _=>ex4 fun _ _ _ _=>rfl),
   k31,
   PySem.W.mg_of X G a31,
   aR l32 c32 k32,
   (aR (st:=dO) l32 c32 k32).binds (ps:=["_law_box_here","_law_program"]) (fun _ _ _ _ _ _=>ex2 fun _ _=>rfl),
   k32,
   PySem.W.mg_of X G a32,
   aR l33 c33 k33,
   (aR (st:=fJ) l33 c33 k33).binds (ps:=["_law_box_here","_law_paper_here","_law_deep"]) (fun _ _ _ _ _ _=>ex3 fun _ _ _=>rfl),
   k33,
   PySem.W.mg_of X G a33,
   aR l34 c34 k34,
   (aR (st:=gQ) l34 c34 k34).binds (ps:=["_law_by","_law_n_here","_law_expr_here","_law_places"]) (fun _ _ _ _ _ _=>ex4 fun _ _ _ _=>rfl),
   k34,
   PySem.W.mg_of X G a34,
   aR l35 c35 k35,
   (aR (st:=eM) l35 c35 k35).binds (ps:=["_law_program","_law_paper_here","_law_places","_law_by"]) (fun _ _ _ _ _ _=>ex4 fun _ _ _ _=>rfl),
   k35,
   PySem.W.mg_of X G a35,
   aR l36 c36 k36,
   (aR (st:=fF) l36 c36 k36).binds (ps:=["_law_box_here","_law_program","_law_found","_law_places","_law_by"]) (fun _ _ _ _ _ _=>ex5 fun _ _ _ _ _=>rfl),
   k36,
   PySem.W.mg_of X G a36,
   aR l37 c37 k37,
   (aR (st:=bY) l37 c37 k37).binds (ps:=["_law_box_here","_law_n_here","_law_expr_here"]) (fun _ _ _ _ _ _=>ex3 fun _ _ _=>rfl),
   k37,
   PySem.W.mg_of X G a37,
   aR l38 c38 k38,
   (aR (st:=jH) l38 c38 k38).binds (ps:=["_law_script"]) (fun _ _ _ _ _ _=>ex1 fun _=>rfl),
   k38,
   PySem.W.mg_of X G a38,
   aL,
   PySem.W.mg_of X G aL,
   ⟨rL,gL,iL,tL⟩,
   aLf aNoPaper aL xNoPaper bNoPaper oL (by decide),
   PySem.W.mg_of X G aNoPaper,
   aR lNoPaper cNoPaper kNoPaper,
   (aR (st:=dZ) lNoPaper cNoPaper kNoPaper).binds (ps:=["self","at"]) (fun _ _ _ _ _ _=>ex2 fun _ _=>rfl),
   tNoPaper,
   nNoPaper,
   sNoPaper,
   bNoPaper,
   qNoPaper,
   PySem.W.mg_none_of X G z_int,
   PySem.W.mg_none_of X G z_len,
   PySem.W.mg_none_of X G z_list,
   PySem.W.mg_none_of X G z_max,
   PySem.W.mg_none_of X G z_min,
   PySem.W.mg_none_of X G z_range,
   PySem.W.mg_none_of X G z_reversed,
   PySem.W.mg_none_of X G z_sorted,
   PySem.W.mg_none_of X G z_tuple⟩
 exact ⟨_,fun s v=>.of_eq rfl,fun base _ _=>(aIz T).mono (by omega)⟩
theorem aBy {l:PySem.W.OpenLaw} {q:Program} {loose:List Str} {XP:(Str->Option Value)->Heap->Prop} {YP:World->Heap->Prop} {d:DefRec} {K:Params->PySem.W.Frag} (hn:l.most=some 63) (hdf:d.params.defaults=[])
  (hY:∀ (w:World) (h:Heap),YP w h->(K w.params).In h)
  (F:∀ (w:World) (mg:Str->Option Value) (fa:Addr) (h:Heap),(K w.params).In h->h.Ns mainGlobals mg->mg d.name=some (.ref fa) ->
   ∃ fd:FuncData,(∀ (s:Shared) (u:Value),BindsTo s fd ⟨[u],[]⟩ [("_law_script",u)])/\∀ base:Heap,(K w.params).In base->base.Ns mainGlobals mg->FnOk l.prog w (K w.params) mg base (CX1 l.prog w) 104 fa fd ["_law_script"] (spX (K w.params) 1 qX)) :
  PySem.W.WalkO q loose XP YP l.row.toRowW d [] (fun f vs=>PySem.call f vs) :=
 L2.yI (n:=63) (k:=104) (x:="_law_script") (CX:=fun w=>(CX1 l.prog w)) (sp:=fun w=>(spX (K w.params) 1 qX)) hn (by decide) hdf ⟨rfl,by decide,by decide⟩ hY F (fun _ _ a ns hl hO hS=>aFi hO hS (aBd ns hl)) fun _ _ _ _ _ ⟨_,_,_,_,_,_,_,_,_,_,_,z⟩=>z
end K34
open PySem PySem.W PyProof.Rows
namespace PySem.W.Fast
noncomputable def tw14167480878848136437:Params->Heap:=fun _=>⟨#[],default⟩
theorem te14167480878848136437:tw14167480878848136437=tw14167480878848136437:=rfl
noncomputable def tw16765800177531940703:Params->Heap:=fun _=>⟨#[],default⟩
theorem te16765800177531940703:tw16765800177531940703=tw16765800177531940703:=rfl
noncomputable def tw9569961456575500774:Params->BT:=fun _=>BT.nil
theorem te9569961456575500774:tw9569961456575500774=tw9569961456575500774:=rfl
noncomputable def tw12516251221512855418:Program:=Challenge.pw_lentshelf_k34_whole_what_papers_show
theorem te12516251221512855418:tw12516251221512855418=tw12516251221512855418:=rfl
noncomputable def tw7229137424061651226:Program:=Challenge.pw_lentshelf_k34_whole_what_papers_show
theorem te7229137424061651226:Challenge.pw_lentshelf_k34_whole_what_papers_show=tw7229137424061651226:=rfl
noncomputable def tw10149844342331795445:Params->BT:=fun _=>BT.nil
theorem te10149844342331795445:tw10149844342331795445=tw10149844342331795445:=rfl
noncomputable def tw6926023286446737938:Params->BT:=fun _=>BT.nil
theorem te6926023286446737938:tw6926023286446737938=tw6926023286446737938:=rfl
noncomputable def tw15812401000068026451:List Stmt:=[]
theorem te15812401000068026451:tw15812401000068026451=tw15812401000068026451:=rfl
noncomputable def tw6913133564919699712:List Stmt:=[]
theorem te6913133564919699712:tw6913133564919699712=tw6913133564919699712:=rfl
noncomputable def tw2031334003084383608:Params->BT:=fun _=>BT.nil
theorem te2031334003084383608:tw2031334003084383608=tw2031334003084383608:=rfl
noncomputable def tw15919741016684853734:List Stmt:=[]
theorem te15919741016684853734:tw15919741016684853734=tw15919741016684853734:=rfl
noncomputable def tw4048202132923983897:Params->Obj:=fun _=>default
theorem te4048202132923983897:tw4048202132923983897=tw4048202132923983897:=rfl
noncomputable def tw3337626466713862491:Params->Obj:=fun _=>default
theorem te3337626466713862491:tw3337626466713862491=tw3337626466713862491:=rfl
noncomputable def tw241744224377257725:Params->Obj:=fun _=>default
theorem te241744224377257725:tw241744224377257725=tw241744224377257725:=rfl
noncomputable def tw1234150698796506796:List Stmt:=[]
theorem te1234150698796506796:tw1234150698796506796=tw1234150698796506796:=rfl
noncomputable def tw17039335344427421151:Params->Obj:=fun _=>default
theorem te17039335344427421151:tw17039335344427421151=tw17039335344427421151:=rfl
noncomputable def tw17015790593066850960:Params->Obj:=fun _=>default
theorem te17015790593066850960:tw17015790593066850960=tw17015790593066850960:=rfl
noncomputable def tw8263618476520485214:Params->Obj:=fun _=>default
theorem te8263618476520485214:tw8263618476520485214=tw8263618476520485214:=rfl
noncomputable def tw7152914555799058127:List Stmt:=[]
theorem te7152914555799058127:tw7152914555799058127=tw7152914555799058127:=rfl
noncomputable def tw12960235457806042651:Params->Obj:=fun _=>default
theorem te12960235457806042651:tw12960235457806042651=tw12960235457806042651:=rfl
noncomputable def tw5176317102891979821:Params->BT:=fun _=>BT.nil
theorem te5176317102891979821:tw5176317102891979821=tw5176317102891979821:=rfl
noncomputable def tw15480738693518260367:Params->Obj:=fun _=>default
theorem te15480738693518260367:tw15480738693518260367=tw15480738693518260367:=rfl
noncomputable def tw8014806993198215823:Params->Obj:=fun _=>default
theorem te8014806993198215823:tw8014806993198215823=tw8014806993198215823:=rfl
noncomputable def tw16152142071717844696:Params->Obj:=fun _=>default
theorem te16152142071717844696:tw16152142071717844696=tw16152142071717844696:=rfl
noncomputable def tw15482620472859161694:Params->Obj:=fun _=>default
theorem te15482620472859161694:tw15482620472859161694=tw15482620472859161694:=rfl
noncomputable def tw6987064308034290162:Params->Obj:=fun _=>default
theorem te6987064308034290162:tw6987064308034290162=tw6987064308034290162:=rfl
noncomputable def tw3383012832902004655:Params->Obj:=fun _=>default
theorem te3383012832902004655:tw3383012832902004655=tw3383012832902004655:=rfl
noncomputable def tw4609651259980206081:Params->Obj:=fun _=>default
theorem te4609651259980206081:tw4609651259980206081=tw4609651259980206081:=rfl
noncomputable def tw3062166437224486858:Params->Obj:=fun _=>default
theorem te3062166437224486858:tw3062166437224486858=tw3062166437224486858:=rfl
noncomputable def tw16634844723053809735:Params->Obj:=fun _=>default
theorem te16634844723053809735:tw16634844723053809735=tw16634844723053809735:=rfl
noncomputable def tw15119093931829223307:Params->Obj:=fun _=>default
theorem te15119093931829223307:tw15119093931829223307=tw15119093931829223307:=rfl
noncomputable def tw15889151787483831914:Params->Obj:=fun _=>default
theorem te15889151787483831914:tw15889151787483831914=tw15889151787483831914:=rfl
noncomputable def tw14821229852157777252:Params->Obj:=fun _=>default
theorem te14821229852157777252:tw14821229852157777252=tw14821229852157777252:=rfl
noncomputable def tw10480705973450195621:Params->Obj:=fun _=>default
theorem te10480705973450195621:tw10480705973450195621=tw10480705973450195621:=rfl
noncomputable def tw18029503068172487628:Params->Obj:=fun _=>default
theorem te18029503068172487628:tw18029503068172487628=tw18029503068172487628:=rfl
noncomputable def tw15242247040141252424:Params->Obj:=fun _=>default
theorem te15242247040141252424:tw15242247040141252424=tw15242247040141252424:=rfl
noncomputable def tw8176536667194871474:Params->Obj:=fun _=>default
theorem te8176536667194871474:tw8176536667194871474=tw8176536667194871474:=rfl
noncomputable def tw13218930725380429630:Params->Obj:=fun _=>default
theorem te13218930725380429630:tw13218930725380429630=tw13218930725380429630:=rfl
end PySem.W.Fast
set_option maxRecDepth 100000 in
set_option maxHeartbeats 0 in
theorem PySem.Challenge.cw_lentshelf_k34_whole_what_papers_show_holds : PySem.Challenge.rw_lentshelf_k34_whole_what_papers_show.Holds := by
 w_on; o_law; k_head; (case hw=>w_witness2)
 k_fill
 refine K34.aBy (l:=PySem.Challenge.rw_lentshelf_k34_whole_what_papers_show) rfl rfl (fun w h Y=>PySem.W.kIn_of Y) ?F
 case F =>
  intro w mg fa h KX G hmg
  refine' K34.aJi KX G hmg ?a1 ?l1 ?c1 ?k1 ?a2 ?l2 ?c2 ?k2 ?a3 ?l3 ?c3 ?k3 ?a4 ?l4 ?c4 ?k4 ?a5 ?l5 ?c5 ?k5 ?a6 ?l6 ?c6 ?k6 ?a7 ?l7 ?c7 ?k7 ?a8 ?l8 ?c8 ?k8 ?a9 ?l9 ?c9 ?k9 ?a10 ?l10 ?c10 ?k10 ?a11 ?l11 ?c11 ?k11 ?a12 ?l12 ?c12 ?k12 ?a13 ?l13 ?c13 ?k13 ?a14 ?l14 ?c14 ?k14 ?a15 ?l15 ?c15 ?k15 ?a16 ?l16 ?c16 ?k16 ?a17 ?l17 ?c17 ?k17 ?a18 ?l18 ?c18 ?k18 ?a19 ?l19 ?c19 ?k19 ?a20 ?l20 ?c20 ?k20 ?a21 ?l21 ?c21 ?k21 ?a22 ?l22 ?c22 ?k22 ?a23 ?l23 ?c23 ?k23 ?a24 ?l24 ?c24 ?k24 ?a25 ?l25 ?c25 ?k25 ?a26 ?l26 ?c26 ?k26 ?a27 ?l27 ?c27 ?k27 ?a28 ?l28 ?c28 ?k28 ?a29 ?l29 ?c29 ?k29 ?a30 ?l30 ?c30 ?k30 ?a31 ?l31 ?c31 ?k31 ?a32 ?l32 ?c32 ?k32 ?a33 ?l33 ?c33 ?k33 ?a34 ?l34 ?c34 ?k34 ?a35 ?l35 ?c35 ?k35 ?a36 ?l36 ?c36 ?k36 ?a37 ?l37 ?c37 ?k37 ?a38 ?l38 ?c38 ?k38 ?aL ?oL ?rL ?gL ?iL ?tL ?aNoPaper ?xNoPaper ?jNoPaper_ ?bNoPaper ?lNoPaper ?cNoPaper ?kNoPaper ?tNoPaper ?nNoPaper ?sNoPaper ?qNoPaper ?z_int ?z_len ?z_list ?z_max ?z_min ?z_range ?z_reversed ?z_sorted ?z_tuple
  (case a1=>k_is)
  (case l1=>k_is)
  (case c1=>k_is)
  (case k1=>k_is)
  (case a2=>k_is)
  (case l2=>k_is)
  (case c2=>k_is)
  (case k2=>k_is)
  (case a3=>k_is)
  (case l3=>k_is)
  (case c3=>k_is)
  (case k3=>k_is)
  (case a4=>k_is)
  (case l4=>k_is)
  (case c4=>k_is)
  (case k4=>k_is)
  (case a5=>k_is)
  (case l5=>k_is)
  (case c5=>k_is)
  (case k5=>k_is)
  (case a6=>k_is)
  (case l6=>k_is)
  (case c6=>k_is)
  (case k6=>k_is)
  (case a7=>k_is)
  (case l7=>k_is)
  (case c7=>k_is)
  (case k7=>k_is)
  (case a8=>k_is)
  (case l8=>k_is)
  (case c8=>k_is)
  (case k8=>k_is)
  (case a9=>k_is)
  (case l9=>k_is)
  (case c9=>k_is)
  (case k9=>k_is)
  (case a10=>k_is)
  (case l10=>k_is)
  (case c10=>k_is)
  (case k10=>k_is)
  (case a11=>k_is)
  (case l11=>k_is)
  (case c11=>k_is)
  (case k11=>k_is)
  (case a12=>k_is)
  (case l12=>k_is)
  (case c12=>k_is)
  (case k12=>k_is)
  (case a13=>k_is)
  (case l13=>k_is)
  (case c13=>k_is)
  (case k13=>k_is)
  (case a14=>k_is)
  (case l14=>k_is)
  (case c14=>k_is)
  (case k14=>k_is)
  (case a15=>k_is)
  (case l15=>k_is)
  (case c15=>k_is)
  (case k15=>k_is)
  (case a16=>k_is)
  (case l16=>k_is)
  (case c16=>k_is)
  (case k16=>k_is)
  (case a17=>k_is)
  (case l17=>k_is)
  (case c17=>k_is)
  (case k17=>k_is)
  (case a18=>k_is)
  (case l18=>k_is)
  (case c18=>k_is)
  (case k18=>k_is)
  (case a19=>k_is)
  (case l19=>k_is)
  (case c19=>k_is)
  (case k19=>k_is)
  (case a20=>k_is)
  (case l20=>k_is)
  (case c20=>k_is)
  (case k20=>k_is)
  (case a21=>k_is)
  (case l21=>k_is)
  (case c21=>k_is)
  (case k21=>k_is)
  (case a22=>k_is)
  (case l22=>k_is)
  (case c22=>k_is)
  (case k22=>k_is)
  (case a23=>k_is)
  (case l23=>k_is)
  (case c23=>k_is)
  (case k23=>k_is)
  (case a24=>k_is)
  (case l24=>k_is)
  (case c24=>k_is)
  (case k24=>k_is)
  (case a25=>k_is)
  (case l25=>k_is)
  (case c25=>k_is)
  (case k25=>k_is)
  (case a26=>k_is)
  (case l26=>k_is)
  (case c26=>k_is)
  (case k26=>k_is)
  (case a27=>k_is)
  (case l27=>k_is)
  (case c27=>k_is)
  (case k27=>k_is)
  (case a28=>k_is)
  (case l28=>k_is)
  (case c28=>k_is)
  (case k28=>k_is)
  (case a29=>k_is)
  (case l29=>k_is)
  (case c29=>k_is)
  (case k29=>k_is)
  (case a30=>k_is)
  (case l30=>k_is)
  (case c30=>k_is)
  (case k30=>k_is)
  (case a31=>k_is)
  (case l31=>k_is)
  (case c31=>k_is)
  (case k31=>k_is)
  (case a32=>k_is)
  (case l32=>k_is)
  (case c32=>k_is)
  (case k32=>k_is)
  (case a33=>k_is)
  (case l33=>k_is)
  (case c33=>k_is)
  (case k33=>k_is)
  (case a34=>k_is)
  (case l34=>k_is)
  (case c34=>k_is)
  (case k34=>k_is)
  (case a35=>k_is)
  (case l35=>k_is)
  (case c35=>k_is)
  (case k35=>k_is)
  (case a36=>k_is)
  (case l36=>k_is)
  (case c36=>k_is)
  (case k36=>k_is)
  (case a37=>k_is)
  (case l37=>k_is)
  (case c37=>k_is)
  (case k37=>k_is)
  (case a38=>k_is)
  (case l38=>k_is)
  (case c38=>k_is)
  (case k38=>k_is)
  (case aL=>k_is)
  (case oL=>kernel_rfl)
  (case rL=>k_is)
  (case gL=>k_is)
  (case iL=>k_is)
  (case tL=>kernel_rfl)
  (case aNoPaper=>k_is)
  (case xNoPaper=>kernel_rfl)
  (case jNoPaper_=>k_is)
  (case bNoPaper=>kernel_rfl)
  (case lNoPaper=>k_is)
  (case cNoPaper=>k_is)
  (case kNoPaper=>k_is)
  (case tNoPaper=>k_is)
  (case nNoPaper=>k_is)
  (case sNoPaper=>k_is)
  (case qNoPaper=>k_is)
  (case z_int=>k_is)
  (case z_len=>k_is)
  (case z_list=>k_is)
  (case z_max=>k_is)
  (case z_min=>k_is)
  (case z_range=>k_is)
  (case z_reversed=>k_is)
  (case z_sorted=>k_is)
  (case z_tuple=>k_is)

import PyProof.Rows.All
import Wide.All
import OpenK.AllK
import Wide.FinOn
import Lean
import PyProof.EqAt
import PyProof.EqKinds
import PyProof.TupleCall
import PySem.Challenge.RW_lentshelf_k36_sayings_told_as_expression
set_option Elab.async false
set_option linter.all false
set_option bootstrap.genMatcherCode false
local macro_rules | `(tactic| omega) => `(tactic| lia)
-- CHANGE: your row's module here,as the last of these rows
set_option maxRecDepth 100000
namespace L2
open PySem PySem.Spec PyProof.Rows
noncomputable abbrev Key:=Sum Int Str
noncomputable def keyIs:Key->Value->Bool
  | .inl k,v=>Value.isInt k v
  | .inr x,v=>Value.isStrOf x v
noncomputable def keyH (w:World):Key->Int
  | .inl k=>hashInt k
  | .inr x=>hashStr w x
theorem keyIs_shape:∀ {k:Key} {v:Value},keyIs k v=true->(∃ i t,k=Sum.inl i/\v=Value.int i t)\/(∃ x t,k=Sum.inr x/\v=Value.str x t)
  | .inl i,v,h=>by
    obtain ⟨t,e⟩:=Value.isInt_shape (k:=i) (v:=v) h
    exact .inl ⟨i,t,rfl,e⟩
  | .inr x,v,h=>by
    obtain ⟨t,e⟩:=Value.isStrOf_shape (x:=x) (v:=v) h
    exact .inr ⟨x,t,rfl,e⟩
theorem key_ll (a b:Int):decide ((Sum.inl a:Key)=Sum.inl b)=(a==b):=by
  by_cases e:a=b
  · subst e; simp
  · have h:¬ (Sum.inl a:Key)=Sum.inl b:=fun q=>e (Sum.inl.inj q)
    rw [decide_eq_false h]
    exact (beq_eq_false_iff_ne.mpr e).symm
theorem key_rr (a b:Str):decide ((Sum.inr a:Key)=Sum.inr b)=decide (a=b):=by
  by_cases e:a=b
  · subst e; simp
  · have h:¬ (Sum.inr a:Key)=Sum.inr b:=fun q=>e (Sum.inr.inj q)
    rw [decide_eq_false h,decide_eq_false e]
theorem key_lr (a:Int) (b:Str):decide ((Sum.inl a:Key)=Sum.inr b)=false:=decide_eq_false (fun q=>nomatch q)
theorem key_rl (a:Str) (b:Int):decide ((Sum.inr a:Key)=Sum.inl b)=false:=decide_eq_false (fun q=>nomatch q)
noncomputable def mixKind (prog:Program) (w:World):PySem.KeyKind prog w Key where
  is:=keyIs
  hash:=keyH w
  inj:=fun v a b ha hb=>by
    rcases keyIs_shape ha with ⟨i,t,rfl,rfl⟩ | ⟨x,t,rfl,rfl⟩
    · rcases keyIs_shape hb with ⟨j,u,rfl,e⟩ | ⟨y,u,rfl,e⟩
      · injection e with e1 _; rw [e1]
      · exact nomatch e
    · rcases keyIs_shape hb with ⟨j,u,rfl,e⟩ | ⟨y,u,rfl,e⟩
      · exact nomatch e
      · injection e with e1 _; rw [e1]
  byValue:=fun k v h=>by
    rcases keyIs_shape h with ⟨i,t,rfl,rfl⟩ | ⟨x,t,rfl,rfl⟩ <;> rfl
  pyHash:=fun hv h=>by
    rcases keyIs_shape hv with ⟨i,t,rfl,rfl⟩ | ⟨x,t,rfl,rfl⟩
    · exact wpAny_pyHash_int h
    · exact wpAny_pyHash_str h
  eqBool:=fun hu hv h=>by
    rcases keyIs_shape hu with ⟨i,t,rfl,rfl⟩ | ⟨x,t,rfl,rfl⟩
    · rcases keyIs_shape hv with ⟨j,u,rfl,rfl⟩ | ⟨y,u,rfl,rfl⟩
      · rw [key_ll] at h; exact wpAny_eqBool_int h
      · rw [key_lr] at h; exact SeqAt.EqAt.int_str i t y u _ _ _ _ h
    · rcases keyIs_shape hv with ⟨j,u,rfl,rfl⟩ | ⟨y,u,rfl,rfl⟩
      · rw [key_rl] at h; exact SeqAt.EqAt.str_int x t j u _ _ _ _ h
      · rw [key_rr] at h; exact wpAny_eqBool_str h
  «strs»:=fun k x t v h=>by
    rcases keyIs_shape h with ⟨i,u,rfl,e⟩ | ⟨y,u,rfl,e⟩
    · exact nomatch e
    · injection e with e1 _
      subst e1
      cases v <;> rfl
theorem mixKind_is (prog:Program) (w:World) (k:Key) (v:Value):(mixKind prog w).is k v=keyIs k v:=rfl
end L2
namespace L2
open PySem PySem.Spec PyProof.Rows
inductive V where
  | non | bl (b:Bool) | int (i:Int) | str (x:Str) | byt (b:Array UInt8) | flt (b:UInt64) | ref (a:Addr) | ty (n:String)
  deriving DecidableEq
noncomputable def RelV:V->Value->Prop
  | .non,u=>u=Value.none
  | .bl b,u=>u=Value.bool b
  | .int i,u=>∃ t,u=Value.int i t
  | .str x,u=>∃ t,u=Value.str x t
  | .byt b,u=>∃ t,u=Value.bytes b t
  | .flt b,u=>∃ t,u=Value.float b t
  | .ref a,u=>u=Value.ref a
  | .ty n,u=>u=Value.type n
noncomputable abbrev Vals:List V->List Value->Prop:=Paired RelV
theorem Vals.length {xs:List V} {us:List Value} (r:Vals xs us):xs.length=us.length:=Paired.length r
theorem Vals.get:∀ {xs:List V} {us:List Value} {i:Nat} {x:V},Vals xs us->xs[i]?=some x->∃ u,us[i]?=some u/\RelV x u
  | _,_,_,_,.nil,e=>by simp at e
  | _,_,0,_,.cons r _,e=>by simp at e; subst e; exact ⟨_,rfl,r⟩
  | _,_,i+1,x,.cons _ t,e=>by
    obtain ⟨u,h1,h2⟩:=Vals.get (i:=i) (x:=x) t (by simpa using e)
    exact ⟨u,by simpa using h1,h2⟩
theorem Vals.set {x:V} {u:Value} (r:RelV x u):∀ {xs:List V} {us:List Value} (i:Nat),Vals xs us->Vals (xs.set i x) (us.set i u)
  | _,_,_,.nil=>.nil
  | _,_,0,.cons _ t=>.cons r t
  | _,_,i+1,.cons q t=>.cons q (Vals.set r i t)
theorem Vals.append:∀ {xs ys:List V} {us ws:List Value},Vals xs us->Vals ys ws->Vals (xs++ys) (us++ws)
  | _,_,_,_,.nil,s=>s
  | _,_,_,_,.cons r t,s=>.cons r (Vals.append t s)
theorem Vals.take:∀ {xs:List V} {us:List Value} (n:Nat),Vals xs us->Vals (xs.take n) (us.take n)
  | _,_,0,_=>.nil
  | _,_,_+1,.nil=>.nil
  | _,_,n+1,.cons r t=>.cons r (Vals.take n t)
theorem Vals.drop:∀ {xs:List V} {us:List Value} (n:Nat),Vals xs us->Vals (xs.drop n) (us.drop n)
  | _,_,0,r=>r
  | _,_,_+1,.nil=>.nil
  | _,_,n+1,.cons _ t=>Vals.drop n t
theorem Vals.none_of:∀ {xs:List V} {us:List Value} {i:Nat},Vals xs us->xs[i]?=none->us[i]?=none:=fun {xs us i} r e=>by
  have h1:=r.length
  have h2:xs.length<=i:=List.getElem?_eq_none_iff.mp e
  exact List.getElem?_eq_none_iff.mpr (by omega)
noncomputable def RelO:Option V->Option Value->Prop
  | some v,some u=>RelV v u
  | none,none=>True
  | _,_=>False
noncomputable def KV {κ:Type}:List (κ×V)->List (κ×Value)->Prop:=Paired fun (p:κ×V) (q:κ×Value)=>p.1=q.1/\RelV p.2 q.2
noncomputable def kV:Key->V
  | .inl i=>.int i
  | .inr x=>.str x
inductive HO where
  | lst (xs:List V)
  | tup (xs:List V)
  | dK (kvs:List (Key×V)) | dT (kvs:List (List Key×V))
  | set (S:Int->Bool) (n:Nat)
  | ins (C dx:Addr) (fs:List (Str×V))
  | own (x:Addr)
  | xd (fs:List (Str×V))
  | met (f x:Addr)
  | rng (lo hi:Int)
  | frz (o:Obj) (u:HO)
  | tbl (ps:Array Value)
  | ext (φ:Heap->Prop)
noncomputable abbrev Hp:=Addr->Option HO
noncomputable def upd (H:Hp) (a:Addr) (o:HO):Hp:=fun b=>if b=a then some o else H b
theorem upd_same {H:Hp} {a:Addr} {o:HO}:upd H a o a=some o:=by unfold upd; rw [if_pos rfl]
theorem upd_ne {H:Hp} {a b:Addr} {o:HO} (h:b≠a):upd H a o b=H b:=by unfold upd; rw [if_neg h]
theorem upd_upd {H:Hp} {a:Addr} {o u:HO}:upd (upd H a o) a u=upd H a u:=by
  funext b; unfold upd; split <;> rfl
theorem ne_of {H:Hp} {a b:Addr} {o u:HO} (h:H a=some o) (h':H b=some u) (d:o≠u):a≠b:=by
  intro e; subst e; rw [h] at h'; exact d (Option.some.inj h')
theorem ne_of_none {H:Hp} {a b:Addr} {o:HO} (h:H a=some o) (h':H b=none):a≠b:=by
  intro e; subst e; rw [h] at h'; cases h'
section
variable (P:Program) (w:World)
noncomputable def ObjOk (H:Hp) (h:Heap) (a:Addr):HO->Prop
  | .lst xs=>xs.length<=sizeLine/\∃ (its:List Value) (n:Nat),Vals xs its/\h.get? a=some { cls:=.type "list",data:=.seq its.toArray n }
  | .tup xs=>xs.length<=sizeLine/\∃ its:List Value,Vals xs its/\IsTup h a its.toArray
  | .dK kvs=>kvs.length<=sizeLine/\(a==sysModules)=false/\∃ vs,KV kvs vs/\h.DictOf (mixKind P w) a vs
  | .dT kvs=>kvs.length<=sizeLine/\(a==sysModules)=false/\∃ xs:List (List Key×Addr×Value),
      Paired (fun (p:List Key×V) (q:List Key×Addr×Value)=>p.1=q.1/\H q.2.1=some (.tup (p.1.map kV))/\RelV p.2 q.2.2) kvs xs /\
      ∃ o es ep,h.get? a=some o/\o.ExactDict/\o.data=.dict es ep/\es.toList=xs.map (entryOfKey (tupleKind (mixKind P w)))/\(xs.map (·.1)).Nodup
  | .set S n=>h.SetOf (intKind P w) a S n
  | .ins C dx fs=>H dx=some (.own a)/\fs.length<=1000/\dx≠a/\h.get? a=some (PySem.W.instObj C dx) /\
      ∃ mA,h.Ns1 dx mA/\(∀ f,RelO (fs.lookup f) (mA f))/\PySem.Within mA (fs.map (·.1))
  | .own _=>∃ o,h.get? a=some o
  | .xd fs=>∃ mA,h.Ns1 a mA/\∀ f,RelO (fs.lookup f) (mA f)
  | .rng lo hi=>∃ t u v,h.get? a=some { cls:=.type "range",data:=.fields #[.int lo t,.int hi u,.int 1 v] }
  | .frz o u=>h.get? a=some o/\ObjOk H h a u
  | .tbl ps=>h.get? a=some { cls:=.none,data:=.fields ps }
  | .met f x=>h.get? a=some (PySem.W.methodObj (.ref f) (.ref x))
  | .ext φ=>φ h/\(∃ o,h.get? a=some o)/\∀ h1 h2:Heap,φ h1->(∀ o,h1.get? a=some o->h2.get? a=some o)->φ h2
noncomputable def HOk (H:Hp) (h:Heap):Prop:=∀ a o,H a=some o->ObjOk P w H h a o
end
section
variable {P:Program} {w:World} {H H':Hp} {h h':Heap} {a:Addr} {o:HO}
theorem ObjOk.lt (x:ObjOk P w H h a o):a < h.objs.size:=by
  cases o with
  | lst xs=>obtain ⟨_,_,_,_,e⟩:=x; exact Heap.lt_size e
  | tup xs=>obtain ⟨_,_,_,p⟩:=x; exact p.lt
  | dK kvs=>obtain ⟨_,_,_,_,o,_,_,e,_⟩:=x; exact Heap.lt_size e
  | dT kvs=>obtain ⟨_,_,_,_,o,_,_,e,_⟩:=x; exact Heap.lt_size e
  | set S n=>obtain ⟨o,_,_,_,e,_⟩:=x; exact Heap.lt_size e
  | ins C dx fs=>obtain ⟨_,_,_,e,_⟩:=x; exact Heap.lt_size e
  | own y=>obtain ⟨_,e⟩:=x; exact Heap.lt_size e
  | xd fs=>obtain ⟨_,⟨_,_,_,e,_⟩,_⟩:=x; exact Heap.lt_size e
  | rng lo hi=>obtain ⟨_,_,_,e⟩:=x; exact Heap.lt_size e
  | frz ob u=>obtain ⟨e,_⟩:=x; exact Heap.lt_size e
  | tbl ps=>exact Heap.lt_size (show h.get? a=some _ from x)
  | met f y=>exact Heap.lt_size (show h.get? a=some _ from x)
  | ext φ=>obtain ⟨_,⟨_,e⟩,_⟩:=x; exact Heap.lt_size e
theorem Paired.mapP {α β:Type} {F G:α->β->Prop}:∀ {l₁:List α} {l₂:List β},Paired F l₁ l₂->(∀ a b,F a b->G a b)->Paired G l₁ l₂
  | _,_,.nil,_=>.nil
  | _,_,.cons r t,f=>.cons (f _ _ r) (Paired.mapP t f)
theorem ObjOk.stay (x:ObjOk P w H h a o) (k:∀ b u,(b=a\/H b=some (.own a))->h.get? b=some u->h'.get? b=some u)
    (ho:∀ b,H b=some (.own a)->H' b=some (.own a)) (ht:∀ b xs,H b=some (.tup xs)->H' b=some (.tup xs)):ObjOk P w H' h' a o:=by
  induction o with
  | lst xs=>obtain ⟨z,its,n,r,e⟩:=x; exact ⟨z,its,n,r,k _ _ (.inl rfl) e⟩
  | tup xs=>obtain ⟨z,its,r,ob,e,c⟩:=x; exact ⟨z,its,r,ob,k _ _ (.inl rfl) e,c⟩
  | dK kvs=>obtain ⟨z,y,vs,r,ob,es,ep,e,c⟩:=x; exact ⟨z,y,vs,r,ob,es,ep,k _ _ (.inl rfl) e,c⟩
  | dT kvs =>
    obtain ⟨z,y,xs,r,ob,es,ep,e,c⟩:=x
    exact ⟨z,y,xs,Paired.mapP r fun p q z=>⟨z.1,ht _ _ z.2.1,z.2.2⟩,ob,es,ep,k _ _ (.inl rfl) e,c⟩
  | set S n=>obtain ⟨ob,es,ep,t,e,c⟩:=x; exact ⟨ob,es,ep,t,k _ _ (.inl rfl) e,c⟩
  | ins C dx fs =>
    obtain ⟨d,z,ne,e,mA,⟨od,es,ep,e2,c⟩,r⟩:=x
    exact ⟨ho _ d,z,ne,k _ _ (.inl rfl) e,mA,⟨od,es,ep,k _ _ (.inr d) e2,c⟩,r⟩
  | own y=>obtain ⟨ob,e⟩:=x; exact ⟨ob,k _ _ (.inl rfl) e⟩
  | xd fs=>obtain ⟨mA,⟨od,es,ep,e,c⟩,r⟩:=x; exact ⟨mA,⟨od,es,ep,k _ _ (.inl rfl) e,c⟩,r⟩
  | rng lo hi=>obtain ⟨t,u,v,e⟩:=x; exact ⟨t,u,v,k _ _ (.inl rfl) e⟩
  | frz ob u ih=>obtain ⟨e,q⟩:=x; exact ⟨k _ _ (.inl rfl) e,ih q⟩
  | tbl ps =>
    have e:h.get? a=some { cls:=.none,data:=.fields ps }:=x
    show h'.get? a=some { cls:=.none,data:=.fields ps }
    exact k a _ (.inl rfl) e
  | met f y =>
    have e:h.get? a=some (PySem.W.methodObj (.ref f) (.ref y)):=x
    show h'.get? a=some (PySem.W.methodObj (.ref f) (.ref y))
    exact k a _ (.inl rfl) e
  | ext φ=>obtain ⟨p,⟨o,e⟩,st⟩:=x; exact ⟨st _ _ p fun o q=>k _ _ (.inl rfl) q,⟨o,k _ _ (.inl rfl) e⟩,st⟩
theorem HOk.lt (x:HOk P w H h) (e:H a=some o):a < h.objs.size:=(x a o e).lt
theorem HOk.fresh (x:HOk P w H h) (e:h.objs.size<=a):H a=none:=by
  cases q:H a with
  | none=>rfl
  | some u=>exact absurd (Nat.lt_of_lt_of_le (x.lt q) e) (Nat.lt_irrefl _)
theorem HOk.kept (x:HOk P w H h) (k:∀ b u,h.get? b=some u->h'.get? b=some u):HOk P w H h':=fun a o e =>
  (x a o e).stay (fun b u _ q=>k b u q) (fun _ q=>q) fun _ _ q=>q
theorem HOk.laid (x:HOk P w H h) (k:∀ b u,h.get? b=some u->h'.get? b=some u) (hp:h.objs.size<=a) (new:ObjOk P w (upd H a o) h' a o):HOk P w (upd H a o) h':=fun b u e=>by
  have hn:=x.fresh hp
  by_cases hb:b=a
  · subst hb; rw [upd_same] at e; cases e; exact new
  · rw [upd_ne hb] at e
    exact (x b u e).stay (fun c v _ q=>k c v q) (fun c q=>by rw [upd_ne (ne_of_none q hn)]; exact q) fun c xs q=>by rw [upd_ne (ne_of_none q hn)]; exact q
end
noncomputable def Rd (H:Hp) (a:Addr) (u:HO):Prop:=H a=some u\/∃ o,H a=some (.frz o u)
theorem Rd.of {H:Hp} {a:Addr} {u:HO} (h:H a=some u):Rd H a u:=.inl h
theorem Rd.ok {P:Program} {w:World} {H:Hp} {h:Heap} {a:Addr} {u:HO} (r:Rd H a u) (x:HOk P w H h):ObjOk P w H h a u:=by
  rcases r with r | ⟨o,r⟩
  · exact x a u r
  · obtain ⟨_,q⟩:=x a _ r
    exact q
noncomputable def Mut:Option HO->Prop
  | some (.lst _)=>True
  | some (.dK _)=>True
  | some (.dT _)=>True
  | some (.set _ _)=>True
  | some (.ins _ _ _)=>True
  | some (.ext _)=>True
  | _=>False
section
variable {P:Program} {w:World} {H:Hp} {h h':Heap} {x e:Addr} {o':HO}
theorem HOk.write (ok:HOk P w H h) (mu:Mut (H x)) (he:e=x\/H e=some (.own x)) (k:∀ b u,b≠e->h.get? b=some u->h'.get? b=some u) (heo:∃ u,h'.get? e=some u)
    (new:ObjOk P w (upd H x o') h' x o'):HOk P w (upd H x o') h':=fun b u q=>by
  have nown:∀ c y,H c=some (.own y)->c≠x:=fun c y r z=>by subst z; rw [r] at mu; exact mu
  have ntup:∀ c xs,H c=some (.tup xs)->c≠x:=fun c xs r z=>by subst z; rw [r] at mu; exact mu
  by_cases hb:b=x
  · subst hb; rw [upd_same] at q; cases q; exact new
  · rw [upd_ne hb] at q
    by_cases hbe:b=e
    · have q':H b=some (.own x):=by
        rcases he with z | z
        · exact absurd (hbe.trans z) hb
        · rw [hbe]; exact z
      rw [q] at q'; cases q'
      obtain ⟨v,hv⟩:=heo
      exact ⟨v,by rw [hbe]; exact hv⟩
    · refine (ok b u q).stay (fun c v hc r=>k c v ?_ r) (fun c r=>by rw [upd_ne (nown c b r)]; exact r) fun c xs r=>by rw [upd_ne (ntup c xs r)]; exact r
      rcases hc with rfl | hc
      · exact hbe
      · rintro rfl
        rcases he with z | z
        · exact nown c b hc z
        · rw [hc] at z; cases z; exact hb rfl
end
structure Un (fs ex:List Addr) (H H':Hp) (h h':Heap):Prop where
  keep:∀ b o,h.get? b=some o->H b=none->b∉fs->b∉ex->h'.get? b=some o
  slot:∀ b o,h.get? b=some o->H b=none->b∈fs->b∉ex->∃ sl,h'.get? b=some { o with slots:=sl }
  free:∀ b o,h.get? b=some o->H b=none->b∉ex->H' b=none
  there:∀ b o,h.get? b=some o->b∉ex->∃ o',h'.get? b=some o'
  tups:∀ b xs,H b=some (.tup xs)->H' b=some (.tup xs)
  frzs:∀ b o u,H b=some (.frz o u)->H' b=some (.frz o u)
  tbls:∀ b ps,H b=some (.tbl ps)->∃ more,H' b=some (.tbl (ps++more))
section
variable {fs fs' ex ex':List Addr} {H H1 H2:Hp} {h h1 h2 h':Heap} {a x e:Addr} {o:HO}
theorem Un.any (u:Un fs ex H H1 h h1) {b:Addr} {ob:Obj} (q:h.get? b=some ob) (n:H b=none) (hx:b∉ex):∃ sl,h1.get? b=some { ob with slots:=sl }:=by
  by_cases hb:b∈fs
  · exact u.slot b ob q n hb hx
  · exact ⟨ob.slots,u.keep b ob q n hb hx⟩
theorem Un.trans (a:Un fs ex H H1 h h1) (b:Un fs ex H1 H2 h1 h2):Un fs ex H H2 h h2 where
  keep:=fun c ob q n hc hx=>b.keep c ob (a.keep c ob q n hc hx) (a.free c ob q n hx) hc hx
  slot:=fun c ob q n hc hx=>by
    obtain ⟨sl,e1⟩:=a.slot c ob q n hc hx
    obtain ⟨sl',e2⟩:=b.slot c _ e1 (a.free c ob q n hx) hc hx
    exact ⟨sl',e2⟩
  free:=fun c ob q n hx=>by
    obtain ⟨o',e1⟩:=a.there c ob q hx
    exact b.free c o' e1 (a.free c ob q n hx) hx
  there:=fun c ob q hx=>by
    obtain ⟨o',e1⟩:=a.there c ob q hx
    exact b.there c o' e1 hx
  tups:=fun c xs q=>b.tups c xs (a.tups c xs q)
  frzs:=fun c ob xs q=>b.frzs c ob xs (a.frzs c ob xs q)
  tbls:=fun c ps q=>by
    obtain ⟨m1,e1⟩:=a.tbls c ps q
    obtain ⟨m2,e2⟩:=b.tbls c _ e1
    exact ⟨m1++m2,by rw [e2,Array.append_assoc]⟩
theorem Un.kept (k:∀ b u,h.get? b=some u->h'.get? b=some u):Un fs ex H H h h' :=
  ⟨fun b ob q _ _ _=>k b ob q,fun b ob q _ _ _=>⟨ob.slots,k b ob q⟩,fun _ _ _ n _=>n,fun b ob q _=>⟨ob,k b ob q⟩,fun _ _ q=>q,fun _ _ _ q=>q,fun _ ps q=>⟨#[],by rw [q]; simp⟩⟩
theorem Un.refl:Un fs ex H H h h:=Un.kept fun _ _ q=>q
theorem Un.laid (k:∀ b u,h.get? b=some u->h'.get? b=some u) (hp:h.objs.size<=a) (hn:H a=none):Un fs ex H (upd H a o) h h' where
  keep:=fun b u q _ _ _=>k b u q
  slot:=fun b u q _ _ _=>⟨u.slots,k b u q⟩
  free:=fun b u q n _=>by rw [upd_ne (Nat.ne_of_lt (Nat.lt_of_lt_of_le (Heap.lt_size q) hp))]; exact n
  there:=fun b u q _=>⟨u,k b u q⟩
  tups:=fun b xs q=>by rw [upd_ne (ne_of_none q hn)]; exact q
  frzs:=fun b u xs q=>by rw [upd_ne (ne_of_none q hn)]; exact q
  tbls:=fun b ps q=>⟨#[],by rw [upd_ne (ne_of_none q hn),q]; simp⟩
theorem Un.write (mu:Mut (H x)) (he:e=x\/H e=some (.own x)) (k:∀ b u,b≠e->h.get? b=some u->h'.get? b=some u) (heo:∃ u,h'.get? e=some u):Un fs ex H (upd H x o) h h':=by
  have hx:∀ b,H b=none->b≠x:=fun b n z=>by subst z; rw [n] at mu; exact mu
  have hb:∀ b,H b=none->b≠e:=fun b n z=>by
    subst z
    rcases he with r | r
    · exact hx b n r
    · rw [n] at r; cases r
  have hm:∀ b u,H b=some u->¬ Mut (some u)->b≠x:=fun b u q nm z=>by subst z; rw [q] at mu; exact nm mu
  refine ⟨fun b u q n _ _=>k b u (hb b n) q,fun b u q n _ _=>⟨u.slots,k b u (hb b n) q⟩,fun b u q n _=>by rw [upd_ne (hx b n)]; exact n,fun b u q _=>?_,
    fun b xs q=>by rw [upd_ne (hm b _ q fun z=>z)]; exact q,fun b u xs q=>by rw [upd_ne (hm b _ q fun z=>z)]; exact q,fun b ps q=>⟨#[],by rw [upd_ne (hm b _ q fun z=>z),q]; simp⟩⟩
  by_cases hbe:b=e
  · subst hbe; exact heo
  · exact ⟨u,k b u hbe q⟩
theorem Un.mono (u:Un fs ex H H1 h h1) (hs:∀ b∈fs,b∈fs') (hx:∀ b∈ex,b∈ex'):Un fs' ex' H H1 h h1 :=
  ⟨fun b ob q n hb he=>u.keep b ob q n (fun z=>hb (hs b z)) fun z=>he (hx b z),fun _ _ q n _ he=>u.any q n fun z=>he (hx _ z),fun b ob q n he=>u.free b ob q n fun z=>he (hx b z),fun b ob q he=>u.there b ob q fun z=>he (hx b z),u.tups,u.frzs,u.tbls⟩
end
noncomputable def trk (h:Heap) (H:Hp):List Addr:=(List.range h.objs.size).filter fun a=>(H a).isSome
noncomputable def hidT (h:Heap) (H:Hp):Heap:=PySem.W.hideAll h (trk h H)
theorem hidT_size (h:Heap) (H:Hp):(hidT h H).objs.size=h.objs.size:=PySem.W.hideAll_size _ _
theorem hidT_get {h:Heap} {H:Hp} {b:Addr} {o:Obj} (e:h.get? b=some o) (n:H b=none):(hidT h H).get? b=some o :=
  PySem.W.hideAll_get _ e fun hm=>by
    have q:(H b).isSome=true:=(List.mem_filter.mp hm).2
    rw [n] at q; simp at q
theorem of_hidT {h:Heap} {H:Hp} {b:Addr} {o:Obj} (e:(hidT h H).get? b=some o):h.get? b=some o/\H b=none:=by
  have e':h.get? b=some o:=PySem.W.of_hideAll (trk h H) e
  refine ⟨e',?_⟩
  cases q:H b with
  | none=>rfl
  | some x =>
    have hm:b∈trk h H:=List.mem_filter.mpr ⟨List.mem_range.mpr (Heap.lt_size e'),by simp [q]⟩
    have z:(hidT h H).get? b=none:=PySem.W.hideAll_none (trk h H) hm
    rw [z] at e; cases e
noncomputable def allNews (g h:Heap) (L:Addr):List (Addr×Obj):=(List.range h.objs.size).filterMap fun a=>if a=L\/(g.get? a).isSome=true then none else (h.get? a).map fun o=>(a,o)
noncomputable def rest (g h:Heap) (L d:Addr):List (Addr×Obj):=(allNews g h L).filter fun p=>decide (p.1≠d)
end L2
namespace L2
open PySem PySem.Spec PyProof.Rows
structure Mod (K:PySem.W.Frag) (mg:Str->Option Value) (base:Heap):Prop where
  kin:K.In base
  glob:base.Ns mainGlobals mg
  blt:∃ mb,base.Ns builtinsNs mb/\∀ x:Str,x≠"__name__"->mb x=bootBuiltins x
  nolimit:base.NoLimit
structure Cx where
  prog:Program
  w:World
  K:PySem.W.Frag
  mg:Str->Option Value
  base:Heap
  A:Around
  N:List Str
  s₀:Shared
  H₀:Hp
  env:Env
  outer:List Env
  stack:List Env
  ex:List Addr
  fn:Str->Bool
  calm:Bool
  pn:List (Addr×Obj)
  xe:Value->Shared->Prop
noncomputable def frs (l:List Env):List Addr:=l.filterMap (·.frame)
noncomputable abbrev Cx.fs (X:Cx):List Addr:=frs X.outer
noncomputable def Vis (sc:Scope) (x:Str):Prop:=sc.names.lookup x=some .local\/sc.names.lookup x=some .cell\/sc.names.lookup x=some .free
noncomputable def Loc (sc:Scope) (x:Str):Prop:=sc.names.lookup x=some .local\/sc.names.lookup x=some .cell
noncomputable def Look (env:Env) (h:Heap) (m:Str->Option Value) (x:Str) (u:Value):Prop :=
  (env.kindOf x=some .local/\m x=some u)\/((env.kindOf x=some .cell\/env.kindOf x=some .free)/\∃ c,env.cells.lookup x=some c/\h.IsCell c (some u))
structure Cx.Ok (X:Cx):Prop where
  mod:Mod X.K X.mg X.base
  kind:X.env.scope.kind=.function
  glob:X.env.globals=mainGlobals
  blt:X.env.builtins=builtinsNs
  above:X.s₀.heap.objs.size<=X.env.locals
  inj:∀ x y c,X.env.cells.lookup x=some c->X.env.cells.lookup y=some c->x=y
  has:∀ x,(X.env.kindOf x=some .cell\/X.env.kindOf x=some .free)->∃ c,X.env.cells.lookup x=some c
  cab:∀ x c,X.fn x=true->X.env.cells.lookup x=some c->X.s₀.heap.objs.size<=c
  hd:X.calm=true->X.A.handled=none
  frames:X.A.frames=some X.stack
  stk:X.stack=X.outer\/(X.stack=X.env::X.outer/\X.env.frame=some X.env.locals)
  exf:∀ b∈X.ex,b≠X.env.locals/\∀ x c,X.env.cells.lookup x=some c->c≠b
  bs:∀ b o,X.base.get? b=some o->X.s₀.heap.get? b=some o/\X.H₀ b=none
  bsz:X.base.objs.size<=X.s₀.heap.objs.size
  noex:∀ b o,X.base.get? b=some o->b∉X.ex
  exfs:∀ b∈X.ex,b∉X.fs
  funs:X.s₀.heap.FunFrames X.base X.outer
  frf:∀ b∈X.fs,X.H₀ b=none
structure Inv (X:Cx) (pins:List (Addr×Obj)) (σ:List (Option V)) (H:Hp) (s:Shared):Prop where
  ok:X.Ok
  os:s.os=X.s₀.os
  bare:AllBare s.gens
  base:Un X.fs X.ex X.H₀ H X.s₀.heap s.heap
  loc:∃ m,s.heap.Ns X.env.locals m/\∀ (i:Nat) (x:Str) (v:V),X.N[i]?=some x->σ[i]?=some (some v)->Vis X.env.scope x->∃ u,RelV v u/\Look X.env s.heap m x u
  cell:∀ x c,X.env.cells.lookup x=some c->∃ v,s.heap.IsCell c v
  free:H X.env.locals=none
  freeC:∀ x c,X.env.cells.lookup x=some c->H c=none
  pin:∀ p∈X.pn++pins,s.heap.get? p.1=some p.2/\H p.1=none/\p.1≠X.env.locals/\p.1∉X.fs/\∀ v,p.2.data≠.cell v
  hok:HOk X.prog X.w H s.heap
  len:σ.length=X.N.length
section
variable {X:Cx} {pins:List (Addr×Obj)} {σ:List (Option V)} {H H':Hp} {s:Shared} {h':Heap}
theorem Cx.Ok.nofr (ok:X.Ok) {b:Addr} {o:Obj} (e:X.base.get? b=some o):b∉X.fs:=fun hb=>by
  have:=(ok.funs.mem hb).1
  rw [e] at this; cases this
theorem Inv.bs (I:Inv X pins σ H s):∀ b o,X.base.get? b=some o->s.heap.get? b=some o/\H b=none:=fun b o e =>
  ⟨I.base.keep b o (I.ok.bs b o e).1 (I.ok.bs b o e).2 (I.ok.nofr e) (I.ok.noex b o e),I.base.free b o (I.ok.bs b o e).1 (I.ok.bs b o e).2 (I.ok.noex b o e)⟩
theorem Inv.bk (I:Inv X pins σ H s):∀ b o,X.base.get? b=some o->s.heap.get? b=some o:=fun b o e=>(I.bs b o e).1
theorem Inv.mod (I:Inv X pins σ H s):Mod X.K X.mg X.base:=I.ok.mod
theorem Inv.kIn (I:Inv X pins σ H s):X.K.In s.heap:=I.ok.mod.kin.keeps I.bk
theorem Inv.nolimit (I:Inv X pins σ H s):s.heap.NoLimit:=I.ok.mod.nolimit.keeps I.bk
theorem Inv.lt (I:Inv X pins σ H s):X.env.locals < s.heap.objs.size:=let ⟨_,hn,_⟩:=I.loc; hn.lt
theorem Inv.sz (I:Inv X pins σ H s):X.s₀.heap.objs.size<=s.heap.objs.size:=Nat.le_trans I.ok.above (Nat.le_of_lt I.lt)
theorem Inv.nofs (I:Inv X pins σ H s) {a:Addr} (h:s.heap.objs.size<=a):a∉X.fs:=fun hb=>by
  obtain ⟨_,o,ho,_⟩:=I.ok.funs.mem hb
  exact absurd (Nat.lt_of_lt_of_le (Heap.lt_size ho) (Nat.le_trans I.sz h)) (Nat.lt_irrefl _)
theorem Inv.cne (I:Inv X pins σ H s):∀ x c,X.env.cells.lookup x=some c->c≠X.env.locals:=fun x c e z=>by
  obtain ⟨v,o,ho,hd⟩:=I.cell x c e
  obtain ⟨m,⟨o',es,ep,ho',hd',_⟩,_⟩:=I.loc
  rw [z,ho'] at ho; cases ho; rw [hd'] at hd; cases hd
theorem Inv.funs (I:Inv X pins σ H s):s.heap.FunFrames X.base X.outer:=by
  have all:∀ (l:List Env),(∀ b∈frs l,b∈X.fs)->X.s₀.heap.FunFrames X.base l->s.heap.FunFrames X.base l:=by
    intro l
    induction l with
    | nil=>intro _ _; trivial
    | cons env r ih =>
      intro hs hl
      obtain ⟨hk,⟨L,o,hf,hn,ho,hd⟩,hr⟩:=hl
      have hL:L∈X.fs:=hs L (by unfold frs; rw [List.filterMap_cons,hf]; exact List.mem_cons_self)
      obtain ⟨sl,e⟩:=I.base.slot L o ho (I.ok.frf L hL) hL fun z=>I.ok.exfs L z hL
      exact ⟨hk,⟨L,_,hf,hn,e,hd⟩,ih (fun b hb=>hs b (by unfold frs; rw [List.filterMap_cons,hf]; exact List.mem_cons_of_mem _ hb)) hr⟩
  exact all X.outer (fun _ hb=>hb) I.ok.funs
theorem Inv.stack (I:Inv X pins σ H s):s.heap.FunFrames X.base X.stack:=by
  rcases I.ok.stk with e | ⟨e,hf⟩
  · rw [e]; exact I.funs
  · rw [e]
    obtain ⟨m,hn,_⟩:=I.loc
    refine .cons (by rw [I.ok.kind]; decide) hf hn ?_ I.funs
    exact Heap.get?_none_of_le (Nat.le_trans I.ok.bsz I.ok.above)
theorem Inv.stkSub (I:Inv X pins σ H s):∀ b∈frs X.stack,b∈X.env.locals::X.fs:=fun b hb=>by
  rcases I.ok.stk with e | ⟨e,hf⟩
  · rw [e] at hb; exact List.mem_cons_of_mem _ hb
  · rw [e] at hb
    unfold frs at hb
    rw [List.filterMap_cons,hf] at hb
    exact hb
theorem Inv.stkFree (I:Inv X pins σ H s):∀ b∈frs X.stack,H b=none:=fun b hb=>by
  rcases List.mem_cons.mp (I.stkSub b hb) with e | hb
  · rw [e]; exact I.free
  · obtain ⟨_,o,ho,_⟩:=I.ok.funs.mem hb
    exact I.base.free b o ho (I.ok.frf b hb) fun z=>I.ok.exfs b z hb
theorem Inv.step {g':Array GenState} {t':Nat} {d':Drawn} {ch:List Addr} (I:Inv X pins σ H s)
    (hch:∀ b∈ch,(b∈X.ex\/X.s₀.heap.objs.size<=b)/\b≠X.env.locals/\(∀ x c,X.env.cells.lookup x=some c->c≠b)/\∀ p∈X.pn++pins,p.1≠b)
    (keep:∀ b o,b≠X.env.locals->b∉X.fs->b∉ch->s.heap.get? b=some o->H b=none->h'.get? b=some o)
    (slot:∀ b o,b≠X.env.locals->b∈X.fs->b∉ch->s.heap.get? b=some o->H b=none->∃ sl,h'.get? b=some { o with slots:=sl }) (free:∀ b o,b∉ch->s.heap.get? b=some o->H b=none->H' b=none)
    (there:∀ b o,b∉ch->s.heap.get? b=some o->∃ o',h'.get? b=some o')
    (tups:∀ b xs,H b=some (.tup xs)->H' b=some (.tup xs)) (frzs:∀ b o u,H b=some (.frz o u)->H' b=some (.frz o u)) (tbls:∀ b ps,H b=some (.tbl ps)->∃ more,H' b=some (.tbl (ps++more)))
    (ns:∀ m,s.heap.Ns X.env.locals m->h'.Ns X.env.locals m) (hok:HOk X.prog X.w H' h') (hg:AllBare g') :
    Inv X pins σ H' { s with heap:=h',gens:=g',drawn:=d',toks:=t' }:=by
  have neL:∀ b o,X.s₀.heap.get? b=some o->b≠X.env.locals:=fun b o e=>Nat.ne_of_lt (Nat.lt_of_lt_of_le (Heap.lt_size e) I.ok.above)
  have neC:∀ b o,X.s₀.heap.get? b=some o->b∉X.ex->b∉ch:=fun b o e hx hb=>by
    rcases (hch b hb).1 with z | z
    · exact hx z
    · exact absurd (Nat.lt_of_lt_of_le (Heap.lt_size e) z) (Nat.lt_irrefl _)
  have cellK:∀ x c,X.env.cells.lookup x=some c->∀ v,s.heap.IsCell c v->h'.IsCell c v:=fun x c e v ⟨o,ho,hd⟩=>by
    have nch:c∉ch:=fun z=>(hch c z).2.2.1 x c e rfl
    by_cases hc:c∈X.fs
    · obtain ⟨sl,q⟩:=slot c o (I.cne x c e) hc nch ho (I.freeC x c e)
      exact ⟨_,q,hd⟩
    · exact ⟨o,keep c o (I.cne x c e) hc nch ho (I.freeC x c e),hd⟩
  refine ⟨I.ok,I.os,hg,⟨fun b o e n hb hx=>?_,fun b o e n hb hx=>?_,fun b o e n hx=>?_,fun b o e hx=>?_,fun b xs e=>tups b xs (I.base.tups b xs e),fun b o xs e=>frzs b o xs (I.base.frzs b o xs e),fun b ps e=>?_⟩,?_,fun x c e=>?_,?_,fun x c e=>?_,fun p hp=>?_,hok,I.len⟩
  · exact keep b o (neL b o e) hb (neC b o e hx) (I.base.keep b o e n hb hx) (I.base.free b o e n hx)
  · obtain ⟨sl,e1⟩:=I.base.slot b o e n hb hx
    obtain ⟨sl',e2⟩:=slot b _ (neL b o e) hb (neC b o e hx) e1 (I.base.free b o e n hx)
    exact ⟨sl',e2⟩
  · obtain ⟨o',e1⟩:=I.base.there b o e hx
    exact free b o' (neC b o e hx) e1 (I.base.free b o e n hx)
  · obtain ⟨o',e1⟩:=I.base.there b o e hx
    exact there b o' (neC b o e hx) e1
  · obtain ⟨m1,e1⟩:=I.base.tbls b ps e
    obtain ⟨m2,e2⟩:=tbls b _ e1
    exact ⟨m1++m2,by rw [e2,Array.append_assoc]⟩
  · obtain ⟨m,hn,hl⟩:=I.loc
    refine ⟨m,ns m hn,fun i x v e1 e2 e3=>?_⟩
    obtain ⟨u,r,l⟩:=hl i x v e1 e2 e3
    refine ⟨u,r,?_⟩
    rcases l with l | ⟨k,c,e,z⟩
    · exact .inl l
    · exact .inr ⟨k,c,e,cellK x c e _ z⟩
  · obtain ⟨v,z⟩:=I.cell x c e
    exact ⟨v,cellK x c e v z⟩
  · obtain ⟨m,⟨o,_,_,ho,_⟩,_⟩:=I.loc
    exact free _ o (fun z=>(hch _ z).2.1 rfl) ho I.free
  · obtain ⟨v,o,ho,hd⟩:=I.cell x c e
    exact free c o (fun z=>(hch c z).2.2.1 x c e rfl) ho (I.freeC x c e)
  · obtain ⟨e,n,ne,nf,d⟩:=I.pin p hp
    have nch:p.1∉ch:=fun z=>(hch p.1 z).2.2.2 p hp rfl
    exact ⟨keep p.1 p.2 ne nf nch e n,free p.1 p.2 nch e n,ne,nf,d⟩
theorem Inv.un {t':Nat} (I:Inv X pins σ H s) (u:Un X.fs [] H H' s.heap h') (hok:HOk X.prog X.w H' h'):Inv X pins σ H' { s with heap:=h',toks:=t' }:=by
  obtain ⟨m,⟨o,es,ep,ho,r⟩,_⟩:=id I.loc
  obtain ⟨sl,hL⟩:=u.any ho I.free (by simp)
  exact I.step (g':=s.gens) (d':=s.drawn) (ch:=[]) (fun _ z=>nomatch z) (fun b o _ hb _ e n=>u.keep b o e n hb (by simp)) (fun b o _ hb _ e n=>u.slot b o e n hb (by simp)) (fun b o _ e n=>u.free b o e n (by simp)) (fun b o _ e=>u.there b o e (by simp)) u.tups u.frzs u.tbls (fun m' hm=>by
    obtain ⟨o',es',ep',ho',r'⟩:=hm
    rw [ho] at ho'; cases ho'
    exact ⟨_,es',ep',hL,r'⟩) hok I.bare
theorem Inv.call {g':Array GenState} {t':Nat} {d':Drawn} {ch:List Addr} (I:Inv X pins σ H s) (u:Un (frs X.stack) ch H H' s.heap h') (hok:HOk X.prog X.w H' h') (hg:AllBare g')
    (hch:∀ b∈ch,(b∈X.ex\/X.s₀.heap.objs.size<=b)/\b≠X.env.locals/\(∀ x c,X.env.cells.lookup x=some c->c≠b)/\∀ p∈X.pn++pins,p.1≠b) :
    Inv X pins σ H' { s with heap:=h',gens:=g',drawn:=d',toks:=t' }:=by
  obtain ⟨m,⟨o,es,ep,ho,r⟩,_⟩:=id I.loc
  obtain ⟨sl,hL⟩:=u.any ho I.free fun z=>(hch _ z).2.1 rfl
  exact I.step (ch:=ch) hch (fun b o hL hb hc e n=>u.keep b o e n (fun z=>(List.mem_cons.mp (I.stkSub b z)).elim hL hb) hc) (fun b o _ _ hc e n=>u.any e n hc) (fun b o hc e n=>u.free b o e n hc) (fun b o hc e=>u.there b o e hc) u.tups u.frzs u.tbls (fun m' hm=>by
    obtain ⟨o',es',ep',ho',r'⟩:=hm
    rw [ho] at ho'; cases ho'
    exact ⟨_,es',ep',hL,r'⟩) hok hg
theorem Inv.turned {t':Nat} {it:Addr} (I:Inv X pins σ H s) (k:∀ b o,b≠it->s.heap.get? b=some o->h'.get? b=some o) (hn:H it=none) (hL:it≠X.env.locals)
    (h1:it∈X.ex\/X.s₀.heap.objs.size<=it) (h2:∀ x c,X.env.cells.lookup x=some c->c≠it) (h3:∀ p∈X.pn++pins,p.1≠it):Inv X pins σ H { s with heap:=h',toks:=t' }:=by
  have nit:∀ b u,H b=some u->b≠it:=fun b u e z=>by rw [z,hn] at e; cases e
  refine I.step (g':=s.gens) (d':=s.drawn) (ch:=[it]) (fun b hb=>?_) (fun b o _ _ hc e _=>k b o (fun z=>hc (by simp [z])) e) (fun b o _ _ hc e _=>⟨o.slots,k b o (fun z=>hc (by simp [z])) e⟩) (fun _ _ _ _ n=>n)
    (fun b o hc e=>⟨o,k b o (fun z=>hc (by simp [z])) e⟩) (fun _ _ e=>e) (fun _ _ _ e=>e) (fun b ps e=>⟨#[],by rw [e]; simp⟩) (fun m hm=>?_) (fun b u e=>?_) I.bare
  · have e:b=it:=by simpa using hb
    subst e
    exact ⟨h1,hL,h2,h3⟩
  · obtain ⟨o,es,ep,ho,r⟩:=hm
    exact ⟨o,es,ep,k _ o (Ne.symm hL) ho,r⟩
  · refine (I.hok b u e).stay (fun c v hc q=>k c v ?_ q) (fun _ q=>q) fun _ _ q=>q
    rcases hc with z | z
    · rw [z]; exact nit b u e
    · exact nit c _ z
theorem Inv.tok (I:Inv X pins σ H s) (t:Nat):Inv X pins σ H { s with toks:=t }:=I.un (h':=s.heap) (t':=t) Un.refl I.hok
theorem Inv.kept {t':Nat} (I:Inv X pins σ H s) (k:∀ b u,s.heap.get? b=some u->h'.get? b=some u):Inv X pins σ H { s with heap:=h',toks:=t' }:=I.un (Un.kept k) (I.hok.kept k)
theorem Inv.laid {a:Addr} {o:HO} {t':Nat} (I:Inv X pins σ H s) (k:∀ b u,s.heap.get? b=some u->h'.get? b=some u) (hp:s.heap.objs.size<=a) (new:ObjOk X.prog X.w (upd H a o) h' a o) :
    Inv X pins σ (upd H a o) { s with heap:=h',toks:=t' }:=I.un (Un.laid k hp (I.hok.fresh hp)) (I.hok.laid k hp new)
theorem Inv.write {x e:Addr} {o:HO} {t':Nat} (I:Inv X pins σ H s) (mu:Mut (H x)) (he:e=x\/H e=some (.own x)) (k:∀ b u,b≠e->s.heap.get? b=some u->h'.get? b=some u) (heo:∃ u,h'.get? e=some u)
    (new:ObjOk X.prog X.w (upd H x o) h' x o):Inv X pins σ (upd H x o) { s with heap:=h',toks:=t' }:=I.un (Un.write mu he k heo) (I.hok.write mu he k heo new)
theorem Inv.pins_of {pins':List (Addr×Obj)} (I:Inv X pins σ H s) (h:∀ p∈pins',s.heap.get? p.1=some p.2/\H p.1=none/\p.1≠X.env.locals/\p.1∉X.fs/\∀ v,p.2.data≠.cell v):Inv X pins' σ H s :=
  ⟨I.ok,I.os,I.bare,I.base,I.loc,I.cell,I.free,I.freeC,fun p hp=>(List.mem_append.mp hp).elim (fun z=>I.pin p (List.mem_append_left _ z)) (h p),I.hok,I.len⟩
theorem nodup_ix {N:List Str} (hN:N.Nodup) {i j:Nat} {x:Str} (a:N[i]?=some x) (b:N[j]?=some x):i=j:=by
  obtain ⟨h1,e1⟩:=List.getElem?_eq_some_iff.mp a
  obtain ⟨h2,e2⟩:=List.getElem?_eq_some_iff.mp b
  exact (List.getElem_inj hN).mp (e1.trans e2.symm)
theorem store_ok2 {M:Model} {A:Around} {E:Value->Shared->Prop} {i:Nat} {x:Str} {v:V} {u:Value} {Q:Unit->Shared->Prop} (I:Inv X pins σ H s) (hN:X.N.Nodup) (hi:X.N[i]?=some x) (hx:Loc X.env.scope x) (r:RelV v u)
    (h:∀ s',Inv X pins (σ.set i (some v)) H s'->(∃ a,Heap.SameBut a s.heap s'.heap/\(a=X.env.locals\/X.env.cells.lookup x=some a))->Q () s') (hf:X.fn x=true\/X.env.scope.names.lookup x=some .local:=by first | exact .inl rfl | exact .inr rfl | assumption):wpAny M A (storeName X.env x u) Q E s:=by
  obtain ⟨m,hn,hl⟩:=id I.loc
  have hcls:(X.env.scope.kind==.class || (X.env.scope.kind==.module&&X.env.locals != X.env.globals))=false:=by rw [I.ok.kind]; rfl
  have hiσ:i < σ.length:=by rw [I.len]; exact (List.getElem?_eq_some_iff.mp hi).1
  have cne:=I.cne
  have tracked:∀ {a:Addr} {h':Heap},(∃ o,s.heap.get? a=some o/\H a=none)->Heap.SameBut a s.heap h'->HOk X.prog X.w H h':=fun {a h'} ha hs b ob e=>by
    obtain ⟨_,_,hfree⟩:=ha
    refine (I.hok b ob e).stay (fun c w' hc q=>(hs.2 c ?_).trans q) (fun _ q=>q) fun _ _ q=>q
    rintro rfl
    rcases hc with rfl | hc
    · rw [hfree] at e; cases e
    · rw [hfree] at hc; cases hc
  rcases hx with hk | hk
  · refine wpAny_storeName_local hk hn (fun h' hn' hs=>?_) hcls
    obtain ⟨oL,_,_,hoL,_⟩:=id hn
    refine h _ ⟨I.ok,I.os,I.bare,⟨fun b o e n hb hx=>?_,fun b o e n hb hx=>?_,I.base.free,fun b o e hx=>?_,I.base.tups,I.base.frzs,I.base.tbls⟩,⟨_,hn',fun j y v' e1 e2 e3=>?_⟩,fun y c e=>?_,I.free,I.freeC,fun p hp=>?_,tracked ⟨oL,hoL,I.free⟩ hs,by simpa using I.len⟩ ⟨_,hs,.inl rfl⟩
    · exact (hs.2 b (Nat.ne_of_lt (Nat.lt_of_lt_of_le (Heap.lt_size e) I.ok.above))).trans (I.base.keep b o e n hb hx)
    · obtain ⟨sl,e1⟩:=I.base.slot b o e n hb hx
      exact ⟨sl,(hs.2 b (Nat.ne_of_lt (Nat.lt_of_lt_of_le (Heap.lt_size e) I.ok.above))).trans e1⟩
    · obtain ⟨o',e1⟩:=I.base.there b o e hx
      exact ⟨o',(hs.2 b (Nat.ne_of_lt (Nat.lt_of_lt_of_le (Heap.lt_size e) I.ok.above))).trans e1⟩
    · by_cases hj:j=i
      · subst hj
        rw [hi] at e1; cases e1
        rw [List.getElem?_set_self hiσ] at e2
        cases e2
        exact ⟨u,r,.inl ⟨hk,by simp⟩⟩
      · rw [List.getElem?_set_ne (Ne.symm hj)] at e2
        obtain ⟨u',r',q⟩:=hl j y v' e1 e2 e3
        refine ⟨u',r',?_⟩
        rcases q with ⟨k,e⟩ | ⟨k,c,e,z⟩
        · refine .inl ⟨k,?_⟩
          have:y≠x:=fun e=>hj (nodup_ix hN e1 (e▸hi))
          simp [this,e]
        · exact .inr ⟨k,c,e,z.sameBut hs (cne y c e)⟩
    · obtain ⟨w',z⟩:=I.cell y c e
      exact ⟨w',z.sameBut hs (cne y c e)⟩
    · obtain ⟨e,n,ne,nf,d⟩:=I.pin p hp
      exact ⟨(hs.2 p.1 ne).trans e,n,ne,nf,d⟩
  · have hfn:X.fn x=true:=by
      rcases hf with z | z
      · exact z
      · rw [z] at hk; cases hk
    obtain ⟨c,hc⟩:=I.ok.has x (.inl hk)
    obtain ⟨w',z⟩:=I.cell x c hc
    refine wpAny_storeName_cell I.ok.kind hk hc z (fun h' hc' hs=>?_)
    obtain ⟨oc,hoc,hocd⟩:=id z
    refine h { s with heap:=h' } ⟨I.ok,I.os,I.bare,⟨fun b o e n hb hx=>?_,fun b o e n hb hx=>?_,I.base.free,fun b o e hx=>?_,I.base.tups,I.base.frzs,I.base.tbls⟩,⟨m,hn.sameBut hs (Ne.symm (cne x c hc)),fun j y v' e1 e2 e3=>?_⟩,fun y c' e=>?_,I.free,I.freeC,fun p hp=>?_,tracked ⟨oc,hoc,I.freeC x c hc⟩ hs,by simpa using I.len⟩ ⟨c,hs,.inr hc⟩
    · exact (hs.2 b (Nat.ne_of_lt (Nat.lt_of_lt_of_le (Heap.lt_size e) (I.ok.cab x c hfn hc)))).trans (I.base.keep b o e n hb hx)
    · obtain ⟨sl,e1⟩:=I.base.slot b o e n hb hx
      exact ⟨sl,(hs.2 b (Nat.ne_of_lt (Nat.lt_of_lt_of_le (Heap.lt_size e) (I.ok.cab x c hfn hc)))).trans e1⟩
    · obtain ⟨o',e1⟩:=I.base.there b o e hx
      exact ⟨o',(hs.2 b (Nat.ne_of_lt (Nat.lt_of_lt_of_le (Heap.lt_size e) (I.ok.cab x c hfn hc)))).trans e1⟩
    · by_cases hj:j=i
      · subst hj
        rw [hi] at e1; cases e1
        rw [List.getElem?_set_self hiσ] at e2
        cases e2
        exact ⟨u,r,.inr ⟨.inl hk,c,hc,hc'⟩⟩
      · rw [List.getElem?_set_ne (Ne.symm hj)] at e2
        obtain ⟨u',r',q⟩:=hl j y v' e1 e2 e3
        refine ⟨u',r',?_⟩
        rcases q with q | ⟨k,c',e,z'⟩
        · exact .inl q
        · refine .inr ⟨k,c',e,z'.sameBut hs ?_⟩
          rintro rfl
          exact hj (nodup_ix hN e1 (I.ok.inj _ _ _ e hc▸hi))
    · by_cases hcc:c'=c
      · subst hcc; exact ⟨_,hc'⟩
      · obtain ⟨w2,z2⟩:=I.cell y c' e
        exact ⟨w2,z2.sameBut hs hcc⟩
    · obtain ⟨e,n,ne,nf,d⟩:=I.pin p hp
      refine ⟨(hs.2 p.1 ?_).trans e,n,ne,nf,d⟩
      intro q
      rw [q,hoc] at e
      have q':oc=p.2:=Option.some.inj e
      exact d w' (by rw [<- q']; exact hocd)
theorem store_ok {M:Model} {A:Around} {E:Value->Shared->Prop} {i:Nat} {x:Str} {v:V} {u:Value} {Q:Unit->Shared->Prop} (I:Inv X pins σ H s) (hN:X.N.Nodup) (hi:X.N[i]?=some x) (hx:Loc X.env.scope x) (r:RelV v u)
    (h:∀ s',Inv X pins (σ.set i (some v)) H s'->Q () s') (hf:X.fn x=true\/X.env.scope.names.lookup x=some .local:=by first | exact .inl rfl | exact .inr rfl | assumption):wpAny M A (storeName X.env x u) Q E s :=
  store_ok2 I hN hi hx r (fun s' I' _=>h s' I') hf
theorem Inv.call' {s':Shared} {ch:List Addr} (I:Inv X pins σ H s) (ho:s'.os=s.os) (u:Un (frs X.stack) ch H H' s.heap s'.heap) (hok:HOk X.prog X.w H' s'.heap) (hg:AllBare s'.gens)
    (hch:∀ b∈ch,(b∈X.ex\/X.s₀.heap.objs.size<=b)/\b≠X.env.locals/\(∀ x c,X.env.cells.lookup x=some c->c≠b)/\∀ p∈X.pn++pins,p.1≠b):Inv X pins σ H' s':=by
  obtain ⟨h',g',d',t',o'⟩:=s'
  have e:o'=s.os:=ho
  subst e
  exact I.call (g':=g') (t':=t') (d':=d') u hok hg hch
end
noncomputable abbrev XK:=Value->Option Addr->Hp->Prop
noncomputable abbrev St:=List (Option V)
noncomputable abbrev VK:=V->Hp->Prop
noncomputable abbrev TE:=St->Hp->VK->Prop
noncomputable abbrev TT:=St->Hp->(Bool->Hp->Prop)->Prop
noncomputable abbrev TA:=St->Hp->(List V->Hp->Prop)->Prop
structure Ends where
  nx:St->Hp->Prop
  rt:VK
  bk:St->Hp->Prop:=fun _ _=>False
  ct:St->Hp->Prop:=fun _ _=>False
noncomputable abbrev TS:=Ends->St->Hp->Prop
noncomputable def EP (X:Cx) (pins:List (Addr×Obj)) (σ:St) (Q:VK) (u:Value) (s':Shared):Prop:=∃ v H',Inv X pins σ H' s'/\RelV v u/\Q v H'
noncomputable def TP (X:Cx) (pins:List (Addr×Obj)) (σ:St) (Q:Bool->Hp->Prop) (b:Bool) (s':Shared):Prop:=∃ H',Inv X pins σ H' s'/\Q b H'
noncomputable def AP (X:Cx) (pins:List (Addr×Obj)) (σ:St) (Q:List V->Hp->Prop) (us:List Value) (s':Shared):Prop:=∃ vs H',Inv X pins σ H' s'/\Vals vs us/\Q vs H'
noncomputable def SP (X:Cx) (pins:List (Addr×Obj)) (D:Ends) (f:Flow) (s':Shared):Prop :=
  match f with
  | .next=>∃ σ' H',Inv X pins σ' H' s'/\D.nx σ' H'
  | .brk=>∃ σ' H',Inv X pins σ' H' s'/\D.bk σ' H'
  | .cont=>∃ σ' H',Inv X pins σ' H' s'/\D.ct σ' H'
  | .ret u=>∃ v σ' H',Inv X pins σ' H' s'/\RelV v u/\D.rt v H'
noncomputable def PE (X:Cx) (e:Expr) (t:TE):Prop :=
  ∀ (pins:List (Addr×Obj)) (s:Shared) (σ:St) (H:Hp) (Q:VK),Inv X pins σ H s->t σ H Q->wpAny (model X.prog X.w) X.A (eval e X.env) (EP X pins σ Q) X.xe s
noncomputable def PT (X:Cx) (e:Expr) (t:TT):Prop :=
  ∀ (pins:List (Addr×Obj)) (s:Shared) (σ:St) (H:Hp) (Q:Bool->Hp->Prop),Inv X pins σ H s->t σ H Q->wpAny (model X.prog X.w) X.A (isTrue e X.env (eval e X.env)) (TP X pins σ Q) X.xe s
noncomputable def PW (X:Cx) (e:Expr) (t:TT):Prop :=
  ∀ (whole:Sem Value) (pins:List (Addr×Obj)) (s:Shared) (σ:St) (H:Hp) (Q:Bool->Hp->Prop),Inv X pins σ H s->t σ H Q->wpAny (model X.prog X.w) X.A (isTrue e X.env whole) (TP X pins σ Q) X.xe s
theorem PW.pt {X:Cx} {e:Expr} {t:TT} (h:PW X e t):PT X e t:=h _
noncomputable def PA (X:Cx) (es:List Expr) (t:TA):Prop :=
  ∀ (pos:Pos) (pins:List (Addr×Obj)) (s:Shared) (σ:St) (H:Hp) (Q:List V->Hp->Prop),Inv X pins σ H s->t σ H Q->wpAny (model X.prog X.w) X.A (spliced (backTo pos (starEach es X.env))) (AP X pins σ Q) X.xe s
noncomputable def PS (X:Cx) (st:Stmt) (t:TS):Prop :=
  ∀ (pins:List (Addr×Obj)) (s:Shared) (σ:St) (H:Hp) (D:Ends),Inv X pins σ H s->t D σ H->wpAny (model X.prog X.w) X.A (exec st X.env) (SP X pins D) X.xe s
noncomputable def PSs (X:Cx) (st:List Stmt) (t:TS):Prop :=
  ∀ (pins:List (Addr×Obj)) (s:Shared) (σ:St) (H:Hp) (D:Ends),Inv X pins σ H s->t D σ H->wpAny (model X.prog X.w) X.A (execs st X.env) (SP X pins D) X.xe s
theorem thn {α:Type} {t:Sem α} {Q Q':α->Shared->Prop} {M:Model} {A:Around} {E:Value->Shared->Prop} {s:Shared} (h:wpAny M A t Q E s) (hQ:∀ a s,Q a s->Q' a s):wpAny M A t Q' E s:=wpAny_mono h hQ fun _ _ x=>x
end L2
namespace L2
open PySem PySem.Spec PyProof.Rows
section
variable {X:Cx}
theorem bin {a b:Expr} {ta tb:TE} (ha:PE X a ta) (hb:PE X b tb) {pins:List (Addr×Obj)} {s:Shared} {σ:St} {H:Hp} {R:V->V->Hp->Prop} (I:Inv X pins σ H s) (h:ta σ H fun x H1=>tb σ H1 fun y H2=>R x y H2)
    {α:Type} {Q:α->Shared->Prop} {f:Value->Value->Sem α}
    (hf:∀ v u s2 x y H2,Inv X pins σ H2 s2->RelV x v->RelV y u->R x y H2->wpAny (model X.prog X.w) X.A (f v u) Q X.xe s2) :
    wpAny (model X.prog X.w) X.A (eval a X.env) (fun v s₁=>wpAny (model X.prog X.w) X.A (eval b X.env) (fun u s₂=>wpAny (model X.prog X.w) X.A (f v u) Q X.xe s₂) X.xe s₁) X.xe s:=by
  refine thn (ha pins s σ H _ I h) fun v s1 ⟨x,H1,I1,r1,q1⟩=>?_
  refine thn (hb pins s1 σ H1 _ I1 q1) fun u s2 ⟨y,H2,I2,r2,q2⟩=>?_
  exact hf v u s2 x y H2 I2 r1 r2 q2
noncomputable def tVar (i:Nat):TE:=fun σ H Q=>∃ v,σ[i]?=some (some v)/\Q v H
noncomputable def tC (v:V):TE:=fun _ H Q=>Q v H
theorem pe_var {i:Nat} {x:Str} {pos:Pos} (hN:X.N[i]?=some x) (hv:Vis X.env.scope x) (hd:(x==("__debug__":Str))=false:=by decide) (hcd:(x==("__classdict__":Str))=false:=by decide):PE X (.Name x pos) (tVar i):=by
  intro pins s σ H Q I h
  obtain ⟨v,e,h⟩:=h
  obtain ⟨m,hn,hl⟩:=I.loc
  obtain ⟨u,r,l⟩:=hl i x v hN e hv
  have fin:EP X pins σ Q u s:=⟨v,H,I,r,h⟩
  rcases l with ⟨hk,hm⟩ | ⟨hk,c,hc,hcell⟩
  · exact wpAny_Name (wpAny_loadName_local I.ok.kind hk hn hm fin) hd
  · rcases hk with hk | hk
    · exact wpAny_Name (wpAny_loadName_cell I.ok.kind hk hc hcell fin) hd
    · exact wpAny_Name (wpAny_loadName_free I.ok.kind hk hc hcell fin hcd) hd
theorem pe_int {i j pos}:PE X (.Constant (.int i) j pos) (tC (.int i)):=fun _ _ _ H _ I h=>wpAny_Constant_int ⟨.int i,H,I.tok _,⟨_,rfl⟩,h⟩
theorem pe_bl {b j pos}:PE X (.Constant (.bool b) j pos) (tC (.bl b)):=fun _ _ _ H _ I h=>Constant_bool ⟨.bl b,H,I,rfl,h⟩
theorem pe_non {j pos}:PE X (.Constant .none j pos) (tC .non):=fun _ _ _ H _ I h=>Constant_none ⟨.non,H,I,rfl,h⟩
theorem pe_str {x j pos}:PE X (.Constant (.str x) j pos) (tC (.str x)):=fun _ _ _ H _ I h=>Calls.Constant_str ⟨.str x,H,I.tok _,⟨_,rfl⟩,h⟩
noncomputable def Gl (X:Cx) (x:Str):Prop:=X.env.kindOf x=some .globalImplicit
theorem ld_glob {E:Value->Shared->Prop} {pins:List (Addr×Obj)} {s:Shared} {σ:St} {H:Hp} {x:Str} {u:Value} {pos:Pos} {Q:Value->Shared->Prop} (I:Inv X pins σ H s) (hg:Gl X x) (hm:X.mg x=some u) (h:Q u s)
    (hd:(x==("__debug__":Str))=false:=by decide):wpAny (model X.prog X.w) X.A (eval (.Name x pos) X.env) Q E s :=
  Calls.Name_function_global I.ok.kind hg (Calls.loadGlobal_global (by rw [I.ok.glob]; exact I.mod.glob.keeps I.bk) hm h) hd
theorem ld_blt {E:Value->Shared->Prop} {pins:List (Addr×Obj)} {s:Shared} {σ:St} {H:Hp} {x:Str} {u:Value} {pos:Pos} {Q:Value->Shared->Prop} (I:Inv X pins σ H s) (hg:Gl X x) (hm:X.mg x=none) (hv:bootBuiltins x=some u) (h:Q u s)
    (hn:x≠"__name__":=by decide) (hd:(x==("__debug__":Str))=false:=by decide):wpAny (model X.prog X.w) X.A (eval (.Name x pos) X.env) Q E s:=by
  obtain ⟨mb,h1,h2⟩:=I.mod.blt
  exact Calls.Name_function_global I.ok.kind hg (Calls.loadGlobal_builtin (by rw [I.ok.glob]; exact I.mod.glob.keeps I.bk) hm (by rw [I.ok.blt]; exact h1.keeps I.bk) ((h2 x hn).trans hv) h) hd
theorem pe_glob {x:Str} {v:V} {u:Value} {pos:Pos} (hg:Gl X x) (hm:X.mg x=some u) (r:RelV v u) (hd:(x==("__debug__":Str))=false:=by decide):PE X (.Name x pos) (tC v) :=
  fun _ _ _ H _ I h=>ld_glob I hg hm ⟨v,H,I,r,h⟩ hd
theorem pe_bltn {x:Str} {v:V} {u:Value} {pos:Pos} (hg:Gl X x) (hm:X.mg x=none) (hv:bootBuiltins x=some u) (r:RelV v u) (hn:x≠"__name__":=by decide) (hd:(x==("__debug__":Str))=false:=by decide):PE X (.Name x pos) (tC v) :=
  fun _ _ _ H _ I h=>ld_blt I hg hm hv ⟨v,H,I,r,h⟩ hn hd
variable {a b:Expr} {ta tb:TE} {pos:Pos}
noncomputable def tB (t:TE):TT:=fun σ H Q=>t σ H fun x H1=>∃ c,x=.bl c/\Q c H1
variable {tA tB':TT} {rest:List Expr}
noncomputable def tOr (t u:TT):TT:=fun σ H Q=>t σ H fun c H1=>if c=true then Q true H1 else u σ H1 Q
noncomputable def tNot (t:TT):TT:=fun σ H Q=>t σ H fun c H1=>Q (!c) H1
theorem pw_or1 (ha:PT X a tA):PW X (.BoolOp .Or [a] pos) tA:=by
  intro wh pins s σ H Q I h
  refine isTrue_or (thn (ha pins s σ H Q I h) fun c s1 e=>?_)
  cases c with
  | false=>exact isTrue_or_nil e
  | true=>exact e
theorem pw_or (ha:PT X a tA) (hb:PW X (.BoolOp .Or (b::rest) pos) tB'):PW X (.BoolOp .Or (a::b::rest) pos) (tOr tA tB'):=by
  intro wh pins s σ H Q I h
  refine isTrue_or (thn (ha pins s σ H _ I h) fun c s1 ⟨H1,I1,q1⟩=>?_)
  cases c with
  | true=>exact ⟨H1,I1,q1⟩
  | false=>exact hb wh pins s1 σ H1 Q I1 q1
theorem pt_not (ha:PT X a tA):PT X (.UnaryOp .Not a pos) (tNot tA):=by
  intro pins s σ H Q I h
  exact isTrue_not (ha pins s σ H (fun c H1=>Q (!c) H1) I h)
noncomputable def tAndV (ta tb:TE):TE:=fun σ H Q=>ta σ H fun x H1=>∃ c,x=.bl c/\if c=true then tb σ H1 Q else Q (.bl false) H1
noncomputable def tNotV (ta:TE):TE:=fun σ H Q=>ta σ H fun x H1=>∃ c,x=.bl c/\Q (.bl (!c)) H1
theorem pe_one {op} {t:TE} (h:PE X a t):PE X (.BoolOp op [a] pos) t:=fun pins s σ H Q I hw=>BoolOp_one (h pins s σ H Q I hw)
theorem pe_and (ha:PE X a ta) (hb:PE X (.BoolOp .And (b::rest) pos) tb):PE X (.BoolOp .And (a::b::rest) pos) (tAndV ta tb):=by
  intro pins s σ H Q I h
  refine BoolOp_and (thn (ha pins s σ H _ I h) fun v s1 ⟨x,H1,I1,r1,q1⟩=>?_)
  obtain ⟨c,rfl,q1⟩:=q1
  cases r1
  refine wpAny_truthy_bool ?_
  cases c with
  | true=>exact hb pins s1 σ H1 Q I1 q1
  | false=>exact ⟨.bl false,H1,I1,rfl,q1⟩
theorem pe_not (ha:PE X a ta):PE X (.UnaryOp .Not a pos) (tNotV ta):=by
  intro pins s σ H Q I h
  refine UnaryOp_ (thn (ha pins s σ H _ I h) fun v s1 ⟨x,H1,I1,r1,q1⟩=>?_)
  obtain ⟨c,rfl,q1⟩:=q1
  cases r1
  exact not_of (wpAny_truthy_bool ⟨.bl (!c),H1,I1,rfl,q1⟩)
noncomputable def tIf (t:TT) (ta tb:TE):TE:=fun σ H Q=>t σ H fun c H1=>if c=true then ta σ H1 Q else tb σ H1 Q
theorem pe_ifExp {c:Expr} (hc:PT X c tA) (ha:PE X a ta) (hb:PE X b tb):PE X (.IfExp c a b pos) (tIf tA ta tb):=by
  intro pins s σ H Q I h
  refine wpAny_IfExp (thn (hc pins s σ H _ I h) fun d s1 ⟨H1,I1,q1⟩=>?_)
  cases d with
  | true=>exact ha pins s1 σ H1 Q I1 q1
  | false=>exact hb pins s1 σ H1 Q I1 q1
end
end L2
namespace L2
open PySem PySem.Spec PyProof.Rows
noncomputable def SqL (K:PySem.W.Frag) (H:Hp) (a:Addr) (xs:List V):Prop :=
  Rd H a (.lst xs) \/
    ∃ (o:Obj) (its:Array Value) (n:Nat),K.lookup a=some o/\o.cls=.type "list"/\o.dict=none/\o.data=.seq its n/\its.size<=sizeLine/\Vals xs its.toList
noncomputable def SqT (K:PySem.W.Frag) (H:Hp) (a:Addr) (xs:List V):Prop :=
  Rd H a (.tup xs) \/
    ∃ (o:Obj) (its:Array Value) (n:Nat),K.lookup a=some o/\o.cls=.type "tuple"/\o.data=.seq its n/\its.size<=sizeLine/\Vals xs its.toList
noncomputable def absV:Value->Option V
  | .none=>some .non
  | .bool b=>some (.bl b)
  | .int i _=>some (.int i)
  | .str x _=>some (.str x)
  | .bytes b _=>some (.byt b)
  | .float b _=>some (.flt b)
  | .ref a=>some (.ref a)
  | .type n=>some (.ty n)
  | _=>none
theorem RelV.abs {x:V} {u:Value} (r:RelV x u):absV u=some x:=by
  cases x with
  | non=>cases r; rfl
  | bl _=>cases r; rfl
  | int _=>obtain ⟨t,rfl⟩:=r; rfl
  | str _=>obtain ⟨t,rfl⟩:=r; rfl
  | byt _=>obtain ⟨t,rfl⟩:=r; rfl
  | flt _=>obtain ⟨t,rfl⟩:=r; rfl
  | ref _=>cases r; rfl
  | ty _=>cases r; rfl
theorem RelV.inj {x y:V} {u:Value} (r:RelV x u) (q:RelV y u):x=y:=Option.some.inj (r.abs.symm.trans q.abs)
theorem Vals.inj:∀ {xs ys:List V} {us:List Value},Vals xs us->Vals ys us->xs=ys
  | _,_,_,.nil,.nil=>rfl
  | _,_,_,.cons r t,.cons r' t'=>by rw [r.inj r',Vals.inj t t']
section
variable {X:Cx} {pins:List (Addr×Obj)} {σ:St} {H:Hp} {s:Shared} {a:Addr} {xs ys:List V}
theorem SqL.of {K:PySem.W.Frag} (h:H a=some (.lst xs)):SqL K H a xs:=.inl (.inl h)
theorem SqT.of {K:PySem.W.Frag} (h:H a=some (.tup xs)):SqT K H a xs:=.inl (.inl h)
theorem Inv.list (I:Inv X pins σ H s) (h:SqL X.K H a xs):∃ its:List Value,Vals xs its/\PlainL s.heap a its.toArray/\xs.length<=sizeLine:=by
  rcases h with h | ⟨o,its,n,hk,hc,hd,hs,hz,r⟩
  · obtain ⟨z,its,n,r,e⟩:=h.ok I.hok
    exact ⟨its,r,⟨_,n,e,rfl,rfl,rfl⟩,z⟩
  · refine ⟨its.toList,r,⟨o,n,I.kIn a o hk,hc,hd,by simpa using hs⟩,?_⟩
    have e:=r.length
    simp only [Array.length_toList] at e
    omega
theorem Inv.tuple (I:Inv X pins σ H s) (h:SqT X.K H a xs):∃ its:List Value,Vals xs its/\IsTup s.heap a its.toArray/\xs.length<=sizeLine:=by
  rcases h with h | ⟨o,its,n,hk,hc,hs,hz,r⟩
  · obtain ⟨z,its,r,p⟩:=h.ok I.hok
    exact ⟨its,r,p,z⟩
  · refine ⟨its.toList,r,⟨o,I.kIn a o hk,hc,n,by simpa using hs⟩,?_⟩
    have e:=r.length
    simp only [Array.length_toList] at e
    omega
theorem Inv.list_inj (I:Inv X pins σ H s) (h:SqL X.K H a xs) (h':SqL X.K H a ys):xs=ys:=by
  obtain ⟨its,r,⟨o,n,e,_,_,d⟩,_⟩:=I.list h
  obtain ⟨its',r',⟨o',n',e',_,_,d'⟩,_⟩:=I.list h'
  rw [e] at e'; cases e'
  rw [d] at d'
  injection d' with d1 _
  have:its=its':=by simpa using congrArg Array.toList d1
  subst this
  exact r.inj r'
theorem Inv.tuple_inj (I:Inv X pins σ H s) (h:SqT X.K H a xs) (h':SqT X.K H a ys):xs=ys:=by
  obtain ⟨its,r,⟨o,e,_,n,d⟩,_⟩:=I.tuple h
  obtain ⟨its',r',⟨o',e',_,n',d'⟩,_⟩:=I.tuple h'
  rw [e] at e'; cases e'
  rw [d] at d'
  injection d' with d1 _
  have:its=its':=by simpa using congrArg Array.toList d1
  subst this
  exact r.inj r'
end
noncomputable abbrev Cx.wish (X:Cx) (E:Value->Shared->Prop):Cx:={ X with xe:=E }
noncomputable abbrev Cx.nox (X:Cx):Cx:=X.wish fun _ _=>False
theorem Cx.Ok.wish {X:Cx} (ok:X.Ok) (E:Value->Shared->Prop):(X.wish E).Ok :=
  ⟨ok.mod,ok.kind,ok.glob,ok.blt,ok.above,ok.inj,ok.has,ok.cab,ok.hd,ok.frames,ok.stk,ok.exf,ok.bs,ok.bsz,ok.noex,ok.exfs,ok.funs,ok.frf⟩
theorem Cx.Ok.unwish {X:Cx} {E:Value->Shared->Prop} (ok:(X.wish E).Ok):X.Ok :=
  ⟨ok.mod,ok.kind,ok.glob,ok.blt,ok.above,ok.inj,ok.has,ok.cab,ok.hd,ok.frames,ok.stk,ok.exf,ok.bs,ok.bsz,ok.noex,ok.exfs,ok.funs,ok.frf⟩
section
variable {X:Cx} {pins:List (Addr×Obj)} {σ:St} {H:Hp} {s:Shared} {E:Value->Shared->Prop}
theorem Inv.wish (I:Inv X pins σ H s) (E:Value->Shared->Prop):Inv (X.wish E) pins σ H s:=⟨I.ok.wish E,I.os,I.bare,I.base,I.loc,I.cell,I.free,I.freeC,I.pin,I.hok,I.len⟩
theorem Inv.unwish (I:Inv (X.wish E) pins σ H s):Inv X pins σ H s:=⟨I.ok.unwish,I.os,I.bare,I.base,I.loc,I.cell,I.free,I.freeC,I.pin,I.hok,I.len⟩
theorem SP.unwish {D:Ends} {f:Flow} {s':Shared} (h:SP (X.wish E) pins D f s'):SP X pins D f s':=by
  cases f with
  | next=>obtain ⟨σ',H',I,q⟩:=h; exact ⟨σ',H',I.unwish,q⟩
  | brk=>obtain ⟨σ',H',I,q⟩:=h; exact ⟨σ',H',I.unwish,q⟩
  | cont=>obtain ⟨σ',H',I,q⟩:=h; exact ⟨σ',H',I.unwish,q⟩
  | ret u=>obtain ⟨v,σ',H',I,r,q⟩:=h; exact ⟨v,σ',H',I.unwish,r,q⟩
theorem PE.nox {e:Expr} {t:TE} (h:PE X.nox e t):PE X e t:=fun pins s σ H Q I hw =>
  wpAny_mono (h pins s σ H Q (I.wish _) hw) (fun _ _ ⟨v,H',I',r,q⟩=>⟨v,H',I'.unwish,r,q⟩) fun _ _ z=>False.elim z
theorem PT.nox {e:Expr} {t:TT} (h:PT X.nox e t):PT X e t:=fun pins s σ H Q I hw =>
  wpAny_mono (h pins s σ H Q (I.wish _) hw) (fun _ _ ⟨H',I',q⟩=>⟨H',I'.unwish,q⟩) fun _ _ z=>False.elim z
theorem PSs.nox {st:List Stmt} {t:TS} (h:PSs X.nox st t):PSs X st t:=fun pins s σ H D I hw =>
  wpAny_mono (h pins s σ H D (I.wish _) hw) (fun _ _ q=>q.unwish) fun _ _ z=>False.elim z
end
section
variable {X:Cx} {st:Stmt} {rest:List Stmt} {t u:TS} {e:Expr} {te:TE} {pos:Pos}
noncomputable def tNext:TS:=fun D σ H=>D.nx σ H
noncomputable def tSeq (t u:TS):TS:=fun D σ H=>t { D with nx:=u D } σ H
theorem pss_nil:PSs X [] tNext:=fun _ _ σ H _ I h=>wpAny_execs_nil ⟨σ,H,I,h⟩
theorem pss_cons (h1:PS X st t) (h2:PSs X rest u):PSs X (st::rest) (tSeq t u):=by
  intro pins s σ H D I h
  refine wpAny_execs_cons (thn (h1 pins s σ H { D with nx:=u D } I h) fun f s1 q=>?_)
  cases f with
  | next =>
    obtain ⟨σ',H',I',q⟩:=q
    exact h2 pins s1 σ' H' D I' q
  | ret v=>exact q
  | brk=>exact q
  | cont=>exact q
theorem pss_one (h1:PS X st t):PSs X [st] t:=by
  intro pins s σ H D I h
  refine wpAny_execs_cons (thn (h1 pins s σ H D I h) fun f s1 q=>?_)
  cases f with
  | next=>exact wpAny_execs_nil q
  | ret v=>exact q
  | brk=>exact q
  | cont=>exact q
theorem Inv.quiet {pins:List (Addr×Obj)} {σ:St} {H:Hp} {s:Shared} (I:Inv X pins σ H s):interactive X.env=false:=by simp [interactive,I.ok.kind]
noncomputable def tDrop (te:TE):TS:=fun D σ H=>te σ H fun _ H1=>D.nx σ H1
theorem ps_expr (he:PE X e te) (hs:swapsWith e none pos.line X.env=pure false:=by rfl):PS X (.Expr e pos) (tDrop te):=by
  intro pins s σ H D I h
  exact wpAny_Expr_any (thn (he pins s σ H _ I h) fun v s1 ⟨x,H1,I1,r1,q1⟩=>⟨σ,H1,I1,q1⟩) I.quiet hs
noncomputable def tRet (te:TE):TS:=fun D σ H=>te σ H D.rt
theorem ps_ret (he:PE X e te):PS X (.Return (some e) pos) (tRet te):=by
  intro pins s σ H D I h
  exact wpAny_Return_some (thn (he pins s σ H _ I h) fun v s1 ⟨x,H1,I1,r1,q1⟩=>⟨x,σ,H1,I1,r1,q1⟩)
noncomputable def tIfS (c:TT) (t u:TS):TS:=fun D σ H=>c σ H fun b H1=>if b=true then t D σ H1 else u D σ H1
theorem ps_if {c:Expr} {a b:List Stmt} {tc:TT} (hc:PT X c tc) (ha:PSs X a t) (hb:PSs X b u):PS X (.If c a b pos) (tIfS tc t u):=by
  intro pins s σ H D I h
  refine wpAny_If (thn (hc pins s σ H _ I h) fun d s1 ⟨H1,I1,q1⟩=>?_)
  cases d with
  | true=>exact ha pins s1 σ H1 D I1 q1
  | false=>exact hb pins s1 σ H1 D I1 q1
end
noncomputable abbrev TG:=V->St->Hp->(St->Hp->Prop)->Prop
noncomputable abbrev TGs:=List V->St->Hp->(St->Hp->Prop)->Prop
noncomputable def PG (X:Cx) (target:Expr) (t:TG):Prop :=
  ∀ (pins:List (Addr×Obj)) (s:Shared) (σ:St) (H:Hp) (v:V) (u:Value) (Q:St->Hp->Prop),Inv X pins σ H s->RelV v u->t v σ H Q ->
    wpAny (model X.prog X.w) X.A (assign target X.env u) (fun _ s'=>∃ σ' H',Inv X pins σ' H' s'/\Q σ' H') X.xe s
noncomputable def PGs (X:Cx) (ts:List Expr) (t:TGs):Prop :=
  ∀ (pins:List (Addr×Obj)) (s:Shared) (σ:St) (H:Hp) (vs:List V) (us:List Value) (Q:St->Hp->Prop),Inv X pins σ H s->Vals vs us->t vs σ H Q ->
    wpAny (model X.prog X.w) X.A (assignInOrder ((assignEach ts X.env).map (·.2)) us) (fun _ s'=>∃ σ' H',Inv X pins σ' H' s'/\Q σ' H') X.xe s
noncomputable abbrev TSet:=V->V->V->Hp->(Hp->Prop)->Prop
noncomputable def PSet (X:Cx) (t:TSet):Prop :=
  ∀ (pins:List (Addr×Obj)) (s:Shared) (σ:St) (H:Hp) (o i v:V) (ov iv u:Value) (Q:Hp->Prop),Inv X pins σ H s->RelV o ov->RelV i iv->RelV v u->t o i v H Q ->
    wpAny (model X.prog X.w) X.A (setItem ov iv u) (fun _ s'=>∃ H',Inv X pins σ H' s'/\Q H') X.xe s
section
variable {X:Cx} {pos:Pos}
noncomputable def gName (i:Nat):TG:=fun v σ H Q=>Q (σ.set i (some v)) H
theorem pg_name {i:Nat} {x:Str} (hN:X.N.Nodup) (hi:X.N[i]?=some x) (hx:Loc X.env.scope x) (hf:X.fn x=true\/X.env.scope.names.lookup x=some .local:=by first | exact .inl rfl | exact .inr rfl | assumption):PG X (.Name x pos) (gName i):=by
  intro pins s σ H v u Q I r h
  exact wpAny_assign_Name (store_ok I hN hi hx r (fun s' I'=>⟨_,H,I',h⟩) hf)
noncomputable def gNil:TGs:=fun vs σ H Q=>vs=[]/\Q σ H
noncomputable def gCons (t:TG) (u:TGs):TGs:=fun vs σ H Q=>∃ v r,vs=v::r/\t v σ H fun σ' H'=>u r σ' H' Q
theorem pgs_nil:PGs X [] gNil:=by
  intro pins s σ H vs us Q I r h
  obtain ⟨e,h⟩:=h
  subst e
  cases r
  exact assignInOrder_nil ⟨σ,H,I,h⟩
theorem pgs_cons {e:Expr} {es:List Expr} {t:TG} {u:TGs} (h1:PG X e t) (h2:PGs X es u)
    (hs:(assignEach (e::es) X.env).map (·.2)=assign e X.env::(assignEach es X.env).map (·.2):=by rfl):PGs X (e::es) (gCons t u):=by
  intro pins s σ H vs us Q I r h
  obtain ⟨v,vr,e1,h⟩:=h
  subst e1
  cases r with
  | cons r rr =>
    rw [hs]
    refine assignInOrder_cons (thn (h1 pins s σ H _ _ _ I r h) fun _ s1 ⟨σ1,H1,I1,q1⟩=>?_)
    exact h2 pins s1 σ1 H1 _ _ Q I1 rr q1
noncomputable def gTup (K:PySem.W.Frag) (n:Nat) (t:TGs):TG:=fun v σ H Q=>∃ a xs,v=.ref a/\SqT K H a xs/\xs.length=n/\t xs σ H Q
theorem pg_tup {es:List Expr} {k:Nat} {t:TGs} {n:Nat} (hc:X.calm=true) (h:PGs X es t)
    (hn:(assignEach es X.env).length=n:=by rfl) (hst:(assignEach es X.env).findIdx? (·.1)=none:=by rfl):PG X (.Tuple es k pos) (gTup X.K n t):=by
  intro pins s σ H v u Q I r hw
  obtain ⟨a,xs,e1,hq,hl,hw⟩:=hw
  subst e1
  cases r
  obtain ⟨its,rv,ht,hz⟩:=I.tuple hq
  refine assign_Tuple_tuple (I.ok.hd hc) ht (by simp [hn,<- hl,rv.length]) hst fun h' hx=>?_
  have I1:Inv X pins σ H { s with heap:=h' }:=I.kept (t':=s.toks) fun b o e=>hx b o (Nat.ne_of_lt (Heap.lt_size e)) e
  exact h pins _ σ H xs _ Q I1 (by simpa using rv) hw
noncomputable def gSub (to ti:TE) (t:TSet):TG:=fun v σ H Q=>to σ H fun o H1=>ti σ H1 fun i H2=>t o i v H2 fun H3=>Q σ H3
theorem pg_sub {o i:Expr} {to ti:TE} {t:TSet} (ho:PE X o to) (hi:PE X i ti) (hs:PSet X t)
    (ha:∀ v,assign (.Subscript o i pos) X.env v=(do
      let ov <- holding [v] (eval o X.env)
      let iv <- holding [v,ov] (eval i X.env)
      standAt pos
      holding [v,ov,iv] (setItem ov iv v)
      release [v,ov,iv] []):=by intro _; rfl):PG X (.Subscript o i pos) (gSub to ti t):=by
  intro pins s σ H v u Q I r h
  rw [ha]
  refine wpAny_bind (wpAny_holding (thn (ho pins s σ H _ I h) fun ov s1 ⟨x,H1,I1,r1,q1⟩=>?_))
  refine wpAny_bind (wpAny_holding (thn (hi pins s1 σ H1 _ I1 q1) fun iv s2 ⟨y,H2,I2,r2,q2⟩=>?_))
  refine wpAny_bind (wpAny_standAt (wpAny_bind (wpAny_holding (thn (hs pins s2 σ H2 x y v ov iv u _ I2 r1 r2 r q2) fun _ s3 ⟨H3,I3,q3⟩=>?_))))
  exact wpAny_release ⟨σ,H3,I3,q3⟩
noncomputable def tAsg (te:TE) (g:TG):TS:=fun D σ H=>te σ H fun x H1=>g x σ H1 D.nx
theorem ps_asg {tg e:Expr} {te:TE} {g:TG} (he:PE X e te) (hg:PG X tg g) (hs:swapsWithSole [tg] e pos.line X.env=pure false:=by rfl) (hw:swappedStores [tg] e X.env=pure none:=by rfl)
    (h1:(assignEach [tg] X.env).map (·.2)=[assign tg X.env]:=by rfl):PS X (.Assign [tg] e pos) (tAsg te g):=by
  intro pins s σ H D I h
  refine wpAny_Assign_stores (thn (he pins s σ H _ I h) fun v s1 ⟨x,H1,I1,r1,q1⟩=>?_) hs hw
  rw [h1]
  exact thn (hg pins s1 σ H1 x v _ I1 r1 q1) fun _ s2 q=>q
theorem ps_set {i:Nat} {x:Str} {e:Expr} {te:TE} {pos':Pos} (hN:X.N.Nodup) (hi:X.N[i]?=some x) (hx:Loc X.env.scope x) (he:PE X e te) (hs:swapsWith e (some (.Name x pos')) pos.line X.env=pure false:=by rfl) (hf:X.fn x=true\/X.env.scope.names.lookup x=some .local:=by first | exact .inl rfl | exact .inr rfl | assumption) :
    PS X (.Assign [.Name x pos'] e pos) (tAsg te (gName i)):=by
  intro pins s σ H D I h
  refine wpAny_Assign_Name (thn (he pins s σ H _ I h) fun v s1 ⟨y,H1,I1,r1,q1⟩=>?_) hs
  exact store_ok I1 hN hi hx r1 (fun s2 I2=>⟨_,H1,I2,q1⟩) hf
noncomputable def tPar (i j:Nat) (ta:TA):TS:=fun D σ H=>ta σ H fun vs H1=>∃ v w,vs=[v,w]/\D.nx ((σ.set i (some v)).set j (some w)) H1
theorem ps_par {i j:Nat} {x y:Str} {a b:Expr} {ta:TA} {px py pt:Pos} {kt k2 pt2} (hc:X.calm=true) (hN:X.N.Nodup) (hi:X.N[i]?=some x) (hj:X.N[j]?=some y) (hij:i≠j)
    (hx:X.env.scope.names.lookup x=some .local) (hy:X.env.scope.names.lookup y=some .local) (ha:PA X [a,b] ta)
    (hw:swappedStores [.Tuple [.Name x px,.Name y py] kt pt] (.Tuple [a,b] k2 pt2) X.env=pure (some [x,y]))
    (hs:swapsWithSole [.Tuple [.Name x px,.Name y py] kt pt] (.Tuple [a,b] k2 pt2) pos.line X.env=pure false:=by rfl) :
    PS X (.Assign [.Tuple [.Name x px,.Name y py] kt pt] (.Tuple [a,b] k2 pt2) pos) (tPar i j ta):=by
  intro pins s σ H D I h
  rw [exec_Assign_arm]
  refine wpAny_bind (wpAny_standAt ?_)
  rw [hs]
  refine wpAny_bind (wpAny_pure ?_)
  rw [if_neg (by decide)]
  refine wpAny_bind (Tuple_ (thn (ha _ pins s σ H _ I h) fun us s1 ⟨vs,H1,I1,r1,q1⟩=>?_))
  obtain ⟨v,w,e1,q1⟩:=q1
  subst e1
  obtain ⟨u1,u2,rfl,rv,rw'⟩:∃ u1 u2,us=[u1,u2]/\RelV v u1/\RelV w u2:=by
    cases r1 with
    | cons p q =>
      cases q with
      | cons p' q' =>
        cases q'
        exact ⟨_,_,rfl,p,p'⟩
  refine wpAny_newObj_type ?_ (by show 2<=sizeLine; decide)
  have I2:Inv X pins σ H1 { s1 with heap:=s1.heap.push { cls:=.type "tuple",data:=.seq [u1,u2].toArray } }:=I1.kept (t':=s1.toks) fun b o e=>Heap.get?_push_of_some _ e
  rw [hw]
  refine wpAny_bind (wpAny_pure ?_)
  show wpAny (model X.prog X.w) X.A (do rule "assign.swapped-stores"; let items <- unpackItems (.ref s1.heap.objs.size) 2 none; assignInOrder [fun v=>bindName X.env y v,fun v=>bindName X.env x v] items.reverse; pure Flow.next) _ _ _
  refine wpAny_bind (wpAny_rule (wpAny_bind (unpackItems_tuple (items:=#[u1,u2]) (I.ok.hd hc) (IsTup.new s1.heap _) fun h' hx'=>?_)))
  have I3:=I2.kept (h':=h') (t':=s1.toks) fun b o e=>hx' b o (Nat.ne_of_lt (Heap.lt_size e)) e
  show wpAny _ _ (assignInOrder [fun v=>bindName X.env y v,fun v=>bindName X.env x v] [u2,u1] >>= fun _=>pure Flow.next) _ _ _
  refine wpAny_bind (assignInOrder_cons (wpAny_bindName (store_ok I3 hN hj (.inl hy) rw' (fun s2 I4=>?_) (.inr hy))))
  refine assignInOrder_cons (wpAny_bindName (store_ok I4 hN hi (.inl hx) rv (fun s3 I5=>assignInOrder_nil (wpAny_pure ?_)) (.inr hx)))
  rw [List.set_comm _ _ (Ne.symm hij)] at I5
  exact ⟨_,H1,I5,q1⟩
end
section
variable {X:Cx} {pos:Pos}
noncomputable def tWhile (c:TT) (tb:TS):TS:=fun D σ H=>∃ W:Nat->St->Hp->Prop,(∃ m,W m σ H)/\∀ m σ H,W m σ H ->
  c σ H fun b H1=>if b=true then ∃ N:St->Hp->Prop,(∀ σ' H',N σ' H'->∃ m',m' < m/\W m' σ' H')/\tb { D with nx:=N,ct:=N,bk:=D.nx } σ H1 else D.nx σ H1
theorem ps_while {c:Expr} {body:List Stmt} {tc:TT} {tb:TS} (hp:PassesOwn (model X.prog X.w) X.A X.env X.xe) (hc:PT X c tc) (hb:PSs X body tb):PS X (.While c body [] pos) (tWhile tc tb):=by
  intro pins s σ H D I h
  obtain ⟨W,⟨m0,w0⟩,turn⟩:=h
  refine wpAny_While (codeAny_whileLoop (fun n s'=>∃ σ' H',Inv X pins σ' H' s'/\W n σ' H') ?_ m0 ⟨σ,H,I,w0⟩)
  rintro n s1 ⟨σ1,H1,I1,w1⟩
  refine wpAny_passesOwn hp (thn (hc pins s1 σ1 H1 _ I1 (turn n σ1 H1 w1)) fun b s2 ⟨H2,I2,q2⟩=>?_)
  cases b with
  | true =>
    obtain ⟨N,hN,q2⟩:=q2
    rw [if_pos rfl]
    refine wpAny_passesOwn hp (thn (hb pins s2 σ1 H2 _ I2 q2) fun f s3 q3=>?_)
    cases f with
    | next =>
      obtain ⟨σ3,H3,I3,n3⟩:=q3
      obtain ⟨m',hm,w3⟩:=hN σ3 H3 n3
      exact ⟨m',hm,σ3,H3,I3,w3⟩
    | cont =>
      obtain ⟨σ3,H3,I3,n3⟩:=q3
      obtain ⟨m',hm,w3⟩:=hN σ3 H3 n3
      exact ⟨m',hm,σ3,H3,I3,w3⟩
    | brk=>exact q3
    | ret v=>exact q3
  | false =>
    rw [if_neg Bool.false_ne_true]
    exact wpAny_execs_nil ⟨σ1,H2,I2,q2⟩
end
structure It where
  go:Nat->Hp->Prop
  yld:Nat->Hp->V->Hp->Prop
  stop:Nat->Hp->Prop
noncomputable def FpOk (X:Cx) (pins:List (Addr×Obj)) (H:Hp) (b:Addr):Prop :=
  H b=none/\b≠X.env.locals/\b∉X.fs/\(b∈X.ex\/X.s₀.heap.objs.size<=b)/\(∀ x c,X.env.cells.lookup x=some c->c≠b)/\∀ p∈X.pn++pins,p.1≠b
theorem Inv.fpOk {X:Cx} {pins:List (Addr×Obj)} {σ:St} {H H':Hp} {s:Shared} {b:Addr} (I:Inv X pins σ H s) (hb:s.heap.objs.size<=b) (hn:H' b=none):FpOk X pins H' b:=by
  refine ⟨hn,Nat.ne_of_gt (Nat.lt_of_lt_of_le I.lt hb),I.nofs hb,.inr (Nat.le_trans I.sz hb),fun x c e z=>?_,fun p hp z=>?_⟩
  · obtain ⟨v,q⟩:=I.cell x c e
    exact absurd (Nat.lt_of_lt_of_le q.lt (by rw [z]; exact hb)) (Nat.lt_irrefl _)
  · exact absurd (Nat.lt_of_lt_of_le (Heap.lt_size (I.pin p hp).1) (by rw [z]; exact hb)) (Nat.lt_irrefl _)
structure Turn (P:Program) (w:World) (K:PySem.W.Frag) (tg:Expr) (J:It) (fp:List Addr) (it:Addr) (tn:Nat->Heap->Prop):Prop where
  mem:it∈fp
  obj:∀ i h,tn i h->∀ b∈fp,∃ o,h.get? b=some o/\∀ v,o.data≠.cell v
  keep:∀ i h h',tn i h->(∀ b∈fp,∀ o,h.get? b=some o->h'.get? b=some o)->tn i h'
  item:∀ (X:Cx),X.prog=P->X.w=w->X.K=K->X.calm=true->∀ (i:Nat) (pins:List (Addr×Obj)) (s:Shared) (σ:St) (H:Hp) (E:Value->Shared->Prop),Inv X pins σ H s->(∀ b∈fp,FpOk X pins H b)->tn i s.heap->J.go i H ->
    wpAny (model P w) X.A (pyNext (.ref it)) (fun r s1=>∃ u,r=some u /\
      wpAny (model P w) X.A (letOwnedTupleGo tg (.ref it) u) (fun _ s2=>∃ x H',Inv X pins σ H' s2/\RelV x u/\J.yld i H x H'/\tn (i+1) s2.heap/\∀ b∈fp,H' b=none) E s1) E s
  done:∀ (X:Cx),X.prog=P->X.w=w->X.K=K->X.calm=true->∀ (i:Nat) (pins:List (Addr×Obj)) (s:Shared) (σ:St) (H:Hp) (E:Value->Shared->Prop),Inv X pins σ H s->(∀ b∈fp,FpOk X pins H b)->tn i s.heap->J.stop i H ->
    wpAny (model P w) X.A (pyNext (.ref it)) (fun r s1=>r=none/\Inv X pins σ H s1) E s
  self:∀ (A:Around) (i:Nat) (s:Shared) (Q:Value->Shared->Prop) (E:Value->Shared->Prop),tn i s.heap->Q (.ref it) s->wpAny (model P w) A (pyIter (.ref it)) Q E s
noncomputable abbrev TI:=St->Hp->(It->Hp->Prop)->Prop
noncomputable def PIE (X:Cx) (pins:List (Addr×Obj)) (σ:St) (tg:Expr) (R:It->Hp->Prop) (itv:Value) (s2:Shared):Prop :=
  ∃ (it:Addr) (fp:List Addr) (tn:Nat->Heap->Prop) (J:It) (H':Hp),itv=.ref it/\Inv X pins σ H' s2/\Turn X.prog X.w X.K tg J fp it tn/\tn 0 s2.heap/\(∀ b∈fp,FpOk X pins H' b)/\R J H'
noncomputable def PI (X:Cx) (tg iter:Expr) (wi:TI):Prop :=
  ∀ (pins:List (Addr×Obj)) (s:Shared) (σ:St) (H:Hp) (R:It->Hp->Prop),Inv X pins σ H s->wi σ H R ->
    wpAny (model X.prog X.w) X.A (eval iter X.env) (fun v s1=>wpAny (model X.prog X.w) X.A (pyIter v) (PIE X pins σ tg R) X.xe s1) X.xe s
theorem go_of {M:Model} {A:Around} {E:Value->Shared->Prop} {s:Shared} {tg:Expr} {it:Addr} {u:Value} {o:Obj} {n:String} {vs:Array Value} {Q:Unit->Shared->Prop} (ho:s.heap.get? it=some o) (hc:o.cls=.type n) (hd:o.data=.fields vs)
    (hn:["enumerate","zip","dict_itemiterator","dict_reverseitemiterator","odict_iterator","itertools.zip_longest","itertools.pairwise"].contains n=false) (hQ:Q () s):wpAny M A (letOwnedTupleGo tg (.ref it) u) Q E s:=by
  unfold letOwnedTupleGo
  cases tg <;> first
    | exact wpAny_pure hQ
    | (cases u <;> first
        | exact wpAny_pure hQ
        | (refine wpAny_bind (wpAny_load ho ?_)
           rw [hc,hd]
           show wpAny M A (if (["enumerate","zip","dict_itemiterator","dict_reverseitemiterator","odict_iterator","itertools.zip_longest","itertools.pairwise"].contains n&&vs[0]?==some (rawInt _))=true then _ else _) Q E s
           rw [if_neg (by intro h; rw [hn,Bool.false_and] at h; cases h)]
           exact wpAny_pure hQ))
noncomputable def Itl (K:PySem.W.Frag) (a:Addr):It :=
  ⟨fun i H=>∃ xs x,SqL K H a xs/\xs[i]?=some x,fun i H x H'=>H'=H/\∀ xs,SqL K H a xs->xs[i]?=some x,fun i H=>∃ xs,SqL K H a xs/\xs.length<=i⟩
noncomputable def Itt (K:PySem.W.Frag) (a:Addr):It :=
  ⟨fun i H=>∃ xs x,SqT K H a xs/\xs[i]?=some x,fun i H x H'=>H'=H/\∀ xs,SqT K H a xs->xs[i]?=some x,fun i H=>∃ xs,SqT K H a xs/\xs.length<=i⟩
noncomputable def Itr (lo:Int) (n:Nat):It:=⟨fun i _=>i < n,fun i H x H'=>H'=H/\x=.int (lo+i),fun i _=>n<=i⟩
theorem turn_list {P:Program} {w:World} {K:PySem.W.Frag} {tg:Expr} (a it:Addr):Turn P w K tg (Itl K a) [it] it (fun i h=>h.IsListIter it a i) where
  mem:=by simp
  obj:=fun i h st b hb=>by
    have e:b=it:=by simpa using hb
    subst e
    obtain ⟨o,e,c,d⟩:=st
    exact ⟨o,e,fun v z=>by rw [d] at z; cases z⟩
  keep:=fun i h h' st k=>st.at fun o e=>k it (by simp) o e
  item:=by
    intro X hP hw hK hc i pins s σ H E I hf st hg
    subst hP hw hK
    obtain ⟨xs,x,hq,hx⟩:=hg
    obtain ⟨its,rv,p,hz⟩:=I.list hq
    obtain ⟨u,hu,ru⟩:=rv.get hx
    obtain ⟨f0,f1,f2,f3,f4,f5⟩:=hf it (by simp)
    refine wpAny_pyNext_list_item st p.isList (x:=u) (by simpa using hu) fun h' st' sb=>?_
    have I1:Inv X pins σ H { s with heap:=h' }:=I.turned (t':=s.toks) (fun b o hb e=>(sb.2 b hb).trans e) f0 f1 f3 f4 f5
    obtain ⟨o,e,c,d⟩:=id st'
    exact ⟨u,rfl,go_of (s:={ s with heap:=h' }) e c d (by decide) ⟨x,H,I1,ru,⟨rfl,fun ys hy=>by rw [I.list_inj hy hq]; exact hx⟩,st',fun b hb=>(hf b hb).1⟩⟩
  done:=by
    intro X hP hw hK hc i pins s σ H E I hf st hg
    subst hP hw hK
    obtain ⟨xs,hq,hx⟩:=hg
    obtain ⟨its,rv,p,hz⟩:=I.list hq
    obtain ⟨f0,f1,f2,f3,f4,f5⟩:=hf it (by simp)
    have hl:=rv.length
    exact wpAny_pyNext_list_end (I.ok.hd hc) st p.isList (by simp; omega) fun h' eb=>⟨rfl,I.turned (t':=s.toks) (fun b o hb e=>eb b o hb e) f0 f1 f3 f4 f5⟩
  self:=fun _ _ _ _ _ st h=>wpAny_pyIter_listiter st h
theorem turn_tuple {P:Program} {w:World} {K:PySem.W.Frag} {tg:Expr} (a it:Addr):Turn P w K tg (Itt K a) [it] it (fun i h=>h.IsTupleIter it a i) where
  mem:=by simp
  obj:=fun i h st b hb=>by
    have e:b=it:=by simpa using hb
    subst e
    obtain ⟨o,e,c,d⟩:=st
    exact ⟨o,e,fun v z=>by rw [d] at z; cases z⟩
  keep:=fun i h h' st k=>st.at fun o e=>k it (by simp) o e
  item:=by
    intro X hP hw hK hc i pins s σ H E I hf st hg
    subst hP hw hK
    obtain ⟨xs,x,hq,hx⟩:=hg
    obtain ⟨its,rv,p,hz⟩:=I.tuple hq
    obtain ⟨u,hu,ru⟩:=rv.get hx
    obtain ⟨f0,f1,f2,f3,f4,f5⟩:=hf it (by simp)
    refine wpAny_pyNext_tuple_item st (show s.heap.IsTuple a its.toArray from p) (x:=u) (by simpa using hu) fun h' st' sb=>?_
    have I1:Inv X pins σ H { s with heap:=h' }:=I.turned (t':=s.toks) (fun b o hb e=>(sb.2 b hb).trans e) f0 f1 f3 f4 f5
    obtain ⟨o,e,c,d⟩:=id st'
    exact ⟨u,rfl,go_of (s:={ s with heap:=h' }) e c d (by decide) ⟨x,H,I1,ru,⟨rfl,fun ys hy=>by rw [I.tuple_inj hy hq]; exact hx⟩,st',fun b hb=>(hf b hb).1⟩⟩
  done:=by
    intro X hP hw hK hc i pins s σ H E I hf st hg
    subst hP hw hK
    obtain ⟨xs,hq,hx⟩:=hg
    obtain ⟨its,rv,p,hz⟩:=I.tuple hq
    obtain ⟨f0,f1,f2,f3,f4,f5⟩:=hf it (by simp)
    have hl:=rv.length
    exact wpAny_pyNext_tuple_end (I.ok.hd hc) st (show s.heap.IsTuple a its.toArray from p) (by simp; omega) fun h' eb=>⟨rfl,I.turned (t':=s.toks) (fun b o hb e=>eb b o hb e) f0 f1 f3 f4 f5⟩
  self:=fun _ _ _ _ _ st h=>wpAny_pyIter_tupleiter st h
theorem turn_range {P:Program} {w:World} {K:PySem.W.Frag} {tg:Expr} (it:Addr) (lo:Int) (n:Nat):Turn P w K tg (Itr lo n) [it] it (fun i h=>IsRangeIter h it (lo+(i:Nat)*1) ((n:Int) - (i:Nat)) 1) where
  mem:=by simp
  obj:=fun i h st b hb=>by
    have e:b=it:=by simpa using hb
    subst e
    exact ⟨_,st,fun v z=>by
      have z':Data.fields _=Data.cell v:=z
      cases z'⟩
  keep:=fun i h h' st k=>k it (by simp) _ st
  item:=by
    intro X hP hw hK hc i pins s σ H E I hf st hg
    subst hP hw hK
    obtain ⟨f0,f1,f2,f3,f4,f5⟩:=hf it (by simp)
    have W:=Walks.range (prog:=X.prog) (w:=X.w) (I.ok.hd hc) it lo 1 n
    refine W.item i s _ _ hg st fun v h' tk hv st' kk=>?_
    obtain ⟨t,rfl⟩:=hv
    have I1:Inv X pins σ H { s with heap:=h',toks:=tk }:=I.turned (fun b o hb e=>kk b o (by simpa using hb) e) f0 f1 f3 f4 f5
    refine ⟨_,rfl,go_of (s:={ s with heap:=h',toks:=tk }) (n:="range_iterator") st' rfl rfl (by decide) ⟨.int (lo+i),H,I1,⟨t,?_⟩,⟨rfl,rfl⟩,st',fun b hb=>(hf b hb).1⟩⟩
    rw [Int.mul_one]
  done:=by
    intro X hP hw hK hc i pins s σ H E I hf st hg
    subst hP hw hK
    obtain ⟨f0,f1,f2,f3,f4,f5⟩:=hf it (by simp)
    exact wpAny_pyNext_range_end (I.ok.hd hc) st (by have:n<=i:=hg; omega) fun h' eb=>⟨rfl,I.turned (t':=s.toks) (fun b o hb e=>eb b o hb e) f0 f1 f3 f4 f5⟩
  self:=fun _ _ _ _ _ st h=>wpAny_pyIter_rangeiter st h
end L2
namespace L2
open PySem PySem.Spec PyProof.Rows
section
variable {X:Cx} {tg:Expr}
theorem range_it {pins:List (Addr×Obj)} {σ:St} {H:Hp} {s:Shared} {R:It->Hp->Prop} {E:Value->Shared->Prop} {lo hi:Int} {t u v:Tok} {tk:Nat} (I:Inv X pins σ H s) (h1 : -(2 ^ 62)<=lo) (h2:lo < 2 ^ 62) (h3 : -(2 ^ 62)<=hi) (h4:hi < 2 ^ 62)
    (q:R (Itr lo (hi - lo).toNat) H):wpAny (model X.prog X.w) X.A (pyIter (.ref s.heap.objs.size)) (PIE X pins σ tg R) E { s with heap:=s.heap.push { cls:=.type "range",data:=.fields #[.int lo t,.int hi u,.int 1 v] },toks:=tk }:=by
  refine wpAny_pyIter_range (IsRange.new ..) (small_one h1 h2 h3 h4) ?_
  have I1:Inv X pins σ H { s with heap:=s.heap.push { cls:=.type "range",data:=.fields #[.int lo t,.int hi u,.int 1 v] },toks:=tk }:=I.kept fun b o e=>Heap.get?_push_of_some _ e
  refine ⟨(s.heap.push { cls:=.type "range",data:=.fields #[.int lo t,.int hi u,.int 1 v] }).objs.size,[(s.heap.push { cls:=.type "range",data:=.fields #[.int lo t,.int hi u,.int 1 v] }).objs.size],_,_,H,rfl,
    I1.kept (t':=tk) fun b o e=>Heap.get?_push_of_some _ e,turn_range _ lo (hi - lo).toNat,?_,fun b hb=>?_,q⟩
  · have e1:lo+((0:Nat):Int)*1=lo:=by simp
    have e2:(((hi - lo).toNat:Nat):Int) - ((0:Nat):Int)=Builtin.Range.rangeSize lo hi 1:=by rw [rangeSize_one]; split <;> omega
    show IsRangeIter _ _ (lo+((0:Nat):Int)*1) ((((hi - lo).toNat:Nat):Int) - ((0:Nat):Int)) 1
    rw [e1,e2]
    exact Heap.get?_push_size _ rfl
  · have e:b=(s.heap.push { cls:=.type "range",data:=.fields #[.int lo t,.int hi u,.int 1 v] }).objs.size:=by simpa using hb
    subst e
    exact I1.fpOk (Nat.le_refl _) (I1.hok.fresh (Nat.le_refl _))
noncomputable def iRng1 (ta:TA):TI:=fun σ H R=>ta σ H fun vs H1=>∃ j:Int,vs=[.int j] /\ -(2 ^ 62)<=j/\j < 2 ^ 62/\R (Itr 0 j.toNat) H1
noncomputable def iRng2 (ta:TA):TI:=fun σ H R=>ta σ H fun vs H1=>∃ i j:Int,vs=[.int i,.int j]/\(-(2 ^ 62)<=i/\i < 2 ^ 62 /\ -(2 ^ 62)<=j/\j < 2 ^ 62)/\R (Itr i (j - i).toNat) H1
theorem pi_range1 {a:Expr} {ta:TA} {p pos:Pos} (hg:Gl X "range") (hm:X.mg "range"=none) (ha:PA X [a] ta) (hs:starEach [a] X.env=[(false,eval a X.env)]:=by rfl):PI X tg (.Call (.Name "range" p) [a] [] pos) (iRng1 ta):=by
  intro pins s σ H R I h
  refine Call_ (ld_blt I hg hm boot_range (PyProof.Rows.callWith_type1 (thn (ha pos pins s σ H _ I h) fun us s1 ⟨vs,H1,I1,r1,q1⟩=>?_) hs rfl))
  obtain ⟨j,e,q1,q2,q⟩:=q1
  subst e
  cases r1 with
  | cons r rr =>
    cases rr
    obtain ⟨t,rfl⟩:=r
    exact call_range_1 (range_it I1 (by omega) (by omega) q1 q2 (by simpa using q))
theorem pi_range2 {a b:Expr} {ta:TA} {p pos:Pos} (hg:Gl X "range") (hm:X.mg "range"=none) (ha:PA X [a,b] ta) (hs:starEach [a,b] X.env=[(false,eval a X.env),(false,eval b X.env)]:=by rfl) (hs2:starEach [b] X.env=[(false,eval b X.env)]:=by rfl) :
    PI X tg (.Call (.Name "range" p) [a,b] [] pos) (iRng2 ta):=by
  intro pins s σ H R I h
  refine Call_ (ld_blt I hg hm boot_range (PyProof.Rows.callWith_type1 (thn (ha pos pins s σ H _ I h) fun us s1 ⟨vs,H1,I1,r1,q1⟩=>?_) (by rw [hs,hs2]) (by rw [hs2]; rfl)))
  obtain ⟨i,j,e,⟨q1,q2,q3,q4⟩,q⟩:=q1
  subst e
  cases r1 with
  | cons r rr =>
    cases rr with
    | cons r' rr =>
      cases rr
      obtain ⟨t,rfl⟩:=r
      obtain ⟨t',rfl⟩:=r'
      exact call_range_2 (range_it I1 q1 q2 q3 q4 q)
noncomputable def tFor (wi:TI) (g:TG) (tb:TS):TS:=fun D σ H=>wi σ H fun J H1=>∃ W:Nat->Nat->St->Hp->Prop,(∃ m,W 0 m σ H1)/\∀ i m σ H,W i m σ H ->
  (J.stop i H/\D.nx σ H)\/(J.go i H/\∃ N:St->Hp->Prop,(∀ σ' H',N σ' H'->∃ m',m' < m/\W (i+1) m' σ' H')/\∀ x H',J.yld i H x H'->g x σ H' fun σ2 H2=>tb { D with nx:=N,ct:=N,bk:=D.nx } σ2 H2)
noncomputable def pinsAt (fp:List Addr) (h:Heap):List (Addr×Obj):=fp.filterMap fun b=>(h.get? b).map fun o=>(b,o)
theorem mem_pinsAt {fp:List Addr} {h:Heap} {b:Addr} {o:Obj} (hb:b∈fp) (e:h.get? b=some o):(b,o)∈pinsAt fp h:=List.mem_filterMap.mpr ⟨b,hb,by rw [e]; rfl⟩
theorem of_pinsAt {fp:List Addr} {h:Heap} {p:Addr×Obj} (hp:p∈pinsAt fp h):p.1∈fp/\h.get? p.1=some p.2:=by
  obtain ⟨b,hb,e⟩:=List.mem_filterMap.mp hp
  cases q:h.get? b with
  | none=>rw [q] at e; cases e
  | some o =>
    rw [q] at e
    have e':(b,o)=p:=Option.some.inj e
    subst e'
    exact ⟨hb,q⟩
theorem Inv.pinned {pins:List (Addr×Obj)} {σ:St} {H:Hp} {s:Shared} {fp:List Addr} (I:Inv X pins σ H s) (hf:∀ b∈fp,FpOk X pins H b) (ho:∀ b∈fp,∃ o,s.heap.get? b=some o/\∀ v,o.data≠.cell v):Inv X (pins++pinsAt fp s.heap) σ H s :=
  I.pins_of fun p hp=>(List.mem_append.mp hp).elim (fun z=>I.pin p (List.mem_append_right _ z)) fun z=>by
    obtain ⟨hb,e⟩:=of_pinsAt z
    obtain ⟨f0,f1,f2,_⟩:=hf p.1 hb
    obtain ⟨o,e',d⟩:=ho p.1 hb
    rw [e] at e'; cases e'
    exact ⟨e,f0,f1,f2,d⟩
theorem Inv.unpinned {pins pl:List (Addr×Obj)} {σ:St} {H:Hp} {s:Shared} (I:Inv X (pins++pl) σ H s):Inv X pins σ H s:=I.pins_of fun p hp=>I.pin p (List.mem_append_right _ (List.mem_append_left _ hp))
theorem ps_for {iter:Expr} {body:List Stmt} {wi:TI} {g:TG} {tb:TS} {pos:Pos} (hp:PassesOwn (model X.prog X.w) X.A X.env X.xe) (hc:X.calm=true) (hi:PI X tg iter wi) (hg:PG X tg g) (hb:PSs X body tb)
    (hs:∀ x,foldedSetIterable iter X.env x=pure x:=by intro _; rfl):PS X (.For tg iter body [] pos) (tFor wi g tb):=by
  intro pins s σ H D I h
  refine wpAny_For (thn (hi pins s σ H _ I h) fun v s1 h1=>thn h1 fun itv s2 h2=>?_) hs
  obtain ⟨it,fp,tn,J,H2,e,I2,T,st2,f2,W,⟨m0,w0⟩,turn⟩:=h2
  subst e
  -- what stays true of the iterator's objects through the loop
  have stat:∀ {H':Hp},(∀ b∈fp,H' b=none)->∀ b∈fp,FpOk X pins H' b:=fun hn b hb=>⟨hn b hb,(f2 b hb).2⟩
  refine codeAny_forLoop_any (fun n s'=>∃ i σ' H',Inv X pins σ' H' s'/\tn i s'.heap/\(∀ b∈fp,H' b=none)/\W i n σ' H') ?_ m0 ⟨0,σ,H2,I2,st2,fun b hb=>(f2 b hb).1,w0⟩
  rintro n s3 ⟨i,σ3,H3,I3,st3,fr3,w3⟩
  rcases turn i n σ3 H3 w3 with ⟨stop,qn⟩ | ⟨go,N,hN,step⟩
  · refine wpAny_passesOwn hp (thn (T.done X rfl rfl rfl hc i pins s3 σ3 H3 X.xe I3 (stat fr3) st3 stop) fun r s4 ⟨hr,I4⟩=>?_)
    subst hr
    exact wpAny_execs_nil ⟨σ3,H3,I4,qn⟩
  · refine wpAny_passesOwn hp (thn (T.item X rfl rfl rfl hc i pins s3 σ3 H3 X.xe I3 (stat fr3) st3 go) fun r s4 ⟨u,hr,h4⟩=>?_)
    subst hr
    refine wpAny_passesOwn hp (thn h4 fun _ s5 ⟨x,H5,I5,r5,y5,st5,fr5⟩=>?_)
    have I5':=I5.pinned (stat fr5) (T.obj _ _ st5)
    refine wpAny_passesOwn hp (thn (hg _ s5 σ3 H5 x u _ I5' r5 (step x H5 y5)) fun _ s6 ⟨σ6,H6,I6,q6⟩=>?_)
    refine wpAny_passesOwn hp (thn (hb _ s6 σ6 H6 _ I6 q6) fun f s7 q7=>?_)
    have again:∀ {σ7:St} {H7:Hp},Inv X (pins++pinsAt fp s5.heap) σ7 H7 s7->N σ7 H7->∃ m,m < n/\∃ i σ' H',Inv X pins σ' H' s7/\tn i s7.heap/\(∀ b∈fp,H' b=none)/\W i m σ' H':=fun {σ7 H7} I7 n7=>by
      obtain ⟨m',hm,w7⟩:=hN σ7 H7 n7
      refine ⟨m',hm,i+1,σ7,H7,I7.unpinned,T.keep _ _ _ st5 fun b hb o e=>(I7.pin (b,o) (List.mem_append_right _ (List.mem_append_right _ (mem_pinsAt hb e)))).1,fun b hb=>?_,w7⟩
      obtain ⟨o,e,d⟩:=T.obj _ _ st5 b hb
      exact (I7.pin (b,o) (List.mem_append_right _ (List.mem_append_right _ (mem_pinsAt hb e)))).2.1
    cases f with
    | next=>obtain ⟨σ7,H7,I7,n7⟩:=q7; exact again I7 n7
    | cont=>obtain ⟨σ7,H7,I7,n7⟩:=q7; exact again I7 n7
    | brk=>obtain ⟨σ7,H7,I7,q7⟩:=q7; exact ⟨σ7,H7,I7.unpinned,q7⟩
    | ret v=>obtain ⟨x7,σ7,H7,I7,r7,q7⟩:=q7; exact ⟨x7,σ7,H7,I7.unpinned,r7,q7⟩
end
end L2
namespace L2
open PySem PySem.Spec PyProof.Rows
noncomputable abbrev R2:=V->V->Hp->VK->Prop
noncomputable def OpR (X:Cx) (f:Value->Value->Sem Value) (r:R2):Prop :=
  ∀ (pins:List (Addr×Obj)) (s:Shared) (σ:St) (H:Hp) (x y:V) (v u:Value) (Q:VK),Inv X pins σ H s->RelV x v->RelV y u->r x y H Q ->
    wpAny (model X.prog X.w) X.A (f v u) (EP X pins σ Q) X.xe s
noncomputable def CallR (X:Cx) (f:Value) (r:List V->Hp->VK->Prop):Prop :=
  ∀ (pins:List (Addr×Obj)) (s:Shared) (σ:St) (H:Hp) (xs:List V) (us:List Value) (Q:VK),Inv X pins σ H s->Vals xs us->r xs H Q ->
    wpAny (model X.prog X.w) X.A (call f us) (EP X pins σ Q) X.xe s
noncomputable def TruR (X:Cx) (r:V->Hp->(Bool->Hp->Prop)->Prop):Prop :=
  ∀ (pins:List (Addr×Obj)) (s:Shared) (σ:St) (H:Hp) (x:V) (v:Value) (Q:Bool->Hp->Prop),Inv X pins σ H s->RelV x v->r x H Q ->
    wpAny (model X.prog X.w) X.A (truthy v) (TP X pins σ Q) X.xe s
noncomputable def tOp (r:R2) (ta tb:TE):TE:=fun σ H Q=>ta σ H fun x H1=>tb σ H1 fun y H2=>r x y H2 Q
noncomputable def rI (C:Int->Int->Prop) (g:Int->Int->V):R2:=fun x y H Q=>∃ i j,x=.int i/\y=.int j/\C i j/\Q (g i j) H
noncomputable def rI0 (g:Int->Int->V):R2:=fun x y H Q=>∃ i j,x=.int i/\y=.int j/\Q (g i j) H
section
variable {X:Cx} {a b c:Expr} {ta tb tc:TE} {pos:Pos}
theorem binT (ha:PE X a ta) (hb:PE X b tb) {pins:List (Addr×Obj)} {s:Shared} {σ:St} {H:Hp} {R:V->V->Hp->Prop} (I:Inv X pins σ H s)
    (h:ta σ H fun x H1=>tb σ H1 fun y H2=>R x y H2) {Q:Value->Shared->Prop} {f:Value->Value->Sem Value}
    (hf:∀ v u s2 x y H2,Inv X pins σ H2 s2->RelV x v->RelV y u->R x y H2->wpAny (model X.prog X.w) X.A (f v u) Q X.xe s2) :
    wpAny (model X.prog X.w) X.A (eval a X.env) (fun v s₁=>wpAny (model X.prog X.w) X.A (eval b X.env) (fun u s₂=>wpAny (model X.prog X.w) X.A (f v u) Q X.xe s₂) X.xe s₁) X.xe s:=by
  refine thn (ha pins s σ H _ I h) fun v s1 ⟨x,H1,I1,r1,q1⟩=>?_
  refine thn (hb pins s1 σ H1 _ I1 q1) fun u s2 ⟨y,H2,I2,r2,q2⟩=>?_
  exact hf v u s2 x y H2 I2 r1 r2 q2
theorem pe_op {op:Operator} {r:R2} (ho:OpR X (binaryOp op) r) (ha:PE X a ta) (hb:PE X b tb):PE X (.BinOp a op b pos) (tOp r ta tb):=by
  intro pins s σ H Q I h
  exact wpAny_BinOp (binT ha hb I h fun v u s2 x y H2 I2 rx ry q=>ho pins s2 σ H2 x y v u Q I2 rx ry q)
theorem opI {f:Value->Value->Sem Value} {C:Int->Int->Prop} {g:Int->Int->Int}
    (rule:∀ (i j:Int) (t u:Tok) (s:Shared) (Q:Value->Shared->Prop) (E:Value->Shared->Prop),C i j->Q (.int (g i j) s.toks) { s with toks:=s.toks+1 }->wpAny (model X.prog X.w) X.A (f (.int i t) (.int j u)) Q E s) :
    OpR X f (rI C fun i j=>.int (g i j)):=by
  intro pins s σ H x y v u Q I rx ry h
  obtain ⟨i,j,rfl,rfl,hc,q⟩:=h
  obtain ⟨t,rfl⟩:=rx
  obtain ⟨t',rfl⟩:=ry
  exact rule i j t t' s _ _ hc ⟨.int (g i j),H,I.tok _,⟨_,rfl⟩,q⟩
theorem opI0 {f:Value->Value->Sem Value} {g:Int->Int->Int}
    (rule:∀ (i j:Int) (t u:Tok) (s:Shared) (Q:Value->Shared->Prop) (E:Value->Shared->Prop),Q (.int (g i j) s.toks) { s with toks:=s.toks+1 }->wpAny (model X.prog X.w) X.A (f (.int i t) (.int j u)) Q E s) :
    OpR X f (rI0 fun i j=>.int (g i j)):=by
  intro pins s σ H x y v u Q I rx ry h
  obtain ⟨i,j,rfl,rfl,q⟩:=h
  obtain ⟨t,rfl⟩:=rx
  obtain ⟨t',rfl⟩:=ry
  exact rule i j t t' s _ _ ⟨.int (g i j),H,I.tok _,⟨_,rfl⟩,q⟩
theorem opB0 {f:Value->Value->Sem Value} {g:Int->Int->Bool}
    (rule:∀ (i j:Int) (t u:Tok) (s:Shared) (Q:Value->Shared->Prop) (E:Value->Shared->Prop),Q (.bool (g i j)) s->wpAny (model X.prog X.w) X.A (f (.int i t) (.int j u)) Q E s) :
    OpR X f (rI0 fun i j=>.bl (g i j)):=by
  intro pins s σ H x y v u Q I rx ry h
  obtain ⟨i,j,rfl,rfl,q⟩:=h
  obtain ⟨t,rfl⟩:=rx
  obtain ⟨t',rfl⟩:=ry
  exact rule i j t t' s _ _ ⟨.bl (g i j),H,I,rfl,q⟩
noncomputable def CPow (i j:Int):Prop:=0<=j/\j<=1000000/\i.natAbs < 2 ^ 64
noncomputable def CMul (i j:Int):Prop:=(-(2 ^ 64) < i/\i < 2 ^ 64)\/(-(2 ^ 64) < j/\j < 2 ^ 64)
theorem CMul.ok {i j:Int} (h:CMul i j):IntMulOk i j:=by
  rcases h with ⟨h1,h2⟩ | ⟨h1,h2⟩
  · exact .of_left (intBits_le_64 h1 h2)
  · exact .of_right (intBits_le_64 h1 h2)
theorem op_add:OpR X (binaryOp .Add) (rI0 fun i j=>.int (i+j)):=opI0 fun _ _ _ _ _ _ _ q=>add_int q
theorem op_sub:OpR X (binaryOp .Sub) (rI0 fun i j=>.int (i - j)):=opI0 fun _ _ _ _ _ _ _ q=>sub_int q
theorem op_mod:OpR X (binaryOp .Mod) (rI (fun _ j=>0 < j) fun i j=>.int (i % j)):=opI fun i j _ _ _ _ _ hc q=>by
  have h1:(0:Int) < j:=hc
  exact mod_int' (by omega) (by rw [Int.fmod_eq_emod_of_nonneg i (by omega)]; exact q)
theorem op_pow:OpR X (binaryOp .Pow) (rI CPow fun i j=>.int (i ^ j.toNat)):=opI fun _ _ _ _ _ _ _ hc q=>pow_int_small hc.1 hc.2.1 hc.2.2 q
end
section
variable {X:Cx} {a b c:Expr} {ta tb tc:TE} {pos:Pos}
theorem fin_bl {pins:List (Addr×Obj)} {σ:St} {H:Hp} {s:Shared} {Q:VK} {k k':Bool} (I:Inv X pins σ H s) (q:Q (.bl k) H) (e:k=k'):EP X pins σ Q (.bool k') s:=by
  subst e
  exact ⟨.bl k,H,I,rfl,q⟩
theorem op_lt:OpR X (compareOp .Lt) (rI0 fun i j=>.bl (decide (i < j))):=opB0 fun _ _ _ _ _ _ _ q=>lt_int q
theorem op_gt:OpR X (compareOp .Gt) (rI0 fun i j=>.bl (decide (j < i))):=opB0 fun _ _ _ _ _ _ _ q=>gt_int q
theorem op_ge:OpR X (compareOp .GtE) (rI0 fun i j=>.bl (decide (j<=i))):=opB0 fun _ _ _ _ _ _ _ q=>ge_int q
theorem op_isN:OpR X (compareOp .Is) (fun x y H Q=>y=.non/\Q (.bl (decide (x=.non))) H):=by
  intro pins s σ H x y v u Q I rx ry h
  obtain ⟨rfl,q⟩:=h
  cases ry
  refine is_none_gen (fin_bl I q ?_)
  cases x <;> first
    | (cases rx; rfl)
    | (obtain ⟨t,rfl⟩:=rx; rfl)
theorem OpR.or {f:Value->Value->Sem Value} {r r':R2} (h:OpR X f r) (h':OpR X f r'):OpR X f (fun x y H Q=>r x y H Q\/r' x y H Q):=by
  intro pins s σ H x y v u Q I rx ry q
  rcases q with q | q
  · exact h pins s σ H x y v u Q I rx ry q
  · exact h' pins s σ H x y v u Q I rx ry q
theorem nomark (b:Expr) {op:CmpOp} (h:op≠.In:=by decide) (h2:op≠.NotIn:=by decide):behindInMarks op b=false:=by
  have e1:(op==CmpOp.In)=false:=by cases op <;> first | rfl | exact absurd rfl h
  have e2:(op==CmpOp.NotIn)=false:=by cases op <;> first | rfl | exact absurd rfl h2
  cases b <;> simp [behindInMarks,e1,e2]
theorem pe_cmpR {op:CmpOp} {r:R2} (ho:OpR X (compareOp op) r) (ha:PE X a ta) (hb:PE X b tb) (hm:behindInMarks op b=false):PE X (.Compare a [op] [b] pos) (tOp r ta tb):=by
  intro pins s σ H Q I h
  exact wpAny_Compare1 (binT ha hb I h fun v u s2 x y H2 I2 rx ry q=>ho pins s2 σ H2 x y v u Q I2 rx ry q) hm
noncomputable def tTest (t:TE):TT:=fun σ H Q=>t σ H fun x H'=>∃ k,x=.bl k/\Q k H'
theorem pt_cmpR {op:CmpOp} {r:R2} (ho:OpR X (compareOp op) r) (ha:PE X a ta) (hb:PE X b tb) (hm:behindInMarks op b=false):PT X (.Compare a [op] [b] pos) (tTest (tOp r ta tb)):=by
  intro pins s σ H Q I h
  refine wpAny_isTrue_Compare1 (thn (ha pins s σ H _ I h) fun v s1 ⟨x,H1,I1,r1,q1⟩=>thn (hb pins s1 σ H1 _ I1 q1) fun u s2 ⟨y,H2,I2,r2,q2⟩ =>
    thn (ho pins s2 σ H2 x y v u _ I2 r1 r2 q2) fun c s3 ⟨z,H3,I3,r3,k,e,q3⟩=>?_) hm
  subst e
  cases r3
  exact wpAny_truthy_bool ⟨H3,I3,q3⟩
noncomputable def TruV (K:PySem.W.Frag) (x:V) (H:Hp) (k:Bool):Prop :=
  match x with
  | .non=>k=false
  | .bl b=>k=b
  | .int i=>k=(i != 0)
  | .str y=>y.length<=sizeLine/\k=((y.length:Int) != 0)
  | .byt y=>y.size<=sizeLine/\k=((y.size:Int) != 0)
  | .ref p=>(∃ xs,SqL K H p xs/\k=!xs.isEmpty)\/(∃ xs,SqT K H p xs/\k=!xs.isEmpty)\/∃ kvs,H p=some (.dK kvs)/\k=!kvs.isEmpty
  | _=>False
theorem isEmpty_kv {κ:Type} {kvs:List (κ×V)} {vs:List (κ×Value)} (r:KV kvs vs):(!vs.isEmpty)=!kvs.isEmpty:=by
  cases r <;> rfl
theorem isEmpty_of {xs:List V} {its:List Value} (r:Vals xs its):(!its.toArray.isEmpty)=!xs.isEmpty:=by
  cases r <;> simp
theorem line63:(sizeLine:Nat) < 2 ^ 63:=by rw [sizeLine_eq]; decide
theorem tru_ok:TruR X (fun x H Q=>∃ k,TruV X.K x H k/\Q k H):=by
  intro pins s σ H x v Q I rx h
  obtain ⟨k,e,q⟩:=h
  have hl:=line63
  have hs:sizeLine=16777216:=sizeLine_eq
  cases x with
  | non =>
    cases rx
    have e':k=false:=e
    subst e'
    exact truthy_none ⟨H,I,q⟩
  | bl b =>
    cases rx
    have e':k=b:=e
    subst e'
    exact wpAny_truthy_bool ⟨H,I,q⟩
  | int i =>
    obtain ⟨t,rfl⟩:=rx
    have e':k=(i != 0):=e
    subst e'
    exact PySem.P.truthy_int ⟨H,I,q⟩
  | str y =>
    obtain ⟨t,rfl⟩:=rx
    obtain ⟨hy,e'⟩:y.length<=sizeLine/\k=((y.length:Int) != 0):=e
    subst e'
    exact PySem.P.truthy_str (by omega) ⟨H,I.tok _,q⟩
  | byt y =>
    obtain ⟨t,rfl⟩:=rx
    obtain ⟨hy,e'⟩:y.size<=sizeLine/\k=((y.size:Int) != 0):=e
    subst e'
    exact PySem.W.truthy_bytes (by omega) ⟨H,I.tok _,q⟩
  | ref p =>
    cases rx
    have e':(∃ xs,SqL X.K H p xs/\k=!xs.isEmpty)\/(∃ xs,SqT X.K H p xs/\k=!xs.isEmpty)\/∃ kvs,H p=some (.dK kvs)/\k=!kvs.isEmpty:=e
    rcases e' with ⟨xs,hx,e'⟩ | ⟨xs,hx,e'⟩ | ⟨kvs,hx,e'⟩
    · subst e'
      obtain ⟨its,r,pl,hz⟩:=I.list hx
      have hlen:=r.length
      exact wpAny_truthy_list pl.isList (by simp only [List.size_toArray]; omega) ⟨H,I.tok _,by rw [isEmpty_of r]; exact q⟩
    · subst e'
      obtain ⟨its,r,pl,hz⟩:=I.tuple hx
      have hlen:=r.length
      exact truthy_tuple pl (by simp only [List.size_toArray]; omega) ⟨H,I.tok _,by rw [isEmpty_of r]; exact q⟩
    · subst e'
      obtain ⟨hz,hS,vs,r,m⟩:kvs.length<=sizeLine/\(p==sysModules)=false/\∃ vs,KV kvs vs/\s.heap.DictOf (mixKind X.prog X.w) p vs:=I.hok p _ hx
      have hlen:kvs.length=vs.length:=Paired.length r
      exact wpAny_truthy_dict hS m (by omega) ⟨H,I.tok _,by rw [isEmpty_kv r]; exact q⟩
  | _=>exact (show False from e).elim
theorem pt_truth (ha:PE X a ta) (he:∀ whole,isTrue a X.env whole=(do let v <- whole; standAt a.pos; holding [v] (truthy v))) :
    PT X a (fun σ H Q=>ta σ H fun x H'=>∃ k,TruV X.K x H' k/\Q k H'):=by
  intro pins s σ H Q I h
  exact isTrue_plain (thn (ha pins s σ H _ I h) fun v s1 ⟨x,H1,I1,r1,q1⟩=>tru_ok pins s1 σ H1 x v Q I1 r1 q1) (he _)
theorem op_add_str:OpR X (binaryOp .Add) (fun x y H Q=>∃ i j,x=.str i/\y=.str j/\i.length+j.length<=sizeLine/\Q (.str (i++j)) H):=by
  intro pins s σ H x y v u Q I rx ry h
  obtain ⟨i,j,rfl,rfl,hz,q⟩:=h
  obtain ⟨t,rfl⟩:=rx
  obtain ⟨t',rfl⟩:=ry
  exact add_str (fun t' tk=>⟨.str (i++j),H,I.tok _,⟨_,rfl⟩,q⟩) hz
theorem vals1 {x:V} {us:List Value} (r:Vals [x] us):∃ u,us=[u]/\RelV x u:=by
  cases r with
  | cons r1 r2=>cases r2; exact ⟨_,rfl,r1⟩
theorem vals2 {x y:V} {us:List Value} (r:Vals [x,y] us):∃ u w',us=[u,w']/\RelV x u/\RelV y w':=by
  cases r with
  | cons r1 r2 =>
    cases r2 with
    | cons r3 r4=>cases r4; exact ⟨_,_,rfl,r1,r3⟩
theorem call_max2 (hc:X.calm=true):CallR X (.builtin "max") (fun xs H Q=>∃ i j,xs=[.int i,.int j]/\Q (.int (if j > i then j else i)) H):=by
  intro pins s σ H xs us Q I r h
  obtain ⟨i,j,rfl,q⟩:=h
  obtain ⟨u,w',rfl,⟨t,rfl⟩,⟨t',rfl⟩⟩:=vals2 r
  refine max_two_ints (I.ok.hd hc) fun h' tk k=>⟨_,H,I.kept k,?_,q⟩
  by_cases hj:j > i
  · rw [if_pos hj,if_pos hj]; exact ⟨_,rfl⟩
  · rw [if_neg hj,if_neg hj]; exact ⟨_,rfl⟩
theorem call_min2 (hc:X.calm=true):CallR X (.builtin "min") (fun xs H Q=>∃ i j,xs=[.int i,.int j]/\Q (.int (if j < i then j else i)) H):=by
  intro pins s σ H xs us Q I r h
  obtain ⟨i,j,rfl,q⟩:=h
  obtain ⟨u,w',rfl,⟨t,rfl⟩,⟨t',rfl⟩⟩:=vals2 r
  refine min_two_ints (I.ok.hd hc) fun h' tk k=>⟨_,H,I.kept k,?_,q⟩
  by_cases hj:j < i
  · rw [if_pos hj,if_pos hj]; exact ⟨_,rfl⟩
  · rw [if_neg hj,if_neg hj]; exact ⟨_,rfl⟩
theorem call_int1:CallR X (.type "int") (fun xs H Q=>(∃ i,xs=[.int i]/\Q (.int i) H)\/∃ k,xs=[.bl k]/\Q (.int (if k then 1 else 0)) H):=by
  intro pins s σ H xs us Q I r h
  rcases h with ⟨i,rfl,q⟩ | ⟨k,rfl,q⟩
  · obtain ⟨u,rfl,t,rfl⟩:=vals1 r
    exact call_int_int ⟨.int i,H,I,⟨_,rfl⟩,q⟩
  · obtain ⟨u,rfl,r1⟩:=vals1 r
    cases r1
    exact call_int_bool ⟨.int (if k then 1 else 0),H,I.tok _,⟨_,rfl⟩,q⟩
end
end L2
namespace L2
open PySem PySem.Spec PyProof.Rows
structure ObjM (h:Heap) (x dx C:Addr) (mA:Str->Option Value):Prop where
  obj:h.get? x=some (PySem.W.instObj C dx)
  ns:h.Ns1 dx mA
  ne:dx≠x
theorem lookIn_ns {h:Heap} {dx:Addr} {mA:Str->Option Value} (n:h.Ns1 dx mA):∃ od,h.get? dx=some od/\∀ name,PySem.W.lookIn name od=some (mA name):=by
  obtain ⟨o,es,ep,ho,hd,hk,_,hm⟩:=n
  refine ⟨o,ho,fun name=>?_⟩
  have e:=hm name
  unfold nsFind findBy at e
  rw [<- Array.find?_toList] at e
  unfold PySem.W.lookIn
  rw [hd]
  dsimp only
  split
  · rename_i y q
    rw [q] at e
    exact congrArg some e
  · rename_i q
    rw [q] at e
    have a:es.toList.any (·.refKey)=false:=by
      rw [List.any_eq_false]
      intro y hy
      obtain ⟨z,t,hkey⟩:=hk y (Array.mem_toList_iff.mp hy)
      simp [DictEntry.refKey,hkey]
    have a':¬ es.toList.any (·.refKey)=true:=by rw [a]; exact Bool.false_ne_true
    rw [if_neg a']
    exact congrArg some e
theorem ObjM.look {h:Heap} {x dx C:Addr} {mA:Str->Option Value} (I:ObjM h x dx C mA):∃ od,PySem.W.InstAt h x (PySem.W.instObj C dx) C (some od)/\∀ name,PySem.W.lookIn name od=some (mA name) :=
  let ⟨od,ho,hl⟩:=lookIn_ns I.ns
  ⟨od,⟨I.obj,rfl,rfl,ho⟩,hl⟩
section
variable {prog:Program} {w:World} {A:Around} {E:Value->Shared->Prop} {s:Shared} {K:PySem.W.Frag} {x dx C f:Addr} {mA:Str->Option Value} {name:Str} {v:Value}
end
theorem RelO.none_of {o:Option Value} (r:RelO none o):o=none:=by
  cases o with
  | none=>rfl
  | some u=>exact (show False from r).elim
section
variable {P:Program} {w:World} {H H':Hp} {h h':Heap} {a C dx:Addr} {fs fs':List (Str×V)}
theorem ins_get (hok:HOk P w H h) (e:H a=some (.ins C dx fs)):∃ mA,ObjM h a dx C mA/\(∀ f,RelO (fs.lookup f) (mA f))/\PySem.Within mA (fs.map (·.1))/\fs.length<=1000/\H dx=some (.own a):=by
  obtain ⟨d,z,ne,ob,mA,n,r,q⟩:=(show ObjOk P w H h a (.ins C dx fs) from hok a _ e)
  exact ⟨mA,⟨ob,n,ne⟩,r,q,z,d⟩
end
structure Cls (K:PySem.W.Frag) (C:Addr):Prop where
  pg:PySem.W.plainGet K C Str.empty=true
  hd:PySem.W.hasDictIn K C=true
  po:PySem.W.plainOver K C=true
  sa:PySem.W.findIn K (.ref C) "__setattr__"=some (some (.builtin "object.__setattr__"))
theorem Cls.get {K:PySem.W.Frag} {C:Addr} (c:Cls K C) (f:Str):PySem.W.plainGet K C f=true:=c.pg
structure Con (K:PySem.W.Frag) (C:Addr) (f:Str) (v:V) (u:Value):Prop where
  at_:PySem.W.findIn K (.ref C) f=some (some u)
  rel:RelV v u
  get:PySem.W.specialIn K u "__get__"=some none
  cp:PySem.W.copiedNames.contains f=false
structure Meth (K:PySem.W.Frag) (C:Addr) (m:Str) (f:Addr):Prop where
  at_:PySem.W.findIn K (.ref C) m=some (some (.ref f))
  fn:PySem.W.isFn K (.ref f)=true
  kp:PySem.W.keepIn K (.ref f)=true
section
variable {X:Cx} {pins:List (Addr×Obj)} {σ:St} {H:Hp} {s:Shared} {a C dx:Addr} {fs:List (Str×V)} {f:Str} {v:V} {A:Around} {E:Value->Shared->Prop}
theorem Inv.made (I:Inv X pins σ H s):Inv X pins σ (upd (upd H s.heap.objs.size (.own (s.heap.objs.size+1))) (s.heap.objs.size+1) (.ins C s.heap.objs.size []))
    { s with heap:=(s.heap.push PySem.W.emptyDict).push (PySem.W.instObj C s.heap.objs.size) }:=by
  have e1:(s.heap.push PySem.W.emptyDict).get? s.heap.objs.size=some PySem.W.emptyDict:=Heap.get?_push_size s.heap rfl
  have e2:((s.heap.push PySem.W.emptyDict).push (PySem.W.instObj C s.heap.objs.size)).get? (s.heap.objs.size+1)=some (PySem.W.instObj C s.heap.objs.size):=by
    have:=Heap.get?_push_size (s.heap.push PySem.W.emptyDict) (o:=PySem.W.instObj C s.heap.objs.size) rfl
    rwa [Heap.size_push] at this
  have e3:(s.heap.push PySem.W.emptyDict).Ns s.heap.objs.size (fun _=>none):=⟨PySem.W.emptyDict,#[],_,e1,rfl,(fun e he=>absurd he (by simp)),fun _=>rfl⟩
  have I1:=I.laid (a:=s.heap.objs.size) (o:=.own (s.heap.objs.size+1)) (h':=s.heap.push PySem.W.emptyDict) (t':=s.toks) (fun b u q=>Heap.get?_push_of_some _ q) (Nat.le_refl _) ⟨_,e1⟩
  refine I1.laid (a:=s.heap.objs.size+1) (o:=.ins C s.heap.objs.size []) (t':=s.toks) (fun b u q=>Heap.get?_push_of_some _ q) (Nat.le_of_eq (Heap.size_push _ _)) ?_
  have ne:s.heap.objs.size≠s.heap.objs.size+1:=Nat.ne_of_lt (Nat.lt_succ_self _)
  refine ⟨by rw [upd_ne ne,upd_same],Nat.zero_le _,ne,e2,fun _=>none,(Heap.Ns1.of_empty e3).at fun o q=>Heap.get?_push_of_some _ q,fun _=>True.intro,fun y hy=>absurd rfl hy⟩
theorem attr_of {prog:Program} {w:World} {env:Env} {e:Expr} {f:Str} {pos:Pos} {s:Shared} {Q:Value->Shared->Prop} (hb:attributeBase e f env (eval e env)=eval e env)
    (h:wpAny (model prog w) A (eval e env) (fun o s₁=>wpAny (model prog w) A (getAttr o f true) Q E s₁) E s):wpAny (model prog w) A (eval (.Attribute e f pos) env) Q E s :=
  Attribute_any_ h (by rw [arm_eval_Attribute,hb])
end
section
variable {X:Cx} {o e value:Expr} {f:Str} {pos pos' tpos:Pos} {ta tv:TE}
end
section
variable {X:Cx} {pins:List (Addr×Obj)} {σ:St} {H:Hp} {s:Shared} {A:Around} {E:Value->Shared->Prop} {Q:Value->Shared->Prop} {c:Value} {b:Bool}
inductive TyOf (K:PySem.W.Frag) (H:Hp):V->Value->Prop where
  | non:TyOf K H .non (.type "NoneType")
  | bl (x:Bool):TyOf K H (.bl x) (.type "bool")
  | int (i:Int):TyOf K H (.int i) (.type "int")
  | str (x:Str):TyOf K H (.str x) (.type "str")
  | flt (x:UInt64):TyOf K H (.flt x) (.type "float")
  | lst {a:Addr} {xs:List V} (e:H a=some (.lst xs)):TyOf K H (.ref a) (.type "list")
  | frz {a:Addr} {o:Obj} {xs:List V} (e:H a=some (.frz o (.lst xs))):TyOf K H (.ref a) (.type "list")
  | tup {a:Addr} {xs:List V} (e:H a=some (.tup xs)):TyOf K H (.ref a) (.type "tuple")
  | dK {a:Addr} {kvs:List (Key×V)} (e:H a=some (.dK kvs)):TyOf K H (.ref a) (.type "dict")
  | dT {a:Addr} {kvs:List (List Key×V)} (e:H a=some (.dT kvs)):TyOf K H (.ref a) (.type "dict")
  | ins {a C dx:Addr} {fs:List (Str×V)} (e:H a=some (.ins C dx fs)) (cl:Cls K C) (ha:PySem.W.findIn K (.ref C) "__class__"=some (some (.builtin "object.__class__")))
      (hn:PySem.W.specialIn K (.builtin "object.__class__") "__get__"=some (some (.builtin "getset_descriptor.__get__"))) (htk:PySem.W.takesIn K (.builtin "object.__class__")=some true)
      (hm:PySem.W.mroIn K C (.type "object")=some true):TyOf K H (.ref a) (.ref C)
theorem isinst_ok {x:V} {u t:Value} (I:Inv X pins σ H s) (rx:RelV x u) (ty:TyOf X.K H x t) (e:PySem.W.kitOne X.K t c=some b) (h:∀ tk,Q (.bool b) { s with toks:=tk }) :
    wpAny (model X.prog X.w) A (call (.builtin "isinstance") [u,c]) Q E s:=by
  cases ty with
  | non=>cases (show u=Value.none from rx); exact PySem.W.kia_one PySem.W.kitx_none I.kIn True.intro e (fun z=>nomatch z) h
  | bl y=>cases (show u=Value.bool y from rx); exact PySem.W.kia_one PySem.W.kitx_bool I.kIn True.intro e (fun z=>nomatch z) h
  | int i=>obtain ⟨t,q⟩:=(show ∃ t,u=Value.int i t from rx); cases q; exact PySem.W.kia_one PySem.W.kitx_int I.kIn True.intro e (fun z=>nomatch z) h
  | str y=>obtain ⟨t,q⟩:=(show ∃ t,u=Value.str y t from rx); cases q; exact PySem.W.kia_one PySem.W.kitx_str I.kIn True.intro e (fun z=>nomatch z) h
  | flt y=>obtain ⟨t,q⟩:=(show ∃ t,u=Value.float y t from rx); cases q; exact PySem.W.kia_one PySem.W.kitx_float I.kIn True.intro e (fun z=>nomatch z) h
  | @lst a xs ea =>
    cases (show u=Value.ref a from rx)
    obtain ⟨_,_,n,_,h1⟩:=(show ObjOk X.prog X.w H s.heap a (.lst xs) from I.hok a _ ea)
    exact PySem.W.kia_one PySem.W.kitx_list I.kIn ⟨_,h1,rfl⟩ e (fun z=>nomatch z) h
  | @frz a ob xs ea =>
    cases (show u=Value.ref a from rx)
    obtain ⟨_,_,_,n,_,h1⟩:=(show ObjOk X.prog X.w H s.heap a (.frz ob (.lst xs)) from I.hok a _ ea)
    exact PySem.W.kia_one PySem.W.kitx_list I.kIn ⟨_,h1,rfl⟩ e (fun z=>nomatch z) h
  | @tup a xs ea =>
    cases (show u=Value.ref a from rx)
    obtain ⟨_,_,_,p⟩:=(show ObjOk X.prog X.w H s.heap a (.tup xs) from I.hok a _ ea)
    obtain ⟨o,h1,h2,_⟩:=p
    exact PySem.W.kia_one PySem.W.kitx_tuple I.kIn ⟨o,h1,h2⟩ e (fun z=>nomatch z) h
  | @dK a kvs ea =>
    cases (show u=Value.ref a from rx)
    obtain ⟨_,_,vs,_,p⟩:=(show ObjOk X.prog X.w H s.heap a (.dK kvs) from I.hok a _ ea)
    obtain ⟨o,es,ep,h1,h2,_⟩:=p
    exact PySem.W.kia_one PySem.W.kitx_dict I.kIn ⟨o,h1,h2.1⟩ e (fun z=>nomatch z) h
  | @dT a kvs ea =>
    cases (show u=Value.ref a from rx)
    obtain ⟨_,_,xs,_,o,es,ep,h1,h2,_⟩:=(show ObjOk X.prog X.w H s.heap a (.dT kvs) from I.hok a _ ea)
    exact PySem.W.kia_one PySem.W.kitx_dict I.kIn ⟨o,h1,h2.1⟩ e (fun z=>nomatch z) h
  | @ins a C dx fs ea cl ha hn htk hm =>
    cases (show u=Value.ref a from rx)
    obtain ⟨mA,O,_⟩:=ins_get I.hok ea
    obtain ⟨od,J,_⟩:=O.look
    exact PySem.W.kia_one (PySem.W.kitx_own (cl.get _) cl.hd ha hn htk hm) I.kIn J e (fun z=>nomatch z) h
end
end L2
namespace L2
open PySem PySem.Spec PyProof.Rows
structure Room (k:Nat) (A:Around):Prop where
  hd:A.handled=none
  dp:A.depth+3*k+5 < recursionLimit
  un:A.units+16*k+200 < cLine
theorem Room.mono {j k:Nat} {A:Around} (r:Room k A) (h:j<=k):Room j A:=⟨r.hd,by have:=r.dp; omega,by have:=r.un; omega⟩
theorem Room.deeper {k:Nat} {A:Around} (r:Room (k+1) A) (env:Env):Room k (A.deeper env) :=
  ⟨r.hd,by have:=r.dp; show A.depth+1+3*k+5 < _; omega,by have:=r.un; show A.units+3+16*k+200 < _; omega⟩
theorem Room.in1 {k:Nat} {A:Around} (r:Room (k+1) A):Room k A.in1 :=
  ⟨r.hd,by have:=r.dp; show A.depth+3*k+5 < _; omega,by have:=r.un; show A.units+1+16*k+200 < _; omega⟩
theorem make_depth {A:Around} {C:Addr} {us:List Value} {kw:List (Str×Value)}:(A.under (.builtin "type.__call__" ⟨.ref C::us,kw⟩)).depth=A.depth+1:=by
  first | rfl | simp [Around.under,Code.weight,Code.isCreation,Code.isGuard,Code.isCaller,Code.frames,Code.isFrame,guardIds]
theorem make_units {A:Around} {C:Addr} {us:List Value} {kw:List (Str×Value)}:(A.under (.builtin "type.__call__" ⟨.ref C::us,kw⟩)).units=A.units+1:=by
  first | rfl | simp [Around.under,Code.cUnits,Code.frames,Code.isFrame]
theorem Room.make {k:Nat} {A:Around} (r:Room (k+1) A) (C:Addr) (us:List Value) (kw:List (Str×Value)):Room k (A.under (.builtin "type.__call__" ⟨.ref C::us,kw⟩)) :=
  ⟨r.hd,by have:=r.dp; rw [make_depth]; omega,by have:=r.un; rw [make_units]; omega⟩
theorem Room.depth {k:Nat} {A:Around} (r:Room k A):A.depth < recursionLimit:=by have:=r.dp; omega
theorem Room.units {k:Nat} {A:Around} (r:Room k A):A.units+64 < cLine:=by have:=r.un; omega
noncomputable def tNil:TA:=fun _ H Q=>Q [] H
noncomputable def tCons (ta:TE) (tr:TA):TA:=fun σ H Q=>ta σ H fun x H1=>tr σ H1 fun xs H2=>Q (x::xs) H2
section
variable {X:Cx} {e:Expr} {es:List Expr} {te:TE} {t:TA} {pos:Pos}
theorem pa_nil:PA X [] tNil:=fun _ _ _ _ H Q I h=>Calls.spliced_nil ⟨[],H,I,.nil,h⟩
theorem pa_cons (ha:PE X e te) (hr:PA X es t) (hs:starEach (e::es) X.env=(false,eval e X.env)::starEach es X.env:=by rfl):PA X (e::es) (tCons te t):=by
  intro pos pins s σ H Q I h
  rw [hs]
  show wpAny _ _ (spliced ((false,eval e X.env)::backTo pos (starEach es X.env))) _ _ s
  refine Calls.spliced_cons (thn (ha pins s σ H _ I h) fun u s1 ⟨x,H1,I1,r1,q1⟩=>?_)
  exact thn (hr pos pins s1 σ H1 _ I1 q1) fun us s2 ⟨xs,H2,I2,r2,q2⟩=>⟨x::xs,H2,I2,.cons r1 r2,q2⟩
noncomputable def tTup (t:TA):TE:=fun σ H Q=>t σ H fun xs H1=>xs.length<=sizeLine/\∀ p,H1 p=none->Q (.ref p) (upd H1 p (.tup xs))
noncomputable def tLst (t:TA):TE:=fun σ H Q=>t σ H fun xs H1=>xs.length<=sizeLine/\∀ p,H1 p=none->Q (.ref p) (upd H1 p (.lst xs))
theorem pe_tup {x1} (h:PA X es t):PE X (.Tuple es x1 pos) (tTup t):=by
  intro pins s σ H Q I hq
  refine wpAny_Tuple_spliced (thn (h pos pins s σ H _ I hq) fun us s1 ⟨xs,H1,I1,r,z,q⟩=>⟨by rw [<- r.length]; exact z,?_⟩)
  have hf:H1 s1.heap.objs.size=none:=I1.hok.fresh (Nat.le_refl _)
  refine ⟨.ref s1.heap.objs.size,upd H1 s1.heap.objs.size (.tup xs),I1.laid (t':=s1.toks) (fun b u e=>Heap.get?_push_of_some _ e) (Nat.le_refl _) ?_,rfl,q _ hf⟩
  exact ⟨z,us,r,⟨_,Heap.get?_push_size _ rfl,rfl,_,rfl⟩⟩
theorem pe_lst (h:PA X es t):PE X (.List es pos) (tLst t):=by
  intro pins s σ H Q I hq
  refine wpAny_List_spliced (thn (h pos pins s σ H _ I hq) fun us s1 ⟨xs,H1,I1,r,z,q⟩=>⟨by rw [<- r.length]; exact z,?_⟩)
  have hf:H1 s1.heap.objs.size=none:=I1.hok.fresh (Nat.le_refl _)
  refine ⟨.ref s1.heap.objs.size,upd H1 s1.heap.objs.size (.lst xs),I1.laid (t':=s1.toks) (fun b u e=>Heap.get?_push_of_some _ e) (Nat.le_refl _) ?_,rfl,q _ hf⟩
  exact ⟨z,us,0,r,Heap.get?_push_size _ rfl⟩
end
noncomputable abbrev Sp:=List V->Hp->VK->XK->Prop
noncomputable abbrev CXT:=List Env->Hp->Shared->XK->Value->Shared->Prop
structure Env0 (P:Program) (w:World) (K:PySem.W.Frag) (mg:Str->Option Value) (base:Heap) (A:Around) (outer:List Env) (s:Shared) (H:Hp):Prop where
  frames:A.frames=some outer
  mod:Mod K mg base
  bs:∀ b o,base.get? b=some o->s.heap.get? b=some o/\H b=none
  bsz:base.objs.size<=s.heap.objs.size
  funs:s.heap.FunFrames base outer
  frf:∀ b∈frs outer,H b=none
  hok:HOk P w H s.heap
  bare:AllBare s.gens
noncomputable def CE (outer:List Env) (P:Program) (w:World) (H:Hp) (s:Shared) (Q:VK) (u:Value) (s':Shared):Prop :=
  ∃ v H',s'.os=s.os/\AllBare s'.gens/\Un (frs outer) [] H H' s.heap s'.heap/\HOk P w H' s'.heap/\RelV v u/\Q v H'
noncomputable def CR (CX:CXT) (outer:List Env) (P:Program) (w:World) (H:Hp) (s:Shared) (Q:VK) (E:XK) (r:Result) (s':Shared):Prop :=
  match r with
  | .ok (.ret u)=>CE outer P w H s Q u s'
  | .ok _=>False
  | .error e=>CX outer H s E e s'
structure FnOk (P:Program) (w:World) (K:PySem.W.Frag) (mg:Str->Option Value) (base:Heap) (CX:CXT) (k:Nat) (f:Addr) (fd:FuncData) (ps:List Str) (sp:Sp):Prop where
  len:∀ vs H Q E,sp vs H Q E->vs.length=ps.length
  run:∀ (A:Around) (outer:List Env) (s:Shared) (H:Hp) (args:Args) (us:List Value) (vs:List V) (Q:VK) (E:XK),Room k A->Env0 P w K mg base A outer s H->BindsTo s fd args (ps.zip us)->Vals vs us->sp vs H Q E ->
    codeAny (model P w) A (.call (.ref f) args) (CR CX outer P w H s Q E) s
theorem FnOk.mono {P:Program} {w:World} {K:PySem.W.Frag} {mg:Str->Option Value} {base:Heap} {CX:CXT} {j k:Nat} {f:Addr} {fd:FuncData} {ps:List Str} {sp:Sp} (F:FnOk P w K mg base CX j f fd ps sp) (h:j<=k) :
    FnOk P w K mg base CX k f fd ps sp:=⟨F.len,fun A outer s H args us vs Q E hr=>F.run A outer s H args us vs Q E (hr.mono h)⟩
theorem FnOk.imp {P:Program} {w:World} {K:PySem.W.Frag} {mg:Str->Option Value} {base:Heap} {CX:CXT} {k:Nat} {f:Addr} {fd:FuncData} {ps:List Str} {sp sp':Sp} (F:FnOk P w K mg base CX k f fd ps sp)
    (h:∀ vs H Q E,sp' vs H Q E->sp vs H Q E):FnOk P w K mg base CX k f fd ps sp' :=
  ⟨fun vs H Q E q=>F.len vs H Q E (h _ _ _ _ q),fun A outer s H args us vs Q E hr he hb hv hs=>F.run A outer s H args us vs Q E hr he hb hv (h _ _ _ _ hs)⟩
theorem Env0.make {P:Program} {w:World} {K:PySem.W.Frag} {mg:Str->Option Value} {base:Heap} {A:Around} {outer:List Env} {s:Shared} {H:Hp} (e:Env0 P w K mg base A outer s H) (C:Addr) (us:List Value) (kw:List (Str×Value)) :
    Env0 P w K mg base (A.under (.builtin "type.__call__" ⟨.ref C::us,kw⟩)) outer s H:=⟨by first | exact e.frames | (simpa [Around.under,Code.envs,Code.isFrame,pushEnvs] using e.frames),e.mod,e.bs,e.bsz,e.funs,e.frf,e.hok,e.bare⟩
theorem Env0.in1 {P:Program} {w:World} {K:PySem.W.Frag} {mg:Str->Option Value} {base:Heap} {A:Around} {outer:List Env} {s:Shared} {H:Hp} (e:Env0 P w K mg base A outer s H) :
    Env0 P w K mg base A.in1 outer s H:=⟨e.frames,e.mod,e.bs,e.bsz,e.funs,e.frf,e.hok,e.bare⟩
section
variable {X:Cx} {pins:List (Addr×Obj)} {σ:St} {H:Hp} {s s':Shared}
theorem Inv.env0 (I:Inv X pins σ H s):Env0 X.prog X.w X.K X.mg X.base X.A X.stack s H :=
  ⟨I.ok.frames,I.ok.mod,I.bs,Nat.le_trans I.ok.bsz I.sz,I.stack,I.stkFree,I.hok,I.bare⟩
theorem Inv.after {Q:VK} {u:Value} (I:Inv X pins σ H s) (h:CE X.stack X.prog X.w H s Q u s'):EP X pins σ Q u s':=by
  obtain ⟨v,H',os,bare,un,hok,r,q⟩:=h
  obtain ⟨hh,g,d,t,os'⟩:=s'
  obtain rfl:os'=s.os:=os
  exact ⟨v,H',I.call (h':=hh) (g':=g) (d':=d) (t':=t) (ch:=[]) un hok bare (fun b z=>absurd z (by simp)),r,q⟩
end
noncomputable def tCall (sp:Sp) (dvs:List V) (E:XK) (t:TA):TE:=fun σ H Q=>t σ H fun vs H1=>sp (vs++dvs) H1 Q E
noncomputable def Binds (K:PySem.W.Frag) (fd:FuncData) (ps:List Str) (ds:List Value):Prop :=
  ∀ (s:Shared) (us:List Value),K.In s.heap->(us++ds).length=ps.length->BindsTo s fd ⟨us,[]⟩ (ps.zip (us++ds))
theorem Binds.all {K:PySem.W.Frag} {fd:FuncData} {ps:List Str} (h:∀ us:List Value,us.length=ps.length->bindArgs fd ⟨us,[]⟩=pure (ps.zip us)):Binds K fd ps []:=fun s us _ hl=>by
  rw [List.append_nil] at hl ⊢
  exact .of_eq (h us hl)
noncomputable def Passes (CX:CXT) (X:Cx) (E:XK):Prop:=∀ (pins:List (Addr×Obj)) (σ:St) (H:Hp) (s:Shared) (e:Value) (s':Shared),Inv X pins σ H s->CX X.stack H s E e s'->X.xe e s'
section
variable {X:Cx} {CX:CXT} {k:Nat} {f C:Addr} {fd:FuncData} {ps:List Str} {sp:Sp} {dvs:List V} {ds:List Value} {E:XK} {x m:Str} {p pos apos:Pos} {e o:Expr} {es:List Expr} {ta:TE} {t:TA}
theorem run_fn {pins:List (Addr×Obj)} {σ:St} {H:Hp} {s:Shared} {Q:VK} {us:List Value} {vs:List V} (F:FnOk X.prog X.w X.K X.mg X.base CX k f fd ps sp) (hr:Room k X.A) (hb:Binds X.K fd ps ds) (hd:Vals dvs ds) (hx:Passes CX X E)
    (I:Inv X pins σ H s) (r:Vals vs us) (h:sp (vs++dvs) H Q E):wpAny (model X.prog X.w) X.A (call (.ref f) us) (EP X pins σ Q) X.xe s:=by
  have r2:Vals (vs++dvs) (us++ds):=r.append hd
  have hl:(us++ds).length=ps.length:=by rw [<- r2.length]; exact F.len _ _ _ _ h
  refine wpAny_call (codeAny_mono (F.run X.A X.stack s H ⟨us,[]⟩ (us++ds) (vs++dvs) Q E hr I.env0 (hb s us I.kIn hl) r2 h) fun r s' hq=>?_)
  cases r with
  | error e=>exact hx pins σ H s e s' I hq
  | ok fl =>
    cases fl with
    | ret u=>exact I.after hq
    | next=>exact False.elim hq
    | brk=>exact False.elim hq
    | cont=>exact False.elim hq
theorem pe_call (F:FnOk X.prog X.w X.K X.mg X.base CX k f fd ps sp) (hr:Room k X.A) (hg:Gl X x) (hm:X.mg x=some (.ref f)) (hk:PySem.W.keepIn X.K (.ref f)=true) (hb:Binds X.K fd ps ds) (hd:Vals dvs ds) (hx:Passes CX X E)
    (ha:PA X (e::es) t) (hdb:(x==("__debug__":Str))=false:=by decide) (he:starEach (e::es) X.env=(false,eval e X.env)::starEach es X.env:=by rfl) (hpl:(backTo pos (starEach es X.env)).any (·.1)=false:=by rfl) :
    PE X (.Call (.Name x p) (e::es) [] pos) (tCall sp dvs E t):=by
  intro pins s σ H Q I h
  refine wpAny_Call_Name_kw (ld_glob I hg hm ?_ hdb)
  refine PySem.W.callWith_K (h₀:=X.base) I.ok.mod.kin hk (thn (ha pos pins s σ H _ I h) fun us s1 ⟨vs,H1,I1,r,q⟩=>⟨I1.kIn,?_⟩) he hpl
  exact run_fn F hr hb hd hx I1 r q
structure Mk (K:PySem.W.Frag) (C f:Addr):Prop where
  makes:PySem.W.makesIn K C=true
  init:PySem.W.findIn K (.ref C) "__init__"=some (some (.ref f))
  fn:PySem.W.isFn K (.ref f)=true
  kp:PySem.W.keepIn K (.ref C)=true
end
section
variable {X:Cx} {CX:CXT} {k:Nat} {f C:Addr} {fd:FuncData} {ps ks:List Str} {sp:Sp} {E:XK} {x m:Str} {p pos apos kpos:Pos} {e o:Expr} {es:List Expr} {kws:List Keyword} {te ta:TE} {t tk:TA} {nm:Option Str}
structure KBinds (K:PySem.W.Frag) (fd:FuncData) (ps ks:List Str) (g:List Value->List Value->List Value) (gV:List V->List V->List V):Prop where
  to:∀ (s:Shared) (us ws:List Value),K.In s.heap->(g us ws).length=ps.length->BindsTo s fd ⟨us,ks.zip ws⟩ (ps.zip (g us ws))
  rel:∀ {vs:List V} {us:List Value} {zs:List V} {ws:List Value},Vals vs us->Vals zs ws->Vals (gV vs zs) (g us ws)
variable {g:List Value->List Value->List Value} {gV:List V->List V->List V}
end
structure FnScope (N P:List Str) (sc:Scope):Prop where
  kind:sc.kind=.function
  co:sc.isCoroutine=false
  gen:sc.isGenerator=false
  nd:N.Nodup
  pre:N.take P.length=P
  par:∀ x∈P,sc.names.lookup x=some .local\/sc.names.lookup x=some .cell
  nofree:∀ y∈sc.names,y.2≠.free
theorem bindL_out {kindOf:Str->Option NameKind} {x:Str}:∀ {binds:List (Str×Value)} {m:Str->Option Value},(∀ v,(x,v)∉binds)->bindL kindOf binds m x=m x
  | [],_,_=>rfl
  | (n,v)::r,m,h=>by
    unfold bindL
    rw [bindL_out fun w hw=>h w (List.mem_cons_of_mem _ hw)]
    split
    · have:x≠n:=by rintro rfl; exact h v List.mem_cons_self
      simp [this]
    · rfl
theorem bindC_out {kindOf:Str->Option NameKind} {x:Str}:∀ {binds:List (Str×Value)} {m:Str->Option Value},(∀ v,(x,v)∉binds)->bindC kindOf binds m x=m x
  | [],_,_=>rfl
  | (n,v)::r,m,h=>by
    unfold bindC
    rw [bindC_out fun w hw=>h w (List.mem_cons_of_mem _ hw)]
    split
    · rfl
    · have:x≠n:=by rintro rfl; exact h v List.mem_cons_self
      simp [this]
theorem bindL_get {kindOf:Str->Option NameKind} {x:Str} {v:Value}:∀ {P:List Str} {vs:List Value} {i:Nat} {m:Str->Option Value},P.Nodup->P[i]?=some x->vs[i]?=some v->kindOf x=some .local ->
    bindL kindOf (P.zip vs) m x=some v
  | [],_,_,_,_,h,_,_=>by simp at h
  | _::_,[],_,_,_,_,h,_=>by simp at h
  | p::P,w::vs,0,m,nd,h1,h2,hk=>by
    simp at h1 h2; subst h1; subst h2
    show bindL kindOf ((p,w)::P.zip vs) m p=_
    unfold bindL
    rw [bindL_out fun v hv=>(List.nodup_cons.mp nd).1 (List.of_mem_zip hv).1,if_pos hk]
    simp
  | p::P,w::vs,i+1,m,nd,h1,h2,hk=>by
    show bindL kindOf ((p,w)::P.zip vs) m x=_
    unfold bindL
    exact bindL_get (i:=i) (List.nodup_cons.mp nd).2 (by simpa using h1) (by simpa using h2) hk
theorem bindC_get {kindOf:Str->Option NameKind} {x:Str} {v:Value}:∀ {P:List Str} {vs:List Value} {i:Nat} {m:Str->Option Value},P.Nodup->P[i]?=some x->vs[i]?=some v->kindOf x≠some .local ->
    bindC kindOf (P.zip vs) m x=some v
  | [],_,_,_,_,h,_,_=>by simp at h
  | _::_,[],_,_,_,_,h,_=>by simp at h
  | p::P,w::vs,0,m,nd,h1,h2,hk=>by
    simp at h1 h2; subst h1; subst h2
    show bindC kindOf ((p,w)::P.zip vs) m p=_
    unfold bindC
    rw [bindC_out fun v hv=>(List.nodup_cons.mp nd).1 (List.of_mem_zip hv).1,if_neg hk]
    simp
  | p::P,w::vs,i+1,m,nd,h1,h2,hk=>by
    show bindC kindOf ((p,w)::P.zip vs) m x=_
    unfold bindC
    exact bindC_get (i:=i) (List.nodup_cons.mp nd).2 (by simpa using h1) (by simpa using h2) hk
noncomputable def start (N:List Str) (vs:List V):St:=vs.map some++List.replicate (N.length - vs.length) none
noncomputable def cxOf (CX:CXT) (P:Program) (w:World) (K:PySem.W.Frag) (mg:Str->Option Value) (base:Heap) (N:List Str) (qual:Str) (scope:Scope) (f:Addr) (cd:Value) (A:Around) (outer:List Env) (s:Shared) (H:Hp) (E:XK):Cx where
  prog:=P
  w:=w
  K:=K
  mg:=mg
  base:=base
  A:=A.deeper (envOfC qual scope s.heap.objs.size f cd)
  N:=N
  s₀:=s
  H₀:=H
  env:=envOfC qual scope s.heap.objs.size f cd
  outer:=outer
  stack:=envOfC qual scope s.heap.objs.size f cd::outer
  ex:=[]
  calm:=true
  fn:=fun _=>true
  pn:=[]
  xe:=fun e s'=>wpAny (model P w) (A.deeper (envOfC qual scope s.heap.objs.size f cd)) (leaving (envOfC qual scope s.heap.objs.size f cd) e) (fun _ s''=>CX outer H s E e s'') (fun e' s''=>CX outer H s E e' s'') s'
theorem cell_has {sc:Scope} {n:Nat} {x:Str} (h:sc.names.lookup x=some .cell):∃ c,(cellsFrom n sc.names []).lookup x=some c:=by
  have q:=PySem.W.cellsFrom_some sc.names n [] (.inl h)
  exact Option.isSome_iff_exists.mp q
theorem inv_start {CX:CXT} {P:Program} {w:World} {K:PySem.W.Frag} {mg:Str->Option Value} {base:Heap} {N ps:List Str} {qual:Str} {scope:Scope} {f:Addr} {cd:Value} {A:Around} {outer:List Env} {s s1:Shared} {H:Hp} {E:XK} {us:List Value} {vs:List V}
    (S:FnScope N ps scope) (hd:A.handled=none) (e0:Env0 P w K mg base A outer s H) (hl:vs.length=ps.length) (r:Vals vs us)
    (x:InCallC s s.heap.objs.size (bindL (envOfC qual scope s.heap.objs.size f cd).kindOf (ps.zip us) fun _=>none) (cellsFrom (s.heap.objs.size+1) scope.names []) (bindC (envOfC qual scope s.heap.objs.size f cd).kindOf (ps.zip us) fun _=>none) s1) :
    Inv (cxOf CX P w K mg base N qual scope f cd A outer s H E) [] (start N vs) H s1:=by
  have hpl:ps.length<=N.length:=by have:=congrArg List.length S.pre; rw [List.length_take] at this; omega
  obtain ⟨h1,tk,rfl,hk⟩:=x.done
  have noA:∀ b:Addr,b∉(cxOf CX P w K mg base N qual scope f cd A outer s H E).ex:=fun b z=>absurd (show b∈([]:List Addr) from z) (by simp)
  refine ⟨⟨e0.mod,S.kind,rfl,rfl,Nat.le_refl _,fun y z c h1 h2=>?_,fun y hy=>?_,fun y c _ h=>?_,fun _=>hd,Around.frames_deeper e0.frames,.inr ⟨rfl,rfl⟩,fun b z=>absurd z (noA b),e0.bs,e0.bsz,fun b _ _=>noA b,fun b z=>absurd z (noA b),e0.funs,e0.frf⟩,
    rfl,e0.bare,Un.kept hk,⟨_,x.toInCall.ns,fun i y v h1 h2 h3=>?_⟩,fun y c h=>⟨_,x.cell y c h⟩,e0.hok.fresh (Nat.le_refl _),fun y c h=>?_,fun p hp=>absurd (show p∈([]:List (Addr×Obj)) from hp) (by simp),e0.hok.kept hk,?_⟩
  · exact name_of_addr x.apart (PySem.mem_of_lookup h1) (PySem.mem_of_lookup h2)
  · have hy:scope.names.lookup y=some .cell\/scope.names.lookup y=some .free:=hy
    rcases hy with hy | hy
    · exact cell_has hy
    · exact absurd rfl (S.nofree _ (PySem.mem_of_lookup hy))
  · exact Nat.le_of_lt (x.above y c (PySem.mem_of_lookup h))
  · have hi:i < vs.length:=by
      unfold start at h2
      by_cases hi:i < vs.length
      · exact hi
      · rw [List.getElem?_append_right (by simpa using hi)] at h2
        rw [List.getElem?_replicate] at h2
        split at h2 <;> cases h2
    have ha:vs[i]?=some v:=by
      unfold start at h2
      rw [List.getElem?_append_left (by simpa using hi),List.getElem?_map] at h2
      cases e:vs[i]? with
      | none=>rw [e] at h2; cases h2
      | some a=>rw [e] at h2; cases h2; rfl
    obtain ⟨u,hu,rv⟩:=r.get ha
    have hp:ps[i]?=some y:=by
      rw [<- S.pre,List.getElem?_take_of_lt (by omega)]; exact h1
    have ndP:ps.Nodup:=by rw [<- S.pre]; exact S.nd.sublist (List.take_sublist _ _)
    refine ⟨u,rv,?_⟩
    rcases S.par y (List.mem_of_getElem? hp) with k | k
    · exact .inl ⟨k,bindL_get ndP hp hu k⟩
    · obtain ⟨c,e⟩:=cell_has (n:=s.heap.objs.size+1) k
      refine .inr ⟨.inl k,c,e,?_⟩
      have q:=x.cell y c e
      rw [bindC_get ndP hp hu (by show scope.names.lookup y≠_; rw [k]; decide)] at q
      exact q
  · exact e0.hok.fresh (Nat.le_of_lt (x.above y c (PySem.mem_of_lookup h)))
  · unfold start
    show _=N.length
    rw [List.length_append,List.length_map,List.length_replicate]
    omega
theorem fn_of {CX:CXT} {P:Program} {w:World} {K:PySem.W.Frag} {mg:Str->Option Value} {base:Heap} {k:Nat} {f:Addr} {name qual:Str} {params:Arguments} {body:List Stmt} {scope:Scope} {dV kV doc pm cdv ct oc:Value} {an od:Option Addr}
    {osl:Array (Option Value)} {N ps:List Str} {sp:Sp} (lk:K.lookup f=some ⟨oc,od,.func (PySem.W.fnOf name qual params body scope dV kV doc pm an cdv ct),osl⟩) (hcd:PySem.W.codeIn K cdv qual=true) (S:FnScope N ps scope)
    (len:∀ vs H Q E,sp vs H Q E->vs.length=ps.length)
    (hbody:∀ (A:Around) (outer:List Env) (s:Shared) (H:Hp) (vs:List V) (Q:VK) (E:XK),Room k (A.deeper (envOfC qual scope s.heap.objs.size f cdv))->sp vs H Q E ->
      ∃ t,PSs (cxOf CX P w K mg base N qual scope f cdv A outer s H E) body t/\t { nx:=fun _ H'=>Q .non H',rt:=Q } (start N vs) H) :
    FnOk P w K mg base CX (k+1) f (PySem.W.fnOf name qual params body scope dV kV doc pm an cdv ct) ps sp:=by
  refine ⟨len,fun A outer s H args us vs Q E hr e0 hb r hsp=>?_⟩
  have hl:=len _ _ _ _ hsp
  have KX:K.In s.heap:=e0.mod.kin.keeps fun b o e=>(e0.bs b o e).1
  have lim:s.heap.NoLimit:=e0.mod.nolimit.keeps fun b o e=>(e0.bs b o e).1
  have hkind:∀ y∈ps.zip us,scope.names.lookup y.1=some .local\/(scope.names.lookup y.1=some .cell/\((cellsFrom (s.heap.objs.size+1) scope.names []).lookup y.1).isSome=true):=fun ⟨n,v⟩ hy=>by
    rcases S.par n (List.of_mem_zip hy).1 with q | q
    · exact .inl q
    · exact .inr ⟨q,PySem.W.cellsFrom_some _ _ _ (.inl q)⟩
  refine codeAny_call_function hr.depth (KX _ _ lk) rfl S.co S.gen rfl (PySem.W.codeRec_of KX hcd) (hb _ _ _ _ ?_)
  refine wpAny_newFunctionEnv_cells S.kind hkind fun env he s1 x=>?_
  subst he
  refine ⟨lim.keeps x.toInCall.keep,codeAny_func ?_⟩
  obtain ⟨t,ht,hq⟩:=hbody A outer s H vs Q E (hr.deeper _) hsp
  have I:Inv (cxOf CX P w K mg base N qual scope f cdv A outer s H E) [] (start N vs) H s1:=inv_start S hr.hd e0 hl r x
  refine wpAny_mono (ht [] s1 (start N vs) H _ I hq) (fun fl s' hs=>?_) fun e s' hs=>hs
  have fin:∀ {σ':St} {H':Hp} {v:V} {u:Value},Inv (cxOf CX P w K mg base N qual scope f cdv A outer s H E) [] σ' H' s'->RelV v u->Q v H'->CE outer P w H s Q u s' :=
    fun {σ' H' v u} J rv q=>⟨v,H',J.os,J.bare,J.base,J.hok,rv,q⟩
  cases fl with
  | ret u =>
    obtain ⟨v,σ',H',J,rv,q⟩:=hs
    exact fin J rv q
  | next =>
    obtain ⟨σ',H',J,q⟩:=hs
    exact fin (v:=V.non) (u:=Value.none) J rfl q
  | brk =>
    obtain ⟨_,_,_,q⟩:=hs
    exact False.elim q
  | cont =>
    obtain ⟨_,_,_,q⟩:=hs
    exact False.elim q
end L2
namespace L2
open PySem PySem.Spec PyProof.Rows
section
variable {X:Cx} {x:Str} {p pos:Pos} {e:Expr} {es:List Expr} {t:TA} {id T:String} {r:List V->Hp->VK->Prop}
noncomputable def tCB (r:List V->Hp->VK->Prop) (t:TA):TE:=fun σ H Q=>t σ H fun vs H1=>r vs H1 Q
theorem pe_callB (hc:CallR X (.builtin id) r) (hg:Gl X x) (hm:X.mg x=none) (hv:bootBuiltins x=some (.builtin id)) (ha:PA X (e::es) t) (hn:x≠"__name__":=by decide) (hdb:(x==("__debug__":Str))=false:=by decide)
    (he:starEach (e::es) X.env=(false,eval e X.env)::starEach es X.env:=by rfl) (hpl:(backTo pos (starEach es X.env)).any (·.1)=false:=by rfl):PE X (.Call (.Name x p) (e::es) [] pos) (tCB r t):=by
  intro pins s σ H Q I h
  refine wpAny_Call_Name_kw (ld_blt I hg hm hv ?_ hn hdb)
  exact PyProof.Rows.callWith_builtin1 (thn (ha pos pins s σ H _ I h) fun us s1 ⟨vs,H1,I1,r1,q1⟩=>hc pins s1 σ H1 vs us Q I1 r1 q1) he hpl
theorem pe_callTy (hc:CallR X (.type T) r) (hg:Gl X x) (hm:X.mg x=none) (hv:bootBuiltins x=some (.type T)) (ha:PA X (e::es) t) (hn:x≠"__name__":=by decide) (hdb:(x==("__debug__":Str))=false:=by decide)
    (he:starEach (e::es) X.env=(false,eval e X.env)::starEach es X.env:=by rfl) (hpl:(backTo pos (starEach es X.env)).any (·.1)=false:=by rfl):PE X (.Call (.Name x p) (e::es) [] pos) (tCB r t):=by
  intro pins s σ H Q I h
  refine wpAny_Call_Name_kw (ld_blt I hg hm hv ?_ hn hdb)
  exact PyProof.Rows.callWith_type1 (thn (ha pos pins s σ H _ I h) fun us s1 ⟨vs,H1,I1,r1,q1⟩=>hc pins s1 σ H1 vs us Q I1 r1 q1) he hpl
end
end L2
namespace HT
open PySem PyProof.Rows
noncomputable def lexLt:List Int->List Int->Bool
  | [],[]=>false
  | [],_::_=>true
  | _::_,[]=>false
  | x::xs,y::ys=>if x=y then lexLt xs ys else decide (x < y)
theorem lexLt_cons (x y:Int) (xs ys:List Int):lexLt (x::xs) (y::ys)=if x=y then lexLt xs ys else decide (x < y):=rfl
theorem lexLt_nil_nil:lexLt [] []=false:=rfl
theorem lexLt_nil_cons (y:Int) (ys:List Int):lexLt [] (y::ys)=true:=rfl
theorem lexLt_cons_nil (x:Int) (xs:List Int):lexLt (x::xs) []=false:=rfl
section
open PySem.SeqAt
open PySem.AutoSeq1 (wpAny_loadPart')
open PySem.MeetsSeq PySem.MeetsSeq2 PySem.MeetsSeq3
end
section
variable {prog:Program} {w:World} {A:Around} {E:Value->Shared->Prop} {s:Shared}
theorem cat_tup {t b:Addr} {vs ws:List Value} {Q:Value->Shared->Prop} (ht:IsTup s.heap t vs.toArray) (hb:IsTup s.heap b ws.toArray) (hv:vs≠[])
    (h1:ws=[]->Q (.ref t) s) (h2:ws≠[]->Q (.ref s.heap.objs.size) { s with heap:=s.heap.push { cls:=.type "tuple",data:=.seq (vs++ws).toArray } })
    (hsz:vs.length+ws.length<=sizeLine):wpAny (model prog w) A (binaryOp .Add (.ref t) (.ref b)) Q E s:=by
  obtain ⟨⟨cls,dd,data,sl⟩,ho,hc,n,hd⟩:=id ht
  obtain ⟨⟨cls2,dd2,data2,sl2⟩,ho2,hc2,n2,hd2⟩:=id hb
  simp only at hc hd hc2 hd2
  subst hc hd hc2 hd2
  have e:vs.toArray++ws.toArray=(vs++ws).toArray:=by simp
  by_cases hw:ws=[]
  · exact concat_meets ⟨_,ho,rfl⟩ ⟨_,ho2,rfl⟩ noFill_tuple_add seq_tuple_add PySem.F.slot_tuple_add PySem.F.entry_tuple_add (PySem.F.args_tuple_add_2 _ _)
      (tuple_addW1 t b vs.toArray ws.toArray n n2 dd dd2 sl sl2 (by simpa using hv) (by simp [hw])) ⟨ho,ho2,h1 hw⟩
  · refine concat_meets ⟨_,ho,rfl⟩ ⟨_,ho2,rfl⟩ noFill_tuple_add seq_tuple_add PySem.F.slot_tuple_add PySem.F.entry_tuple_add (PySem.F.args_tuple_add_2 _ _)
      (tuple_addW2 t b vs.toArray ws.toArray n n2 dd dd2 sl sl2 (by simpa using hv) (by simpa using hw) (by rw [List.size_toArray,List.size_toArray]; exact hsz)) ⟨ho,ho2,?_⟩
    rw [e]
    exact h2 hw
noncomputable def sIx (n d:Nat):Option Int->Nat
  | none=>d
  | some v=>if v < 0 then (v+(n:Int)).toNat else min v.toNat n
theorem sIx_none (n d:Nat):sIx n d none=d:=rfl
theorem sIx_le (n d:Nat) (hd:d<=n) (o:Option Int):sIx n d o<=n:=by
  cases o with
  | none=>exact hd
  | some v =>
    show (if v < 0 then (v+(n:Int)).toNat else min v.toNat n)<=n
    by_cases hv:v < 0
    · rw [if_pos hv]; omega
    · rw [if_neg hv]; exact Nat.min_le_right _ _
theorem clip_eq (v:Int) (n d:Nat):(if v < 0 then max (v+(n:Int)) 0 else min v (n:Int))=((sIx n d (some v):Nat):Int):=by
  show (if v < 0 then max (v+(n:Int)) 0 else min v (n:Int))=(((if v < 0 then (v+(n:Int)).toNat else min v.toNat n):Nat):Int)
  by_cases hv:v < 0
  · simp only [if_pos hv]; omega
  · simp only [if_neg hv]; omega
theorem adjust_gen (lo hi:Option Int) (n:Nat):Builtin.Slice.sliceAdjust lo hi 1 (n:Int)=(((sIx n 0 lo:Nat):Int),((sIx n n hi:Nat):Int)):=by
  have h1:¬ ((1:Int) < 0):=by omega
  unfold Builtin.Slice.sliceAdjust
  simp only [h1,if_false]
  refine Prod.ext ?_ ?_
  · cases lo with
    | none=>rfl
    | some v=>exact clip_eq v n 0
  · cases hi with
    | none=>rfl
    | some v=>exact clip_eq v n n
theorem places_gen (i j:Nat):Builtin.Slice.slicePlaces (i:Int) (j:Int) 1=j - i:=by
  unfold Builtin.Slice.slicePlaces
  have h1:(1:Int) > 0:=by omega
  simp only [h1,if_true,Int.ediv_one]
  split <;> omega
theorem slicePart_ {v:Value} {o:Option Int} {Q:Option Int->Shared->Prop} (p:IsPart v o) (h:Q o s):wpAny (model prog w) A (Builtin.Slice.slicePartIndex v) Q E s:=by
  cases p with
  | none=>exact slicePart_none h
  | int i t=>exact slicePart_int h
theorem sliceApplied_gen {sl:Addr} {vl vu:Value} {lo hi:Option Int} {n:Nat} {Q:Int×Int×Nat->Shared->Prop} (hs:s.heap.IsSliceOf sl vl vu .none) (pl:IsPart vl lo) (pu:IsPart vu hi)
    (h:Q (((sIx n 0 lo:Nat):Int),1,sIx n n hi - sIx n 0 lo) s):wpAny (model prog w) A (Builtin.Slice.sliceApplied (.ref sl) (pure (n:Int))) Q E s:=by
  obtain ⟨os,hos,hcs,hds⟩:=id hs
  unfold Builtin.Slice.sliceApplied Builtin.Slice.sliceFields
  refine wpAny_bind (wpAny_bind (wpAny_field hos hds (x:=vl) rfl (wpAny_bind (wpAny_field hos hds (x:=vu) rfl (wpAny_bind (wpAny_field hos hds (x:=.none) rfl (wpAny_pure ?_)))))))
  refine wpAny_bind (slicePart_none ?_)
  show wpAny _ _ (if ((1:Int)==0)=true then _ else _) _ _ s
  rw [if_neg (by decide)]
  refine wpAny_bind (slicePart_ pl (wpAny_bind (slicePart_ pu (wpAny_bind (wpAny_pure ?_)))))
  show wpAny _ _ (match Builtin.Slice.sliceAdjust lo hi 1 (n:Int) with | (lo,hi)=>pure (lo,(1:Int),Builtin.Slice.slicePlaces lo hi 1)) _ _ s
  rw [adjust_gen lo hi n]
  show wpAny _ _ (pure (((sIx n 0 lo:Nat):Int),(1:Int),Builtin.Slice.slicePlaces ((sIx n 0 lo:Nat):Int) ((sIx n n hi:Nat):Int) 1)) _ _ s
  rw [places_gen]
  exact wpAny_pure h
theorem pick_gen (xs:Array Value) (i k:Nat):((List.range k).filterMap fun (m:Nat)=>xs[((i:Int)+(m:Int)*1).toNat]?).toArray=((xs.toList.drop i).take k).toArray:=by
  have e:(fun (m:Nat)=>xs[((i:Int)+(m:Int)*1).toNat]?)=fun m=>xs[i+m]?:=by
    funext m
    have:((i:Int)+(m:Int)*1).toNat=i+m:=by omega
    rw [this]
  rw [e]
  have:=pick_run xs i k
  rw [List.filterMap_map] at this
  have e2:((fun x=>xs[x]?) ∘ fun x=>i+x)=fun m=>xs[i+m]?:=rfl
  rw [e2] at this
  rw [this]
theorem getItem_tuple_cut {t sl:Addr} {items:Array Value} {vl vu:Value} {lo hi:Option Int} {Q:Value->Shared->Prop} (ht:IsTup s.heap t items) (hs:s.heap.IsSliceOf sl vl vu .none) (pl:IsPart vl lo) (pu:IsPart vu hi)
    (hw:¬ (sIx items.size 0 lo=0/\sIx items.size items.size hi=items.size))
    (h:Q (.ref s.heap.objs.size) { s with heap:=s.heap.push { cls:=.type "tuple",data:=.seq ((items.toList.drop (sIx items.size 0 lo)).take (sIx items.size items.size hi - sIx items.size 0 lo)).toArray } })
    (hsz:items.size<=sizeLine):wpAny (model prog w) A (getItem (.ref t) (.ref sl)) Q E s:=by
  have htake:sizeOk (.seq ((items.toList.drop (sIx items.size 0 lo)).take (sIx items.size items.size hi - sIx items.size 0 lo)).toArray):=by
    show ((items.toList.drop (sIx items.size 0 lo)).take (sIx items.size items.size hi - sIx items.size 0 lo)).toArray.size<=sizeLine
    rw [List.size_toArray,List.length_take,List.length_drop,Array.length_toList]
    omega
  have hj:sIx items.size items.size hi<=items.size:=sIx_le _ _ (Nat.le_refl _) hi
  obtain ⟨os,hos,hcs,hds⟩:=id hs
  have hTs:s.TypeIs (.ref sl) "slice":=⟨os,hos,hcs⟩
  unfold getItem
  try with_reducible refine wpAny_holding ?_
  first | refine wpAny_bind (wpAny_pure ?_) | skip
  refine wpAny_bind (wpAny_sequenceKey ht.typeIs (by decide) ?_)
  refine wpAny_bind (wpAny_callSpecial?_slot (name:=Str.ofString "__getitem__") ht.typeIs PyProof.Rows.slot_tuple_getitem
    (wpAny_call_entry PyProof.Rows.slot_tuple_getitem ht.typeIs entry_tuple_getitem ?_ (args_tuple_getitem _ _)))
  show wpAny _ _ (Builtin.Tuple.tupleItemsOf (.ref t) >>= _) _ _ s
  refine wpAny_bind (tupleItemsOf_ ht ?_)
  refine wpAny_bind (wpAny_typeOf hTs ?_)
  rw [if_pos (by decide)]
  refine wpAny_bind (sliceApplied_gen hs pl pu ?_)
  have hno:¬ ((((sIx items.size 0 lo:Nat):Int)==0&&(1:Int)==1&&(sIx items.size items.size hi - sIx items.size 0 lo)==items.size)=true):=by
    intro q
    rw [Bool.and_eq_true,Bool.and_eq_true] at q
    have q1:((sIx items.size 0 lo:Nat):Int)=0:=eq_of_beq q.1.1
    have q2:sIx items.size items.size hi - sIx items.size 0 lo=items.size:=eq_of_beq q.2
    exact hw ⟨by omega,by omega⟩
  show wpAny _ _ (if (((sIx items.size 0 lo:Nat):Int)==0&&(1:Int)==1&&(sIx items.size items.size hi - sIx items.size 0 lo)==items.size)=true then _ else _) _ _ s
  rw [if_neg hno,pick_gen]
  first
    | exact wpAny_bind (m:=Builtin.Tuple.tupleExact _) (wpAny_newObj_type (wpAny_pure ⟨_,rfl,wpAny_pure h⟩) htake)
    | exact wpAny_bind (m:=Builtin.Tuple.tupleExact _) (wpAny_newObj_type (wpAny_bind (wpAny_pure (wpAny_pure ⟨_,rfl,wpAny_pure h⟩))) htake)
    | exact wpAny_bind (wpAny_bind (m:=Builtin.Tuple.tupleExact _) (wpAny_newObj_type (wpAny_pure (wpAny_pure ⟨_,rfl,wpAny_pure h⟩)) htake))
    | exact wpAny_bind (wpAny_bind (m:=Builtin.Tuple.tupleExact _) (wpAny_newObj_type (wpAny_pure ⟨_,rfl,wpAny_pure h⟩) htake))
end
end HT
namespace L2
open PySem PySem.Spec PyProof.Rows
noncomputable abbrev TO:=St->Hp->(Option Int->Hp->Prop)->Prop
noncomputable def PO (X:Cx) (e:Option Expr) (t:TO):Prop :=
  ∀ (pins:List (Addr×Obj)) (s:Shared) (σ:St) (H:Hp) (Q:Option Int->Hp->Prop),Inv X pins σ H s->t σ H Q ->
    wpAny (model X.prog X.w) X.A (evalPart e X.env) (fun u s'=>∃ o H',Inv X pins σ H' s'/\IsPart u o/\Q o H') X.xe s
noncomputable def tNoPart:TO:=fun _ H Q=>Q none H
noncomputable def tPart (t:TE):TO:=fun σ H Q=>t σ H fun x H1=>∃ i,x=.int i/\Q (some i) H1
section
variable {X:Cx} {e:Expr} {te:TE} {lo hi:Option Expr} {tl th:TO} {pos p2:Pos}
theorem po_none:PO X none tNoPart:=by
  intro pins s σ H Q I h
  rw [evalPart_none]
  exact wpAny_pure ⟨none,H,I,.none,h⟩
theorem po_some (h:PE X e te):PO X (some e) (tPart te):=by
  intro pins s σ H Q I hw
  rw [evalPart_some]
  refine thn (h pins s σ H _ I hw) fun u s1 ⟨x,H1,I1,r1,q1⟩=>?_
  obtain ⟨i,rfl,q⟩:=q1
  obtain ⟨t,rfl⟩:=r1
  exact ⟨some i,H1,I1,.int i t,q⟩
noncomputable def SlR (X:Cx) (r:V->Option Int->Option Int->Hp->VK->Prop):Prop :=
  ∀ (pins:List (Addr×Obj)) (s:Shared) (σ:St) (H:Hp) (x:V) (v vl vu:Value) (lo hi:Option Int) (sl:Addr) (Q:VK),Inv X pins σ H s->RelV x v->s.heap.IsSliceOf sl vl vu .none->IsPart vl lo->IsPart vu hi->r x lo hi H Q ->
    ∃ T id,typeLookup (.type T) "__getitem__"=pure (some (.builtin id))/\s.TypeIs v T/\wpAny (model X.prog X.w) X.A (getItem v (.ref sl)) (EP X pins σ Q) X.xe s
theorem SlR.or {r r':V->Option Int->Option Int->Hp->VK->Prop} (h:SlR X r) (h':SlR X r'):SlR X (fun x lo hi H Q=>r x lo hi H Q\/r' x lo hi H Q):=by
  intro pins s σ H x v vl vu lo hi sl Q I rx hs pl pu q
  rcases q with q | q
  · exact h pins s σ H x v vl vu lo hi sl Q I rx hs pl pu q
  · exact h' pins s σ H x v vl vu lo hi sl Q I rx hs pl pu q
noncomputable def tSl (r:V->Option Int->Option Int->Hp->VK->Prop) (te:TE) (tl th:TO):TE:=fun σ H Q=>te σ H fun x H1=>tl σ H1 fun l H2=>th σ H2 fun u H3=>r x l u H3 Q
theorem pe_slice {r:V->Option Int->Option Int->Hp->VK->Prop} (hr:SlR X r) (he:PE X e te) (hl:PO X lo tl) (hu:PO X hi th):PE X (.Subscript e (.Slice lo hi none p2) pos) (tSl r te tl th):=by
  intro pins s σ H Q I h
  refine Subscript_ (thn (he pins s σ H _ I h) fun v s1 ⟨x,H1,I1,r1,q1⟩=>?_)
  refine wpAny_Slice (thn (hl pins s1 σ H1 _ I1 q1) fun vl s2 ⟨l,H2,I2,pl,q2⟩=>thn (hu pins s2 σ H2 _ I2 q2) fun vu s3 ⟨u,H3,I3,pu,q3⟩=>?_)
  rw [evalPart_none]
  refine wpAny_pure ?_
  have I4:Inv X pins σ H3 { s3 with heap:=s3.heap.push { cls:=.type "slice",data:=.fields #[vl,vu,.none] } }:=I3.kept (t':=s3.toks) fun b ob q=>Heap.get?_push_of_some _ q
  obtain ⟨T,id,hT,ht,hg⟩:=hr pins { s3 with heap:=s3.heap.push { cls:=.type "slice",data:=.fields #[vl,vu,.none] } } σ H3 x v vl vu l u s3.heap.objs.size Q I4 r1 (Heap.IsSliceOf.new ..) pl pu q3
  show wpAny (model X.prog X.w) X.A (subscriptTail e (.Slice lo hi none p2) v (.ref s3.heap.objs.size)) (EP X pins σ Q) X.xe { s3 with heap:=s3.heap.push { cls:=.type "slice",data:=.fields #[vl,vu,.none] } }
  exact tail_any (ops:=[.ref s3.heap.objs.size,v]) ht hT hg (by with_unfolding_all rfl)
noncomputable def cutV (xs:List V) (lo hi:Option Int):List V:=(xs.drop (HT.sIx xs.length 0 lo)).take (HT.sIx xs.length xs.length hi - HT.sIx xs.length 0 lo)
theorem cutV_length (xs:List V) (lo hi:Option Int):(cutV xs lo hi).length<=xs.length:=by
  unfold cutV
  rw [List.length_take,List.length_drop]
  omega
noncomputable def rSlT (K:PySem.W.Frag):V->Option Int->Option Int->Hp->VK->Prop:=fun x lo hi H Q=>∃ a xs,x=.ref a/\SqT K H a xs /\
  ¬ (HT.sIx xs.length 0 lo=0/\HT.sIx xs.length xs.length hi=xs.length)/\∀ p,H p=none->Q (.ref p) (upd H p (.tup (cutV xs lo hi)))
theorem sl_tup:SlR X (rSlT X.K):=by
  intro pins s σ H x v vl vu lo hi sl Q I rx hs pl pu h
  obtain ⟨a,xs,rfl,hx,hw,q⟩:=h
  cases rx
  obtain ⟨its,r,ht,hz⟩:=I.tuple hx
  have hlen:its.toArray.size=xs.length:=by rw [List.size_toArray]; exact r.length.symm
  refine ⟨"tuple",_,PyProof.Rows.slot_tuple_getitem.lookup,ht.typeIs,?_⟩
  refine HT.getItem_tuple_cut ht hs pl pu (by rw [hlen]; exact hw) ?_ (by rw [hlen]; exact hz)
  rw [hlen]
  refine ⟨.ref s.heap.objs.size,_,I.laid (t':=s.toks) (o:=.tup (cutV xs lo hi)) (fun b ob q=>Heap.get?_push_of_some _ q) (Nat.le_refl _) ?_,rfl,q _ (I.hok.fresh (Nat.le_refl _))⟩
  exact ⟨Nat.le_trans (cutV_length xs lo hi) hz,_,(r.drop (HT.sIx xs.length 0 lo)).take (HT.sIx xs.length xs.length hi - HT.sIx xs.length 0 lo),IsTup.new _ _⟩
noncomputable def rCatT (K:PySem.W.Frag):R2:=fun x y H Q=>∃ a b xs ys,x=.ref a/\y=.ref b/\SqT K H a xs/\SqT K H b ys/\xs≠[]/\xs.length+ys.length<=sizeLine /\
  (ys=[]->Q (.ref a) H)/\(ys≠[]->∀ p,H p=none->Q (.ref p) (upd H p (.tup (xs++ys))))
theorem Vals.nil_iff {xs:List V} {us:List Value} (r:Vals xs us):us=[] ↔ xs=[]:=by
  cases r with
  | nil=>simp
  | cons _ _=>simp
theorem op_catT:OpR X (binaryOp .Add) (rCatT X.K):=by
  intro pins s σ H x y v u Q I rx ry h
  obtain ⟨a,b,xs,ys,rfl,rfl,ha,hb,hx,hz,q1,q2⟩:=h
  cases rx
  cases ry
  obtain ⟨its,r1,p1,_⟩:=I.tuple ha
  obtain ⟨its2,r2,p2,_⟩:=I.tuple hb
  refine HT.cat_tup p1 p2 (fun z=>hx (r1.nil_iff.mp z)) (fun z=>⟨.ref a,H,I,rfl,q1 (r2.nil_iff.mp z)⟩) (fun z=>?_) (by rw [<- r1.length,<- r2.length]; exact hz)
  refine ⟨.ref s.heap.objs.size,_,I.laid (t':=s.toks) (o:=.tup (xs++ys)) (fun b ob q=>Heap.get?_push_of_some _ q) (Nat.le_refl _) ?_,rfl,q2 (fun w=>z (r2.nil_iff.mpr w)) _ (I.hok.fresh (Nat.le_refl _))⟩
  exact ⟨by rw [List.length_append]; exact hz,_,r1.append r2,IsTup.new _ _⟩
end
end L2
namespace L2
open PySem PySem.Spec PyProof.Rows
noncomputable def ixN (n:Nat) (i:Int):Option Nat:=if 0<=i then (if i < n then some i.toNat else none) else if -(n:Int)<=i then some (i+n).toNat else none
noncomputable def atI {α:Type} (xs:List α) (i:Int):Option α:=(ixN xs.length i).bind fun j=>xs[j]?
theorem ixN_seq {n:Nat} {i:Int} {j:Nat} (h:ixN n i=some j):seqIndex? i n=some j/\j < n /\ -(n:Int)<=i/\i < n:=by
  unfold ixN at h
  by_cases h0:0<=i
  · rw [if_pos h0] at h
    by_cases h1:i < n
    · rw [if_pos h1] at h
      have e:i.toNat=j:=Option.some.inj h
      exact ⟨by rw [seqIndex_of h0 h1,e],by omega,by omega,h1⟩
    · rw [if_neg h1] at h; cases h
  · rw [if_neg h0] at h
    by_cases h1 : -(n:Int)<=i
    · rw [if_pos h1] at h
      have e:(i+n).toNat=j:=Option.some.inj h
      exact ⟨by rw [seqIndex_neg (by omega) h1,e],by omega,h1,by omega⟩
    · rw [if_neg h1] at h; cases h
theorem atI_get {α:Type} {xs:List α} {i:Int} {v:α} (h:atI xs i=some v):∃ j,seqIndex? i xs.length=some j/\xs[j]?=some v/\j < xs.length /\ -(xs.length:Int)<=i/\i < xs.length:=by
  unfold atI at h
  cases e:ixN xs.length i with
  | none=>rw [e] at h; cases h
  | some j =>
    rw [e] at h
    obtain ⟨h1,h2,h3,h4⟩:=ixN_seq e
    exact ⟨j,h1,h,h2,h3,h4⟩
noncomputable def PlainIx (b:Expr):Prop:=∀ o i,subscripted b false o i=operate [o,i] (getItem o i)
noncomputable def IxR (X:Cx) (r:R2):Prop :=
  ∀ (value slice:Expr) (pins:List (Addr×Obj)) (s:Shared) (σ:St) (H:Hp) (x y:V) (v u:Value) (Q:VK),Inv X pins σ H s->RelV x v->RelV y u->r x y H Q ->
    subscripted slice false v u=operate [v,u] (getItem v u)->wpAny (model X.prog X.w) X.A (subscriptTail value slice v u) (EP X pins σ Q) X.xe s
noncomputable def MtR (X:Cx) (id:String) (r:V->List V->Hp->VK->Prop):Prop :=
  ∀ (pins:List (Addr×Obj)) (s:Shared) (σ:St) (H:Hp) (x:V) (xs:List V) (v:Value) (us:List Value) (Q:VK),Inv X pins σ H s->RelV x v->Vals xs us->r x xs H Q ->
    wpAny (model X.prog X.w) X.A (call (.builtin id) (v::us)) (EP X pins σ Q) X.xe s
section
variable {X:Cx} {a b:Expr} {ta tb:TE} {pos:Pos}
theorem IxR.or {r r':R2} (h:IxR X r) (h':IxR X r'):IxR X (fun x y H Q=>r x y H Q\/r' x y H Q):=by
  intro value slice pins s σ H x y v u Q I rx ry q hs
  rcases q with q | q
  · exact h value slice pins s σ H x y v u Q I rx ry q hs
  · exact h' value slice pins s σ H x y v u Q I rx ry q hs
theorem MtR.or {id:String} {r r':V->List V->Hp->VK->Prop} (h:MtR X id r) (h':MtR X id r'):MtR X id (fun x xs H Q=>r x xs H Q\/r' x xs H Q):=by
  intro pins s σ H x xs v us Q I rx rs q
  rcases q with q | q
  · exact h pins s σ H x xs v us Q I rx rs q
  · exact h' pins s σ H x xs v us Q I rx rs q
theorem pe_ix {r:R2} (hr:IxR X r) (ha:PE X a ta) (hb:PE X b tb) (hs:PlainIx b):PE X (.Subscript a b pos) (tOp r ta tb):=by
  intro pins s σ H Q I h
  exact Subscript_ (binT ha hb I h fun v u s2 x y H2 I2 rx ry q=>hr a b pins s2 σ H2 x y v u Q I2 rx ry q (hs _ _))
noncomputable def rIxL (K:PySem.W.Frag):R2:=fun x y H Q=>∃ p xs i v,x=.ref p/\y=.int i/\SqL K H p xs/\atI xs i=some v/\Q v H
noncomputable def rIxT (K:PySem.W.Frag):R2:=fun x y H Q=>∃ p xs i v,x=.ref p/\y=.int i/\SqT K H p xs/\atI xs i=some v/\Q v H
noncomputable def rIxS:R2:=fun x y H Q=>∃ z i c,x=.str z/\y=.int i/\z.length<=sizeLine/\atI z.cps.toList i=some c/\Q (.str ⟨#[c]⟩) H
theorem ix_list:IxR X (rIxL X.K):=by
  intro value slice pins s σ H x y v u Q I rx ry h hs
  obtain ⟨p,xs,i,z,rfl,rfl,hq,he,q⟩:=h
  cases rx
  obtain ⟨t,rfl⟩:=ry
  obtain ⟨its,r,pl,hz⟩:=I.list hq
  obtain ⟨j,h1,h2,h3,h4,h5⟩:=atI_get he
  obtain ⟨w,ew,rw'⟩:=r.get h2
  have hl:=r.length
  have hn:=line63
  have fin:EP X pins σ Q w s:=⟨z,H,I,rw',q⟩
  by_cases h0:0<=i
  · have hj:i.toNat=j:=by
      rw [seqIndex_of h0 h5] at h1
      exact Option.some.inj h1
    exact item_listR pl.isList h0 (by omega) (by rw [hj]; simpa using ew) fin hs
  · have hj:(i+(its.toArray.size:Int)).toNat=j:=by
      rw [seqIndex_neg (by omega) h4] at h1
      rw [List.size_toArray,<- hl]
      exact Option.some.inj h1
    exact subscriptTail_builtinR (x:=w) pl.isList.typeIs slot_list_getitem.lookup
      (wpAny_getItem_list_neg (Q:=fun r s'=>r=w/\EP X pins σ Q r s') pl.isList (by omega) (by rw [List.size_toArray] <;> omega) (by omega) (by rw [hj]; simpa using ew) ⟨rfl,fin⟩) hs
theorem ix_tup:IxR X (rIxT X.K):=by
  intro value slice pins s σ H x y v u Q I rx ry h hs
  obtain ⟨p,xs,i,z,rfl,rfl,hq,he,q⟩:=h
  cases rx
  obtain ⟨t,rfl⟩:=ry
  obtain ⟨its,r,pl,hz⟩:=I.tuple hq
  obtain ⟨j,h1,h2,h3,h4,h5⟩:=atI_get he
  obtain ⟨w,ew,rw'⟩:=r.get h2
  have hl:=r.length
  have hn:=line63
  have fin:EP X pins σ Q w s:=⟨z,H,I,rw',q⟩
  exact subscriptTail_builtinR (x:=w) pl.typeIs slot_tuple_getitem.lookup
    (getItem_tuple (j:=j) (Q:=fun r s'=>r=w/\EP X pins σ Q r s') pl (by omega) (by omega) (by rw [List.size_toArray,<- hl]; exact h1) (by simpa using ew) ⟨rfl,fin⟩) hs
theorem ix_str:IxR X rIxS:=by
  intro value slice pins s σ H x y v u Q I rx ry h hs
  obtain ⟨z,i,c,rfl,rfl,hz,he,q⟩:=h
  obtain ⟨t,rfl⟩:=rx
  obtain ⟨t',rfl⟩:=ry
  obtain ⟨j,h1,h2,h3,h4,h5⟩:=atI_get he
  have hl:z.cps.toList.length=z.length:=by simp [Str.length]
  rw [hl] at h1 h4 h5
  have hn:=line63
  exact tail_any (typeIs_str s z t) slot_str_getitem.lookup (getItem_str (c:=c) (by
    have e1:decide (i < -(2 ^ 63:Int))=false:=decide_eq_false (by omega)
    have e2:decide (i>=2 ^ 63)=false:=decide_eq_false (by omega)
    rw [e1,e2,Bool.or_false]) (by rw [h1]; simpa using h2) ⟨.str ⟨#[c]⟩,H,I.tok _,⟨_,rfl⟩,q⟩) hs
noncomputable def rIx (K:PySem.W.Frag):R2:=fun x y H Q=>rIxL K x y H Q\/rIxT K x y H Q\/rIxS x y H Q
theorem ix_seq:IxR X (rIx X.K):=ix_list.or (ix_tup.or ix_str)
theorem mapSeq_set (its:List Value) (n j:Nat) (u:Value):Obj.mapSeq (·.setIfInBounds j u) { cls:=.type "list",data:=.seq its.toArray n }={ cls:=.type "list",data:=.seq (its.set j u).toArray n }:=by
  simp [Obj.mapSeq]
theorem Inv.lst {pins:List (Addr×Obj)} {σ:St} {H:Hp} {s:Shared} {p:Addr} {xs:List V} (I:Inv X pins σ H s) (h:H p=some (.lst xs)) :
    ∃ (its:List Value) (n:Nat),Vals xs its/\s.heap.get? p=some { cls:=.type "list",data:=.seq its.toArray n }/\xs.length<=sizeLine:=by
  obtain ⟨z,its,n,r,e⟩:=I.hok p _ h
  exact ⟨its,n,r,e,z⟩
theorem Inv.lstUpd {pins:List (Addr×Obj)} {σ:St} {H:Hp} {s:Shared} {p:Addr} {xs ys:List V} {its its':List Value} {n n':Nat} {f:Obj->Obj} (I:Inv X pins σ H s) (h:H p=some (.lst xs))
    (ho:s.heap.get? p=some { cls:=.type "list",data:=.seq its.toArray n }) (hf:f { cls:=.type "list",data:=.seq its.toArray n }={ cls:=.type "list",data:=.seq its'.toArray n' }) (r:Vals ys its') (hz:ys.length<=sizeLine) (t:Nat) :
    Inv X pins σ (upd H p (.lst ys)) { s with heap:=s.heap.update p f,toks:=t }:=by
  have e:(s.heap.update p f).get? p=some { cls:=.type "list",data:=.seq its'.toArray n' }:=by
    rw [Heap.get?_update_self f ho (by rw [hf] <;> rfl),hf]
  refine I.write (x:=p) (e:=p) (by rw [h]; trivial) (.inl rfl) (fun b u hb q=>(Heap.get?_update_other _ _ (Ne.symm hb)).trans q) ⟨_,e⟩ ?_
  exact ⟨hz,its',n',r,e⟩
noncomputable def rSetL:V->V->V->Hp->(Hp->Prop)->Prop:=fun o i v H Q=>∃ p xs k j,o=.ref p/\i=.int k/\H p=some (.lst xs)/\ixN xs.length k=some j/\Q (upd H p (.lst (xs.set j v)))
theorem set_list:PSet X rSetL:=by
  intro pins s σ H o i v ov iv u Q I ro ri rv h
  obtain ⟨p,xs,k,j,rfl,rfl,hp,hj,q⟩:=h
  cases ro
  obtain ⟨t,rfl⟩:=ri
  obtain ⟨its,n,r,ho,hz⟩:=I.lst hp
  obtain ⟨h1,h2,h3,h4⟩:=ixN_seq hj
  have hl:=r.length
  have hn:=line63
  have I':Inv X pins σ (upd H p (.lst (xs.set j v))) { s with heap:=s.heap.update p (Obj.mapSeq (·.setIfInBounds j u)) } :=
    I.lstUpd hp ho (mapSeq_set its n j u) (r.set rv j) (by rw [List.length_set]; exact hz) s.toks
  by_cases h0:0<=k
  · have hk:k.toNat=j:=by
      rw [seqIndex_of h0 h4] at h1
      exact Option.some.inj h1
    exact PySem.W.ki_setAt ho h0 (by omega) (by rw [List.size_toArray,<- hl]; exact h4) (by rw [hk]; exact ⟨_,I',q⟩)
  · have hk:(k+(its.toArray.size:Int)).toNat=j:=by
      rw [seqIndex_neg (by omega) h3] at h1
      rw [List.size_toArray,<- hl]
      exact Option.some.inj h1
    exact PySem.W.ki_setBack ho (by omega) (by rw [List.size_toArray,<- hl]; exact h3) (by omega) (by rw [hk]; exact ⟨_,I',q⟩)
theorem slice_bounds (lo hi:Option Int) (n:Nat):(sliceBounds lo hi none n).1=((HT.sIx n 0 lo:Nat):Int)/\(sliceBounds lo hi none n).2.1=((HT.sIx n n hi:Nat):Int)/\(sliceBounds lo hi none n).2.2=1:=by
  refine ⟨?_,?_,rfl⟩
  · cases lo with
    | none=>simp [sliceBounds,HT.sIx]
    | some i =>
      simp only [sliceBounds,HT.sIx,Option.getD_none,show (1:Int) > 0 by decide,if_true]
      by_cases h:i < 0
      · simp only [h,if_true] <;> omega
      · simp only [h,if_false] <;> omega
  · cases hi with
    | none=>simp [sliceBounds,HT.sIx]
    | some i =>
      simp only [sliceBounds,HT.sIx,Option.getD_none,show (1:Int) > 0 by decide,if_true]
      by_cases h:i < 0
      · simp only [h,if_true] <;> omega
      · simp only [h,if_false] <;> omega
theorem slicePick_cut (its:List Value) (lo hi:Option Int):slicePick its.toArray lo hi none=((its.drop (HT.sIx its.length 0 lo)).take (HT.sIx its.length its.length hi - HT.sIx its.length 0 lo)).toArray:=by
  obtain ⟨h1,h2,h3⟩:=slice_bounds lo hi its.toArray.size
  unfold slicePick
  rw [h1,h2,h3]
  simp only [sliceRange_one,pick_run,List.size_toArray] <;> rfl
noncomputable def rSlL (K:PySem.W.Frag):V->Option Int->Option Int->Hp->VK->Prop:=fun x lo hi H Q=>∃ a xs,x=.ref a/\SqL K H a xs/\∀ p,H p=none->Q (.ref p) (upd H p (.lst (cutV xs lo hi)))
theorem sl_list:SlR X (rSlL X.K):=by
  intro pins s σ H x v vl vu lo hi sl Q I rx hs pl pu h
  obtain ⟨a,xs,rfl,hx,q⟩:=h
  cases rx
  obtain ⟨its,r,ht,hz⟩:=I.list hx
  have hlen:=r.length
  refine ⟨"list",_,slot_list_getitem.lookup,ht.isList.typeIs,?_⟩
  refine wpAny_getItem_list_slice ht.isList hs pl pu .none (by simp) ?_ (by rw [List.size_toArray] <;> omega)
  rw [slicePick_cut,<- hlen]
  refine ⟨.ref s.heap.objs.size,_,I.laid (t':=s.toks) (o:=.lst (cutV xs lo hi)) (fun b ob q=>Heap.get?_push_of_some _ q) (Nat.le_refl _) ?_,rfl,q _ (I.hok.fresh (Nat.le_refl _))⟩
  exact ⟨Nat.le_trans (cutV_length xs lo hi) hz,_,0,(r.drop (HT.sIx xs.length 0 lo)).take (HT.sIx xs.length xs.length hi - HT.sIx xs.length 0 lo),Heap.get?_push_size _ rfl⟩
noncomputable def flatV:V->Bool
  | .non=>true
  | .bl _=>true
  | .int _=>true
  | .str _=>true
  | _=>false
noncomputable def eqV:V->V->Bool
  | .non,.non=>true
  | .bl a,.bl b=>a==b
  | .bl a,.int b=>(if a then 1 else 0)==b
  | .int a,.bl b=>a==(if b then 1 else 0)
  | .int a,.int b=>a==b
  | .str a,.str b=>a==b
  | _,_=>false
theorem eqAt_V {A:Around} {s:Shared} {y x:V} {u v:Value} (ry:RelV y u) (rx:RelV x v) (fy:flatV y=true) (fx:flatV x=true):SeqAt.EqAt A s u v (eqV y x):=by
  cases y with
  | non =>
    cases ry
    cases x with
    | non=>cases rx; exact SeqAt.EqAt.same _
    | bl b=>cases rx; exact SeqAt.EqAt.none_bool b
    | int b=>obtain ⟨t,rfl⟩:=rx; exact SeqAt.EqAt.none_int b t
    | str b=>obtain ⟨t,rfl⟩:=rx; exact SeqAt.EqAt.none_str b t
    | _=>exact absurd (show false=true from fx) Bool.false_ne_true
  | bl a =>
    cases ry
    cases x with
    | non=>cases rx; exact SeqAt.EqAt.bool_none a
    | bl b=>cases rx; exact SeqAt.EqAt.bool_bool a b
    | int b=>obtain ⟨t,rfl⟩:=rx; exact SeqAt.EqAt.bool_int a b t
    | str b=>obtain ⟨t,rfl⟩:=rx; exact SeqAt.EqAt.bool_str a b t
    | _=>exact absurd (show false=true from fx) Bool.false_ne_true
  | int a =>
    obtain ⟨t',rfl⟩:=ry
    cases x with
    | non=>cases rx; exact SeqAt.EqAt.int_none a t'
    | bl b=>cases rx; exact SeqAt.EqAt.int_bool a t' b
    | int b=>obtain ⟨t,rfl⟩:=rx; exact SeqAt.EqAt.int_int a t' b t
    | str b=>obtain ⟨t,rfl⟩:=rx; exact SeqAt.EqAt.int_str a t' b t
    | _=>exact absurd (show false=true from fx) Bool.false_ne_true
  | str a =>
    obtain ⟨t',rfl⟩:=ry
    cases x with
    | non=>cases rx; exact SeqAt.EqAt.str_none a t'
    | bl b=>cases rx; exact SeqAt.EqAt.str_bool a t' b
    | int b=>obtain ⟨t,rfl⟩:=rx; exact SeqAt.EqAt.str_int a t' b t
    | str b=>obtain ⟨t,rfl⟩:=rx; exact SeqAt.EqAt.str_str a t' b t
    | _=>exact absurd (show false=true from fx) Bool.false_ne_true
  | _=>exact absurd (show false=true from fy) Bool.false_ne_true
theorem call_len_seq:CallR X (.builtin "len") (fun xs H Q=>∃ p ys,xs=[.ref p]/\(SqL X.K H p ys\/SqT X.K H p ys)/\Q (.int ys.length) H):=by
  intro pins s σ H xs us Q I r h
  obtain ⟨p,ys,rfl,hq,q⟩:=h
  obtain ⟨u,rfl,rx⟩:=vals1 r
  cases rx
  have hn:=line63
  rcases hq with hq | hq
  · obtain ⟨its,r',pl,hz⟩:=I.list hq
    have hlen:=r'.length
    exact Calls.call_len_list pl.isList (by simp only [List.size_toArray] <;> omega) ⟨.int ys.length,H,I.tok _,⟨s.toks+1,by rw [List.size_toArray,hlen]⟩,q⟩
  · obtain ⟨its,r',pl,hz⟩:=I.tuple hq
    have hlen:=r'.length
    exact len_tuple pl (by simp only [List.size_toArray] <;> omega) ⟨.int ys.length,H,I.tok _,⟨s.toks+1,by rw [List.size_toArray,hlen]⟩,q⟩
theorem call_len_str:CallR X (.builtin "len") (fun xs H Q=>∃ z,xs=[.str z]/\z.length<=sizeLine/\Q (.int z.length) H):=by
  intro pins s σ H xs us Q I r h
  obtain ⟨z,rfl,hz,q⟩:=h
  obtain ⟨u,rfl,t,rfl⟩:=vals1 r
  have hn:=line63
  exact len_str (by omega) ⟨.int z.length,H,I.tok _,⟨_,rfl⟩,q⟩
theorem CallR.or {f:Value} {r r':List V->Hp->VK->Prop} (h:CallR X f r) (h':CallR X f r'):CallR X f (fun xs H Q=>r xs H Q\/r' xs H Q):=by
  intro pins s σ H xs us Q I rs q
  rcases q with q | q
  · exact h pins s σ H xs us Q I rs q
  · exact h' pins s σ H xs us Q I rs q
theorem call_tuple_of:CallR X (.type "tuple") (fun xs H Q=>∃ p ys,xs=[.ref p]/\((SqL X.K H p ys/\∀ l,H l=none->Q (.ref l) (upd H l (.tup ys)))\/(SqT X.K H p ys/\Q (.ref p) H))):=by
  intro pins s σ H xs us Q I r h
  obtain ⟨p,ys,rfl,h⟩:=h
  obtain ⟨u,rfl,rx⟩:=vals1 r
  cases rx
  rcases h with ⟨hq,q⟩ | ⟨hq,q⟩
  · obtain ⟨its,r',pl,hz⟩:=I.list hq
    have hlen:=r'.length
    refine call_tuple_list pl.isList (fun h' kp=>?_) (by simp only [List.size_toArray] <;> omega)
    have I1:Inv X pins σ H { s with heap:=h' }:=I.kept (t':=s.toks) kp
    have I2:Inv X pins σ (upd H h'.objs.size (.tup ys)) { s with heap:=h'.push { cls:=.type "tuple",data:=.seq its.toArray } } :=
      I1.laid (t':=s.toks) (fun b o e=>Heap.get?_push_of_some _ e) (Nat.le_refl _) (show ObjOk X.prog X.w _ _ _ (.tup ys) from ⟨hz,its,r',IsTup.new _ _⟩)
    exact ⟨.ref h'.objs.size,_,I2,rfl,q _ (I1.hok.fresh (Nat.le_refl _))⟩
  · obtain ⟨its,r',pl,hz⟩:=I.tuple hq
    exact call_tuple_same pl ⟨.ref p,H,I,rfl,q⟩
noncomputable def tyV (K:PySem.W.Frag) (T:String) (x:V) (H:Hp):Prop:=match x with
  | .str _=>T="str"
  | .int _=>T="int"
  | .ref p=>(T="list"/\∃ xs,SqL K H p xs)\/(T="tuple"/\∃ o,K.lookup p=some o/\o.cls=.type "tuple"/\o.dict=none) \/
      (T="dict"/\((∃ kvs,H p=some (.dK kvs))\/∃ kvs,H p=some (.dT kvs)))\/(T="set"/\∃ S n,H p=some (.set S n))
  | _=>False
theorem tyV_is {pins:List (Addr×Obj)} {σ:St} {H:Hp} {s:Shared} {T:String} {x:V} {v:Value} (I:Inv X pins σ H s) (r:RelV x v) (ty:tyV X.K T x H) :
    s.TypeIs v T/\∀ a,v=.ref a->∃ ob,s.heap.get? a=some ob/\ob.dict=none:=by
  cases x with
  | str z =>
    obtain ⟨t,rfl⟩:=r
    cases (show T="str" from ty)
    exact ⟨typeIs_str s z t,fun _ e=>nomatch e⟩
  | int i =>
    obtain ⟨t,rfl⟩:=r
    cases (show T="int" from ty)
    exact ⟨typeIs_int s i t,fun _ e=>nomatch e⟩
  | ref p =>
    cases r
    rcases ty with ⟨rfl,xs,hq⟩ | ⟨rfl,o,hk,hc,hd⟩ | ⟨rfl,hk⟩ | ⟨rfl,S,n,hk⟩
    · obtain ⟨its,_,pl,_⟩:=I.list hq
      refine ⟨pl.isList.typeIs,fun a e=>?_⟩
      cases e
      obtain ⟨o,n,e,c,hd,_⟩:=pl
      exact ⟨o,e,hd⟩
    · refine ⟨⟨o,I.kIn p o hk,hc⟩,fun a e=>?_⟩
      cases e
      exact ⟨o,I.kIn _ o hk,hd⟩
    · have z:∃ o,s.heap.get? p=some o/\o.ExactDict:=by
        rcases hk with ⟨kvs,hk⟩ | ⟨kvs,hk⟩
        · obtain ⟨_,_,_,_,o,_,_,e,ex,_⟩:=I.hok p _ hk
          exact ⟨o,e,ex⟩
        · obtain ⟨_,_,_,_,o,_,_,e,ex,_⟩:=I.hok p _ hk
          exact ⟨o,e,ex⟩
      obtain ⟨o,e,ex⟩:=z
      refine ⟨⟨o,e,ex.1⟩,fun a e2=>?_⟩
      cases e2
      exact ⟨o,e,ex.2.1⟩
    · obtain ⟨o,_,_,_,e,ex,_⟩:=I.hok p _ hk
      refine ⟨⟨o,e,ex.1⟩,fun a e2=>?_⟩
      cases e2
      exact ⟨o,e,ex.2.1⟩
  | _=>exact False.elim ty
noncomputable def tBM0 (K:PySem.W.Frag) (T:String) (r:V->List V->Hp->VK->Prop) (to:TE):TE:=fun σ H Q=>to σ H fun x H1=>tyV K T x H1/\r x [] H1 Q
noncomputable def tBM (K:PySem.W.Frag) (T:String) (r:V->List V->Hp->VK->Prop) (to:TE) (t:TA):TE:=fun σ H Q=>to σ H fun x H1=>tyV K T x H1/\t σ H1 fun xs H2=>r x xs H2 Q
variable {o e:Expr} {es:List Expr} {to:TE} {t:TA} {name:Str} {apos cpos:Pos} {T id:String} {r:V->List V->Hp->VK->Prop}
theorem pe_bm0 (pa:PlainAttrs T) (slot:Slot T name id) (hty:typeOf (.builtin id)=pure (.type "method_descriptor")) (hm:MtR X id r) (ho:PE X o to)
    (hbase:attributeBase o name X.env (eval o X.env)=eval o X.env:=by rfl) (hline:(apos.endLine==cpos.line)=true:=by rfl):PE X (.Call (.Attribute o name apos) [] [] cpos) (tBM0 X.K T r to):=by
  intro pins s σ H Q I h
  refine wpAny_Call_method0_late hbase hline (thn (ho pins s σ H _ I h) fun v s1 ⟨x,H1,I1,r1,ty,q1⟩=>?_)
  obtain ⟨h1,h2⟩:=tyV_is I1 r1 ty
  exact ⟨T,id,pa,slot,hty,h1,h2,Calls.callWith_builtin rfl (PySem.evalArgs_none (hm pins s1 σ H1 x [] v [] Q I1 r1 .nil q1))⟩
theorem pe_bm (pa:PlainAttrs T) (slot:Slot T name id) (hty:typeOf (.builtin id)=pure (.type "method_descriptor")) (hm:MtR X id r) (ho:PE X o to) (ha:PA X (e::es) t)
    (hbase:attributeBase o name X.env (eval o X.env)=eval o X.env:=by rfl)
    (hfew:((backTo cpos (starEach (e::es) X.env)).all (fun x=>!x.1)&&(backToKw cpos (keywordEach [] X.env)).all (fun x=>x.1.isSome)
      && decide ((e::es).length+([]:List Keyword).length+(if ([]:List Keyword).isEmpty then 0 else 1) < 30))=true:=by rfl)
    (hline:(apos.endLine==cpos.line)=true:=by rfl) (hs:starEach (e::es) X.env=(false,eval e X.env)::starEach es X.env:=by rfl) (hplain:(backTo cpos (starEach es X.env)).any (·.1)=false:=by rfl) :
    PE X (.Call (.Attribute o name apos) (e::es) [] cpos) (tBM X.K T r to t):=by
  intro pins s σ H Q I h
  refine wpAny_Call_method_late hbase hfew hline rfl (thn (ho pins s σ H _ I h) fun v s1 ⟨x,H1,I1,r1,ty,q1⟩=>?_)
  obtain ⟨h1,h2⟩:=tyV_is I1 r1 ty
  refine ⟨T,id,pa,slot,hty,h1,h2,?_⟩
  have hA:=ha cpos pins s1 σ H1 _ I1 q1
  rw [hs] at hA ⊢
  refine Calls.callWith_builtin (by show (false || (backTo cpos (starEach es X.env)).any (·.1))=false; rw [hplain] <;> rfl) (Calls.evalArgs_plain ?_)
  exact thn hA fun us s2 ⟨vs,H2,I2,r2,q2⟩=>hm pins s2 σ H2 x vs v us Q I2 r1 r2 q2
/- xs.append(e),list.index on a module's tuple .. are MtR facts of 06m -/
end
end L2
namespace L2
open PySem PySem.Spec PyProof.Rows
noncomputable def MtM (X:Cx) (id:String) (r:V->List V->Hp->VK->Prop):Prop :=
  ∀ (pins:List (Addr×Obj)) (s:Shared) (σ:St) (H:Hp) (x:V) (xs:List V) (v:Value) (us:List Value) (Q:VK),Inv X pins σ H s->RelV x v->Vals xs us->r x xs H Q ->
    wpAny (model X.prog X.w) X.A (call (.builtin id) (v::us)) (EP X pins σ Q) X.xe s
theorem Vals.one:∀ {x:V} {us:List Value},Vals [x] us->∃ u,us=[u]/\RelV x u
  | _,_,.cons r .nil=>⟨_,rfl,r⟩
theorem Vals.two:∀ {x y:V} {us:List Value},Vals [x,y] us->∃ u v,us=[u,v]/\RelV x u/\RelV y v
  | _,_,_,.cons r (.cons q .nil)=>⟨_,_,rfl,r,q⟩
theorem Vals.zero:∀ {us:List Value},Vals [] us->us=[]
  | _,.nil=>rfl
theorem Vals.dropLast {xs:List V} {us:List Value} (h:Vals xs us):Vals xs.dropLast us.dropLast:=by
  induction h with
  | nil=>exact .nil
  | cons r t ih =>
    cases t with
    | nil=>exact .nil
    | cons q t'=>exact .cons r ih
theorem Vals.eraseIdx:∀ {xs:List V} {us:List Value} (i:Nat),Vals xs us->Vals (xs.eraseIdx i) (us.eraseIdx i)
  | _,_,_,.nil=>.nil
  | _,_,0,.cons _ t=>t
  | _,_,i+1,.cons r t=>.cons r (Vals.eraseIdx i t)
theorem Vals.reverse {xs:List V} {us:List Value} (h:Vals xs us):Vals xs.reverse us.reverse:=by
  induction h with
  | nil=>exact .nil
  | cons r t ih=>rw [List.reverse_cons,List.reverse_cons]; exact Vals.append ih (.cons r .nil)
theorem Vals.rep {xs:List V} {us:List Value} (h:Vals xs us):∀ k:Nat,Vals (List.replicate k xs).flatten (List.replicate k us).flatten
  | 0=>.nil
  | k+1=>by
    rw [List.replicate_succ,List.replicate_succ,List.flatten_cons,List.flatten_cons]
    exact Vals.append h (Vals.rep h k)
theorem erase_last {α:Type} (l:List α):l.eraseIdx (l.length - 1)=l.dropLast:=by
  induction l with
  | nil=>rfl
  | cons a r ih =>
    cases r with
    | nil=>rfl
    | cons b r =>
      have e:(a::b::r).length - 1=((b::r).length - 1)+1:=by
        have h1:(a::b::r).length=r.length+2:=rfl
        have h2:(b::r).length=r.length+1:=rfl
        omega
      rw [e,List.eraseIdx_cons_succ,ih]
      all_goals rfl
theorem foldl_rep (its:List Value):∀ (k:Nat) (acc:List Value),
    List.foldl (fun x1 x2=>x1++x2) acc.toArray (List.replicate k its.toArray)=(acc++(List.replicate k its).flatten).toArray
  | 0,acc=>by simp
  | k+1,acc=>by
    have e:acc.toArray++its.toArray=(acc++its).toArray:=by simp
    have e2:(acc++its)++(List.replicate k its).flatten=acc++(List.replicate (k+1) its).flatten:=by
      rw [List.replicate_succ,List.flatten_cons,List.append_assoc]
    rw [<- e2,<- foldl_rep its k (acc++its),<- e,List.replicate_succ,List.foldl_cons]
section
variable {X:Cx} {pins:List (Addr×Obj)} {σ:St} {H:Hp} {s:Shared} {l b:Addr} {xs ys zs:List V}
theorem Inv.lset {its its':List Value} {n:Nat} {f:Array Value->Array Value} {t':Nat} (I:Inv X pins σ H s) (hH:H l=some (.lst xs))
    (e:s.heap.get? l=some { cls:=.type "list",data:=.seq its.toArray n }) (hf:f its.toArray=its'.toArray) (hv:Vals ys its') (hz:ys.length<=sizeLine) :
    Inv X pins σ (upd H l (.lst ys)) { s with heap:=s.heap.update l (Obj.mapSeq f),toks:=t' }:=by
  have q:=PySem.IsL.update e f
  rw [hf] at q
  refine I.write (x:=l) (e:=l) (by rw [hH]; exact trivial) (.inl rfl) (fun b' u hb hu=>(Heap.get?_update_other s.heap (Obj.mapSeq f) (Ne.symm hb)).trans hu) ⟨_,q⟩ ?_
  exact ⟨hz,its',_,hv,q⟩
theorem Inv.lnew {its:List Value} {t':Nat} (I:Inv X pins σ H s) (hv:Vals ys its) (hz:ys.length<=sizeLine) :
    Inv X pins σ (upd H s.heap.objs.size (.lst ys)) { s with heap:=s.heap.push { cls:=.type "list",data:=.seq its.toArray },toks:=t' } :=
  I.laid (fun _ _ q=>Heap.get?_push_of_some _ q) (Nat.le_refl _) ⟨hz,its,0,hv,Heap.get?_push_size _ rfl⟩
theorem Inv.fresh (I:Inv X pins σ H s):H s.heap.objs.size=none:=I.hok.fresh (Nat.le_refl _)
theorem Inv.lstM (I:Inv X pins σ H s) (hH:H l=some (.lst xs)):xs.length<=sizeLine/\∃ (its:List Value) (n:Nat),Vals xs its/\xs.length=its.length/\s.heap.get? l=some { cls:=.type "list",data:=.seq its.toArray n }:=by
  obtain ⟨z,its,n,r,e⟩:=I.hok l _ hH
  exact ⟨z,its,n,r,r.length,e⟩
theorem notLongL {n:Nat} (h:n<=sizeLine):Builtin.List.listTooLong n=false:=by
  unfold Builtin.List.listTooLong
  exact decide_eq_false (by omega)
end
section
variable {X:Cx}
noncomputable def rAppend:V->List V->Hp->VK->Prop:=fun x vs H Q=>∃ l xs y,x=.ref l/\vs=[y]/\H l=some (.lst xs)/\xs.length < sizeLine/\Q .non (upd H l (.lst (xs++[y])))
theorem mt_append:MtM X "list.append" rAppend:=by
  intro pins s σ H x vs v us Q I rx rv h
  obtain ⟨l,xs,y,rfl,rfl,hH,hz,q⟩:=h
  cases rx
  obtain ⟨u,rfl,ru⟩:=rv.one
  obtain ⟨z,its,n,r,hl,e⟩:=I.lstM hH
  refine call_meets F.slot_list_append ⟨_,e,rfl⟩ F.entry_list_append (F.args_list_append_2 _ _) (PySem.list_append l its.toArray n u (by rw [List.size_toArray]; omega)) ⟨e,?_⟩
  refine ⟨.non,_,I.lset (its':=its++[u]) hH e (by simp) (r.append (.cons ru .nil)) ?_,rfl,q⟩
  rw [List.length_append,List.length_singleton]
  omega
noncomputable def rExtend:V->List V->Hp->VK->Prop:=fun x vs H Q=>∃ l b xs zs,x=.ref l/\vs=[.ref b]/\H l=some (.lst xs)/\H b=some (.lst zs)/\xs.length+zs.length<=sizeLine/\Q .non (upd H l (.lst (xs++zs)))
theorem mt_extend:MtM X "list.extend" rExtend:=by
  intro pins s σ H x vs v us Q I rx rv h
  obtain ⟨l,b,xs,zs,rfl,rfl,hH,hB,hz,q⟩:=h
  cases rx
  obtain ⟨u,rfl,ru⟩:=rv.one
  cases ru
  obtain ⟨z,its,n,r,hl,e⟩:=I.lstM hH
  obtain ⟨z2,its2,n2,r2,hl2,e2⟩:=I.lstM hB
  have hsz:its.toArray.size+its2.toArray.size<=sizeLine:=by rw [List.size_toArray,List.size_toArray]; omega
  have hlong:¬ (!its.toArray.isEmpty&&Builtin.List.listTooLong (its.toArray.size+its2.toArray.size))=true:=by
    rw [notLongL hsz,Bool.and_false]
    exact Bool.false_ne_true
  refine call_meets F.slot_list_extend ⟨_,e,rfl⟩ F.entry_list_extend (F.args_list_extend_2 _ _)
    (AutoSeq1.list_extend_list_list_0 l its.toArray n b its2.toArray n2 hlong (by rw [List.size_toArray]; omega) (by omega)) ⟨e,e2,?_⟩
  refine ⟨.non,_,I.lset (its':=its++its2) hH e (by simp) (r.append r2) ?_,rfl,q⟩
  rw [List.length_append]
  omega
noncomputable def rPop:V->List V->Hp->VK->Prop:=fun x vs H Q=>∃ l xs y,x=.ref l/\vs=[]/\H l=some (.lst xs)/\xs[xs.length - 1]?=some y/\Q y (upd H l (.lst xs.dropLast))
theorem mt_pop:MtM X "list.pop" rPop:=by
  intro pins s σ H x vs v us Q I rx rv h
  obtain ⟨l,xs,y,rfl,rfl,hH,hy,q⟩:=h
  cases rx
  have hus:=rv.zero
  subst hus
  obtain ⟨z,its,n,r,hl,e⟩:=I.lstM hH
  obtain ⟨u,hu,ru⟩:=r.get hy
  have hy':its.toArray[its.toArray.size - 1]?=some u:=by
    show its.toArray[its.length - 1]?=some u
    rw [<- Array.getElem?_toList,<- hl]
    exact hu
  refine call_meets F.slot_list_pop ⟨_,e,rfl⟩ F.entry_list_pop (F.args_list_pop_1 _) (MeetsSeq.list_pop_last l its.toArray n u hy' (by rw [List.size_toArray]; omega)) ⟨e,?_⟩
  refine ⟨y,_,I.lset (its':=its.dropLast) hH e ?_ r.dropLast ?_,ru,q⟩
  · show its.toArray.eraseIdxIfInBounds (its.toArray.size - 1)=its.dropLast.toArray
    rw [List.size_toArray,List.eraseIdxIfInBounds_toArray,erase_last]
  · rw [List.length_dropLast]
    omega
noncomputable def rCat:R2:=fun x y H Q=>∃ l b xs zs,x=.ref l/\y=.ref b/\H l=some (.lst xs)/\H b=some (.lst zs)/\xs.length+zs.length<=sizeLine/\∀ p,H p=none->Q (.ref p) (upd H p (.lst (xs++zs)))
theorem op_cat:OpR X (binaryOp .Add) rCat:=by
  intro pins s σ H x y v u Q I rx ry h
  obtain ⟨l,b,xs,zs,rfl,rfl,hH,hB,hz,q⟩:=h
  cases rx
  cases ry
  obtain ⟨z,its,n,r,hl,e⟩:=I.lstM hH
  obtain ⟨z2,its2,n2,r2,hl2,e2⟩:=I.lstM hB
  refine PySem.P.add_list e e2 ?_ (by rw [List.size_toArray,List.size_toArray]; omega)
  have ea:its.toArray++its2.toArray=(its++its2).toArray:=by simp
  rw [ea]
  exact ⟨.ref _,_,I.lnew (t':=s.toks) (r.append r2) (by rw [List.length_append]; omega),rfl,q _ I.fresh⟩
noncomputable def rRep:R2:=fun x y H Q=>∃ l k xs,x=.ref l/\y=.int k/\H l=some (.lst xs) /\ -(2 ^ 63)<=k/\k < 2 ^ 63/\xs.length*k.toNat<=sizeLine /\
  ∀ p,H p=none->Q (.ref p) (upd H p (.lst (List.replicate k.toNat xs).flatten))
theorem len_rep {α:Type} (xs:List α) (k:Nat):(List.replicate k xs).flatten.length=k*xs.length:=by
  induction k with
  | zero=>simp
  | succ k ih=>rw [List.replicate_succ,List.flatten_cons,List.length_append,ih,Nat.succ_mul,Nat.add_comm]
theorem op_rep:OpR X (binaryOp .Mult) rRep:=by
  intro pins s σ H x y v u Q I rx ry h
  obtain ⟨l,k,xs,rfl,rfl,hH,h1,h2,hz,q⟩:=h
  cases rx
  obtain ⟨t,rfl⟩:=ry
  obtain ⟨z,its,n,r,hl,e⟩:=I.lstM hH
  have hlen:its.toArray.size*k.toNat<=sizeLine:=by rw [List.size_toArray,<- hl]; exact hz
  have hcap:¬ its.toArray.size*k.toNat > (2 ^ 63 - 1) / 8:=by
    have:(sizeLine:Nat)<=(2 ^ 63 - 1) / 8:=by decide
    omega
  have hfit:¬ (!Builtin.List.listFitsIndex k)=true:=by
    rw [fitsIndex_both h1 h2]
    exact Bool.false_ne_true
  have hlong:¬ Builtin.List.listTooLong (its.toArray.size*k.toNat)=true:=by
    rw [notLongL hlen]
    exact Bool.false_ne_true
  have hnew:List.foldl (fun x1 x2=>x1++x2) #[] (List.replicate (if its.toArray.isEmpty=true then 0 else k.toNat) its.toArray)=(List.replicate k.toNat its).flatten.toArray:=by
    have f0:∀ m:Nat,List.foldl (fun x1 x2=>x1++x2) #[] (List.replicate m its.toArray)=(List.replicate m its).flatten.toArray:=fun m=>by
      have:=foldl_rep its m []
      rw [List.nil_append] at this
      exact this
    rw [f0]
    cases its with
    | nil=>simp
    | cons a r'=>rw [if_neg (by simp)]
  refine wpAny_binaryOp_repeat_ref (T:="list") (U:="int") (by decide) ⟨_,e,rfl⟩ (fun s'=>typeIs_int s' k t) noFill_list_mul F.fills_int_mul F.slot_int_rmul repeat_list F.slot_int_index.lookup
    (call_meets F.slot_int_rmul (typeIs_int s k t) F.entry_int_rmul (F.args_int_rmul_2 _ _) (int___rmul___int_list k t l its.toArray n)
      ⟨e,rfl,⟨_,e,rfl⟩,call_meets F.slot_list_mul ⟨_,e,rfl⟩ F.entry_list_mul (F.args_list_mul_2 _ _) (AutoListH.list___mul___list_int_3 l its.toArray n k t hfit hcap hlong) ⟨e,?_⟩⟩)
  rw [hnew]
  exact ⟨.ref _,_,I.lnew (t':=s.toks) (r.rep k.toNat) (by rw [len_rep,Nat.mul_comm]; exact hz),rfl,q _ I.fresh⟩
end
section
variable {prog:Program} {w:World} {A:Around} {E:Value->Shared->Prop} {s:Shared}
set_option maxRecDepth 100000 in
end
section
variable {X:Cx}
end
end L2
namespace Att
open PySem PySem.W PySem.Calls PyProof.Rows
theorem ints_of_wellAll {P:Params} {h:Heap}:∀ (ns:List Int) (vs:List Value),WellAll P h vs (ns.map WData.int)->IntsAre vs ns:=by
  intro ns
  induction ns with
  | nil =>
    intro vs w
    rw [List.map_nil] at w
    cases w
    exact .nil
  | cons n ns ih =>
    intro vs w
    rw [List.map_cons] at w
    cases w with
    | cons a b =>
      cases a
      exact .cons _ _ (ih _ b)
theorem script_of {l:OpenLaw} {n:Nat} (hn:l.most=some n) {P:Params} {h:Heap} {args:List WData} {vals:List Value}
    (hpre:l.row.toRowW.claim.pre args=true) (hwl:WellAll P h vals args) :
    ∃ a vs ns,vals=[Value.ref a]/\args=[WData.list (ns.map WData.int)]/\h.get? a=some { cls:=.type "list",data:=.seq vs.toArray }/\IntsAre vs ns/\ns.length<=n:=by
  have hsh:WShape.hasAll [] args [.list .int]=true:=(pre_splitW hpre).1
  have hc:l.pre.holds [] { args:=args }=true:=(pre_splitW hpre).2
  obtain ⟨d,r,rfl,h1,h2⟩:=hasAllW_cons hsh
  obtain rfl:=hasAllW_nil h2
  obtain ⟨xs,rfl,h3⟩:=hasW_list h1
  obtain ⟨ns,rfl⟩:=items_int h3
  have hlen:ns.length<=n:=by
    unfold OpenLaw.pre at hc
    have h4:(WTm.not (.lt (.lit (.int (n:Int))) (.len (.arg 0)))).holds [] { args:=[.list (ns.map .int)] }=true:=by
      have h4:=(holds_andW hc).1
      rw [hn] at h4
      exact h4
    have h5:=condW_of h4 (w_not (w_lt w_lit (w_len_list (w_arg rfl))))
    rw [List.length_map] at h5
    refine Nat.le_of_not_lt fun q=>?_
    have q':(n:Int) < ((ns.length:Nat):Int):=by omega
    first
      | (rw [decide_eq_true q'] at h5; exact absurd h5 (by decide))
      | (simp at h5; omega)
  cases hwl with
  | cons w1 w2 =>
    cases w2
    cases w1 with
    | list ho hall=>exact ⟨_,_,ns,rfl,rfl,ho,ints_of_wellAll ns _ hall,hlen⟩
theorem post_true (l:OpenLaw) (args:List WData):l.row.toRowW.claim.post args (.bool true) args=true :=
  postW_of (r:=l.row.toRowW) (X:=(true==true))
    (show WShape.has [] (.bool true) .bool=true by first | rfl | decide | simp [WShape.has,WShape.arms,WShape.armsAll])
    (show (WTm.eq .res (.lit (.bool true))).value [] { args:=args,res:=some (.bool true),after:=args }=some (.bool (true==true)) from w_eq_bool (w_res rfl) w_lit) rfl
theorem attach_call {l:OpenLaw} {n:Nat} {q:Program} {loose:List Str} {XP:(Str->Option Value)->Heap->Prop} {YP:World->Heap->Prop} {d:DefRec}
    (hn:l.most=some n) (hdf:d.params.defaults=[])
    (call:∀ (w:World) (s₀ s₁:Shared) (mg mb:Str->Option Value) (fa:Addr) (o:Obj) (pm cd doc:Value) (a:Addr) (vs:List Value) (ns:List Int),
      Ground q loose [] XP w s₀ mg mb s₁.heap->YP w s₁.heap ->
      s₁.heap.get? fa=some o->o.data=.func (docDef d.name d.params d.body d.scope pm cd doc)->s₁.heap.CodeRec cd d.name->mg d.name=some (.ref fa) ->
      s₁.heap.get? a=some { cls:=.type "list",data:=.seq vs.toArray }->IntsAre vs ns->ns.length<=n->s₁.gens=#[] ->
      codeAny (model l.prog w) callerA (.call (.ref fa) ⟨[.ref a],[]⟩) (fun r s'=>r=.ok (.ret (.bool true))/\OldK s₁.heap s'.heap/\s'.os=s₁.os/\AllBare s'.gens) s₁) :
    WalkO q loose XP YP l.row.toRowW d [] (fun f vs=>PySem.call f vs):=by
  intro w s₀ s₁ mg mb G Y fa o pm cd doc dV kV ho hd hcd hD hmg hg args vals as hpre hlay hrd hwl hlo
  obtain rfl:dV=.none:=Dflts.none hD hdf
  obtain rfl:kV=.none:=Dflts.noKw hD
  obtain ⟨a,vs,ns,rfl,rfl,hobj,hints,hlen⟩:=script_of hn hpre hwl
  refine enter_call (codeAny_mono (call w s₀ s₁ mg mb fa o pm cd doc a vs ns G Y ho (fd_plain hd) hcd hmg hobj hints hlen hg) fun r s' hq=>?_)
  obtain ⟨rfl,h2,h3,h4⟩:=hq
  exact ⟨.inl ⟨.bool true,.bool true,[],rfl,fun _=>rfl,.bool true,post_true l _,fun _=>⟨List.Pairwise.nil,fun _ hm=>(nomatch hm)⟩⟩,h2,h3,h4⟩
section
variable {prog:Program} {w:World} {A:Around} {E:Value->Shared->Prop} {s:Shared} {K:Frag}
noncomputable def ledger (h:Heap) (L d:Addr):List (Addr×Obj):=(List.range h.objs.size).filterMap fun a=>if a=L\/a=d then none else (h.get? a).map fun o=>(a,o)
end
end Att
namespace L2
open PySem PySem.Spec PyProof.Rows
theorem vals_ints:∀ {vs:List Value} {ns:List Int},IntsAre vs ns->Vals (ns.map V.int) vs
  | _,_,.nil=>.nil
  | _,_,.cons n t h=>.cons ⟨t,rfl⟩ (vals_ints h)
noncomputable def Only (H:Hp):Prop:=∀ b,H b=none\/∃ o xs,H b=some (.frz o (.lst xs))
theorem law_call {P:Program} {w:World} {K:PySem.W.Frag} {mg mb:Str->Option Value} {CX:CXT} {k:Nat} {fa a:Addr} {fd:FuncData} {x:Str} {sp:Sp} {s₁:Shared} {vs:List Value} {ns:List Int}
    (KX:K.In s₁.heap) (hns:s₁.heap.Ns mainGlobals mg) (hb:s₁.heap.Ns builtinsNs mb) (hbb:∀ x:Str,x≠"__name__"->mb x=bootBuiltins x) (hlim:s₁.heap.NoLimit) (hg:s₁.gens=#[])
    (ha:s₁.heap.get? a=some { cls:=.type "list",data:=.seq vs.toArray }) (hi:IntsAre vs ns) (hl:ns.length<=sizeLine) (hr:Room k callerA)
    (F:∀ base:Heap,K.In base->base.Ns mainGlobals mg->FnOk P w K mg base CX k fa fd [x] sp) (hbind:∀ (s:Shared) (u:Value),BindsTo s fd ⟨[u],[]⟩ [(x,u)])
    (hsp:∀ H:Hp,Only H->SqL K H a (ns.map V.int)->sp [.ref a] H (fun v _=>v=.bl true) fun _ _ _=>False)
    (hCX:∀ H e s',CX [] H s₁ (fun _ _ _=>False) e s'->False) :
    codeAny (model P w) callerA (.call (.ref fa) ⟨[.ref a],[]⟩) (fun r s'=>r=.ok (.ret (.bool true))/\OldK s₁.heap s'.heap/\s'.os=s₁.os/\AllBare s'.gens) s₁:=by
  have rv:=vals_ints hi
  have lenV:=hi.length
  -- from an abstract heap in which nothing but the script may be tracked
  have core:∀ H:Hp,Only H->SqL K H a (ns.map V.int)->HOk P w H s₁.heap->(∀ b,H b≠none->b=a)->(H a≠none->K.lookup a=none) ->
      codeAny (model P w) callerA (.call (.ref fa) ⟨[.ref a],[]⟩) (fun r s'=>r=.ok (.ret (.bool true))/\OldK s₁.heap s'.heap/\s'.os=s₁.os/\AllBare s'.gens) s₁:=by
    intro H hO hS hok hA hK
    have base_of:∀ {b:Addr} {o:Obj},s₁.heap.get? b=some o->H b=none->(hidT s₁.heap H).get? b=some o:=fun e n=>hidT_get e n
    have noA:∀ {b:Addr} {o:Obj} {es:Array DictEntry} {ep:Nat},s₁.heap.get? b=some o->o.data=.dict es ep->H b=none:=fun {b o es ep} e d=>by
      cases q:H b with
      | none=>rfl
      | some u =>
        have e':b=a:=hA b (by rw [q]; simp)
        subst e'
        rw [ha] at e; cases e
        have d':Data.seq vs.toArray _=Data.dict es ep:=d
        cases d'
    have nsK:∀ {b:Addr} {m:Str->Option Value},s₁.heap.Ns b m->(hidT s₁.heap H).Ns b m:=fun {b m} ⟨o,es,ep,e,d,r⟩=>⟨o,es,ep,base_of e (noA e d),d,r⟩
    have hKb:K.In (hidT s₁.heap H):=fun b o e=>base_of (KX b o e) (by
      cases q:H b with
      | none=>rfl
      | some u =>
        have e':b=a:=hA b (by rw [q]; simp)
        subst e'
        rw [hK (by rw [q]; simp)] at e; cases e)
    have hM:Mod K mg (hidT s₁.heap H):=⟨hKb,nsK hns,⟨mb,nsK hb,hbb⟩,let ⟨mc,h1,h2⟩:=hlim; ⟨mc,nsK h1,h2⟩⟩
    have e0:Env0 P w K mg (hidT s₁.heap H) callerA [] s₁ H:=⟨rfl,hM,fun b o e=>of_hidT e,Nat.le_of_eq (hidT_size _ _),trivial,fun b hb=>absurd (show b∈([]:List Addr) from hb) (by simp),hok,.of_eq hg⟩
    refine codeAny_mono ((F _ hKb (nsK hns)).run callerA [] s₁ H ⟨[.ref a],[]⟩ [.ref a] [.ref a] _ _ hr e0 (hbind s₁ (.ref a)) (.cons rfl .nil) (hsp H hO hS)) fun r s' h=>?_
    cases r with
    | error e=>exact (hCX H e s' h).elim
    | ok fl =>
      cases fl with
      | next=>exact False.elim h
      | brk=>exact False.elim h
      | cont=>exact False.elim h
      | ret u =>
        obtain ⟨v,H',os,bare,un,hok',r',q⟩:=h
        have q':v=.bl true:=q
        subst q'
        obtain rfl:u=Value.bool true:=r'
        refine ⟨rfl,OldK.of_keep fun b o e=>?_,os,bare⟩
        cases q:H b with
        | none=>exact un.keep b o e q (by intro z; exact absurd (show b∈([]:List Addr) from z) (by simp)) (by simp)
        | some u =>
          rcases hO b with z | ⟨ob,xs,z⟩
          · rw [q] at z; cases z
          · have z2:=un.frzs b ob _ z
            obtain ⟨e1,_⟩:=hok b _ z
            obtain ⟨e2,_⟩:=hok' b _ z2
            rw [e] at e1; cases e1
            exact e2
  cases hk:K.lookup a with
  | some o =>
    -- the script is one of the module's own objects
    have e:=KX a o hk
    rw [ha] at e
    cases e
    refine core (fun _=>none) (fun _=>.inl rfl) (.inr ⟨_,vs.toArray,_,hk,rfl,rfl,rfl,by rw [List.size_toArray,lenV]; exact hl,by simpa using rv⟩) (fun b u z=>by have z':(none:Option HO)=some u:=z; cases z') (fun b z=>absurd rfl z) fun z=>absurd rfl z
  | none =>
    refine core (fun b=>if b=a then some (.frz { cls:=.type "list",data:=.seq vs.toArray } (.lst (ns.map V.int))) else none) (fun b=>?_) (.inl (.inr ⟨{ cls:=.type "list",data:=.seq vs.toArray },if_pos rfl⟩)) (fun b u z=>?_) (fun b z=>?_) fun _=>hk
    · by_cases hb:b=a
      · exact .inr ⟨_,_,if_pos hb⟩
      · exact .inl (if_neg hb)
    · by_cases hb:b=a
      · have z':=(if_pos hb).symm.trans z
        cases z'
        subst hb
        exact ⟨ha,by rw [List.length_map]; exact hl,vs,_,rv,ha⟩
      · have z':=(if_neg hb).symm.trans z
        cases z'
    · by_cases hb:b=a
      · exact hb
      · exact absurd (if_neg hb) z
end L2
namespace L2
open PySem PySem.Spec PyProof.Rows
noncomputable abbrev KOf {K:PySem.W.Frag} {h:Heap} (_:K.In h):PySem.W.Frag:=K
theorem walk_of {l:PySem.W.OpenLaw} {n k:Nat} {q:Program} {loose:List Str} {XP:(Str->Option Value)->Heap->Prop} {YP:World->Heap->Prop} {d:DefRec} {K:Params->PySem.W.Frag} {CX:World->CXT} {sp:World->Sp} {x:Str}
    (hn:l.most=some n) (hn2:n<=sizeLine) (hdf:d.params.defaults=[]) (hr:Room k callerA)
    (hY:∀ (w:World) (h:Heap),YP w h->(K w.params).In h)
    (F:∀ (w:World) (mg:Str->Option Value) (fa:Addr) (h:Heap),(K w.params).In h->h.Ns mainGlobals mg->mg d.name=some (.ref fa) ->
      ∃ fd:FuncData,(∀ (s:Shared) (u:Value),BindsTo s fd ⟨[u],[]⟩ [(x,u)]) /\
        ∀ base:Heap,(K w.params).In base->base.Ns mainGlobals mg->FnOk l.prog w (K w.params) mg base (CX w) k fa fd [x] (sp w))
    (hsp:∀ (w:World) (H:Hp) (a:Addr) (ns:List Int),ns.length<=n->Only H->SqL (K w.params) H a (ns.map V.int)->sp w [.ref a] H (fun v _=>v=.bl true) fun _ _ _=>False)
    (hCX:∀ (w:World) (H:Hp) (s:Shared) (e:Value) (s':Shared),CX w [] H s (fun _ _ _=>False) e s'->False) :
    PySem.W.WalkO q loose XP YP l.row.toRowW d [] (fun f vs=>PySem.call f vs):=by
  refine Att.attach_call hn hdf fun w s₀ s₁ mg mb fa o pm cd doc a vs ns G Y ho hd hcd hmg hobj hints hlen hg=>?_
  have KX:=hY w _ Y
  obtain ⟨fd,hb,hF⟩:=F w mg fa _ KX G.T.g hmg
  exact law_call KX G.T.g G.T.b G.T.builtins G.T.nolimit hg hobj hints (Nat.le_trans hlen hn2) hr hF hb (fun H hO hS=>hsp w H a ns hlen hO hS) fun H e s'=>hCX w H s₁ e s'
end L2
/- THE LAST THEOREM (shape; LID,My.* are yours):
   My.Adr: a structure of the addresses that your layer names (classes,functions); My.Txt K t: a structure (Prop) of the equations over K;
   My.txt_mk:{K} {implicit addresses ..} (e1:nsIn K mainGlobals "law"=some (some (.ref f))) (e2:K.lookup f=some ⟨oc,od,.func (fnOf "law" "law" params body scope dV kV doc pm an cdv ct),sl⟩) (e3:codeIn K cdv "law"=true) ..:∃ t,My.Txt K t
set_option maxRecDepth 100000 in
set_option maxHeartbeats 0 in
theorem PySem.Challenge.cw_LID_holds : PySem.Challenge.rw_LID.Holds := by
  w_on; o_law; k_head; (case hw=>w_witness2)
  k_fill
  refine L2.walk_of (l:=PySem.Challenge.rw_LID) (n:=63) (k:=40) (x:="script") (CX:=fun w=>..) (sp:=fun _=>My.sp_law) rfl (by decide) rfl ⟨rfl,by decide,by decide⟩ (fun w h Y=>PySem.W.kIn_of Y) ?F ?S ?C
  case F =>
    intro w mg fa h KX G hmg
    have T:∃ t,My.Txt (L2.KOf KX) t:=by
      dsimp only [L2.KOf]                          -- K must stand as «<heap const> w.params» for k_is
      refine' My.txt_mk ?e1 ?e2 ?e3 ..
      (case e1=>PySem.W.k_is)                    -- in the order: a name->its address->its object->its parts
      (case e2=>PySem.W.k_is)
      ..
    obtain ⟨t,T⟩:=T
    have e0:=hmg.symm.trans (PySem.W.mg_of KX G T.law)
    cases e0                                       -- fa is the law's own address
    exact ⟨_,fun s u=>.of_eq rfl,fun base kb nb=>My.law_fn T kb nb⟩     -- if «.of_eq rfl» comes too early: refine' ⟨_,?b,fun base kb nb=>My.law_fn T kb nb⟩; exact fun s u=>.of_eq rfl
  case S=>exact fun w H a ns hl hO hS=>..
  case C=>exact ..
(the tactic k_is has no namespace: write k_is) -/
namespace L2
open PySem PySem.Spec PyProof.Rows
noncomputable def inClass (s:Stmt) (j:Nat):Stmt:=match s with
  | .ClassDef _ _ _ body _ _ _ _ _ _ _=>body.getD j (.Pass ⟨0,0,0,0⟩)
  | _=>.Pass ⟨0,0,0,0⟩
noncomputable def defArgs (s:Stmt):Arguments:=match s with
  | .FunctionDef _ a _ _ _ _ _ _ _ _=>a
  | _=>{ posonlyargs:=[],args:=[],vararg:=none,kwonlyargs:=[],kw_defaults:=[],kwarg:=none,defaults:=[] }
noncomputable def defBody (s:Stmt):List Stmt:=match s with
  | .FunctionDef _ _ b _ _ _ _ _ _ _=>b
  | _=>[]
noncomputable def defScope (s:Stmt):Scope:=match s with
  | .FunctionDef _ _ _ _ _ _ sc _ _ _=>sc
  | _=>{ kind:=.function,names:=[],isGenerator:=false,isCoroutine:=false }
noncomputable abbrev CX0:CXT:=fun _ _ _ _ _ _=>False
noncomputable abbrev E0:XK:=fun _ _ _=>False
theorem pass0 {X:Cx}:Passes CX0 X E0:=fun _ _ _ _ _ _ _ h=>h.elim
structure Fun (K:PySem.W.Frag) (x qual:Str) (st:Stmt) (f:Addr) (fd:FuncData):Prop where
  ex:∃ (oc:Value) (od:Option Addr) (kV doc pm:Value) (an:Option Addr) (cdv ct:Value) (osl:Array (Option Value)),
    fd=PySem.W.fnOf x qual (defArgs st) (defBody st) (defScope st) .none kV doc pm an cdv ct/\K.lookup f=some ⟨oc,od,.func fd,osl⟩/\PySem.W.codeIn K cdv qual=true
  kp:PySem.W.keepIn K (.ref f)=true
section
variable {P:Program} {w:World} {K:PySem.W.Frag} {mg:Str->Option Value} {base:Heap}
theorem Fun.ok {x qual:Str} {st:Stmt} {f:Addr} {fd:FuncData} {N ps:List Str} {k:Nat} {sp:Sp} (F:Fun K x qual st f fd) (S:FnScope N ps (defScope st)) (len:∀ vs H Q E,sp vs H Q E->vs.length=ps.length)
    (hbody:∀ (cdv:Value) (A:Around) (outer:List Env) (s:Shared) (H:Hp) (vs:List V) (Q:VK) (E:XK),Room k (A.deeper (envOfC qual (defScope st) s.heap.objs.size f cdv))->sp vs H Q E ->
      ∃ t,PSs (cxOf CX0 P w K mg base N qual (defScope st) f cdv A outer s H E).nox (defBody st) t/\t { nx:=fun _ H'=>Q .non H',rt:=Q } (start N vs) H):FnOk P w K mg base CX0 (k+1) f fd ps sp:=by
  obtain ⟨oc,od,kV,doc,pm,an,cdv,ct,osl,rfl,lk,hcd⟩:=F.ex
  refine fn_of lk hcd S len fun A outer s H vs Q E hr hsp=>?_
  obtain ⟨t,h,q⟩:=hbody cdv A outer s H vs Q E hr hsp
  exact ⟨t,h.nox,q⟩
theorem Fun.binds {x qual:Str} {st:Stmt} {f:Addr} {fd:FuncData} {ps:List Str} (F:Fun K x qual st f fd)
    (h:∀ (kV doc pm:Value) (an:Option Addr) (cdv ct:Value) (us:List Value),us.length=ps.length->bindArgs (PySem.W.fnOf x qual (defArgs st) (defBody st) (defScope st) .none kV doc pm an cdv ct) ⟨us,[]⟩=pure (ps.zip us)):Binds K fd ps []:=by
  obtain ⟨oc,od,kV,doc,pm,an,cdv,ct,osl,rfl,lk,hcd⟩:=F.ex
  exact .all (h kV doc pm an cdv ct)
theorem fun_mk {x qual:Str} {st:Stmt} {f:Addr} {oc:Value} {od an:Option Addr} {osl:Array (Option Value)} {kV doc pm cdv ct:Value} (l:K.lookup f=some ⟨oc,od,.func (PySem.W.fnOf x qual (defArgs st) (defBody st) (defScope st) .none kV doc pm an cdv ct),osl⟩)
    (c:PySem.W.codeIn K cdv qual=true) (k:PySem.W.keepIn K (.ref f)=true):Fun K x qual st f (PySem.W.fnOf x qual (defArgs st) (defBody st) (defScope st) .none kV doc pm an cdv ct):=⟨⟨oc,od,kV,doc,pm,an,cdv,ct,osl,rfl,l,c⟩,k⟩
end
theorem small1000 {n:Nat} (h:n<=1000):n < sizeLine:=Nat.lt_of_le_of_lt h (by decide)
section
variable {X:Cx}
theorem pv (i:Nat) {x:Str} {pos:Pos} (hN:X.N[i]?=some x:=by rfl) (hv:Vis X.env.scope x:=by first | exact Or.inl rfl | exact Or.inr (Or.inl rfl) | exact Or.inr (Or.inr rfl)) (hd:(x==("__debug__":Str))=false:=by decide)
    (hcd:(x==("__classdict__":Str))=false:=by decide):PE X (.Name x pos) (tVar i):=pe_var hN hv hd hcd
end
noncomputable def Same (H H':Hp):Prop:=∀ b o,H b=some o->H' b=some o
theorem Same.refl (H:Hp):Same H H:=fun _ _ h=>h
theorem Same.trans {H H1 H2:Hp} (a:Same H H1) (b:Same H1 H2):Same H H2:=fun c o h=>b c o (a c o h)
theorem Same.free {H H':Hp} (e:Same H H') {l:Addr} (h:H' l=Option.none):H l=Option.none:=by
  cases q:H l with
  | none=>rfl
  | some o =>
    rw [e l o q] at h
    cases h
theorem Same.seq {K:PySem.W.Frag} {H H':Hp} {a:Addr} {xs:List V} (e:Same H H') (h:SqL K H a xs):SqL K H' a xs:=by
  rcases h with (h | ⟨o,h⟩) | h
  · exact .inl (.inl (e _ _ h))
  · exact .inl (.inr ⟨o,e _ _ h⟩)
  · exact .inr h
end L2
set_option maxHeartbeats 4000000
namespace L2
open PySem PySem.Spec PyProof.Rows
section
variable {X:Cx} {tg:Expr}
noncomputable def CDivW (_ j:Int):Prop:=0 < j/\j < 18446744073709551616
theorem log2_lt64 {n:Nat} (h:n < 18446744073709551616):n.log2 < 9000:=by
  by_cases h0:n=0
  · subst h0; decide
  · have:n.log2 < 64:=(Nat.log2_lt h0).2 (by simpa using h)
    omega
theorem op_fdivW:OpR X (binaryOp .FloorDiv) (rI CDivW fun i j=>.int (i / j)):=opI fun i j _ _ _ _ _ hc q=>by
  have h1:(0:Int) < j:=hc.1
  have h2:j < 18446744073709551616:=hc.2
  exact floordiv_int (by omega) (by rw [Int.fdiv_eq_ediv_of_nonneg i (by omega)]; exact q) (.inl (PyProof.noPylong_of_log2 (log2_lt64 (by omega))))
noncomputable def rIsT (K:PySem.W.Frag):List V->Hp->VK->Prop:=fun xs H Q=>∃ x T t b,xs=[x,.ty T]/\TyOf K H x t/\PySem.W.kitOne K t (.type T)=some b/\Q (.bl b) H
theorem call_isinst:CallR X (.builtin "isinstance") (rIsT X.K):=by
  intro pins s σ H xs us Q I r h
  obtain ⟨x,T,t,b,e,ty,ek,q⟩:=h
  subst e
  obtain ⟨u,w',rfl,r1,r2⟩:=vals2 r
  obtain rfl:w'=Value.type T:=r2
  exact isinst_ok I r1 ty ek fun tk=>⟨.bl b,H,I.tok tk,rfl,q⟩
theorem boot_rev:bootBuiltins "reversed"=some (.type "reversed"):=by first | rfl | kernel_rfl
inductive IntsE:List Expr->List Int->Prop where
  | nil:IntsE [] []
  | cons {i:Int} {j:Nat} {p:Pos} {r:List Expr} {ns:List Int} (h:IntsE r ns):IntsE (.Constant (.int i) j p::r) (i::ns)
theorem pa_ints {es:List Expr} {ns:List Int} (h:IntsE es ns):PA X es (fun _ H Q=>Q (ns.map V.int) H):=by
  induction h with
  | nil=>exact pa_nil
  | cons h ih=>exact pa_cons pe_int ih
structure JE (X:Cx) (e:Expr) (t:TE):Prop where
  h:PE X e t
structure JS (X:Cx) (st:Stmt) (t:TS):Prop where
  h:PS X st t
structure JSs (X:Cx) (sts:List Stmt) (t:TS):Prop where
  h:PSs X sts t
end
end L2
namespace L2
open PySem PySem.Spec PyProof.Rows
theorem closure_key {env:Env} {f:Str×NameKind->List (Str×Addr)->Sem (ForInStep (List (Str×Addr)))}
    (hf:∀ y acc c,y.2=NameKind.free->env.cells.lookup y.1=some c->f y acc=pure (.yield ((y.1,c)::acc))) (hf':∀ y acc,y.2≠NameKind.free->f y acc=pure (.yield acc)) :
    ∀ (names:List (Str×NameKind)) (acc:List (Str×Addr)),(∀ y∈names,y.2=NameKind.free->∃ c,env.cells.lookup y.1=some c)->(∀ x c,acc.lookup x=some c->env.cells.lookup x=some c) ->
      ∃ cl,forIn names acc f=(pure cl:Sem (List (Str×Addr)))/\(∀ x c,cl.lookup x=some c->env.cells.lookup x=some c)/\(∀ y∈names,y.2=NameKind.free->∃ c,cl.lookup y.1=some c)/\(∀ x c,acc.lookup x=some c->∃ c',cl.lookup x=some c')
  | [],acc,_,ha=>⟨acc,rfl,ha,(fun _ h=>nomatch h),fun x c h=>⟨c,h⟩⟩
  | y::r,acc,hn,ha=>by
    by_cases hy:y.2=NameKind.free
    · obtain ⟨c,hc⟩:=hn y List.mem_cons_self hy
      have ha':∀ x d,((y.1,c)::acc).lookup x=some d->env.cells.lookup x=some d:=fun x d h=>by
        rw [List.lookup_cons] at h
        cases e:x==y.1 with
        | true =>
          rw [e] at h
          have:x=y.1:=by simpa using e
          subst this
          cases h
          exact hc
        | false=>rw [e] at h; exact ha x d h
      obtain ⟨cl,h1,h2,h3,h4⟩:=closure_key hf hf' r _ (fun z hz=>hn z (List.mem_cons_of_mem _ hz)) ha'
      have hyl:∃ c',cl.lookup y.1=some c':=h4 y.1 c (by rw [List.lookup_cons]; simp)
      refine ⟨cl,?_,h2,fun z hz hzf=>?_,fun x d hx=>?_⟩
      · rw [List.forIn_cons,hf y acc c hy hc]
        exact h1
      · rcases List.mem_cons.mp hz with rfl | hz
        · exact hyl
        · exact h3 z hz hzf
      · by_cases e:x=y.1
        · rw [e]; exact hyl
        · have e':(x==y.1)=false:=by simpa using e
          exact h4 x d (by rw [List.lookup_cons,e']; exact hx)
    · obtain ⟨cl,h1,h2,h3,h4⟩:=closure_key hf hf' r acc (fun z hz=>hn z (List.mem_cons_of_mem _ hz)) ha
      refine ⟨cl,?_,h2,fun z hz hzf=>?_,h4⟩
      · rw [List.forIn_cons,hf' y acc hy]
        exact h1
      · rcases List.mem_cons.mp hz with rfl | hz
        · exact absurd hzf hy
        · exact h3 z hz hzf
theorem closure_cells {scope:Scope} {env:Env} (h:∀ y∈scope.names,y.2=NameKind.free->∃ c,env.cells.lookup y.1=some c) :
    ∃ cl,closureFor scope env=pure cl/\(∀ x c,cl.lookup x=some c->env.cells.lookup x=some c)/\(∀ y∈scope.names,y.2=NameKind.free->∃ c,cl.lookup y.1=some c):=by
  obtain ⟨cl,h1,h2,h3,_⟩:=closure_key (env:=env) (f:=fun x cs=>match x with
      | (name,kind)=>if (kind==NameKind.free)=true then do
            let a <- cellOf env name
            pure (ForInStep.yield ((name,a)::cs))
          else pure (ForInStep.yield cs)) (fun y acc c hy hc=>by
        obtain ⟨n,k⟩:=y
        simp only at hy hc
        subst hy
        simp only [beq_self_eq_true,if_true,cellOf,hc]
        rfl) (fun y acc hy=>by
        obtain ⟨n,k⟩:=y
        simp only at hy
        have:(k==NameKind.free)=false:=by simpa using hy
        simp only [this,Bool.false_eq_true,if_false]) scope.names [] h (fun _ _ z=>by simp at z)
  refine ⟨cl,?_,h2,h3⟩
  show (forIn scope.names [] _ >>= fun cs=>pure cs)=pure cl
  exact (congrArg (· >>= fun cs=>(pure cs:Sem (List (Str×Addr)))) h1).trans rfl
theorem lookup_relabel_free {env:Env} (hk:env.scope.kind=.function):∀ {names:List (Str×NameKind)} {x:Str},names.lookup x=some .free->env.kindOf x=some .cell ->
    (names.map fun (n,k)=>if (k==NameKind.free&&env.scope.kind==.function&&env.kindOf n==some .cell) then (n,NameKind.cell) else (n,k)).lookup x=some .cell
  | [],_,h,_=>by simp at h
  | (n,k)::r,x,h,hx=>by
    rw [List.map_cons]
    rw [List.lookup_cons] at h
    cases e:x==n with
    | true =>
      rw [e] at h
      have:x=n:=by simpa using e
      subst this
      cases h
      simp [hk,hx,List.lookup_cons]
    | false =>
      rw [e] at h
      have ih:=lookup_relabel_free hk h hx
      simp only
      split <;> (rw [List.lookup_cons,e]; exact ih)
theorem mem_of_lookup_relabel {env:Env}:∀ {names:List (Str×NameKind)} {x:Str} {k':NameKind},
    (names.map fun (n,k)=>if (k==NameKind.free&&env.scope.kind==.function&&env.kindOf n==some .cell) then (n,NameKind.cell) else (n,k)).lookup x=some k'->k'=.cell\/k'=.free ->
    ∃ k,(x,k)∈names/\(k=.cell\/k=.free)
  | [],_,_,h,_=>by simp at h
  | (n,k)::r,x,k',h,hk=>by
    rw [List.map_cons] at h
    simp only at h
    cases e:x==n with
    | true =>
      have:x=n:=by simpa using e
      subst this
      refine ⟨k,List.mem_cons_self,?_⟩
      split at h
      · rename_i hc
        simp only [Bool.and_eq_true] at hc
        exact .inr (by simpa using hc.1.1)
      · rw [List.lookup_cons,e] at h
        cases h
        exact hk
    | false =>
      have h':(r.map fun (n,k)=>if (k==NameKind.free&&env.scope.kind==.function&&env.kindOf n==some .cell) then (n,NameKind.cell) else (n,k)).lookup x=some k':=by
        split at h <;> (rw [List.lookup_cons,e] at h; exact h)
      obtain ⟨k1,h1,h2⟩:=mem_of_lookup_relabel h' hk
      exact ⟨k1,List.mem_cons_of_mem _ h1,h2⟩
noncomputable def compCx (X:Cx) (Nc:List Str) (scope:Scope) (cl:List (Str×Addr)) (C:Addr) (fp:List Addr) (pins:List (Addr×Obj)) (s₂:Shared) (H₂:Hp):Cx where
  prog:=X.prog
  w:=X.w
  K:=X.K
  mg:=X.mg
  base:=X.base
  A:=X.A
  N:=Nc
  s₀:=s₂
  H₀:=H₂
  env:=compEnvC scope cl C X.env
  outer:=X.stack
  stack:=X.stack
  ex:=fp
  fn:=fun _=>false
  calm:=true
  pn:=X.pn++pins
  xe:=fun _ _=>False
structure CompOk (N0:List Str) (sc0:Scope) (scope:Scope) (Nc:List Str) (js:List (Option Nat)):Prop where
  kind:scope.kind=.function
  nocell:∀ y∈scope.names,y.2≠.cell
  names:∀ y∈scope.names,y.2=.local->scope.names.lookup y.1=some .local
  free:∀ y∈scope.names,y.2=.free->sc0.names.lookup y.1=some .cell
  len:js.length=Nc.length
  slots:∀ p∈Nc.zip js,∀ j∈p.2,N0[j]?=some p.1/\scope.names.lookup p.1=some .free/\sc0.names.lookup p.1=some .cell
noncomputable def outσ (js:List (Option Nat)) (σ:St):St:=js.map fun o=>o.bind fun j=>(σ[j]?).join
section
variable {X:Cx} {pins:List (Addr×Obj)} {σ:St} {H₂:Hp} {s₂:Shared} {fp:List Addr} {Nc:List Str} {scope:Scope} {js:List (Option Nat)} {cl:List (Str×Addr)} {C:Addr}
theorem comp_ok (I:Inv X pins σ H₂ s₂) (hc:X.calm=true) (T:CompOk X.N X.env.scope scope Nc js) (hcl:∀ x c,cl.lookup x=some c->X.env.cells.lookup x=some c) (hfr:∀ y∈scope.names,y.2=.free->∃ c,cl.lookup y.1=some c)
    (hC:s₂.heap.objs.size<=C) (hf:∀ b∈fp,FpOk X pins H₂ b) (ho:∀ b∈fp,∃ o,s₂.heap.get? b=some o):(compCx X Nc scope cl C fp pins s₂ H₂).Ok where
  mod:=I.ok.mod
  kind:=T.kind
  glob:=I.ok.glob
  blt:=I.ok.blt
  above:=hC
  inj:=fun x y c h1 h2=>I.ok.inj x y c (hcl x c h1) (hcl y c h2)
  has:=fun x hx=>by
    have hx':∃ k',(relabel scope X.env).names.lookup x=some k'/\(k'=.cell\/k'=.free):=by
      rcases hx with h | h
      · exact ⟨_,h,.inl rfl⟩
      · exact ⟨_,h,.inr rfl⟩
    obtain ⟨k',h1,h2⟩:=hx'
    obtain ⟨k,h3,h4⟩:=mem_of_lookup_relabel h1 h2
    rcases h4 with rfl | rfl
    · exact absurd rfl (T.nocell _ h3)
    · exact hfr _ h3 rfl
  cab:=fun x c h=>by cases h
  hd:=fun _=>I.ok.hd hc
  frames:=I.ok.frames
  stk:=.inl rfl
  exf:=fun b hb=>by
    obtain ⟨f0,f1,f2,f3,f4,f5⟩:=hf b hb
    obtain ⟨o,e⟩:=ho b hb
    exact ⟨Nat.ne_of_lt (Nat.lt_of_lt_of_le (Heap.lt_size e) hC),fun x c h=>f4 x c (hcl x c h)⟩
  bs:=fun b o e=>I.bs b o e
  bsz:=Nat.le_trans I.ok.bsz I.sz
  noex:=fun b o e hb=>by
    obtain ⟨f0,f1,f2,f3,f4,f5⟩:=hf b hb
    rcases f3 with z | z
    · exact I.ok.noex b o e z
    · exact absurd (Nat.lt_of_lt_of_le (Heap.lt_size (I.ok.bs b o e).1) z) (Nat.lt_irrefl _)
  exfs:=fun b hb z=>by
    obtain ⟨f0,f1,f2,f3,f4,f5⟩:=hf b hb
    rcases List.mem_cons.mp (I.stkSub b z) with q | q
    · exact f1 q
    · exact f2 q
  funs:=I.stack
  frf:=I.stkFree
theorem comp_start (I:Inv X pins σ H₂ s₂) (hc:X.calm=true) (T:CompOk X.N X.env.scope scope Nc js) (hcl:∀ x c,cl.lookup x=some c->X.env.cells.lookup x=some c) (hfr:∀ y∈scope.names,y.2=.free->∃ c,cl.lookup y.1=some c)
    (hf:∀ b∈fp,FpOk X pins H₂ b) (ho:∀ b∈fp,∃ o,s₂.heap.get? b=some o) {h₁:Heap} {m:Str->Option Value} {tk:Nat} {n:Nat} (hC:C=s₂.heap.objs.size+1) (old:∀ b u,s₂.heap.get? b=some u->h₁.get? b=some u)
    (hns:h₁.Ns C m) (hD:h₁.get? s₂.heap.objs.size=some { cls:=.type "list",data:=.seq #[] n }) :
    Inv (compCx X Nc scope cl C fp pins s₂ H₂) [] (outσ js σ) (upd H₂ s₂.heap.objs.size (.lst [])) { s₂ with heap:=h₁,toks:=tk }:=by
  have lt:∀ b o,s₂.heap.get? b=some o->b < s₂.heap.objs.size:=fun b o e=>Heap.lt_size e
  have hle:s₂.heap.objs.size<=C:=by rw [hC]; exact Nat.le_succ _
  have cellc:∀ x c,cl.lookup x=some c->c < s₂.heap.objs.size:=fun x c h=>by
    obtain ⟨v,o,e,_⟩:=I.cell x c (hcl x c h)
    exact lt c o e
  have new:ObjOk X.prog X.w (upd H₂ s₂.heap.objs.size (.lst [])) h₁ s₂.heap.objs.size (.lst []):=⟨Nat.zero_le _,[],n,.nil,hD⟩
  refine ⟨comp_ok I hc T hcl hfr hle hf ho,rfl,I.bare,?_,⟨m,hns,fun i x v e1 e2 e3=>?_⟩,fun x c h=>?_,?_,fun x c h=>?_,fun p hp=>?_,I.hok.laid old (Nat.le_refl _) new,?_⟩
  · exact Un.laid old (Nat.le_refl _) (I.hok.fresh (Nat.le_refl _))
  · have e1:Nc[i]?=some x:=e1
    have e2':∃ j,js[i]?=some (some j)/\σ[j]?=some (some v):=by
      unfold outσ at e2
      rw [List.getElem?_map] at e2
      cases hj:js[i]? with
      | none=>rw [hj] at e2; cases e2
      | some o =>
        rw [hj] at e2
        cases o with
        | none=>cases e2
        | some j =>
          refine ⟨j,rfl,?_⟩
          have e2:(σ[j]?).join=some v:=Option.some.inj e2
          cases hq:σ[j]? with
          | none=>rw [hq] at e2; cases e2
          | some o=>rw [hq] at e2; exact congrArg some e2
    obtain ⟨j,hj,hv⟩:=e2'
    have hz:(x,some j)∈Nc.zip js:=by
      refine List.mem_of_getElem? (i:=i) ?_
      rw [List.getElem?_zip_eq_some]
      exact ⟨e1,hj⟩
    obtain ⟨t1,t2,t3⟩:=T.slots _ hz j rfl
    obtain ⟨m0,hn0,hl0⟩:=I.loc
    obtain ⟨u,ru,lk⟩:=hl0 j x v t1 hv (.inr (.inl t3))
    refine ⟨u,ru,.inr ⟨.inl (lookup_relabel_free I.ok.kind t2 t3),?_⟩⟩
    rcases lk with ⟨k,_⟩ | ⟨_,c,hcc,hcell⟩
    · have k:X.env.scope.names.lookup x=some .local:=k
      rw [t3] at k; cases k
    · have hm:(x,NameKind.free)∈scope.names:=by
        have:∀ (l:List (Str×NameKind)),l.lookup x=some .free->(x,NameKind.free)∈l:=fun l=>by
          induction l with
          | nil=>intro h; simp at h
          | cons y r ih =>
            obtain ⟨n',k'⟩:=y
            intro h
            rw [List.lookup_cons] at h
            cases e:x==n' with
            | true =>
              rw [e] at h
              have:x=n':=by simpa using e
              subst this
              cases h
              exact List.mem_cons_self
            | false=>rw [e] at h; exact List.mem_cons_of_mem _ (ih h)
        exact this _ t2
      obtain ⟨c',hc'⟩:=hfr _ hm rfl
      have hc'':=hcl x c' hc'
      rw [hcc] at hc''
      cases hc''
      obtain ⟨o,ho,hd⟩:=hcell
      exact ⟨c,hc',o,old c o ho,hd⟩
  · obtain ⟨v,o,e,d⟩:=I.cell x c (hcl x c h)
    exact ⟨v,o,old c o e,d⟩
  · show upd H₂ _ _ C=none
    rw [upd_ne (by rw [hC]; exact Nat.ne_of_gt (Nat.lt_succ_self _))]
    exact I.hok.fresh hle
  · show upd H₂ _ _ c=none
    rw [upd_ne (Nat.ne_of_lt (cellc x c h))]
    exact I.freeC x c (hcl x c h)
  · have hp:p∈X.pn++pins:=by
      have hp:p∈(X.pn++pins)++[]:=hp
      rwa [List.append_nil] at hp
    obtain ⟨e,n0,ne,nf,d⟩:=I.pin p hp
    have hlt:=lt _ _ e
    refine ⟨old _ _ e,?_,?_,fun z=>?_,d⟩
    · show upd H₂ _ _ p.1=none
      rw [upd_ne (Nat.ne_of_lt hlt)]; exact n0
    · show p.1≠C
      exact Nat.ne_of_lt (Nat.lt_of_lt_of_le hlt hle)
    · rcases List.mem_cons.mp (I.stkSub _ z) with q | q
      · exact ne q
      · exact nf q
  · show (outσ js σ).length=Nc.length
    unfold outσ
    rw [List.length_map]
    exact T.len
end
end L2
namespace L2
open PySem PySem.Spec PyProof.Rows
noncomputable def tTurns (J:It) (g:TG) (ti:TT) (te:TE) (D:Addr) (σ0:St) (H0:Hp) (Q:Hp->Prop):Prop :=
  ∃ W:Nat->Nat->St->Hp->Prop,(∃ m,W 0 m σ0 H0)/\∀ i m σ' H',W i m σ' H' ->
    (J.stop i H'/\Q H')\/(J.go i H'/\∃ Nn:St->Hp->Prop,(∀ σ'' H'',Nn σ'' H''->∃ m',m' < m/\W (i+1) m' σ'' H'') /\
      ∀ x H'',J.yld i H' x H''->g x σ' H'' fun σ2 H2=>ti σ2 H2 fun ok H3=>if ok=true then te σ2 H3 fun y H4=>∃ ys,H4 D=some (.lst ys)/\ys.length < sizeLine/\Nn σ2 (upd H4 D (.lst (ys++[y]))) else Nn σ2 H3)
noncomputable def tComp (js:List (Option Nat)) (wi:TI) (g:TG) (ti:TT) (te:TE):TE:=fun σ H Q=>wi σ H fun J H1=>∀ D,H1 D=none->tTurns J g ti te D (outσ js σ) (upd H1 D (.lst [])) fun H'=>Q (.ref D) H'
noncomputable def PIf (X:Cx) (ifs:List Expr) (ti:TT):Prop :=
  ∀ (pins:List (Addr×Obj)) (s:Shared) (σ:St) (H:Hp) (Q:Bool->Hp->Prop),Inv X pins σ H s->ti σ H Q ->
    wpAny (model X.prog X.w) X.A (forIn ifs true fun c r=>if r=true then do let ok <- isTrue c X.env (eval c X.env); pure (ForInStep.yield ok) else pure (ForInStep.yield r)) (TP X pins σ Q) X.xe s
noncomputable def tYes:TT:=fun _ H Q=>Q true H
theorem pif_nil {X:Cx}:PIf X [] tYes:=fun _ _ _ H _ I h=>wpAny_tests_nil ⟨H,I,h⟩
theorem pif_one {X:Cx} {c:Expr} {tc:TT} (h:PT X c tc):PIf X [c] tc:=fun pins s σ H Q I hq=>wpAny_tests_one (h pins s σ H Q I hq)
theorem thnE {α:Type} {t:Sem α} {Q Q':α->Shared->Prop} {M:Model} {A:Around} {E0 E:Value->Shared->Prop} {s:Shared} (hE:∀ e s,¬ E0 e s) (h:wpAny M A t Q E0 s) (hQ:∀ a s,Q a s->Q' a s):wpAny M A t Q' E s:=wpAny_mono h hQ fun e s z=>(hE e s z).elim
theorem comp_loop {Y:Cx} {tg iter elt:Expr} {ifs:List Expr} {scope:Scope} {pos:Pos} {J:It} {fp:List Addr} {it:Addr} {tn:Nat->Heap->Prop} {g:TG} {ti:TT} {te:TE} {D:Addr} {R:Result->Shared->Prop} {σ0:St} {H0:Hp} {s:Shared} {Q:Hp->Prop}
    (hc:Y.calm=true) (hx:∀ e s,¬ Y.xe e s) (T:Turn Y.prog Y.w Y.K tg J fp it tn) (hg:PG Y tg g) (hi:PIf Y ifs ti) (he:PE Y elt te)
    (stat:∀ H',(∀ b∈fp,H' b=none)->∀ b∈fp,FpOk Y [] H' b) (I0:Inv Y [] σ0 H0 s) (st0:tn 0 s.heap) (fr0:∀ b∈fp,H0 b=none) (h:tTurns J g ti te D σ0 H0 Q)
    (hR:∀ σ' H' s',Inv Y [] σ' H' s'->Q H'->R (.ok .next) s') :
    codeAny (model Y.prog Y.w) Y.A (.compLoop (.ListComp elt [⟨tg,iter,ifs,0⟩] scope pos) 0 (.ref it) (.ref D) Y.env) R s:=by
  obtain ⟨W,⟨m0,w0⟩,turn⟩:=h
  refine codeAny_loop rfl (fun n s'=>∃ i σ' H',Inv Y [] σ' H' s'/\tn i s'.heap/\(∀ b∈fp,H' b=none)/\W i n σ' H') (fun n s' hI=>?_) m0 ⟨0,σ0,H0,I0,st0,fr0,w0⟩
  show wpAny _ Y.A ((compTurn (.ListComp elt [⟨tg,iter,ifs,0⟩] scope pos) 0 (.ref it) (.ref D) Y.env).onRaise (fun x=>do noteFrame x Y.env; theTreesLotGoes x)) _ _ s'
  refine wpAny_noted ?_
  rw [compTurn_list]
  obtain ⟨i,σ3,H3,I3,st3,fr3,w3⟩:=hI
  refine wpAny_bind (wpAny_standAt (wpAny_bind ?_))
  rcases turn i n σ3 H3 w3 with ⟨stop,qn⟩ | ⟨go,Nn,hN,step⟩
  · refine wpAny_mono (T.done Y rfl rfl rfl hc i [] s' σ3 H3 _ I3 (stat H3 fr3) st3 stop) (fun r s4 ⟨hr,I4⟩=>?_) (fun _ _ h=>h)
    subst hr
    exact wpAny_pure (hR σ3 H3 s4 I4 qn)
  · refine wpAny_mono (T.item Y rfl rfl rfl hc i [] s' σ3 H3 _ I3 (stat H3 fr3) st3 go) (fun r s4 ⟨u,hr,h4⟩=>?_) (fun _ _ h=>h)
    subst hr
    refine wpAny_bind (wpAny_mono h4 (fun _ s5 ⟨x,H5,I5,r5,y5,st5,fr5⟩=>?_) fun _ _ h=>h)
    have I5':=I5.pinned (stat H5 fr5) (T.obj _ _ st5)
    refine wpAny_bind (thnE hx (hg _ s5 σ3 H5 x u _ I5' r5 (step x H5 y5)) fun _ s6 ⟨σ6,H6,I6,q6⟩=>?_)
    refine wpAny_bind (thnE hx (hi _ s6 σ6 H6 _ I6 q6) fun ok s7 ⟨H7,I7,q7⟩=>?_)
    have again:∀ {σ7:St} {H7:Hp} {s7:Shared},Inv Y ([]++pinsAt fp s5.heap) σ7 H7 s7->Nn σ7 H7->∃ m,m < n/\∃ i σ' H',Inv Y [] σ' H' s7/\tn i s7.heap/\(∀ b∈fp,H' b=none)/\W i m σ' H':=fun {σ7 H7 s7} I7 n7=>by
      obtain ⟨m',hm,w7⟩:=hN σ7 H7 n7
      refine ⟨m',hm,i+1,σ7,H7,I7.unpinned,T.keep _ _ _ st5 fun b hb o e=>(I7.pin (b,o) (List.mem_append_right _ (List.mem_append_right _ (mem_pinsAt hb e)))).1,fun b hb=>?_,w7⟩
      obtain ⟨o,e,d⟩:=T.obj _ _ st5 b hb
      exact (I7.pin (b,o) (List.mem_append_right _ (List.mem_append_right _ (mem_pinsAt hb e)))).2.1
    cases ok with
    | false=>exact wpAny_pure ⟨rfl,again I7 q7⟩
    | true =>
      refine wpAny_bind (wpAny_bind (thnE hx (he _ s7 σ6 H7 _ I7 q7) fun y s8 ⟨yv,H8,I8,r8,ys,hD,hz,n8⟩=>wpAny_bind ?_))
      refine thnE hx (mt_append _ s8 σ6 H8 (.ref D) [yv] (.ref D) [y] (fun _ H9=>Nn σ6 H9) I8 rfl (.cons r8 .nil) ⟨D,ys,yv,rfl,rfl,hD,hz,n8⟩) fun _ s9 ⟨_,H9,I9,_,q9⟩=>?_
      exact wpAny_pure (wpAny_pure ⟨rfl,again I9 q9⟩)
section
variable {X:Cx} {tg iter elt:Expr} {ifs:List Expr} {scope:Scope} {pos:Pos} {Nc:List Str} {js:List (Option Nat)} {g:TG} {ti:TT} {te:TE} {wi:TI}
structure CompEnd (X:Cx) (pins:List (Addr×Obj)) (σ:St) (H':Hp) (C:Addr) (s':Shared):Prop where
  inv:Inv X pins σ H' s'
  ns:∃ m,s'.heap.Ns C m
  no:H' C=none
  ne:C≠X.env.locals
  ge:X.s₀.heap.objs.size<=C
  nc:∀ x c,X.env.cells.lookup x=some c->c≠C
  np:∀ p∈X.pn++pins,p.1≠C
theorem CompEnd.go {X:Cx} {pins:List (Addr×Obj)} {σ σ':St} {H':Hp} {C:Addr} {s' t:Shared} (e:CompEnd X pins σ H' C s') (I:Inv X pins σ' H' t) {h':Heap} (hs:Heap.SameBut C t.heap h'):Inv X pins σ' H' { t with heap:=h' } :=
  I.turned (t':=t.toks) (it:=C) (fun b o hb q=>(hs.2 b hb).trans q) e.no e.ne (.inr e.ge) e.nc e.np
theorem comp_block {pins:List (Addr×Obj)} {σ:St} {H₂:Hp} {s₂:Shared} {fp:List Addr} {it:Addr} {J:It} {tn:Nat->Heap->Prop} {cl:List (Str×Addr)} {E:Value->Shared->Prop} {RR:Value->Addr->Result->Shared->Prop} {Q':Addr->Hp->Prop}
    (hc:X.calm=true) (T:CompOk X.N X.env.scope scope Nc js) (hcl:∀ x c,cl.lookup x=some c->X.env.cells.lookup x=some c) (hfr:∀ y∈scope.names,y.2=.free->∃ c,cl.lookup y.1=some c)
    (hg:∀ cl C fp pins s₂ H₂,PG (compCx X Nc scope cl C fp pins s₂ H₂) tg g) (hi:∀ cl C fp pins s₂ H₂,PIf (compCx X Nc scope cl C fp pins s₂ H₂) ifs ti) (he:∀ cl C fp pins s₂ H₂,PE (compCx X Nc scope cl C fp pins s₂ H₂) elt te)
    (I2:Inv X pins σ H₂ s₂) (Tn:Turn X.prog X.w X.K tg J fp it tn) (st2:tn 0 s₂.heap) (f2:∀ b∈fp,FpOk X pins H₂ b)
    (q:∀ D,H₂ D=none->tTurns J g ti te D (outσ js σ) (upd H₂ D (.lst [])) (Q' D))
    (hRR:∀ D C H' s',CompEnd X pins σ H' C s'->Q' D H'->RR (.ref D) C (.ok .next) s') :
    wpAny (model X.prog X.w) X.A (newList []) (fun acc s₃=>wpAny (model X.prog X.w) X.A (newFunctionEnv scope X.env.globals cl [] X.env.qual none .none (some X.env)) (fun cenv s₄ =>
      codeAny (model X.prog X.w) X.A (.compStart (.ListComp elt [⟨tg,iter,ifs,0⟩] scope pos) 0 (.ref it) acc { cenv with scope:=relabel scope X.env }) (RR acc cenv.locals) s₄) E s₃) E s₂:=by
  refine wpAny_newObj_type (wpAny_newFunctionEnv T.nocell (by intro y hy; simp at hy) (fun h₁ hns₁ hsb₁=>?_) T.kind)
  dsimp only at hns₁ hsb₁ ⊢
  generalize hH2:s₂.heap.push { cls:=.type "list",dict:=none,data:=.seq ([]:List Value).toArray }=Hx at hns₁ hsb₁ ⊢
  have hC:Hx.objs.size=s₂.heap.objs.size+1:=by rw [<- hH2,Heap.size_push]
  have below:∀ b,b < s₂.heap.objs.size->b≠Hx.objs.size:=fun b hb=>by rw [hC]; exact Nat.ne_of_lt (Nat.lt_succ_of_lt hb)
  have old:∀ b o,s₂.heap.get? b=some o->h₁.get? b=some o:=fun b o e=>hsb₁.extBut b o (below b (Heap.lt_size e)) (Heap.get?_push_of_some _ (hH2▸Heap.get?_push_of_some _ e))
  have hD:h₁.get? s₂.heap.objs.size=some { cls:=.type "list",data:=.seq #[] }:=hsb₁.extBut _ _ (by rw [hC]; exact Nat.ne_of_lt (Nat.lt_succ_self _)) (Heap.get?_push_of_some _ (hH2▸Heap.get?_push_size _ rfl))
  have ho:∀ b∈fp,∃ o,s₂.heap.get? b=some o:=fun b hb=>let ⟨o,e,_⟩:=Tn.obj _ _ st2 b hb; ⟨o,e⟩
  have hDn:H₂ s₂.heap.objs.size=none:=I2.hok.fresh (Nat.le_refl _)
  have hle:s₂.heap.objs.size<=Hx.objs.size:=by rw [hC]; exact Nat.le_succ _
  have st1:tn 0 h₁:=Tn.keep _ _ _ st2 fun b _ o e=>old b o e
  have fr1:∀ b∈fp,upd H₂ s₂.heap.objs.size (.lst []) b=none:=fun b hb=>by
    obtain ⟨o,e⟩:=ho b hb
    rw [upd_ne (Nat.ne_of_lt (Heap.lt_size e))]
    exact (f2 b hb).1
  have stat:∀ H',(∀ b∈fp,H' b=none)->∀ b∈fp,FpOk (compCx X Nc scope cl Hx.objs.size fp pins s₂ H₂) [] H' b:=fun H' hn b hb=>by
    obtain ⟨g0,g1,g2,g3,g4,g5⟩:=f2 b hb
    obtain ⟨o,e⟩:=ho b hb
    refine ⟨hn b hb,below b (Heap.lt_size e),fun z=>?_,.inl hb,fun x c h=>g4 x c (hcl x c h),fun p hp=>g5 p ?_⟩
    · rcases List.mem_cons.mp (I2.stkSub b z) with y | y
      · exact g1 y
      · exact g2 y
    · have hp:p∈(X.pn++pins)++[]:=hp
      rwa [List.append_nil] at hp
  have loop:∀ tk,codeAny (model X.prog X.w) X.A (.compLoop (.ListComp elt [⟨tg,iter,ifs,0⟩] scope pos) 0 (.ref it) (.ref s₂.heap.objs.size) (compEnvC scope cl Hx.objs.size X.env)) (RR (.ref s₂.heap.objs.size) Hx.objs.size) { s₂ with heap:=h₁,toks:=tk }:=fun tk=>by
    refine comp_loop (Y:=compCx X Nc scope cl Hx.objs.size fp pins s₂ H₂) rfl (fun _ _ z=>z) Tn (hg _ _ _ _ _ _) (hi _ _ _ _ _ _) (he _ _ _ _ _ _) stat
      (comp_start (tk:=tk) I2 hc T hcl hfr f2 ho hC old hns₁ hD) st1 fr1 (q _ hDn) fun σ' H' s' I' qQ=>?_
    obtain ⟨m,hm,_⟩:=I'.loc
    refine hRR _ _ H' s' ⟨?_,⟨m,hm⟩,I'.free,Nat.ne_of_gt (Nat.lt_of_lt_of_le I2.lt hle),Nat.le_trans I2.sz hle,fun x c h=>?_,fun p hp=>?_⟩ qQ
    · exact I2.call' (ch:=fp) I'.os I'.base I'.hok I'.bare fun b hb=>let ⟨g0,g1,g2,g3,g4,g5⟩:=f2 b hb; ⟨g3,g1,g4,g5⟩
    · obtain ⟨v,o,e,_⟩:=I2.cell x c h
      exact below c (Heap.lt_size e)
    · exact below _ (Heap.lt_size (I2.pin p hp).1)
  exact codeAny_compStart_list (loop _) (Tn.self _ _ _ _ _ st1 (loop _))
theorem pe_comp (hc:X.calm=true) (T:CompOk X.N X.env.scope scope Nc js) (hit:PI X tg iter wi)
    (hg:∀ cl C fp pins s₂ H₂,PG (compCx X Nc scope cl C fp pins s₂ H₂) tg g) (hi:∀ cl C fp pins s₂ H₂,PIf (compCx X Nc scope cl C fp pins s₂ H₂) ifs ti) (he:∀ cl C fp pins s₂ H₂,PE (compCx X Nc scope cl C fp pins s₂ H₂) elt te)
    (hs:∀ x,foldedSetIterable iter X.env x=pure x:=by intro _; rfl):PE X (.ListComp elt [⟨tg,iter,ifs,0⟩] scope pos) (tComp js wi g ti te):=by
  intro pins s σ H Q I h
  rw [eval_ListComp]
  obtain ⟨cl,hcl0,hcl,hfr⟩:=closure_cells (scope:=scope) (env:=X.env) (fun y hy hf=>I.ok.has y.1 (.inl (T.free y hy hf)))
  refine wpAny_comprehension_free (use:=none) rfl hs hcl0 T.kind T.names (thn (hit pins s σ H _ I h) fun xv s1 h1=>thn h1 fun itv s2 h2=>?_)
  obtain ⟨it,fp,tn,J,H2,e,I2,Tn,st2,f2,q⟩:=h2
  subst e
  refine comp_block (RR:=fun acc C=>compPost (model X.prog X.w) X.A X.xe none (EP X pins σ Q) acc C) hc T hcl hfr hg hi he I2 Tn st2 f2 q fun D C H' s' ce qD=>?_
  obtain ⟨m,hm⟩:=ce.ns
  exact ⟨m,hm,fun h' hs'=>⟨.ref D,H',ce.go ce.inv hs',rfl,qD⟩⟩
theorem ps_comp {i:Nat} {y:Str} {py spos:Pos} (hN:X.N.Nodup) (hyi:X.N[i]?=some y) (hy:X.env.scope.names.lookup y=some .local) (hc:X.calm=true) (T:CompOk X.N X.env.scope scope Nc js) (hit:PI X tg iter wi)
    (hg:∀ cl C fp pins s₂ H₂,PG (compCx X Nc scope cl C fp pins s₂ H₂) tg g) (hi:∀ cl C fp pins s₂ H₂,PIf (compCx X Nc scope cl C fp pins s₂ H₂) ifs ti) (he:∀ cl C fp pins s₂ H₂,PE (compCx X Nc scope cl C fp pins s₂ H₂) elt te)
    (hsw:swapsWith (.ListComp elt [⟨tg,iter,ifs,0⟩] scope pos) (some (.Name y py)) spos.line X.env=pure true:=by rfl)
    (hs:∀ x,foldedSetIterable iter X.env x=pure x:=by intro _; rfl):PS X (.Assign [.Name y py] (.ListComp elt [⟨tg,iter,ifs,0⟩] scope pos) spos) (tAsg (tComp js wi g ti te) (gName i)):=by
  intro pins s σ H D0 I h
  rw [exec_Assign_Name_used _ _ _ _ hsw]
  obtain ⟨cl,hcl0,hcl,hfr⟩:=closure_cells (scope:=scope) (env:=X.env) (fun y hy hf=>I.ok.has y.1 (.inl (T.free y hy hf)))
  refine wpAny_bind (wpAny_standAt (wpAny_bind ?_))
  show wpAny _ X.A (do let _ <- comprehension (.ListComp elt [⟨tg,iter,ifs,0⟩] scope pos) scope X.env _ (newList []) false (eval iter X.env) (some (assign (.Name y py) X.env))) _ _ s
  refine wpAny_bind (wpAny_mono (wpAny_comprehension_free (use:=some (assign (.Name y py) X.env)) (Q:=fun _ s'=>SP X pins D0 .next s') rfl hs hcl0 T.kind T.names
    (thn (hit pins s σ H _ I h) fun xv s1 h1=>thn h1 fun itv s2 h2=>?_)) (fun _ s' hq=>wpAny_pure (wpAny_pure hq)) fun _ _ e=>e)
  obtain ⟨it,fp,tn,J,H2,e,I2,Tn,st2,f2,q⟩:=h2
  subst e
  refine comp_block (RR:=fun acc C=>compPost (model X.prog X.w) X.A X.xe (some (assign (.Name y py) X.env)) (fun _ s'=>SP X pins D0 .next s') acc C) hc T hcl hfr hg hi he I2 Tn st2 f2 q fun D C H' s' ce qD=>?_
  obtain ⟨m,hm⟩:=ce.ns
  show wpAny _ _ (assign (.Name y py) X.env (.ref D)) _ _ _
  refine wpAny_assign_Name (store_ok2 (v:=.ref D) ce.inv hN hyi (.inl hy) rfl (fun s'' I'' ⟨a,sb,ha⟩=>?_) (.inr hy))
  have hCa:C≠a:=by
    rcases ha with rfl | ha
    · exact ce.ne
    · exact fun z=>ce.nc y a ha z.symm
  exact ⟨m,hm.sameBut sb hCa,fun h' hs'=>⟨_,H',ce.go I'' hs',qD⟩⟩
end
end L2
namespace L2
open PySem PySem.Spec PyProof.Rows
noncomputable def compOkB (N0:List Str) (sc0 scope:Scope) (Nc:List Str) (js:List (Option Nat)):Bool :=
  decide (scope.kind=.function)&&scope.names.all (fun y=>y.2 != .cell)&&scope.names.all (fun y=>y.2 != .local || scope.names.lookup y.1==some .local)&&scope.names.all (fun y=>y.2 != .free || sc0.names.lookup y.1==some .cell) &&
    (js.length==Nc.length)&&(Nc.zip js).all (fun p=>match p.2 with | none=>true | some j=>N0[j]?==some p.1&&scope.names.lookup p.1==some .free&&sc0.names.lookup p.1==some .cell)
theorem CompOk.of {N0:List Str} {sc0 scope:Scope} {Nc:List Str} {js:List (Option Nat)} (h:compOkB N0 sc0 scope Nc js=true):CompOk N0 sc0 scope Nc js:=by
  unfold compOkB at h
  simp only [Bool.and_eq_true,List.all_eq_true,beq_iff_eq,decide_eq_true_eq] at h
  obtain ⟨⟨⟨⟨⟨h1,h2⟩,h3⟩,h4⟩,h5⟩,h6⟩:=h
  refine ⟨h1,fun y hy=>by simpa using h2 y hy,fun y hy e=>?_,fun y hy e=>?_,h5,fun p hp j hj=>?_⟩
  · have:=h3 y hy
    simpa [e] using this
  · have:=h4 y hy
    simpa [e] using this
  · have:=h6 p hp
    have hj:p.2=some j:=hj
    rw [hj] at this
    simpa [and_assoc] using this
section
variable {g:TG} {ti:TT} {te:TE} {D:Addr} {σ0:St} {H0:Hp} {Q:Hp->Prop}
end
section
variable {X:Cx} {a b:Expr} {rest:List Expr} {ta tb:TE} {pos:Pos} {tg:Expr}
theorem range_reversed_meets (r:Addr) (a b c:Int) (t u v:Tok)
    (hc0:¬ (!(Builtin.Range.rangeFitsLong a&&Builtin.Range.rangeFitsLong b&&Builtin.Range.rangeFitsLong c&&Builtin.Range.rangeFitsLong (-c)&&Builtin.Range.rangeFitsLong (a - c)&&Builtin.Range.rangeFitsLong (Builtin.Range.rangeSize a b c)))=true) :
    Meets (Builtin.«range.__reversed__» ⟨[.ref r],[]⟩) (fun _ R s=>s.heap.get? r=some { cls:=.type "range",dict:=none,data:=.fields #[.int a t,.int b u,.int c v],slots:=#[] } /\
      R (.ok (.ret (Value.ref s.heap.objs.size))) { s with heap:=s.heap.push { cls:=Value.type "range_iterator",data:=Data.fields #[rawInt (a+(Builtin.Range.rangeSize a b c - 1)*c),rawInt (Builtin.Range.rangeSize a b c),rawInt (-c)] },toks:=s.toks }) :=
  .of_wp fun prog w A R s h=>by
    obtain ⟨hp,g,d,tk,os⟩:=s
    obtain ⟨hl,h⟩:=h
    have e:(Builtin.Range.rangeFitsLong a&&Builtin.Range.rangeFitsLong b&&Builtin.Range.rangeFitsLong c&&Builtin.Range.rangeFitsLong (-c)&&Builtin.Range.rangeFitsLong (a - c)&&Builtin.Range.rangeFitsLong (Builtin.Range.rangeSize a b c))=true:=by
      cases z:(Builtin.Range.rangeFitsLong a&&Builtin.Range.rangeFitsLong b&&Builtin.Range.rangeFitsLong c&&Builtin.Range.rangeFitsLong (-c)&&Builtin.Range.rangeFitsLong (a - c)&&Builtin.Range.rangeFitsLong (Builtin.Range.rangeSize a b c)) with
      | true=>rfl
      | false=>rw [z] at hc0; exact absurd rfl hc0
    wp_walk
    simp only [e,if_true]
    exact ⟨_,rfl,h⟩
end
end L2
namespace L2
open PySem PySem.Spec PyProof.Rows
theorem sub_ri_reversed:isSubtype (.type "range_iterator") (.type "reversed")=pure false:=by rw [isSubtype_type]; kernel_rfl
section
variable {prog:Program} {w:World} {A:Around} {E:Value->Shared->Prop} {s:Shared}
theorem fits62 {a:Int} (h1 : -(2 ^ 62)<=a) (h2:a < 2 ^ 62):Builtin.Range.rangeFitsLong a=true:=by
  unfold Builtin.Range.rangeFitsLong
  simp only [Bool.and_eq_true,decide_eq_true_eq]
  omega
theorem size_0 {n:Int} (h0:0<=n):Builtin.Range.rangeSize 0 n 1=n:=by
  unfold Builtin.Range.rangeSize
  rw [if_pos (by decide)]
  split
  · omega
  · omega
theorem call_range_reversed {r:Addr} {n:Int} {t u v:Tok} {Q:Value->Shared->Prop} (hl:s.heap.get? r=some { cls:=.type "range",data:=.fields #[.int 0 t,.int n u,.int 1 v] }) (h0:0<=n) (h1:n < 2 ^ 62)
    (h:Q (.ref s.heap.objs.size) { s with heap:=s.heap.push { cls:=.type "range_iterator",data:=.fields #[rawInt (n - 1),rawInt n,rawInt (-1)] } }):wpAny (model prog w) A (call (.builtin "range.__reversed__") [.ref r]) Q E s:=by
  have hT:s.TypeIs (.ref r) "range":=⟨_,hl,rfl⟩
  have hf:(Builtin.Range.rangeFitsLong 0&&Builtin.Range.rangeFitsLong n&&Builtin.Range.rangeFitsLong 1&&Builtin.Range.rangeFitsLong (-1)&&Builtin.Range.rangeFitsLong (0 - 1)&&Builtin.Range.rangeFitsLong (Builtin.Range.rangeSize 0 n 1))=true:=by
    rw [size_0 h0,fits62 (a:=0) (by decide) (by decide),fits62 (a:=n) (by omega) h1,fits62 (a:=1) (by decide) (by decide),fits62 (a := -1) (by decide) (by decide),fits62 (a:=0 - 1) (by decide) (by decide)]
    all_goals rfl
  refine call_meets F.slot_range_reversed hT F.entry_range_reversed (F.args_range_reversed_1 _) (range_reversed_meets r 0 n 1 t u v (by rw [hf]; simp)) ⟨hl,?_⟩
  rw [size_0 h0,show (0:Int)+(n - 1)*1=n - 1 by omega]
  exact h
theorem code_reversed_newR {r:Addr} {n:Int} {t u v:Tok} {Q₁:Value->Shared->Prop} (hl:s.heap.get? r=some { cls:=.type "range",data:=.fields #[.int 0 t,.int n u,.int 1 v] }) (h0:0<=n) (h1:n < 2 ^ 62)
    (h:Q₁ (.ref s.heap.objs.size) { s with heap:=s.heap.push { cls:=.type "range_iterator",data:=.fields #[rawInt (n - 1),rawInt n,rawInt (-1)] } }) :
    codeAny (model prog w) A (.call (.builtin "reversed.__new__") ⟨[.type "reversed",.ref r],[]⟩) (wants Q₁ E) s:=by
  have hT:s.TypeIs (.ref r) "range":=⟨_,hl,rfl⟩
  refine codeAny_of_tree ?_
  show wpAny _ A.in1 (do checkBuiltinCall "reversed.__new__" ⟨[.type "reversed",.ref r],[]⟩; again (.builtin "reversed.__new__" ⟨[.type "reversed",.ref r],[]⟩)) _ _ s
  refine wpAny_bind (wpAny_of_eq (F.newCall_reversed_1 _) (wpAny_pure ⟨plainId_quiet F.plain_reversed_new _,codeAny_builtin F.entry_reversed_new ?_⟩))
  rw [Around.under_plainId F.plain_reversed_new _]
  unfold Builtin.«reversed.__new__»
  refine wpAny_bind (wpAny_of_eq (newClass_reversed _) ?_)
  try dsimp only
  refine wpAny_bind (wpAny_of_eq (a:=()) (by first | rfl | kernel_rfl) ?_)
  refine wpAny_bind (wpAny_of_eq (a:=()) (by first | rfl | kernel_rfl) ?_)
  try dsimp only
  refine wpAny_bind (wpAny_specialOf hT F.slot_range_reversed.lookup ?_)
  try dsimp only
  refine wpAny_bind (wpAny_of_eq (F.slot_range_reversed.bind _) ?_)
  try dsimp only
  first
  | rw [if_neg (show ¬ ((Value.builtin "range.__reversed__"==Value.none)=true) from Bool.false_ne_true)]
  | (show wpAny _ _ (if (Value.builtin "range.__reversed__"==Value.none)=true then _ else _) _ _ _; rw [if_neg (show ¬ ((Value.builtin "range.__reversed__"==Value.none)=true) from Bool.false_ne_true)])
  refine wpAny_bind (wpAny_rule ?_)
  refine wpAny_bind (m:=runValue (.call (.builtin "range.__reversed__") ⟨[.ref r],[]⟩)) (show wpAny _ _ (call (.builtin "range.__reversed__") [.ref r]) _ _ _ from call_range_reversed hl h0 h1 ?_)
  first
  | exact wpAny_pure h
  | exact wpAny_bind (wpAny_pure (wpAny_pure h))
theorem call_reversed_range {r:Addr} {n:Int} {t u v:Tok} {Q:Value->Shared->Prop} (hl:s.heap.get? r=some { cls:=.type "range",data:=.fields #[.int 0 t,.int n u,.int 1 v] }) (h0:0<=n) (h1:n < 2 ^ 62)
    (h:Q (.ref s.heap.objs.size) { s with heap:=s.heap.push { cls:=.type "range_iterator",data:=.fields #[rawInt (n - 1),rawInt n,rawInt (-1)] } }):wpAny (model prog w) A (call (.type "reversed") [.ref r]) Q E s:=by
  refine callType_other (U:="range_iterator") (Q₁:=fun obj s₁=>obj=.ref s.heap.objs.size/\s₁={ s with heap:=s.heap.push { cls:=.type "range_iterator",data:=.fields #[rawInt (n - 1),rawInt n,rawInt (-1)] } }) (by decide +kernel) F.create_reversed ⟨_,_,F.mro_reversed⟩ F.made_reversed sub_ri_reversed (F.typeCall_reversed_1 _) (code_reversed_newR hl h0 h1 ⟨rfl,rfl⟩) ?_
  rintro obj s₁ ⟨rfl,rfl⟩
  exact ⟨⟨_,Heap.get?_push_size _ rfl,rfl⟩,h⟩
end
section
variable {X:Cx} {tg:Expr}
theorem call_range1:CallR X (.type "range") (fun xs H Q=>∃ j,xs=[.int j]/\∀ p,H p=none->Q (.ref p) (upd H p (.rng 0 j))):=by
  intro pins s σ H xs us Q I r h
  obtain ⟨j,e,q⟩:=h
  subst e
  obtain ⟨u,rfl,r1⟩:=vals1 r
  obtain ⟨t,rfl⟩:=r1
  refine call_range_1 ⟨.ref s.heap.objs.size,upd H s.heap.objs.size (.rng 0 j),?_,rfl,q _ (I.hok.fresh (Nat.le_refl _))⟩
  exact I.laid (fun b u e=>Heap.get?_push_of_some _ e) (Nat.le_refl _) ⟨_,_,_,Heap.get?_push_size _ rfl⟩
noncomputable def Itd (n:Nat):It:=⟨fun i _=>i < n,fun i H x H'=>H'=H/\x=.int ((n:Int) - 1 - i),fun i _=>n<=i⟩
theorem turn_down {P:Program} {w:World} {K:PySem.W.Frag} {tg:Expr} (it:Addr) (n:Nat):Turn P w K tg (Itd n) [it] it (fun i h=>IsRangeIter h it ((n:Int) - 1+(i:Nat)*(-1)) ((n:Int) - (i:Nat)) (-1)) where
  mem:=by simp
  obj:=fun i h st b hb=>by
    have e:b=it:=by simpa using hb
    subst e
    exact ⟨_,st,fun v z=>by
      have z':Data.fields _=Data.cell v:=z
      cases z'⟩
  keep:=fun i h h' st k=>k it (by simp) _ st
  item:=by
    intro X hP hw hK hc i pins s σ H E I hf st hg
    subst hP hw hK
    obtain ⟨f0,f1,f2,f3,f4,f5⟩:=hf it (by simp)
    have W:=Walks.range (prog:=X.prog) (w:=X.w) (I.ok.hd hc) it ((n:Int) - 1) (-1) n
    refine W.item i s _ _ hg st fun v h' tk hv st' kk=>?_
    obtain ⟨t,rfl⟩:=hv
    have I1:Inv X pins σ H { s with heap:=h',toks:=tk }:=I.turned (fun b o hb e=>kk b o (by simpa using hb) e) f0 f1 f3 f4 f5
    refine ⟨_,rfl,go_of (s:={ s with heap:=h',toks:=tk }) (n:="range_iterator") st' rfl rfl (by decide) ⟨.int ((n:Int) - 1 - i),H,I1,⟨t,?_⟩,⟨rfl,rfl⟩,st',fun b hb=>(hf b hb).1⟩⟩
    rw [show (n:Int) - 1+(i:Int) * -1=(n:Int) - 1 - i by omega]
  done:=by
    intro X hP hw hK hc i pins s σ H E I hf st hg
    subst hP hw hK
    obtain ⟨f0,f1,f2,f3,f4,f5⟩:=hf it (by simp)
    exact wpAny_pyNext_range_end (I.ok.hd hc) st (by have:n<=i:=hg; omega) fun h' eb=>⟨rfl,I.turned (t':=s.toks) (fun b o hb e=>eb b o hb e) f0 f1 f3 f4 f5⟩
  self:=fun _ _ _ _ _ st h=>wpAny_pyIter_rangeiter st h
noncomputable def iRevR (ta:TA):TI:=fun σ H R=>ta σ H fun vs H1=>∃ a j,vs=[.ref a]/\H1 a=some (.rng 0 j)/\0<=j/\j < 2 ^ 62/\R (Itd j.toNat) H1
theorem pi_revR {a:Expr} {ta:TA} {p pos:Pos} (hg:Gl X "reversed") (hm:X.mg "reversed"=none) (ha:PA X [a] ta) (hs:starEach [a] X.env=[(false,eval a X.env)]:=by rfl):PI X tg (.Call (.Name "reversed" p) [a] [] pos) (iRevR ta):=by
  intro pins s σ H R I h
  refine Call_ (ld_blt I hg hm boot_rev (PyProof.Rows.callWith_type1 (thn (ha pos pins s σ H _ I h) fun us s1 ⟨vs,H1,I1,r1,q1⟩=>?_) hs rfl))
  obtain ⟨b,j,e,hq,j0,j1,q⟩:=q1
  subst e
  cases r1 with
  | cons r rr =>
    cases rr
    cases r
    obtain ⟨t,u,v,ho⟩:=(show ObjOk X.prog X.w H1 s1.heap b (.rng 0 j) from I1.hok b _ hq)
    have I2:Inv X pins σ H1 { s1 with heap:=s1.heap.push { cls:=.type "range_iterator",data:=.fields #[rawInt (j - 1),rawInt j,rawInt (-1)] } }:=I1.kept (t':=s1.toks) fun b o e=>Heap.get?_push_of_some _ e
    refine call_reversed_range ho j0 j1 (wpAny_pyIter_rangeiter (Heap.get?_push_size _ rfl) ?_)
    refine ⟨s1.heap.objs.size,[s1.heap.objs.size],_,_,H1,rfl,I2,turn_down _ j.toNat,?_,fun c hb=>?_,q⟩
    · show IsRangeIter _ _ (((j.toNat:Nat):Int) - 1+((0:Nat):Int)*(-1)) (((j.toNat:Nat):Int) - ((0:Nat):Int)) (-1)
      rw [show ((j.toNat:Nat):Int) - 1+((0:Nat):Int)*(-1)=j - 1 by omega,show ((j.toNat:Nat):Int) - ((0:Nat):Int)=j by omega]
      exact Heap.get?_push_size _ rfl
    · have e:c=s1.heap.objs.size:=by simpa using hb
      subst e
      exact I1.fpOk (Nat.le_refl _) (I1.hok.fresh (Nat.le_refl _))
end
end L2
namespace L2
open PySem PySem.Spec PyProof.Rows
section
variable {X:Cx} {st:Stmt} {rest:List Stmt} {t u:TS}
end
theorem bt_int:bootBuiltins "int"=some (.type "int"):=by decide +kernel
theorem bt_bool:bootBuiltins "bool"=some (.type "bool"):=by decide +kernel
theorem bt_isinstance:bootBuiltins "isinstance"=some (.builtin "isinstance"):=by decide +kernel
theorem bt_max:bootBuiltins "max"=some (.builtin "max"):=by decide +kernel
theorem bt_min:bootBuiltins "min"=some (.builtin "min"):=by decide +kernel
theorem bt_tuple:bootBuiltins "tuple"=some (.type "tuple"):=by decide +kernel
theorem bt_list:bootBuiltins "list"=some (.type "list"):=by decide +kernel
theorem bt_zip:bootBuiltins "zip"=some (.type "zip"):=by decide +kernel
end L2
namespace L2
open PySem
noncomputable def Scr (K:PySem.W.Frag) (H:Hp) (a:Addr) (xs:List V):Prop:=(∃ o,H a=some (.frz o (.lst xs)))\/∀ H',SqL K H' a xs
theorem Scr.sq {K:PySem.W.Frag} {H:Hp} {a:Addr} {xs:List V} (h:Scr K H a xs):SqL K H a xs:=by
  rcases h with ⟨o,h⟩ | h
  · exact .inl (.inr ⟨o,h⟩)
  · exact h H
theorem Scr.of {K:PySem.W.Frag} {H:Hp} {a:Addr} {xs:List V} (hO:Only H) (h:SqL K H a xs):Scr K H a xs:=by
  rcases h with (h | ⟨o,h⟩) | h
  · rcases hO a with z | ⟨o,ys,z⟩
    · rw [h] at z; cases z
    · rw [h] at z; cases z
  · exact .inl ⟨o,h⟩
  · exact .inr fun _=>.inr h
noncomputable def SB (l:Addr) (H H':Hp):Prop:=∀ x o,x≠l->H x=some o->H' x=some o
theorem Scr.sb {K:PySem.W.Frag} {H H':Hp} {a l:Addr} {xs ys:List V} (h:Scr K H a xs) (hl:H l=some (.lst ys)) (s:SB l H H'):Scr K H' a xs:=by
  rcases h with ⟨o,h⟩ | h
  · exact .inl ⟨o,s _ _ (ne_of h hl (by intro z; cases z)) h⟩
  · exact .inr h
theorem Scr.same {K:PySem.W.Frag} {H H':Hp} {a:Addr} {xs:List V} (h:Scr K H a xs) (s:Same H H'):Scr K H' a xs:=by
  rcases h with ⟨o,h⟩ | h
  · exact .inl ⟨o,s _ _ h⟩
  · exact .inr h
theorem SB.trans {l:Addr} {H H1 H2:Hp} (s:SB l H H1) (t:SB l H1 H2):SB l H H2:=fun x u n e=>t x u n (s x u n e)
open PySem.Spec PyProof.Rows
section
variable {X:Cx}
theorem bt_all:bootBuiltins "all"=some (.builtin "all"):=by decide +kernel
end
end L2
namespace Com
open PySem L2
structure IW (n k high low past now:Int):Prop where
  h0:0<=high
  hb:high<=1000000
  l0:0<=low
  lb:low<=1000000
  g:Int.gcd high low=Int.gcd n (k % n)
  d1:n ∣ k*past - high
  d2:n ∣ k*now - low
structure PV (n k e told square left:Int):Prop where
  t0:0<=told
  t1:told < n
  s0:0<=square
  s1:square < n
  l0:0<=left
  eq:told*square ^ left.toNat % n=k ^ e.toNat % n
noncomputable def bitsN:List Int->Nat
  | []=>0
  | b::r=>b.toNat+2*bitsN r
structure DG (e0 e:Int) (ds:List Int):Prop where
  nn:0<=e
  bit:∀ d∈ds,d=0\/d=1
  len:∃ m:Nat,e.toNat < 2 ^ m/\ds.length+m=62
  val:∀ r,bitsN r=e.toNat->bitsN (ds++r)=e0.toNat
noncomputable def BoxAt (H:Hp) (b:Addr):Prop:=∃ c s t:Int,H b=some (.lst [.int c,.int s,.int t])
noncomputable def Keep (b:Addr) (H H':Hp):Prop:=(∀ a o,a≠b->H a=some o->H' a=some o)/\BoxAt H' b
theorem Keep.trans {b:Addr} {H H1 H2:Hp} (x:Keep b H H1) (y:Keep b H1 H2):Keep b H H2:=⟨fun a o n e=>y.1 a o n (x.1 a o n e),y.2⟩
theorem Keep.same {b:Addr} {H H1 H2:Hp} (x:Keep b H H1) (y:Same H1 H2):Keep b H H2:=⟨fun a o n e=>y a o (x.1 a o n e),by obtain ⟨c,s,t,h⟩:=x.2; exact ⟨c,s,t,y _ _ h⟩⟩
theorem small {n:Nat} (h:n<=1000):n<=sizeLine:=Nat.le_of_lt (small1000 h)
end Com
namespace L2
open PySem PySem.Spec PyProof.Rows
section
variable {X:Cx} {K:PySem.W.Frag}
end
end L2
namespace L2
open PySem PySem.Spec PyProof.Rows
section
variable {P:Program} {W:World} {Ar:Around} {Ex:Value->Shared->Prop} {hp:Heap} {gn:Array GenState} {dr:Drawn} {tk:Nat} {oz:OsState}
variable {nm qn:Str} {C N:Addr} {bs bm bmB:List Value} {hdct:Bool} {sn:List Str} {sub:List Value} {ab:Bool} {col:Option Bool} {dd:Option Addr} {k0 k1 k2 k3 k5:Option Value} {B newId initId:String}
theorem tyCall_initT (F:ExcBaseFacts B newId initId bmB) (T:OwnTail hp bmB bm) {mN:Str->Option Value} {rs:List Value} {fI:Addr} {oI:Obj} {Q:Fin->Shared->Prop}
    (hC:hp.get? C=some (excClassObj nm qn C N bs bm hdct sn sub ab col dd k0 k1 k2 k3 k5 newId)) (nsN:hp.Ns N mN) (iN:mN "__init__"=some (.ref fI)) (gI:hp.get? fI=some oI) (cI:oI.cls=.type "function")
    (go:∀ h' e,Heap.MadeExcOf hp h' e (.ref C) rs->wpAny (model P W) Ar (call (.ref fI) (.ref e::rs)) (fun r s'=>r=.none/\Q (.done (.ret (.ref e))) s') Ex ⟨h',gn,dr,tk,oz⟩) (few:rs.length<=sizeLine:=by size_fits) :
    wpAny (model P W) Ar (Builtin.«type.__call__» ⟨.ref C::rs,[]⟩) Q Ex ⟨hp,gn,dr,tk,oz⟩:=by
  repeat (first | with_reducible refine wpAny_loadPart_at hC ?_ | with_reducible refine wpAny_madeBy_exc hC ?_ | wp_step)
  refine codeAny_call_builtin_code (Code.quiet_builtin _ F.quiet) (wpAny_check_new_subT F T hC (codeAny_exc_new_subT F T hC ?_ few))
  show wpAny _ _ _ _ _ _
  generalize eO1:({ cls:=.type "tuple",data:=.seq rs.toArray }:Obj)=O1
  generalize eO2:({ cls:=.ref C,data:=.fields #[.ref hp.objs.size,.none,.none,.none,.bool false,.none] }:Obj)=O2
  have keep:∀ b o,hp.get? b=some o->((hp.push O1).push O2).get? b=some o:=fun b o e=>Heap.get?_push_of_some _ (Heap.get?_push_of_some _ e)
  have at2:((hp.push O1).push O2).get? (hp.objs.size+1)=some O2:=by subst eO1 eO2; heap_get
  have own:(Value.ref C::bm).contains (.ref C)=true:=by simp
  have C1:=keep _ _ hC
  unfold isInstance
  have c2:O2.cls=.ref C:=by subst eO2; rfl
  repeat (first | (with_reducible refine wpAny_loadPart_at at2 ?_; rw [c2]) | (with_reducible refine wpAny_isSubtype_exc C1 ?_; rw [own]) | wp_step)
  refine wpAny_typeLookup_tail C1 (nsN.keeps keep) (T.keeps keep) F.mroIs F.init.lookup ?_
  rw [iN]
  unfold bindSpecial
  refine wpAny_holding (wpAny_bind (wpAny_bind (wpAny_typeOf (T:="function") ⟨_,keep _ _ gI,cI⟩ ?_)))
  rw [if_pos (by decide)]
  have made:Heap.MadeExcOf hp ((hp.push O1).push O2) (hp.objs.size+1) (.ref C) rs :=
    ⟨keep,Heap.get?_none_of_le (Nat.le_succ _),hp.objs.size,by rw [at2,<- eO2],Heap.get?_none_of_le (Nat.le_refl _),by subst eO1; exact Heap.get?_push_of_some _ (Heap.get?_push_at rfl rfl)⟩
  refine wpAny_pure (wpAny_bind (wpAny_mono (go _ _ made) (fun r s' z=>?_) fun _ _ x=>x))
  obtain ⟨rfl,z⟩:=z
  wp_walk
  exact z
theorem call_initT (F:ExcBaseFacts B newId initId bmB) (T:OwnTail hp bmB bm) {mN:Str->Option Value} {rs:List Value} {fI:Addr} {oI:Obj} {Q:Value->Shared->Prop}
    (hC:hp.get? C=some (excClassObj nm qn C N bs bm hdct sn sub ab col dd k0 k1 k2 k3 k5 newId)) (nsN:hp.Ns N mN) (iN:mN "__init__"=some (.ref fI)) (gI:hp.get? fI=some oI) (cI:oI.cls=.type "function")
    (go:∀ h' e,Heap.MadeExcOf hp h' e (.ref C) rs->wpAny (model P W) (Ar.under (.builtin "type.__call__" ⟨.ref C::rs,[]⟩)) (call (.ref fI) (.ref e::rs)) (fun r s'=>r=.none/\Q (.ref e) s') Ex ⟨h',gn,dr,tk,oz⟩) (few:rs.length<=sizeLine:=by size_fits) :
    wpAny (model P W) Ar (call (.ref C) rs) Q Ex ⟨hp,gn,dr,tk,oz⟩:=by
  have f1:=tc_lookup
  have f2:=tc_bind (.ref C)
  have ty:(⟨hp,gn,dr,tk,oz⟩:Shared).TypeIs (.ref C) "type":=⟨_,hC,rfl⟩
  refine wpAny_call (codeAny_of_tree (show wpAny _ _ (callAny (.ref C) _) _ _ _ from ?_))
  repeat (any_goals (first | assumption | with_reducible refine wpAny_loadPart_at hC ?_ | wp_step))
  exact ⟨rfl,codeAny_call_builtin_at (Code.quiet_builtin _ (by decide +kernel)) entry_typeCall (wpAny_check_type_call_sub hC (tyCall_initT (few:=few) F T hC nsN iN gI cI go))⟩
end
end L2
namespace L2
open PySem PySem.Spec PyProof.Rows
noncomputable def XRec (P:Addr->Prop) (H:Hp) (h:Heap) (e C:Addr) (d:Option Addr):Prop :=
  ∃ vs sl,h.get? e=some ⟨.ref C,d,.fields vs,sl⟩/\1 < vs.size /\
    (vs[1]?=some .none\/∃ T cT dT ts sT,vs[1]?=some (.ref T)/\P T/\H T=none/\h.get? T=some ⟨cT,dT,.fields ts,sT⟩/\3 < ts.size)
theorem XRec.imp {P P':Addr->Prop} {H:Hp} {h:Heap} {e C:Addr} {d:Option Addr} (x:XRec P H h e C d) (i:∀ T,P T->P' T):XRec P' H h e C d:=by
  obtain ⟨vs,sl,h1,h2,h3 | ⟨T,cT,dT,ts,sT,a1,a2,a3⟩⟩:=x
  · exact ⟨vs,sl,h1,h2,.inl h3⟩
  · exact ⟨vs,sl,h1,h2,.inr ⟨T,cT,dT,ts,sT,a1,i T a2,a3⟩⟩
section
variable {M:Model} {A A':Around} {E:Value->Shared->Prop} {s:Shared} {env:Env} {outer:List Env} {base:Heap} {L e C:Addr} {d:Option Addr} {H:Hp} {P:Addr->Prop} {Q:Unit->Shared->Prop}
theorem upd_fields {h:Heap} {a:Addr} {c:Value} {d:Option Addr} {vs:Array Value} {sl:Array (Option Value)} {i:Nat} {x:Value} (ha:h.get? a=some ⟨c,d,.fields vs,sl⟩) :
    (h.update a (Obj.mapFields (·.setIfInBounds i x))).get? a=some ⟨c,d,.fields (vs.setIfInBounds i x),sl⟩:=Heap.get?_update_self _ ha rfl
theorem upd_keep {h:Heap} {a b:Addr} {f:Obj->Obj} (n:b≠a):(h.update a f).get? b=h.get? b:=Heap.get?_update_other _ _ (Ne.symm n)
theorem flight_new {vs:Array Value} {sl:Array (Option Value)} {head:Value} {hb:Bool} (hfr:A.frames=some (env::outer)) (hl:s.heap.FunFrames base (env::outer)) (hf:env.frame=some L)
    (he:s.heap.get? e=some ⟨.ref C,d,.fields vs,sl⟩) (hz:1 < vs.size) (hP:∀ T,s.heap.objs.size<=T->P T) (hN:∀ T,s.heap.objs.size<=T->H T=none)
    (hQ:∀ h',(∀ b o,b≠e->b∉frs (env::outer)->s.heap.get? b=some o->h'.get? b=some o)->(∀ b o,b∈frs (env::outer)->s.heap.get? b=some o->∃ sl,h'.get? b=some { o with slots:=sl }) ->
      XRec P H h' e C d->Q () { s with heap:=h' }) :
    wpAny M A (do let a <- frameOf env; let pl <- entryPlaceOf L hb; let t <- EntryCells.newEntry head a .none (rawInt L) .none pl; setField (.ref e) 1 t) (fun _ s₂=>wpAny M A' (setFlight (.ref e) none) Q E s₂) E s:=by
  have nfr:e∉frs (env::outer):=fun z=>by
    obtain ⟨_,o,q,n⟩:=hl.mem z
    rw [he] at q; cases q; exact n vs rfl
  refine wpAny_bind (wpAny_frameOf_fun hfr hl hf fun h1 so=>?_)
  refine wpAny_bind (wpAny_entryPlaceOf fun pl isp=>wpAny_bind ?_)
  unfold EntryCells.newEntry newFields
  refine wpAny_newObj_type ?_ (isp.sizeOk5 _ _ _ _ _)
  generalize eT:([head,Value.ref L,.none,rawInt L,.none]++(if pl.isEmpty then List.replicate 6 Value.none else pl)).toArray=tv
  have hsz:3 < tv.size:=by rw [<- eT]; simp only [List.size_toArray,List.length_append,List.length_cons]; omega
  have e1:h1.get? e=some ⟨.ref C,d,.fields vs,sl⟩:=(so.2.1 e nfr).trans he
  have ne:e≠h1.objs.size:=Nat.ne_of_lt (Heap.lt_size e1)
  generalize eo:({ cls:=.type "traceback",dict:=none,data:=.fields tv }:Obj)=oT
  have e2:(h1.push oT).get? e=some ⟨.ref C,d,.fields vs,sl⟩:=Heap.get?_push_of_some _ e1
  refine wpAny_setField e2 rfl hz ?_
  have e3:=upd_fields (i:=1) (x:=.ref h1.objs.size) e2
  have t3:((h1.push oT).update e (Obj.mapFields (·.setIfInBounds 1 (.ref h1.objs.size)))).get? h1.objs.size=some ⟨.type "traceback",none,.fields tv,#[]⟩:=by
    rw [upd_keep (Ne.symm ne),<- eo]; exact Heap.get?_push_size h1 rfl
  unfold setFlight
  refine wpAny_bind (wpAny_field e3 rfl (x:=.ref h1.objs.size) (by simp [hz]) ?_)
  rw [if_pos (by simp)]
  refine wpAny_setField t3 rfl hsz (hQ _ (fun b o nb nf q=>?_) (fun b o bf q=>?_) ?_)
  · have q1:=(so.2.1 b nf).trans q
    rw [upd_keep (Nat.ne_of_lt (Heap.lt_size q1)),upd_keep nb]
    exact Heap.get?_push_of_some _ q1
  · obtain ⟨sl',q1⟩:=so.2.2 b o q
    have nb:b≠e:=fun z=>nfr (z▸bf)
    exact ⟨sl',by rw [upd_keep (Nat.ne_of_lt (Heap.lt_size q1)),upd_keep nb]; exact Heap.get?_push_of_some _ q1⟩
  · refine ⟨_,sl,by rw [upd_keep ne]; exact e3,by simpa using hz,.inr ⟨h1.objs.size,_,_,_,_,by simp [hz],hP _ (by rw [so.1]; exact Nat.le_refl _),hN _ (by rw [so.1]; exact Nat.le_refl _),upd_fields t3,?_⟩⟩
    simp [hsz]
theorem flight (hfr:A.frames=some (env::outer)) (hl:s.heap.FunFrames base (env::outer)) (hf:env.frame=some L) (x:XRec P H s.heap e C d) (he:H e≠none)
    (hP:∀ T,s.heap.objs.size<=T->P T) (hN:∀ T,s.heap.objs.size<=T->H T=none)
    (hQ:∀ (h':Heap) (ch:List Addr),(∀ b∈ch,P b/\H b=none/\b∉frs (env::outer))->(∀ b o,b≠e->b∉frs (env::outer)->b∉ch->s.heap.get? b=some o->h'.get? b=some o)->(∀ b o,b∈frs (env::outer)->s.heap.get? b=some o->∃ sl,h'.get? b=some { o with slots:=sl }) ->
      (∀ b o,s.heap.get? b=some o->∃ o',h'.get? b=some o')->XRec P H h' e C d->Q () { s with heap:=h' }) :
    wpAny M A (noteFrame (.ref e) env) (fun _ s₂=>wpAny M A' (setFlight (.ref e) none) Q E s₂) E s:=by
  obtain ⟨vs,sl,h1,h2,h3 | ⟨T,cT,dT,ts,sT,a1,a2,a3,a4,a5⟩⟩:=x
  · unfold noteFrame
    simp only [hf]
    refine wpAny_bind (wpAny_field h1 rfl h3 ?_)
    rw [if_neg (by decide)]
    refine flight_new (P:=P) (H:=H) hfr hl hf h1 h2 hP hN fun h' k1 k2 r=>hQ h' [] (fun _ z=>nomatch z) (fun b o n nf _ q=>k1 b o n nf q) k2 (fun b o q=>?_) r
    by_cases hb:b∈frs (env::outer)
    · obtain ⟨sl,q⟩:=k2 b o hb q; exact ⟨_,q⟩
    · by_cases hbe:b=e
      · subst hbe; obtain ⟨_,_,r,_⟩:=r; exact ⟨_,r⟩
      · exact ⟨_,k1 b o hbe hb q⟩
  · have ne:e≠T:=fun z=>he (z▸a3)
    have nfr:T∉frs (env::outer):=fun z=>by
      obtain ⟨_,o,q,n⟩:=hl.mem z
      rw [a4] at q; cases q; exact n ts rfl
    unfold noteFrame
    simp only [hf]
    refine wpAny_bind (wpAny_field h1 rfl a1 ?_)
    rw [if_pos (show (Value.ref T != Value.none)=true by simp)]
    refine wpAny_bind (wpAny_field a4 rfl (Array.getElem?_eq_getElem a5) ?_)
    by_cases here:(ts[3]==rawInt L)=true
    · rw [if_pos here]
      refine wpAny_pure ?_
      unfold setFlight
      refine wpAny_bind (wpAny_field h1 rfl a1 ?_)
      rw [if_pos (show (Value.ref T != Value.none)=true by simp)]
      refine wpAny_setField a4 rfl a5 (hQ _ [T] (fun b hb=>?_) (fun b o _ _ nb q=>(upd_keep fun z=>nb (by simp [z])).trans q) (fun b o hb q=>⟨o.slots,(upd_keep (a:=T) (fun (z:b=T)=>nfr (z▸hb))).trans q⟩) (fun b o q=>?_) ⟨vs,sl,(upd_keep ne).trans h1,h2,.inr ⟨T,cT,dT,_,sT,a1,a2,a3,upd_fields a4,by simpa using a5⟩⟩)
      · rw [List.mem_singleton] at hb; subst hb; exact ⟨a2,a3,nfr⟩
      · by_cases z:b=T
        · subst z; exact ⟨_,upd_fields a4⟩
        · exact ⟨o,(upd_keep z).trans q⟩
    rw [if_neg here]
    refine wpAny_bind (wpAny_setField a4 rfl a5 ?_)
    have hsz:(s.heap.update T (Obj.mapFields (·.setIfInBounds 3 Value.none))).objs.size=s.heap.objs.size:=Heap.size_after_update ..
    refine flight_new (P:=P) (H:=H) hfr (hl.of_keeps fun b o q n=>⟨o,(upd_keep fun z=>?_).trans q,rfl⟩) hf ((upd_keep ne).trans h1) h2 (fun U hU=>hP U (by rw [<- hsz]; exact hU)) (fun U hU=>hN U (by rw [<- hsz]; exact hU)) fun h' k1 k2 r=>hQ h' [T] (fun b hb=>?_) (fun b o n nf nc q=>k1 b o n nf ((upd_keep fun z=>nc (by simp [z])).trans q)) (fun b o bf q=>k2 b o bf ((upd_keep (a:=T) (fun (z:b=T)=>nfr (z▸bf))).trans q)) (fun b o q=>?_) r
    · subst z; rw [a4] at q; cases q; exact n ts rfl
    · rw [List.mem_singleton] at hb; subst hb; exact ⟨a2,a3,nfr⟩
    · have:∃ o1,(s.heap.update T (Obj.mapFields (·.setIfInBounds 3 Value.none))).get? b=some o1:=by
        by_cases z:b=T
        · subst z; exact ⟨_,upd_fields a4⟩
        · exact ⟨o,(upd_keep z).trans q⟩
      obtain ⟨o1,q⟩:=this
      by_cases hb:b∈frs (env::outer)
      · obtain ⟨sl,q⟩:=k2 b o1 hb q; exact ⟨_,q⟩
      · by_cases hbe:b=e
        · subst hbe; obtain ⟨_,_,r,_⟩:=r; exact ⟨_,r⟩
        · exact ⟨_,k1 b o1 hbe hb q⟩
theorem rest_again (x:XRec P H s.heap e C d) (he:H e≠none) 
    (hQ:∀ (h':Heap) (ch:List Addr),(∀ b∈ch,P b/\H b=none)->(∀ b o,b∉ch->s.heap.get? b=some o->h'.get? b=some o)->(∀ b o,s.heap.get? b=some o->∃ o',h'.get? b=some o')->XRec P H h' e C d->Q () { s with heap:=h' }) :
    wpAny M A (setFlight (.ref e) none) Q E s:=by
  obtain ⟨vs,sl,h1,h2,h3 | ⟨T,cT,dT,ts,sT,a1,a2,a3,a4,a5⟩⟩:=x
  · unfold setFlight
    refine wpAny_bind (wpAny_field h1 rfl h3 ?_)
    rw [if_neg (by decide)]
    exact wpAny_pure (hQ s.heap [] (fun _ z=>nomatch z) (fun _ _ _ q=>q) (fun b o q=>⟨o,q⟩) ⟨vs,sl,h1,h2,.inl h3⟩)
  · have ne:e≠T:=fun z=>he (z▸a3)
    have hz3:=a5
    unfold setFlight
    refine wpAny_bind (wpAny_field h1 rfl a1 ?_)
    rw [if_pos (show (Value.ref T != Value.none)=true by simp)]
    refine wpAny_setField a4 rfl hz3 (hQ _ [T] (fun b hb=>?_) (fun b o nb q=>(upd_keep fun z=>nb (by simp [z])).trans q) (fun b o q=>?_) ⟨vs,sl,(upd_keep ne).trans h1,h2,.inr ⟨T,cT,dT,_,sT,a1,a2,a3,upd_fields a4,?_⟩⟩)
    · rw [List.mem_singleton] at hb; subst hb; exact ⟨a2,a3⟩
    · by_cases z:b=T
      · subst z; exact ⟨_,upd_fields a4⟩
      · exact ⟨o,(upd_keep z).trans q⟩
    · simp [hz3]
end
end L2
namespace L2
open PySem PySem.Spec PyProof.Rows
noncomputable def XO (e C:Addr) (d:Option Addr):HO:=.ext fun h=>∃ vs sl,h.get? e=some ⟨.ref C,d,.fields vs,sl⟩
theorem XO.ok {P:Program} {w:World} {H:Hp} {h:Heap} {e C:Addr} {d:Option Addr} {vs:Array Value} {sl:Array (Option Value)} (q:h.get? e=some ⟨.ref C,d,.fields vs,sl⟩):ObjOk P w H h e (XO e C d) :=
  ⟨⟨vs,sl,q⟩,⟨_,q⟩,fun h1 h2 ⟨vs,sl,z⟩ k=>⟨vs,sl,k _ z⟩⟩
theorem XO.at {P:Program} {w:World} {H:Hp} {h:Heap} {e C:Addr} {d:Option Addr} (x:HOk P w H h) (q:H e=some (XO e C d)):∃ vs sl,h.get? e=some ⟨.ref C,d,.fields vs,sl⟩:=(x e _ q).1
noncomputable def Free (X:Cx) (pins:List (Addr×Obj)) (T:Addr):Prop:=X.s₀.heap.objs.size<=T/\T≠X.env.locals/\(∀ x c,X.env.cells.lookup x=some c->c≠T)/\∀ p∈X.pn++pins,p.1≠T
section
variable {X:Cx} {pins:List (Addr×Obj)} {σ:List (Option V)} {H H':Hp} {s s':Shared} {e C:Addr} {d:Option Addr} {M:Model} {A A':Around} {E:Value->Shared->Prop} {Q:Unit->Shared->Prop}
theorem Inv.freeNew (I:Inv X pins σ H s) {T:Addr} (h:s.heap.objs.size<=T):Free X pins T:=by
  refine ⟨Nat.le_trans I.sz h,Nat.ne_of_gt (Nat.lt_of_lt_of_le I.lt h),fun x c q=>?_,fun p hp=>?_⟩
  · obtain ⟨v,o,ho,_⟩:=I.cell x c q
    exact Nat.ne_of_lt (Nat.lt_of_lt_of_le (Heap.lt_size ho) h)
  · exact Nat.ne_of_lt (Nat.lt_of_lt_of_le (Heap.lt_size (I.pin p hp).1) h)
theorem Inv.moved {h':Heap} {ch:List Addr} (I:Inv X pins σ H s) (he:H e=some (XO e C d)) (hst:X.stack=X.env::X.outer) (hfm:X.env.frame=some X.env.locals)
    (hc:∀ b∈ch,Free X pins b/\H b=none) (k1:∀ b o,b≠e->b∉frs (X.env::X.outer)->b∉ch->s.heap.get? b=some o->h'.get? b=some o)
    (k2:∀ b o,b∈frs (X.env::X.outer)->s.heap.get? b=some o->∃ sl,h'.get? b=some { o with slots:=sl }) (k3:∀ b o,s.heap.get? b=some o->∃ o',h'.get? b=some o')
    {vs:Array Value} {sl:Array (Option Value)} (new:h'.get? e=some ⟨.ref C,d,.fields vs,sl⟩):Inv X pins σ H { s with heap:=h' }:=by
  have hfr:∀ b,b∈frs (X.env::X.outer) ↔ b=X.env.locals\/b∈X.fs:=fun b=>by
    unfold frs; rw [List.filterMap_cons,hfm]; exact List.mem_cons
  have ne:∀ b,H b=none->b≠e:=fun b n z=>by subst z; rw [he] at n; cases n
  have hsf:=I.stkFree
  rw [hst] at hsf
  refine I.step (g':=s.gens) (d':=s.drawn) (t':=s.toks) (ch:=ch) (fun b hb=>⟨.inr (hc b hb).1.1,(hc b hb).1.2⟩) (fun b o nL nf nc q n=>k1 b o (ne b n) (fun z=>((hfr b).mp z).elim nL nf) nc q)
    (fun b o nL bf nc q n=>k2 b o ((hfr b).mpr (.inr bf)) q) (fun _ _ _ _ n=>n) (fun b o _ q=>k3 b o q) (fun _ _ q=>q) (fun _ _ _ q=>q) (fun b ps q=>⟨#[],by rw [q]; simp⟩) (fun m hm=>?_) (fun a o q=>?_) I.bare
  · obtain ⟨o,es,ep,ho,r⟩:=hm
    obtain ⟨sl,q⟩:=k2 _ o ((hfr _).mpr (.inl rfl)) ho
    exact ⟨_,es,ep,q,r⟩
  · by_cases ha:a=e
    · subst ha; rw [he] at q; cases q; exact XO.ok new
    · refine (I.hok a o q).stay (fun b u hb q'=>k1 b u ?_ ?_ ?_ q') (fun _ z=>z) fun _ _ z=>z
      · rcases hb with rfl | hb
        · exact ha
        · rintro rfl; rw [he] at hb; cases hb
      · intro z
        have n:=hsf b z
        rcases hb with rfl | hb
        · rw [q] at n; cases n
        · rw [hb] at n; cases n
      · intro z
        have n:=(hc b z).2
        rcases hb with rfl | hb
        · rw [q] at n; cases n
        · rw [hb] at n; cases n
theorem Inv.flight (I:Inv X pins σ H s) (hst:X.stack=X.env::X.outer) (hfm:X.env.frame=some X.env.locals) (hA:A.frames=some X.stack) (x:XRec (Free X pins) H s.heap e C d) (he:H e=some (XO e C d))
    (hQ:∀ h',Inv X pins σ H { s with heap:=h' }->XRec (Free X pins) H h' e C d->Q () { s with heap:=h' }) :
    wpAny M A (noteFrame (.ref e) X.env) (fun _ s₂=>wpAny M A' (setFlight (.ref e) none) Q E s₂) E s:=by
  have hl:=I.stack
  rw [hst] at hl hA
  refine L2.flight hA hl hfm x (by rw [he]; simp) (fun T hT=>I.freeNew hT) (fun T hT=>I.hok.fresh hT) fun h' ch hc k1 k2 k3 r=>?_
  obtain ⟨vs,sl,q,_⟩:=id r
  exact hQ h' (I.moved he hst hfm (fun b hb=>⟨(hc b hb).1,(hc b hb).2.1⟩) k1 k2 k3 q) r
theorem Inv.again (I:Inv X pins σ H s) (hst:X.stack=X.env::X.outer) (hfm:X.env.frame=some X.env.locals) (x:XRec (Free X pins) H s.heap e C d) (he:H e=some (XO e C d))
    (hQ:∀ h',Inv X pins σ H { s with heap:=h' }->XRec (Free X pins) H h' e C d->Q () { s with heap:=h' }) :
    wpAny M A (setFlight (.ref e) none) Q E s:=by
  refine rest_again x (by rw [he]; simp) fun h' ch hc k1 k3 r=>?_
  obtain ⟨vs,sl,q,_⟩:=id r
  have k2:∀ b o,b∈frs (X.env::X.outer)->s.heap.get? b=some o->∃ sl,h'.get? b=some { o with slots:=sl }:=fun b o hb q=>by
    refine ⟨o.slots,k1 b o (fun z=>?_) q⟩
    have hl:=I.stack
    rw [hst] at hl
    rcases List.mem_cons.mp (show b∈X.env.locals::X.fs by unfold frs at hb; rw [List.filterMap_cons,hfm] at hb; exact hb) with rfl | hb'
    · exact (hc _ z).1.2.1 rfl
    · obtain ⟨_,o',ho',_⟩:=I.ok.funs.mem hb'
      exact absurd (Heap.lt_size ho') (Nat.not_lt.mpr (hc b z).1.1)
  exact hQ h' (I.moved he hst hfm hc (fun b o _ _ nc q=>k1 b o nc q) k2 k3 q) r
end
noncomputable def CX1 (P:Program) (w:World):CXT:=fun outer H s E ev s'=>∃ a H' C d,ev=.ref a/\s'.os=s.os/\AllBare s'.gens/\Un (frs outer) [] H H' s.heap s'.heap/\HOk P w H' s'.heap /\
  XRec (fun T=>s.heap.objs.size<=T) H' s'.heap a C d/\H' a=some (XO a C d)/\E (.ref a) none H'
noncomputable def XE (X:Cx) (pins:List (Addr×Obj)) (σ:List (Option V)) (R:Addr->Hp->Prop) (ev:Value) (s':Shared):Prop :=
  ∃ a H' C d,ev=.ref a/\Inv X pins σ H' s'/\XRec (Free X pins) H' s'.heap a C d/\H' a=some (XO a C d)/\R a H'
structure Xz (X:Cx) (R:Addr->Hp->Prop):Prop where
  go:∀ pins σ ev s',XE X pins σ R ev s'->X.xe ev s'
theorem XE.imp {X:Cx} {pins:List (Addr×Obj)} {σ:List (Option V)} {R R':Addr->Hp->Prop} {ev:Value} {s':Shared} (x:XE X pins σ R ev s') (h:∀ a H,R a H->R' a H):XE X pins σ R' ev s' :=
  let ⟨a,H',C,d,x1,x2,x3,x4,x5⟩:=x
  ⟨a,H',C,d,x1,x2,x3,x4,h _ _ x5⟩
theorem XE.call {X:Cx} {pins:List (Addr×Obj)} {σ:List (Option V)} {H:Hp} {s:Shared} {E:XK} {ev:Value} {s':Shared} (I:Inv X pins σ H s) (h:CX1 X.prog X.w X.stack H s E ev s'):XE X pins σ (fun a H'=>E (.ref a) none H') ev s':=by
  obtain ⟨a,H',C,d,rfl,os,ba,un,hok,x,he,q⟩:=h
  exact ⟨a,H',C,d,rfl,I.call' os un hok ba (fun b z=>nomatch z),x.imp fun T hT=>I.freeNew hT,he,q⟩
theorem xz_never {X:Cx} {R:Addr->Hp->Prop} (h:∀ a H,¬ R a H):Xz X R:=⟨fun _ _ _ _ ⟨_,_,_,_,_,_,_,_,q⟩=>(h _ _ q).elim⟩
theorem xz_cx {P:Program} {w:World} {K:PySem.W.Frag} {mg:Str->Option Value} {base:Heap} {N:List Str} {qual:Str} {scope:Scope} {f:Addr} {cd:Value} {A:Around} {outer:List Env} {s:Shared} {H:Hp} {E:XK} :
    Xz (cxOf (CX1 P w) P w K mg base N qual scope f cd A outer s H E) (fun a H'=>E (.ref a) none H'):=by
  refine ⟨fun pins σ ev s' ⟨a,H',C,d,e1,I,x,he,q⟩=>?_⟩
  subst e1
  refine wpAny_bind (I.flight rfl rfl I.ok.frames x he fun h' I' x'=>?_)
  exact ⟨a,H',C,d,rfl,I'.os,I'.bare,I'.base,I'.hok,x'.imp fun T hT=>hT.1,he,q⟩
theorem passes_of {X:Cx} {P:Program} {w:World} {E:XK} (hP:X.prog=P) (hw:X.w=w) (z:Xz X (fun a H'=>E (.ref a) none H')):Passes (CX1 P w) X E:=fun pins σ H s e s' I h=>by
  subst hP hw
  exact z.go pins σ e s' (XE.call I h)
end L2
namespace L2
open PySem PySem.Spec PySem.W PySem.Calls PyProof.Rows Builtin Builtin.ObjectAttr
noncomputable abbrev vb:List Value:=[.type "ValueError",.type "Exception",.type "BaseException",.type "object"]
section
variable {prog:Program} {w:World} {A:Around} {E:Value->Shared->Prop} {s:Shared} {K:Frag} {x C LE:Addr} {vs:Array Value} {sl:Array (Option Value)} {cd:ClassData} {name:Str} {v:Value}
theorem mro_looks {M:Model} {h:Heap} (X:K.In h) (hc:clsIn K C=some cd) (hm:cd.mro=.ref C::.ref LE::vb) (b:Value):Looks M h (isSubtype (.ref C) b) ((Value.ref C::.ref LE::vb).contains b):=by
  refine looks_mroIn X ?_
  unfold mroIn
  rw [hc,Option.bind_some,hm]
  rfl
theorem xset {Q:Unit->Shared->Prop} (X:K.In s.heap) (hx:s.heap.get? x=some ⟨.ref C,none,.fields vs,sl⟩) (hc:clsIn K C=some cd) (hm:cd.mro=.ref C::.ref LE::vb) (hd:cd.hasDict=true)
    (hs:findIn K (.ref C) "__setattr__"=some (some (.builtin "object.__setattr__"))) (hn:findIn K (.ref C) name=some none)
    (hq:∀ h' tk',h'.get? x=some ⟨.ref C,some s.heap.objs.size,.fields vs,sl⟩->h'.Ns1 s.heap.objs.size (fun y=>if y=name then some v else none)->(∀ b o,b≠x->s.heap.get? b=some o->h'.get? b=some o) ->
      Q () { s with heap:=h',toks:=tk' }):wpAny (model prog w) A (setAttr (.ref x) name v) Q E s:=by
  obtain ⟨hp,gn,dr,tk,oz⟩:=s
  dsimp only at X hx hq
  have I:InstAt hp x ⟨.ref C,none,.fields vs,sl⟩ C none:=⟨hx,rfl,rfl,trivial⟩
  have SF:=PySem.F.store_object
  have hsub:Looks (model prog w) hp (isInstance (.ref x) (.type "object")) true:=I.type.andThen (mro_looks X hc hm _)
  refine set_plain X I hs (codeAny_call_builtin SF.slot.plain SF.entry (@check_slot (model prog w) _ _ ⟨hp,gn,dr,tk+1,oz⟩ "object.__setattr__" "object" "__setattr__" (.ref x) [.str name tk,v] [] _ SF.kind SF.split hsub (SF.args (.ref x) (.str name tk) v) ?_))
  have hmro:Looks (model prog w) hp (mroOf (.ref C)) (.ref C::.ref LE::vb):=hm▸(looks_clsIn X hc).andThen .now
  rw [osa_eq,refuse_eq]
  refine wpAny_bind (wpAny_bind (I.type.at (wpAny_bind (hmro.at ?_))))
  rw [refuseLoop_ref,refuseLoop_ref,PySem.F.store_ValueError.passes (.ref x)]
  refine wpAny_pure (wpAny_bind (I.type.at (wpAny_bind ((looks_findIn X hn).at (wpAny_bind (wpAny_pure ?_))))))
  show wpAny _ _ (storeInOwnDict (.ref x) (.ref C) (.str name tk) name v false) _ _ _
  unfold storeInOwnDict ownDictForStores instanceDict
  refine wpAny_bind (wpAny_pure ?_)
  refine wpAny_bind (wpAny_bind (wpAny_loadPart hx ?_))
  dsimp only
  refine wpAny_bind ((looks_clsIn X hc).at ?_)
  rw [hd]
  simp only [Bool.not_true,Bool.false_eq_true,if_false,Bool.false_or,typeHasDict]
  have hne:x≠hp.objs.size:=Nat.ne_of_lt (Heap.lt_size hx)
  refine wpAny_bind (wpAny_alloc' (wpAny_bind (wpAny_update' (Heap.get?_push_of_some _ hx) (wpAny_bind (wpAny_pure (wpAny_pure ?_))))))
  generalize eh:(hp.push { cls:=Value.type "dict",data:=Data.dict #[] }).update x (fun o=>{ o with dict:=some hp.objs.size })=h1
  have hd1:h1.get? hp.objs.size=some { cls:=.type "dict",data:=.dict #[] }:=by
    rw [<- eh,upd_keep (Ne.symm hne)]; exact Heap.get?_push_at rfl rfl
  have hx1:h1.get? x=some ⟨.ref C,some hp.objs.size,.fields vs,sl⟩:=by
    rw [<- eh]; exact Heap.get?_update_self _ (Heap.get?_push_of_some _ hx) rfl
  have k1:∀ b o,b≠x->hp.get? b=some o->h1.get? b=some o:=fun b o nb q=>by
    rw [<- eh,upd_keep nb]; exact Heap.get?_push_of_some _ q
  have n1:h1.Ns1 hp.objs.size (fun _=>none):=Heap.Ns1.of_empty ⟨_,#[],_,hd1,rfl,fun e he=>absurd he (by simp),fun _=>rfl⟩
  show wpAny _ _ (storeInDict hp.objs.size (.str name tk) name v) _ _ _
  unfold storeInDict newKeyGuard
  refine wpAny_bind (wpAny_pure (wpAny_bind (wpAny_nsSet1 n1 fun h2 n2 same=>?_)))
  obtain ⟨oD,es,ep,q1,q2,q3⟩:=n2.count (Within.cons name v Within.nil)
  refine wpAny_bind (wpAny_lookBehind q1 (by rw [q2]; exact pastItsLine_dict (Nat.le_trans q3 (by rw [List.length_cons,List.length_nil,sizeLine_eq]; omega))) ?_)
  refine wpAny_pure (hq h2 _ ((same.2 x hne).trans hx1) n2 fun b o nb q=>(same.2 b (Nat.ne_of_lt (Heap.lt_size q))).trans (k1 b o nb q))
end
end L2
namespace L2
open PySem PySem.Spec PySem.W PySem.Calls PyProof.Rows Builtin Builtin.ObjectAttr
section
variable {prog:Program} {w:World} {A:Around} {E:Value->Shared->Prop} {s:Shared} {K:Frag} {x C LE dx:Addr} {vs:Array Value} {sl:Array (Option Value)} {cd:ClassData} {name:Str} {v:Value} {mA:Str->Option Value}
theorem bga_kind:builtinKind "BaseException.__getattribute__"=some .slot:=by decide +kernel
theorem bga_split:splitId "BaseException.__getattribute__"=some ("BaseException","__getattribute__"):=by decide +kernel
theorem xget {expr:Bool} {Q:Value->Shared->Prop} (X:K.In s.heap) (hx:s.heap.get? x=some ⟨.ref C,some dx,.fields vs,sl⟩) (n:s.heap.Ns1 dx mA) (hc:clsIn K C=some cd) (hm:cd.mro=.ref C::.ref LE::vb) (hd:hasDictIn K C=true)
    (hg:findIn K (.ref C) "__getattribute__"=some (some (.builtin "BaseException.__getattribute__"))) (hh:findIn K (.ref C) "__getattr__"=some none) (hn:findIn K (.ref C) name=some none) (hv:mA name=some v) (hv':handedIn v=true)
    (hq:Q v { s with toks:=s.toks+1 }):wpAny (model prog w) A (getAttr (.ref x) name expr) Q E s:=by
  obtain ⟨hp,gn,dr,tk,oz⟩:=s
  dsimp only at X hx n hq
  obtain ⟨od,ho,hl⟩:=lookIn_ns n
  have I:InstAt hp x ⟨.ref C,some dx,.fields vs,sl⟩ C (some od):=⟨hx,rfl,rfl,ho⟩
  have hf:findObj K C (some od) name=some (.value v):=findObj_own hd hn rfl (by rw [hl,hv])
  have GA:=PySem.F.attr_ValueError.ga
  have hsub:Looks (model prog w) hp (isInstance (.ref x) (.type "BaseException")) true:=I.type.andThen (mro_looks X hc hm _)
  unfold getAttr getAttrBy
  refine wpAny_bind (wpAny_mkText (wpAny_holding (wpAny_bind (I.type.at (wpAny_bind ((looks_findIn X hg).at ?_))))))
  dsimp only
  rw [show (onTheHeap (Value.ref C)&&Value.builtin "BaseException.__getattribute__"==Value.builtin "object.__getattribute__")=false from by rw [show (Value.builtin "BaseException.__getattribute__"==Value.builtin "object.__getattribute__")=false from by decide +kernel,Bool.and_false],if_neg (by decide)]
  unfold getAttrByItsOwn
  have hk:Looks (model prog w) hp (hookBefore (.ref C)) none:=looks_hook X (by rw [if_pos (show onTheHeap (Value.ref C)=true from rfl)]; exact hh)
  refine wpAny_bind (hk.at (wpAny_bind (wpAny_attempt (wpAny_holding ?_))))
  unfold callGetattribute
  rw [show (expr&&onTheHeap (Value.builtin "BaseException.__getattribute__"))=false from Bool.and_false _,if_neg (by decide)]
  unfold boundAndCalled
  rw [GA.bind]
  refine wpAny_bind (wpAny_pure ?_)
  show wpAny _ _ (call (.builtin "BaseException.__getattribute__") [.ref x,.str name tk]) _ _ _
  refine wpAny_call (codeAny_call_builtin GA.plain PySem.F.entry_bexc_ga (@check_slot (model prog w) _ _ ⟨hp,gn,dr,tk+1,oz⟩ "BaseException.__getattribute__" "BaseException" "__getattribute__" (.ref x) [.str name tk] [] _ bga_kind bga_split hsub (PySem.F.args_bexc_ga (.ref x) (.str name tk)) ?_))
  unfold Builtin.«object.__getattribute__»
  refine wpAny_bind (wpAny_pure (wpAny_bind (wpAny_pure (wpAny_bind (I.type.at (wpAny_bind ((looks_find X I hf).at (wpAny_pure ?_)))))))) 
  show wpAny _ _ (handedOut v) _ _ _
  rw [handedOut_of hv']
  exact wpAny_pure hq
theorem xinit {hp:Heap} {gn:Array GenState} {dr:Drawn} {tk:Nat} {oz:OsState} {e:Addr} {u:Value} {nm qn:Str} {N:Addr} {bs bm:List Value} {hdct:Bool} {sn:List Str} {sub:List Value} {ab:Bool} {col:Option Bool} {dd:Option Addr} {k0 k1 k2 k3 k5:Option Value} {Q:Value->Shared->Prop}
    (T:OwnTail hp vb bm) (hC:hp.get? C=some (excClassObj nm qn C N bs bm hdct sn sub ab col dd k0 k1 k2 k3 k5 "ValueError.__new__"))
    (he:hp.get? e=some ⟨.ref C,none,.fields vs,sl⟩) {t0:Addr} (h0:vs[0]?=some (.ref t0))
    (hq:∀ h',h'.get? e=some ⟨.ref C,none,.fields (vs.setIfInBounds 0 (.ref hp.objs.size)),sl⟩->(∀ b o,b≠e->hp.get? b=some o->h'.get? b=some o)->Q .none ⟨h',gn,dr,tk,oz⟩) :
    wpAny (model prog w) A (call (.builtin "ValueError.__init__") [.ref e,u]) Q E ⟨hp,gn,dr,tk,oz⟩:=by
  have F:=PySem.F.excBase_ValueError
  refine wpAny_call (codeAny_call_builtin F.init.plain F.initEntry (wpAny_check_init_subT F T hC he rfl ?_))
  have ne:e≠hp.objs.size:=Nat.ne_of_lt (Heap.lt_size he)
  have he2:(hp.push { cls:=.type "tuple",data:=.seq #[u] }).get? e=some ⟨.ref C,none,.fields vs,sl⟩:=Heap.get?_push_of_some _ he
  have key:=hq ((hp.push { cls:=.type "tuple",data:=.seq #[u] }).update e (Obj.mapFields (·.setIfInBounds 0 (.ref hp.objs.size)))) (upd_fields he2) fun b o nb q=>(upd_keep nb).trans (Heap.get?_push_of_some _ q)
  wp_walk
  rw [h0]
  refine wpAny_pure (wpAny_bind (wpAny_setField he2 rfl (Array.getElem?_eq_some_iff.mp h0).1 ?_))
  wp_walk
  exact key
end
end L2
namespace L2
open PySem PySem.Spec PySem.W PySem.Calls PyProof.Rows Builtin Builtin.ObjectAttr
noncomputable def xcB (K:Frag) (C:Addr) (bm0:List Value) (ini:Option Value):Bool:=match K.lookup C with
  | some ⟨.type "type",_,.cls cd,sl⟩=>(match cd.mro,sl.toList with
    | .ref C'::bm,[_,_,_,_,some (.builtin n),_]=>C'==C&&bm==bm0&&n=="ValueError.__new__"&&!cd.hasDel&&nsOkIn K cd.ns&&nsIn K cd.ns "__init__"==some ini
    | _,_=>false)
  | _=>false
structure Xc (K:Frag) (c:Str) (C LE:Addr):Prop where
  nm:nsIn K mainGlobals c=some (some (.ref C))
  cd:∃ cd,clsIn K C=some cd/\cd.name=c/\cd.mro=.ref C::.ref LE::vb
  le:∃ cl,clsIn K LE=some cl/\cl.name="LentError"
  leN:nsIn K mainGlobals "LentError"=some (some (.ref LE))
  ne:c≠"LentError"
  hd:hasDictIn K C=true
  ga:findIn K (.ref C) "__getattribute__"=some (some (.builtin "BaseException.__getattribute__"))
  gh:findIn K (.ref C) "__getattr__"=some none
  cl:findIn K (.ref C) "__class__"=some (some (.builtin "object.__class__"))
  ob:∃ ini,xcB K C (.ref LE::vb) ini=true
  leO:xcB K LE vb none=true
structure XcO (h:Heap) (C:Addr) (bm:List Value) (ini:Option Value):Prop where
  ex:∃ nm q N bs hdct sn sub ab col dd k0 k1 k2 k3 k5,h.get? C=some (excClassObj nm q C N bs bm hdct sn sub ab col dd k0 k1 k2 k3 k5 "ValueError.__new__")/\∃ mN,h.Ns N mN/\mN "__init__"=ini
theorem nsMap_of_in {K:Frag} {h:Heap} {N:Addr} {x:Str} {r:Option Value} (X:K.In h) (e:nsOkIn K N=true) (q:nsIn K N x=some r):h.nsMap N x=r:=by
  cases r with
  | none=>exact nsMap_none_of_in X e q
  | some v =>
    obtain ⟨o,es,ep,ho,hd,_,hf⟩:=Heap.Ns.of_isNs (isNs_of_in X e)
    unfold nsIn at q
    split at q
    · rename_i c d es' n' sl z
      have:=X _ _ z
      rw [ho] at this
      cases this
      cases hd
      split at q
      · rename_i en he
        cases q
        rw [<- hf]
        unfold nsFind findBy
        rw [<- Array.find?_toList,he]
        rfl
      · split at q <;> cases q
    · cases q
theorem xc_obj {K:Frag} {h:Heap} {C:Addr} {bm:List Value} {ini:Option Value} (X:K.In h) (q:xcB K C bm ini=true):XcO h C bm ini:=by
  unfold xcB at q
  split at q
  · rename_i dd cd sl ho
    split at q
    · rename_i C' bm k0 k1 k2 k3 n k5 hm hs
      simp only [Bool.and_eq_true,beq_iff_eq,Bool.not_eq_true'] at q
      obtain ⟨⟨⟨⟨⟨rfl,rfl⟩,rfl⟩,hdel⟩,hok⟩,hni⟩:=q
      obtain ⟨nm,bs,mro,ns,qn,hd,sn,sub,ab,col,del⟩:=cd
      dsimp only at hm hdel hok hni
      subst hm hdel
      have hsl:sl=#[k0,k1,k2,k3,some (.builtin "ValueError.__new__"),k5]:=by
        obtain ⟨l⟩:=sl
        simp only at hs
        rw [hs]
      subst hsl
      exact ⟨nm,qn,ns,bs,hd,sn,sub,ab,col,dd,k0,k1,k2,k3,k5,X _ _ ho,_,.of_isNs (isNs_of_in X hok),nsMap_of_in X hok hni⟩
    · cases q
  · cases q
section
variable {M:Model} {A:Around} {E:Value->Shared->Prop} {s:Shared} {env:Env} {C:Addr} {bm:List Value} {ini:Option Value} {Q:Flow->Shared->Prop}
theorem raise_x {x:Sem Value} (hB:bm.contains (.type "BaseException")=true) (hh:A.handled=none)
    (h:wpAny M A x (fun v s₁=>∃ e d vs sl,v=.ref e/\XcO s₁.heap C bm ini/\s₁.heap.get? e=some ⟨.ref C,d,.fields vs,sl⟩/\vs[1]?=some .none/\E (.ref e) s₁) E s):wpAny M A (raiseStmt env (some x) none) Q E s:=by
  unfold raiseStmt
  refine wpAny_bind (wpAny_mono h (fun v s₁ h₁=>?_) fun _ _ z=>z)
  obtain ⟨e,d,vs,sl,rfl,⟨nm,q,N,bs,hdct,sn,sub,ab,col,dd,k0,k1,k2,k3,k5,hC,_⟩,he,h1,hE⟩:=h₁
  have hcB:(Value.ref C::bm).contains (.type "BaseException")=true:=by rw [List.contains_cons,hB,Bool.or_true]
  obtain ⟨hp,g,dr,tk,os⟩:=s₁
  dsimp only at hC he
  repeat (first | with_reducible refine wpAny_loadPart_at he ?_ | with_reducible refine wpAny_loadPart_at hC ?_ | (with_reducible refine wpAny_isSubtype_exc hC ?_; rw [hcB]) | wp_step)
  rw [h1]
  refine wpAny_pure ?_
  rw [if_neg (by decide)]
  exact wpAny_pure (wpAny_raiseNew_none hh hE)
end
end L2
namespace L2
open PySem PySem.Spec PySem.W PySem.Calls PyProof.Rows Builtin Builtin.ObjectAttr
noncomputable def XN (e C:Addr) (d:Option Addr):HO:=.ext fun h=>∃ vs sl t0,h.get? e=some ⟨.ref C,d,.fields vs,sl⟩/\vs[1]?=some .none/\vs[0]?=some (.ref t0)
section
variable {P:Program} {w:World} {H:Hp} {h h':Heap} {e C a:Addr} {d:Option Addr} {o:HO}
theorem XN.ok {vs:Array Value} {sl:Array (Option Value)} {t0:Addr} (q:h.get? e=some ⟨.ref C,d,.fields vs,sl⟩) (q1:vs[1]?=some .none) (q0:vs[0]?=some (.ref t0)):ObjOk P w H h e (XN e C d) :=
  ⟨⟨vs,sl,t0,q,q1,q0⟩,⟨_,q⟩,fun h1 h2 ⟨vs,sl,t0,z,z'⟩ k=>⟨vs,sl,t0,k _ z,z'⟩⟩
theorem XN.at (x:HOk P w H h) (q:H e=some (XN e C d)):∃ vs sl t0,h.get? e=some ⟨.ref C,d,.fields vs,sl⟩/\vs[1]?=some .none/\vs[0]?=some (.ref t0):=(x e _ q).1
theorem upd_self (q:H a=some o):upd H a o=H:=by
  funext b
  by_cases z:b=a
  · subst z; rw [upd_same,q]
  · rw [upd_ne z]
theorem ObjOk.here (x:ObjOk P w H h a o):∃ u,h.get? a=some u:=by
  cases o with
  | lst xs=>obtain ⟨_,_,_,_,e⟩:=x; exact ⟨_,e⟩
  | tup xs=>obtain ⟨_,_,_,p⟩:=x; obtain ⟨u,e,_⟩:=p; exact ⟨_,e⟩
  | dK kvs=>obtain ⟨_,_,_,_,o,_,_,e,_⟩:=x; exact ⟨_,e⟩
  | dT kvs=>obtain ⟨_,_,_,_,o,_,_,e,_⟩:=x; exact ⟨_,e⟩
  | set S n=>obtain ⟨o,_,_,_,e,_⟩:=x; exact ⟨_,e⟩
  | ins C dx fs=>obtain ⟨_,_,_,e,_⟩:=x; exact ⟨_,e⟩
  | own y=>exact x
  | xd fs=>obtain ⟨_,⟨_,_,_,e,_⟩,_⟩:=x; exact ⟨_,e⟩
  | rng lo hi=>obtain ⟨_,_,_,e⟩:=x; exact ⟨_,e⟩
  | frz ob u=>obtain ⟨e,_⟩:=x; exact ⟨_,e⟩
  | tbl ps=>exact ⟨_,(show h.get? a=some _ from x)⟩
  | met f y=>exact ⟨_,(show h.get? a=some _ from x)⟩
  | ext φ=>exact x.2.1
theorem HOk.none_of (x:HOk P w H h) (n:h.get? a=none):H a=none:=by
  cases q:H a with
  | none=>rfl
  | some o=>obtain ⟨u,z⟩:=(x a o q).here; rw [n] at z; cases z
end
section
variable {X:Cx} {pins:List (Addr×Obj)} {σ:List (Option V)} {H:Hp} {s:Shared} {h':Heap} {e C a:Addr} {d:Option Addr} {o:HO}
theorem Inv.laid0 {t':Nat} (I:Inv X pins σ H s) (k:∀ b u,s.heap.get? b=some u->h'.get? b=some u) (hn:s.heap.get? a=none) (new:ObjOk X.prog X.w (upd H a o) h' a o):Inv X pins σ (upd H a o) { s with heap:=h',toks:=t' }:=by
  have hH:=I.hok.none_of hn
  have ne:∀ b u,s.heap.get? b=some u->b≠a:=fun b u q z=>by subst z; rw [hn] at q; cases q
  refine I.un ⟨fun b u q _ _ _=>k b u q,fun b u q _ _ _=>⟨u.slots,k b u q⟩,fun b u q n _=>by rw [upd_ne (ne b u q)]; exact n,fun b u q _=>⟨u,k b u q⟩,fun b xs q=>by rw [upd_ne (ne_of_none q hH)]; exact q,fun b u xs q=>by rw [upd_ne (ne_of_none q hH)]; exact q,fun b ps q=>⟨#[],by rw [upd_ne (ne_of_none q hH),q]; simp⟩⟩ fun b u q=>?_
  by_cases z:b=a
  · subst z; rw [upd_same] at q; cases q; exact new
  · rw [upd_ne z] at q
    exact (I.hok b u q).stay (fun c v _ q=>k c v q) (fun c q=>by rw [upd_ne (ne_of_none q hH)]; exact q) fun c xs q=>by rw [upd_ne (ne_of_none q hH)]; exact q
theorem Inv.gotDict {t':Nat} {dx:Addr} {y:V} {u:Value} {f:Str} {vs:Array Value} {sl:Array (Option Value)} {t0:Addr} (I:Inv X pins σ H s) (he:H e=some (XN e C none)) (hn:s.heap.get? dx=none) (k:∀ b u,b≠e->s.heap.get? b=some u->h'.get? b=some u)
    (q:h'.get? e=some ⟨.ref C,some dx,.fields vs,sl⟩) (q1:vs[1]?=some .none) (q0:vs[0]?=some (.ref t0)) (ns:h'.Ns1 dx (fun z=>if z=f then some u else none)) (r:RelV y u) :
    Inv X pins σ (upd (upd H dx (.xd [(f,y)])) e (XN e C (some dx))) { s with heap:=h',toks:=t' }:=by
  have hH:=I.hok.none_of hn
  have ned:dx≠e:=fun z=>by subst z; rw [hH] at he; cases he
  have nd:∀ b u,s.heap.get? b=some u->b≠dx:=fun b u qq z=>by subst z; rw [hn] at qq; cases qq
  have ne:∀ b,H b=none->b≠e:=fun b n z=>by subst z; rw [he] at n; cases n
  have old:∀ b o,H b=some o->b≠e->upd (upd H dx (.xd [(f,y)])) e (XN e C (some dx)) b=some o:=fun b o q z=>by rw [upd_ne z,upd_ne (ne_of_none q hH)]; exact q
  have hx:∀ b u,H b=some u->(∀ φ,u≠.ext φ)->b≠e:=fun b u qq n z=>by subst z; rw [he] at qq; cases qq; exact n _ rfl
  refine I.un ⟨fun b u q n _ _=>k b u (ne b n) q,fun b u q n _ _=>⟨u.slots,k b u (ne b n) q⟩,fun b u q n _=>by rw [upd_ne (ne b n),upd_ne (nd b u q)]; exact n,fun b u q _=>?_,fun b xs q=>old b _ q (hx b _ q fun _ z=>nomatch z),fun b u xs q=>old b _ q (hx b _ q fun _ z=>nomatch z),fun b ps q=>⟨#[],by rw [old b _ q (hx b _ q fun _ z=>nomatch z)]; simp⟩⟩ fun b u z=>?_
  · by_cases z:b=e
    · subst z; exact ⟨_,‹h'.get? b=some _›⟩
    · exact ⟨u,k b u z q⟩
  · by_cases hb:b=e
    · subst hb; rw [upd_same] at z; cases z; exact XN.ok q q1 q0
    · rw [upd_ne hb] at z
      by_cases hd:b=dx
      · subst hd; rw [upd_same] at z; cases z
        refine ⟨_,ns,fun g=>?_⟩
        by_cases hg:g=f
        · subst hg; simp [List.lookup,RelO,r]
        · have:(g==f)=false:=by simpa using hg
          simp [List.lookup,RelO,hg,this]
      · rw [upd_ne hd] at z
        refine (I.hok b u z).stay (fun c v hc q'=>k c v ?_ q') (fun c q'=>old c _ q' (hx c _ q' fun _ z=>nomatch z)) fun c xs q'=>old c _ q' (hx c _ q' fun _ z=>nomatch z)
        rcases hc with rfl | hc
        · exact hb
        · exact hx c _ hc fun _ z=>nomatch z
theorem Inv.flies (I:Inv X pins σ (upd H e (XN e C d)) s):Inv X pins σ (upd H e (XO e C d)) s/\XRec (Free X pins) (upd H e (XO e C d)) s.heap e C d:=by
  obtain ⟨vs,sl,t0,q,q1,q0⟩:=XN.at I.hok upd_same
  refine ⟨?_,vs,sl,q,(Array.getElem?_eq_some_iff.mp q1).1,.inl q1⟩
  have:=I.write (x:=e) (e:=e) (o:=XO e C d) (h':=s.heap) (t':=s.toks) (by rw [upd_same]; trivial) (.inl rfl) (fun _ _ _ q=>q) ⟨_,q⟩ (XO.ok q)
  rw [upd_upd] at this
  exact this
end
structure LeF (K:Frag) (LE:Addr):Prop where
  rd:readsIn K LE (.type "type")=true
  ga:specialIn K (.ref LE) "__getattribute__"=some (some (.builtin "type.__getattribute__"))
  ini:findCls K (.ref LE) (.type "type") "__init__"=some (.val (.builtin "ValueError.__init__"))
  tl:tailIn K vb (.ref LE::vb)=true
section
variable {X:Cx} {C LE fI:Addr} {e1 e2 o v:Expr} {t:TA} {to tv:TE} {p1 ap cp pos pos':Pos} {f:Str}
noncomputable def tBinit (C:Addr) (t:TA):TE:=fun σ H Q=>t σ H fun vs H1=>∃ e u,vs=[.ref e,u]/\H1 e=some (XN e C none)/\Q .non H1
theorem pe_binit {ini:Option Value} {pl:Sem Bool} (F:LeF X.K LE) (hm:X.mg "LentError"=some (.ref LE)) (hC:xcB X.K C (.ref LE::vb) ini=true) (ha:PA X [e1,e2] t) (hg:Gl X "LentError":=by rfl)
    (hs:starEach [e1,e2] X.env=[(false,eval e1 X.env),(false,eval e2 X.env)]:=by rfl)
    (hev:eval (.Call (.Attribute (.Name "LentError" p1) "__init__" ap) [e1,e2] [] cp) X.env=(do
      let ov <- eval (.Name "LentError" p1) X.env
      standAt ap.atName
      let (f,first) <- holding [ov] (getMethod ov "__init__" pl)
      callWith cp f first (backTo cp (starEach [e1,e2] X.env)) (backToKw cp (keywordEach [] X.env))):=by rfl) :
    PE X (.Call (.Attribute (.Name "LentError" p1) "__init__" ap) [e1,e2] [] cp) (tBinit C t):=by
  intro pins s σ H Q I h
  refine methodCall_KW (pl:=pl) (ld_glob I hg hm ?_) hev
  refine method_cls I.kIn F.ga (cls_value I.kIn F.rd F.ini rfl ?_)
  have hA:=ha cp pins _ σ H _ (I.tok (s.toks+1)) h
  rw [hs] at hA ⊢
  refine Calls.callWith_builtin rfl (Calls.evalArgs_plain (thn hA fun us s1 ⟨vs,H1,I1,r,e,u,ev,he,q⟩=>?_))
  subst ev
  obtain ⟨a,b,rfl,ra,rb⟩:=Vals.two r
  cases (show a=Value.ref e from ra)
  obtain ⟨vs',sl,t0,z,z1,z0⟩:=XN.at I1.hok he
  obtain ⟨nm,qn,N,bs,hdct,sn,sub,ab,col,dd,k0,k1,k2,k3,k5,oC,_⟩:=xc_obj I1.kIn hC
  obtain ⟨hp,gn,dr,tk,oz⟩:=s1
  refine xinit (tail_of_in I1.kIn F.tl) oC z z0 fun h' zn k=>?_
  have J:=I1.write (x:=e) (e:=e) (o:=XN e C none) (h':=h') (t':=tk) (by rw [he]; trivial) (.inl rfl) (fun b u n q=>k b u n q) ⟨_,zn⟩ (XN.ok (t0:=hp.objs.size) zn (by rw [Array.getElem?_setIfInBounds_ne (by decide)]; exact z1) (by simp [(Array.getElem?_eq_some_iff.mp z0).1]))
  rw [upd_self he] at J
  exact ⟨.non,H1,J,rfl,q⟩
noncomputable def sXfld (K:Frag) (C:Addr) (to tv:TE) (f:Str):TS:=fun D σ H=>tv σ H fun y H1=>to σ H1 fun x H2=>∃ e,x=.ref e/\H2 e=some (XN e C none)/\∀ dx,H2 dx=none->dx≠e->D.nx σ (upd (upd H2 dx (.xd [(f,y)])) e (XN e C (some dx)))
theorem ps_xfld {cd:ClassData} (hc:clsIn X.K C=some cd) (hm:cd.mro=.ref C::.ref LE::vb) (hd:cd.hasDict=true) (hsa:findIn X.K (.ref C) "__setattr__"=some (some (.builtin "object.__setattr__"))) (hn:findIn X.K (.ref C) f=some none)
    (ho:PE X o to) (hv:PE X v tv) (hs:swapsWith v (some (.Attribute o f pos')) pos.line X.env=pure false:=by rfl):PS X (.Assign [.Attribute o f pos'] v pos) (sXfld X.K C to tv f):=by
  intro pins s σ H D I h
  refine plainObj_wpAny_Assign_Attribute (thn (hv pins s σ H _ I h) fun u s1 ⟨y,H1,I1,ry,q⟩=>thn (ho pins s1 σ H1 _ I1 q) fun ov s2 ⟨x,H2,I2,rx,e,ex,he,q2⟩=>?_) hs
  subst ex
  cases (show ov=Value.ref e from rx)
  obtain ⟨vs,sl,t0,z,z1,z0⟩:=XN.at I2.hok he
  have fresh:s2.heap.get? s2.heap.objs.size=none:=Heap.get?_none_of_le (Nat.le_refl _)
  refine xset I2.kIn z hc hm hd hsa hn fun h' tk' w1 w2 w3=>?_
  exact ⟨σ,_,I2.gotDict (t':=tk') he fresh w3 w1 z1 z0 w2 ry,q2 _ (I2.hok.none_of fresh) (Nat.ne_of_gt (Heap.lt_size z))⟩
end
end L2
namespace L2
open PySem PySem.Spec PySem.W PySem.Calls PyProof.Rows Builtin Builtin.ObjectAttr
theorem upd_mid {H:Hp} {e dx:Addr} {o p o':HO} (n:dx≠e):upd (upd (upd H e o) dx p) e o'=upd (upd H dx p) e o':=by
  funext b
  unfold upd
  by_cases h1:b=e
  · simp [h1]
  · by_cases h2:b=dx
    · simp [h2,n]
    · simp [h1,h2]
noncomputable def spXI (C:Addr) (f:Str):Sp:=fun vs H Q _=>∃ e y,vs=[.ref e,y]/\H e=some (XN e C none)/\∀ dx,H dx=none->dx≠e->Q .non (upd (upd H dx (.xd [(f,y)])) e (XN e C (some dx)))
theorem Fun.okN {P:Program} {w:World} {K:PySem.W.Frag} {mg:Str->Option Value} {base:Heap} {CX:CXT} {x qual:Str} {st:Stmt} {f:Addr} {fd:FuncData} {N ps:List Str} {k:Nat} {sp:Sp} (F:Fun K x qual st f fd) (S:FnScope N ps (defScope st)) (len:∀ vs H Q E,sp vs H Q E->vs.length=ps.length)
    (hbody:∀ (cdv:Value) (A:Around) (outer:List Env) (s:Shared) (H:Hp) (vs:List V) (Q:VK) (E:XK),Room k (A.deeper (envOfC qual (defScope st) s.heap.objs.size f cdv))->sp vs H Q E ->
      ∃ t,PSs (cxOf CX P w K mg base N qual (defScope st) f cdv A outer s H E).nox (defBody st) t/\t { nx:=fun _ H'=>Q .non H',rt:=Q } (start N vs) H):FnOk P w K mg base CX (k+1) f fd ps sp:=by
  obtain ⟨oc,od,kV,doc,pm,an,cdv,ct,osl,rfl,lk,hcd⟩:=F.ex
  refine fn_of lk hcd S len fun A outer s H vs Q E hr hsp=>?_
  obtain ⟨t,h,q⟩:=hbody cdv A outer s H vs Q E hr hsp
  exact ⟨t,h.nox,q⟩
theorem init_fn {P:Program} {w:World} {K:PySem.W.Frag} {mg:Str->Option Value} {base:Heap} {CX:CXT} {qual:Str} {st:Stmt} {fI C:Addr} {fd:FuncData} {p f txt:Str} (F:Fun K "__init__" qual st fI fd) (S:FnScope ["self",p] ["self",p] (defScope st))
    (hb:∀ (cdv:Value) (A:Around) (outer:List Env) (s:Shared) (H:Hp) (E:XK),PSs (cxOf CX P w K mg base ["self",p] qual (defScope st) fI cdv A outer s H E).nox (defBody st) (tSeq (tDrop (tBinit C (tCons (tVar 0) (tCons (tC (.str txt)) tNil)))) (sXfld K C (tVar 0) (tVar 1) f))) :
    FnOk P w K mg base CX 1 fI fd ["self",p] (spXI C f):=by
  refine F.okN (k:=0) S (fun vs H Q E ⟨e,y,h,_⟩=>by rw [h]; rfl) fun cdv A outer s H vs Q E _ ⟨e,y,hv,he,hq⟩=>⟨_,hb cdv A outer s H E,?_⟩
  subst hv
  exact ⟨.ref e,rfl,e,.str txt,rfl,he,y,rfl,.ref e,rfl,e,rfl,he,hq⟩
section
variable {X:Cx} {CX:CXT} {k:Nat} {C LE fI:Addr} {fd:FuncData} {ps:List Str} {E:XK} {f x:Str} {p pos:Pos} {e:Expr} {es:List Expr} {t:TA} {pins:List (Addr×Obj)} {σ:St} {H:Hp} {s:Shared} {Q:VK} {us:List Value} {vs:List V}
theorem run_xmake (hxo:xcB X.K C (.ref LE::vb) (some (.ref fI))=true) (F:LeF X.K LE) (hf:typeIn X.K (.ref fI)=some (.type "function")) (G:FnOk X.prog X.w X.K X.mg X.base CX k fI fd ps (spXI C f)) (hr:Room (k+1) X.A) (hb:Binds X.K fd ps []) (hx:Passes CX X E)
    (I:Inv X pins σ H s) (r:Vals vs us) (h:∃ y,vs=[y]/\∀ e dx,H e=none->H dx=none->dx≠e->Q (.ref e) (upd (upd H dx (.xd [(f,y)])) e (XN e C (some dx)))) :
    wpAny (model X.prog X.w) X.A (call (.ref C) us) (EP X pins σ Q) X.xe s:=by
  obtain ⟨y,rfl,h⟩:=h
  obtain ⟨u,rfl,ru⟩:=Vals.one r
  obtain ⟨nm,qn,N,bs,hdct,sn,sub,ab,col,dd,k0,k1,k2,k3,k5,oC,mN,nsN,iN⟩:=xc_obj I.kIn hxo
  have gI:∃ oI,s.heap.get? fI=some oI/\oI.cls=.type "function":=by
    obtain ⟨o,z,zc⟩:=Option.map_eq_some_iff.mp hf
    exact ⟨o,I.kIn _ _ z,zc⟩
  obtain ⟨oI,gI,cI⟩:=gI
  obtain ⟨hp,gn,dr,tk,oz⟩:=s
  refine call_initT (few:=by show 1<=sizeLine; decide) PySem.F.excBase_ValueError (tail_of_in I.kIn F.tl) oC nsN iN gI cI fun h' a mk=>?_
  obtain ⟨t0,ea,_,_⟩:=mk.there
  have hn:=I.hok.none_of mk.new
  have I2:Inv X pins σ (upd H a (XN a C none)) ⟨h',gn,dr,tk,oz⟩:=I.laid0 (t':=tk) mk.keeps mk.new (XN.ok (t0:=t0) ea rfl rfl)
  have sp:spXI C f [.ref a,y] (upd H a (XN a C none)) (fun v H2=>v=.non/\Q (.ref a) H2) E:=⟨a,y,rfl,upd_same,fun dx hd ne=>⟨rfl,by rw [upd_mid ne]; exact h a dx hn (by rw [upd_ne ne] at hd; exact hd) ne⟩⟩
  have r2:Vals [V.ref a,y] [Value.ref a,u]:=.cons rfl (.cons ru .nil)
  have hl:([Value.ref a,u]++[]).length=ps.length:=by have:=G.len _ _ _ _ sp; simpa using this
  refine wpAny_call (codeAny_mono (G.run _ X.stack _ _ ⟨[.ref a,u],[]⟩ [.ref a,u] _ _ E (hr.make C [u] []) (I2.env0.make C [u] []) (hb _ [.ref a,u] I2.kIn hl) r2 sp) fun r s' hq'=>?_)
  cases r with
  | error e=>exact hx pins σ _ _ e s' I2 hq'
  | ok fl =>
    cases fl with
    | ret u =>
      obtain ⟨v,H',I3,rv,ev,q3⟩:=I2.after hq'
      subst ev
      exact ⟨rv,⟨V.ref a,H',I3,rfl,q3⟩⟩
    | next=>exact False.elim hq'
    | brk=>exact False.elim hq'
    | cont=>exact False.elim hq'
noncomputable def tXmake (C:Addr) (f:Str) (t:TA):TE:=fun σ H Q=>t σ H fun vs H1=>∃ y,vs=[y]/\∀ e dx,H1 e=none->H1 dx=none->dx≠e->Q (.ref e) (upd (upd H1 dx (.xd [(f,y)])) e (XN e C (some dx)))
theorem pe_xmake (hxo:xcB X.K C (.ref LE::vb) (some (.ref fI))=true) (F:LeF X.K LE) (hf:typeIn X.K (.ref fI)=some (.type "function")) (G:FnOk X.prog X.w X.K X.mg X.base CX k fI fd ps (spXI C f)) (hr:Room (k+1) X.A) (hb:Binds X.K fd ps []) (hx:Passes CX X E)
    (hm:X.mg x=some (.ref C)) (hk:keepIn X.K (.ref C)=true) (ha:PA X (e::es) t) (hg:Gl X x:=by rfl) (hdb:(x==("__debug__":Str))=false:=by decide) (he:starEach (e::es) X.env=(false,eval e X.env)::starEach es X.env:=by rfl) (hpl:(backTo pos (starEach es X.env)).any (·.1)=false:=by rfl) :
    PE X (.Call (.Name x p) (e::es) [] pos) (tXmake C f t):=by
  intro pins s σ H Q I h
  refine wpAny_Call_Name_kw (ld_glob I hg hm ?_ hdb)
  refine PySem.W.callWith_K (h₀:=X.base) I.ok.mod.kin hk (thn (ha pos pins s σ H _ I h) fun us s1 ⟨vs,H1,I1,r,q⟩=>⟨I1.kIn,?_⟩) he hpl
  exact run_xmake hxo F hf G hr hb hx I1 r q
noncomputable def tRaise (C:Addr) (R:Addr->Hp->Prop) (te:TE):TS:=fun _ σ H=>te σ H fun v H1=>∃ e d H0,v=.ref e/\H1=upd H0 e (XN e C d)/\R e (upd H0 e (XO e C d))
theorem ps_raise {R:Addr->Hp->Prop} {ini:Option Value} {te:TE} (hxo:xcB X.K C (.ref LE::vb) ini=true) (hc:X.calm=true) (hz:Xz X R) (he:PE X e te):PS X (.Raise (some e) none pos) (tRaise C R te):=by
  intro pins s σ H D I h
  rw [arm_exec_Raise]
  refine wpAny_bind (wpAny_standAt ?_)
  show wpAny _ _ (raiseStmt X.env (some (do let v <- eval e X.env; standAt pos; pure v)) none) _ _ s
  refine raise_x (C:=C) (bm:=.ref LE::vb) (ini:=ini) rfl (I.ok.hd hc) (wpAny_bind (thn (he pins s σ H _ I h) fun v s1 ⟨x,H1,I1,rx,a,d,H0,ex,eH,q⟩=>wpAny_bind (wpAny_standAt (wpAny_pure ?_))))
  subst ex eH
  cases (show v=Value.ref a from rx)
  obtain ⟨vs,sl,t0,z,z1,z0⟩:=XN.at I1.hok upd_same
  obtain ⟨I2,x2⟩:=I1.flies
  exact ⟨a,d,vs,sl,rfl,xc_obj I1.kIn hxo,z,z1,hz.go pins σ _ _ ⟨a,_,C,d,rfl,I2,x2,upd_same,q⟩⟩
end
end L2
namespace L2
open PySem PySem.Spec PySem.W PySem.Calls PyProof.Rows Builtin Builtin.ObjectAttr
section
variable {M:Model} {A:Around} {E:Value->Shared->Prop} {h:Heap} {g:Array GenState} {dr:Drawn} {t:Nat} {os:OsState} {C D e:Addr} {oe:Obj} {bm bmD:List Value} {ini iniD:Option Value} {Q:Bool->Shared->Prop}
theorem excM (hC:XcO h C bm ini) (he:h.get? e=some oe) (hcls:oe.cls=.ref C) (hD:XcO h D bmD iniD) (hB:bmD.contains (.type "BaseException")=true) (hsub:(Value.ref C::bm).contains (.ref D)=true) (hq:Q true ⟨h,g,dr,t,os⟩) :
    wpAny M A (excMatches (.ref e) (.ref D)) Q E ⟨h,g,dr,t,os⟩:=by
  obtain ⟨nm,qn,N,bs,hdct,sn,sub,ab,col,dd,k0,k1,k2,k3,k5,oC,_⟩:=hC
  obtain ⟨nm',qn',N',bs',hdct',sn',sub',ab',col',dd',k0',k1',k2',k3',k5',oD,_⟩:=hD
  have hcB:(Value.ref D::bmD).contains (.type "BaseException")=true:=by rw [List.contains_cons,hB,Bool.or_true]
  have f:=tc_notTuple
  unfold excMatches
  repeat (first | (with_reducible refine wpAny_loadPart_at he ?_; rw [hcls]) | with_reducible refine wpAny_loadPart_at oD ?_ | (with_reducible refine wpAny_isSubtype_exc oD ?_; rw [hcB]) | (with_reducible refine wpAny_isSubtype_exc oC ?_; rw [hsub]) | wp_step)
  exact hq
end
noncomputable def PEx (X:Cx) (e:Expr) (t:St->Hp->VK->(Addr->Hp->Prop)->Prop):Prop :=
  ∀ (pins:List (Addr×Obj)) (s:Shared) (σ:St) (H:Hp) (Q:VK) (R:Addr->Hp->Prop),Inv X pins σ H s->t σ H Q R->wpAny (model X.prog X.w) X.A (eval e X.env) (EP X pins σ Q) (XE X pins σ R) s
noncomputable def PBx (X:Cx) (b:List Stmt) (t:Ends->(Addr->Hp->Prop)->St->Hp->Prop):Prop :=
  ∀ (pins:List (Addr×Obj)) (s:Shared) (σ:St) (H:Hp) (D:Ends) (R:Addr->Hp->Prop),Inv X pins σ H s->t D R σ H->wpAny (model X.prog X.w) X.A (execs b X.env) (SP X pins D) (XE X pins σ R) s
noncomputable abbrev Cx.hnd (X:Cx) (e:Addr):Cx:={ X with A:=X.A.mark (some (.ref e)),calm:=false,xe:=fun _ _=>False }
theorem Cx.Ok.hnd {X:Cx} (ok:X.Ok) (e:Addr):(X.hnd e).Ok :=
  ⟨ok.mod,ok.kind,ok.glob,ok.blt,ok.above,ok.inj,ok.has,ok.cab,(fun z=>nomatch z),ok.frames,ok.stk,ok.exf,ok.bs,ok.bsz,ok.noex,ok.exfs,ok.funs,ok.frf⟩
section
variable {X:Cx} {pins:List (Addr×Obj)} {σ:St} {H:Hp} {s:Shared} {e:Addr}
theorem Inv.hnd (I:Inv X pins σ H s) (e:Addr):Inv (X.hnd e) pins σ H s:=⟨I.ok.hnd e,I.os,I.bare,I.base,I.loc,I.cell,I.free,I.freeC,I.pin,I.hok,I.len⟩
theorem Inv.unhnd (ok:X.Ok) (I:Inv (X.hnd e) pins σ H s):Inv X pins σ H s:=⟨ok,I.os,I.bare,I.base,I.loc,I.cell,I.free,I.freeC,I.pin,I.hok,I.len⟩
theorem SP.unhnd {D:Ends} {f:Flow} {s':Shared} (ok:X.Ok) (h:SP (X.hnd e) pins D f s'):SP X pins D f s':=by
  cases f with
  | next=>obtain ⟨σ',H',I,q⟩:=h; exact ⟨σ',H',I.unhnd ok,q⟩
  | brk=>obtain ⟨σ',H',I,q⟩:=h; exact ⟨σ',H',I.unhnd ok,q⟩
  | cont=>obtain ⟨σ',H',I,q⟩:=h; exact ⟨σ',H',I.unhnd ok,q⟩
  | ret u=>obtain ⟨v,σ',H',I,r,q⟩:=h; exact ⟨v,σ',H',I.unhnd ok,r,q⟩
theorem name_goes {M:Model} {A:Around} {E:Value->Shared->Prop} {i:Nat} {n:Str} {pos:Pos} {Q:Unit->Shared->Prop} (I:Inv X pins σ H s) (hi:X.N[i]?=some n) (hN:X.N.Nodup) (hl:X.env.scope.names.lookup n=some .local)
    (h:∀ s',Inv X pins (σ.set i none) H s'->Q () s'):wpAny M A (do bindName X.env n .none; unbindBehindTheSuite X.env n pos) Q E s:=by
  obtain ⟨m,hn,hv⟩:=id I.loc
  have hcls:(X.env.scope.kind==.class || (X.env.scope.kind==.module&&X.env.locals != X.env.globals))=false:=by rw [I.ok.kind]; rfl
  refine wpAny_nameGoes_keeps hl hn hcls fun h' v nn same=>h _ ?_
  have nL:∀ b o,X.s₀.heap.get? b=some o->b≠X.env.locals:=fun b o q=>Nat.ne_of_lt (Nat.lt_of_lt_of_le (Heap.lt_size q) I.ok.above)
  refine ⟨I.ok,I.os,I.bare,⟨fun b o q n hb hx=>(same.2 b (nL b o q)).trans (I.base.keep b o q n hb hx),fun b o q n hb hx=>?_,I.base.free,fun b o q hx=>?_,I.base.tups,I.base.frzs,I.base.tbls⟩,⟨_,nn,fun j y u e1 e2 e3=>?_⟩,fun y c q=>?_,I.free,I.freeC,fun p hp=>?_,fun b o q=>?_,by simpa using I.len⟩
  · obtain ⟨sl,z⟩:=I.base.slot b o q n hb hx
    exact ⟨sl,(same.2 b (nL b o q)).trans z⟩
  · obtain ⟨o',z⟩:=I.base.there b o q hx
    exact ⟨o',(same.2 b (nL b o q)).trans z⟩
  · by_cases hj:j=i
    · subst hj
      rw [List.getElem?_set_self' ] at e2
      cases z:σ[j]? <;> rw [z] at e2 <;> cases e2
    · rw [List.getElem?_set_ne (Ne.symm hj)] at e2
      obtain ⟨u',r',q⟩:=hv j y u e1 e2 e3
      refine ⟨u',r',?_⟩
      rcases q with ⟨k,z⟩ | ⟨k,c,z,w⟩
      · have:y≠n:=fun z=>hj (nodup_ix hN e1 (z▸hi))
        exact .inl ⟨k,by simp [this,z]⟩
      · exact .inr ⟨k,c,z,w.sameBut same (I.cne y c z)⟩
  · obtain ⟨w',z⟩:=I.cell y c q
    exact ⟨w',z.sameBut same (I.cne y c q)⟩
  · obtain ⟨z,n,ne,nf,dd⟩:=I.pin p hp
    exact ⟨(same.2 p.1 ne).trans z,n,ne,nf,dd⟩
  · refine (I.hok b o q).stay (fun c u hc z=>(same.2 c ?_).trans z) (fun _ z=>z) fun _ _ z=>z
    rintro rfl
    rcases hc with rfl | hc
    · have:=I.free; rw [q] at this; cases this
    · have:=I.free; rw [hc] at this; cases this
end
structure XM (K:Frag) (C D:Addr):Prop where
  c:∃ bm ini,xcB K C bm ini=true/\(Value.ref C::bm).contains (.ref D)=true
  d:∃ bm ini,xcB K D bm ini=true/\bm.contains (.type "BaseException")=true
section
variable {X:Cx} {body:List Stmt} {b₀:Stmt} {suite:List Stmt} {cn:Str} {Dc:Addr} {np pos hpos:Pos} {tb:Ends->(Addr->Hp->Prop)->St->Hp->Prop} {ts:TS}
noncomputable def tTryAs (K:Frag) (Dc:Addr) (i:Nat) (tb:Ends->(Addr->Hp->Prop)->St->Hp->Prop) (ts:TS):TS:=fun D σ H=>tb D (fun a H'=>(∃ C d,H' a=some (XO a C d)/\XM K C Dc) /\
  ts { nx:=fun σ' H''=>D.nx (σ'.set i none) H'',rt:=D.rt,bk:=fun σ' H''=>D.bk (σ'.set i none) H'',ct:=fun σ' H''=>D.ct (σ'.set i none) H'' } (σ.set i (some (.ref a))) H') σ H
theorem xo_same {P:Program} {w:World} {H:Hp} {h:Heap} {a C C':Addr} {d d':Option Addr} (ok:HOk P w H h) (q:H a=some (XO a C d)) (q':H a=some (XO a C' d')):C=C'/\d=d':=by
  obtain ⟨_,_,z⟩:=XO.at ok q
  obtain ⟨_,_,z'⟩:=XO.at ok q'
  rw [z] at z'; cases z'; exact ⟨rfl,rfl⟩
theorem ps_tryAs {i:Nat} {n:Str} (hN:X.N.Nodup) (hb:PBx X body tb) (hs:∀ a,PSs (X.hnd a) (b₀::suite) ts) (hm:X.mg cn=some (.ref Dc)) (hi:X.N[i]?=some n:=by rfl) (hl:X.env.scope.names.lookup n=some .local:=by rfl) (hg:Gl X cn:=by rfl) (hst:X.stack=X.env::X.outer:=by rfl) (hfm:X.env.frame=some X.env.locals:=by rfl) (hdb:(cn==("__debug__":Str))=false:=by decide) :
    PS X (.Try body [.ExceptHandler (some (.Name cn np)) (some n) (b₀::suite) hpos] [] [] pos) (tTryAs X.K Dc i tb ts):=by
  intro pins s σ H D I h
  refine wpAny_Try_except (wpAny_mono (hb pins s σ H D _ I h) (fun f s1 q=>?_) fun ev s1 ⟨a,H1,C,d,ee,I1,x1,hx,⟨C',d',hx',xm⟩,q⟩=>?_)
  · cases f with
    | next=>exact wpAny_execs_nil q
    | brk=>exact q
    | cont=>exact q
    | ret u=>exact q
  · subst ee
    obtain ⟨rfl,rfl⟩:=xo_same I1.hok hx hx'
    refine I1.flight hst hfm I1.ok.frames x1 hx fun h2 I2 x2=>?_
    refine wpAny_handleBy_cons (codeAny_handlers_test (ld_glob (X:=X.hnd a) (I2.hnd a) hg hm ?_ hdb)) (by intro q; cases q)
    obtain ⟨bm,ini,c1,c2⟩:=xm.c
    obtain ⟨bmD,iniD,d1,d2⟩:=xm.d
    obtain ⟨vs,sl,z⟩:=XO.at I2.hok hx
    refine excM (xc_obj I2.kIn c1) z rfl (xc_obj I2.kIn d1) d2 c2 ?_
    refine codeAny_handlers_suite_as (I2.again hst hfm x2 hx fun h3 I3 x3=>?_)
    refine store_ok I3 hN hi (.inl hl) (v:=.ref a) rfl (fun s4 I4=>?_) (.inr hl)
    refine wpAny_mono ((hs a) pins _ (σ.set i (some (.ref a))) H1 _ (I4.hnd a) q) (fun f s5 q5=>?_) fun _ _ z=>z.elim
    have q5:=q5.unhnd I4.ok
    cases f with
    | next=>obtain ⟨σ',H',I',q'⟩:=q5; exact name_goes I' hi hN hl fun s6 I6=>⟨_,H',I6,q'⟩
    | brk=>obtain ⟨σ',H',I',q'⟩:=q5; exact name_goes I' hi hN hl fun s6 I6=>⟨_,H',I6,q'⟩
    | cont=>obtain ⟨σ',H',I',q'⟩:=q5; exact name_goes I' hi hN hl fun s6 I6=>⟨_,H',I6,q'⟩
    | ret u=>obtain ⟨v,σ',H',I',r,q'⟩:=q5; exact name_goes I' hi hN hl fun s6 I6=>⟨v,_,H',I6,r,q'⟩
end
end L2
namespace L2
open PySem PySem.Spec PySem.W PySem.Calls PyProof.Rows Builtin Builtin.ObjectAttr
section
variable {prog:Program} {w:World} {A:Around} {E:Value->Shared->Prop} {s:Shared} {K:Frag} {x C LE:Addr} {c name:Str}
theorem gcl_get (K:Frag):specialIn K (.builtin "object.__class__") "__get__"=some (some (.builtin "getset_descriptor.__get__")):=by with_unfolding_all rfl
theorem gcl_tk (K:Frag):takesIn K (.builtin "object.__class__")=some true:=by with_unfolding_all rfl
theorem findObj_dt {K:Frag} {C:Addr} {od:Option Obj} {name:Str} {a g:Value} (hc:(clsIn K C).isSome=true) (ha:findIn K (.ref C) name=some (some a)) (hg:specialIn K a "__get__"=some (some g)) (ht:takesIn K a=some true):findObj K C od name=some (.bind g a):=by
  obtain ⟨cd,hc⟩:=Option.isSome_iff_exists.mp hc
  unfold findObj
  simp only [hc,ha,Option.bind_some,hg,ht]
theorem Xc.mro (F:Xc K c C LE) (b:Value):mroIn K C b=some ((Value.ref C::.ref LE::vb).contains b):=by
  obtain ⟨cd,h1,_,h2⟩:=F.cd
  unfold mroIn
  rw [h1,Option.bind_some,h2]
  rfl
theorem xclass {od:Option Obj} {ox:Obj} {Q:Option Value->Shared->Prop} (F:Xc K c C LE) (X:K.In s.heap) (I:InstAt s.heap x ox C od) (h:Q (some (.ref C)) { s with toks:=s.toks+1 }):wpAny (model prog w) A (getAttr? (.ref x) "__class__") Q E s:=by
  obtain ⟨hp,gn,dr,tk,oz⟩:=s
  dsimp only at X I h
  obtain ⟨cd,hc,_,hm⟩:=F.cd
  have hf:findObj K C od "__class__"=some (.bind (.builtin "getset_descriptor.__get__") (.builtin "object.__class__")):=findObj_dt (by rw [hc]; rfl) F.cl (gcl_get K) (gcl_tk K)
  have GA:=PySem.F.attr_ValueError.ga
  have hsub:Looks (model prog w) hp (isInstance (.ref x) (.type "BaseException")) true:=I.type.andThen (mro_looks X hc hm _)
  unfold getAttr? getAttrBy? getAttrBy
  refine wpAny_bind (wpAny_mkText (wpAny_bind (wpAny_attempt (wpAny_holding (wpAny_bind (I.type.at (wpAny_bind ((looks_findIn X F.ga).at ?_))))))))
  dsimp only
  rw [show (onTheHeap (Value.ref C)&&Value.builtin "BaseException.__getattribute__"==Value.builtin "object.__getattribute__")=false from by rw [show (Value.builtin "BaseException.__getattribute__"==Value.builtin "object.__getattribute__")=false from by decide +kernel,Bool.and_false],if_neg (by decide)]
  unfold getAttrByItsOwn
  have hk:Looks (model prog w) hp (hookBefore (.ref C)) none:=looks_hook X (by rw [if_pos (show onTheHeap (Value.ref C)=true from rfl)]; exact F.gh)
  refine wpAny_bind (hk.at (wpAny_bind (wpAny_attempt (wpAny_holding ?_))))
  unfold callGetattribute
  rw [show (false&&onTheHeap (Value.builtin "BaseException.__getattribute__"))=false from rfl,if_neg (by decide)]
  unfold boundAndCalled
  rw [GA.bind]
  refine wpAny_bind (wpAny_pure ?_)
  show wpAny _ _ (call (.builtin "BaseException.__getattribute__") [.ref x,.str "__class__" tk]) _ _ _
  refine wpAny_call (codeAny_call_builtin GA.plain PySem.F.entry_bexc_ga (@check_slot (model prog w) _ _ ⟨hp,gn,dr,tk+1,oz⟩ "BaseException.__getattribute__" "BaseException" "__getattribute__" (.ref x) [.str "__class__" tk] [] _ bga_kind bga_split hsub (PySem.F.args_bexc_ga (.ref x) (.str "__class__" tk)) ?_))
  unfold Builtin.«object.__getattribute__»
  refine wpAny_bind (wpAny_pure (wpAny_bind (wpAny_pure (wpAny_bind (I.type.at (wpAny_bind ((looks_find X I hf).at ?_)))))))
  show wpAny _ _ (holding [Value.builtin "object.__class__"] (call (.builtin "getset_descriptor.__get__") [.builtin "object.__class__",.ref x,.ref C]) >>= ret) _ _ _
  refine wpAny_bind (wpAny_holding (wpAny_call (class_get X I ?_ (wpAny_pure ?_))))
  · have:=F.mro (.type "object"); exact this
  · show wpAny _ _ (handedOut (.ref C)) _ _ _
    rw [handedOut_of rfl]
    exact wpAny_pure (wpAny_pure h)
theorem kitx_exc {od:Option Obj} {ox:Obj} (F:Xc K c C LE):KitX K (.ref x) (.ref C) (fun h=>InstAt h x ox C od) where
  ty:=fun _ _ _ I=>I.type
  it:=fun _ _ X _=>by
    obtain ⟨cd,hc,_⟩:=F.cd
    unfold clsIn at hc
    split at hc
    · rename_i c' d' cd' sl' ho
      intro A' Q' E' s' k q
      unfold isType loadHead
      exact wpAny_bind (wpAny_loadPart (k _ _ (X _ _ ho)) (wpAny_pure q))
    · cases hc
  ne:=fun h tp dd its n sl X htp=>by
    obtain ⟨cd,hc,_⟩:=F.cd
    refine Bool.eq_false_iff.mpr fun q=>?_
    cases Value.ref.inj (beq_iff_eq.mp q)
    unfold clsIn at hc
    split at hc
    · rename_i c' d' cd' sl' ho
      cases (X _ _ ho).symm.trans htp
    · cases hc
  ca:=fun X I k=>xclass F X I k
end
noncomputable def clV:V->Option Value
  | .ref a=>some (.ref a)
  | .ty n=>some (.type n)
  | _=>none
theorem clV_rel {v:V} {u c:Value} (h:clV v=some c) (r:RelV v u):u=c:=by
  cases v <;> simp only [clV,Option.some.injEq,reduceCtorEq] at h <;> (subst h; exact r)
section
variable {X:Cx} {pins:List (Addr×Obj)} {σ:List (Option V)} {H:Hp} {s:Shared}
theorem inst_exc {x C:Addr} {d:Option Addr} {f:Str} {u:V} (I:Inv X pins σ H s) (he:H x=some (XO x C d)) (hd:d=none\/∃ dx fs,d=some dx/\H dx=some (.xd fs)):∃ ox od,InstAt s.heap x ox C od:=by
  obtain ⟨vs,sl,q⟩:=XO.at I.hok he
  rcases hd with rfl | ⟨dx,fs,rfl,hx⟩
  · exact ⟨_,none,q,rfl,rfl,trivial⟩
  · obtain ⟨mA,n,_⟩:=(show ObjOk X.prog X.w H s.heap dx (.xd fs) from I.hok dx _ hx)
    obtain ⟨od,ho,_⟩:=lookIn_ns n
    exact ⟨_,some od,q,rfl,rfl,ho⟩
noncomputable def rIsX (K:Frag):List V->Hp->VK->Prop:=fun xs H Q=>∃ x C LE c d y cv b,xs=[.ref x,y]/\H x=some (XO x C d)/\(d=none\/∃ dx fs,d=some dx/\H dx=some (.xd fs))/\Xc K c C LE/\clV y=some cv/\kitOne K (.ref C) cv=some b/\Q (.bl b) H
noncomputable def rIsXs (K:Frag):List V->Hp->VK->Prop:=fun xs H Q=>∃ x C LE c d tp ys cvs b,xs=[.ref x,.ref tp]/\H x=some (XO x C d)/\(d=none\/∃ dx fs,d=some dx/\H dx=some (.xd fs))/\Xc K c C LE/\H tp=some (.tup ys)/\ys.map clV=cvs.map some/\kitAny K (.ref C) cvs=some b/\Q (.bl b) H
theorem call_isX:CallR X (.builtin "isinstance") (rIsX X.K):=by
  intro pins s σ H xs us Q I r h
  obtain ⟨x,C,LE,c,d,y,cv,b,ex,hx,hd,F,hy,ek,q⟩:=h
  subst ex
  obtain ⟨u,w',rfl,r1,r2⟩:=Vals.two r
  cases (show u=Value.ref x from r1)
  cases clV_rel hy r2
  obtain ⟨ox,od,J⟩:=inst_exc (f:=c) (u:=y) I hx hd
  exact kia_one (kitx_exc (od:=od) (ox:=ox) F) I.kIn J ek (fun z=>nomatch z) fun tk=>⟨.bl b,H,I.tok tk,rfl,q⟩
theorem clVs_rel:∀ {ys:List V} {us cvs:List Value},ys.map clV=cvs.map some->Vals ys us->us=cvs
  | [],us,cvs,h,r=>by cases r; cases cvs with | nil=>rfl | cons=>simp at h
  | y::ys,us,cvs,h,r=>by
    cases r with
    | cons r1 r2 =>
      cases cvs with
      | nil=>simp at h
      | cons cv cvs =>
        simp only [List.map_cons,List.cons.injEq] at h
        rw [clV_rel h.1 r1,clVs_rel h.2 r2]
theorem call_isXs:CallR X (.builtin "isinstance") (rIsXs X.K):=by
  intro pins s σ H xs us Q I r h
  obtain ⟨x,C,LE,c,d,tp,ys,cvs,b,ex,hx,hd,F,ht,hy,ek,q⟩:=h
  subst ex
  obtain ⟨u,w',rfl,r1,r2⟩:=Vals.two r
  cases (show u=Value.ref x from r1)
  cases (show w'=Value.ref tp from r2)
  obtain ⟨_,its,rv,o,ho,oc,n,od'⟩:=(show ObjOk X.prog X.w H s.heap tp (.tup ys) from I.hok tp _ ht)
  cases clVs_rel hy rv
  obtain ⟨ox,od,J⟩:=inst_exc (f:=c) (u:=.non) I hx hd
  obtain ⟨c0,d0,dt0,sl0⟩:=o
  dsimp only at oc od'
  subst oc od'
  exact kia_tup (kitx_exc (od:=od) (ox:=ox) F) I.kIn J ho ek (fun z=>nomatch z) fun tk=>⟨.bl b,H,I.tok tk,rfl,q⟩
noncomputable def tXget (K:Frag) (te:TE) (f:Str):TE:=fun σ H Q=>te σ H fun v H1=>∃ x C LE c dx y,v=.ref x/\H1 x=some (XO x C (some dx))/\H1 dx=some (.xd [(f,y)])/\Xc K c C LE/\findIn K (.ref C) f=some none/\(∀ i,y≠.ty i)/\Q y H1
theorem pe_xget {e:Expr} {te:TE} {f:Str} {pos:Pos} (he:PE X e te) (hb:attributeBase e f X.env (eval e X.env)=eval e X.env:=by rfl):PE X (.Attribute e f pos) (tXget X.K te f):=by
  intro pins s σ H Q I h
  refine attr_of hb (thn (he pins s σ H _ I h) fun u s1 ⟨v,H1,I1,rx,x,C,LE,c,dx,y,ex,hx,hd,F,hn,ny,q⟩=>?_)
  subst ex
  cases (show u=Value.ref x from rx)
  obtain ⟨vs,sl,z⟩:=XO.at I1.hok hx
  obtain ⟨mA,n,hr⟩:=(show ObjOk X.prog X.w H1 s1.heap dx (.xd [(f,y)]) from I1.hok dx _ hd)
  have hf:=hr f
  simp only [List.lookup,beq_self_eq_true] at hf
  cases hm:mA f with
  | none=>rw [hm] at hf; exact hf.elim
  | some w =>
    rw [hm] at hf
    obtain ⟨cd,hc,_,hmro⟩:=F.cd
    refine xget I1.kIn z n hc hmro F.hd F.ga F.gh hn hm ?_ ⟨y,H1,I1.tok _,hf,q⟩
    cases y <;> first | (cases hf; rfl) | (obtain ⟨t,rfl⟩:=hf; rfl) | (cases (show w=_ from hf); rfl)
end
end L2
namespace EV
open PySem PySem.Spec PyProof.Rows L2
noncomputable abbrev St:=L2.St
inductive D where
  | non | bl (b:Bool) | int (i:Int) | str (x:Str) | tup (xs:List D) | lst (xs:List D) | fz (xs:List D)
  | exn (c f:Str) (xs:List D)
inductive W where
  | d (x:D) | ref (i:Nat)
noncomputable abbrev Lc:=List (Option W)
noncomputable abbrev Mm:=List (List D)
noncomputable abbrev Exn:=D
inductive Oc (α:Type) where
  | ok (a:α) (M:Mm) | ex (x:Exn) (M:Mm) | bad
noncomputable def Oc.bind {α β:Type} (o:Oc α) (k:α->Mm->Oc β):Oc β:=match o with
  | .ok a M=>k a M
  | .ex x M=>.ex x M
  | .bad=>.bad
@[simp] theorem bind_ok {α β:Type} (a:α) (M:Mm) (k:α->Mm->Oc β):(Oc.ok a M).bind k=k a M:=rfl
@[simp] theorem bind_ex {α β:Type} (x:Exn) (M:Mm) (k:α->Mm->Oc β):(Oc.ex x M:Oc α).bind k=.ex x M:=rfl
@[simp] theorem bind_bad {α β:Type} (k:α->Mm->Oc β):(Oc.bad:Oc α).bind k=.bad:=rfl
section
variable (K:PySem.W.Frag) (μ:List Addr) (H:Hp)
noncomputable def FzL (a:Addr) (vs:List V):Prop:=(∃ o,H a=some (.frz o (.lst vs))) \/
  ∃ (o:Obj) (its:Array Value) (n:Nat),K.lookup a=some o/\o.cls=.type "list"/\o.dict=none/\o.data=.seq its n/\its.size<=sizeLine/\Vals vs its.toList
noncomputable def XFl (C:Addr) (f:Str) (d:Option Addr) (vs:List V):Prop:=(d=none/\vs=[])\/∃ dx u,d=some dx/\vs=[u]/\H dx=some (.xd [(f,u)])/\PySem.W.findIn K (.ref C) f=some none
mutual
noncomputable def Rp:D->V->Prop
  | .non,v=>v=.non
  | .bl b,v=>v=.bl b
  | .int i,v=>v=.int i
  | .str x,v=>v=.str x
  | .tup ds,v=>∃ a vs,v=.ref a/\H a=some (.tup vs)/\Rps ds vs
  | .lst ds,v=>∃ a vs,v=.ref a/\H a=some (.lst vs)/\a∉μ/\Rps ds vs
  | .fz ds,v=>∃ a vs,v=.ref a/\FzL K H a vs/\Rps ds vs
  | .exn c f ds,v=>∃ a vs C LE d,v=.ref a/\H a=some (XO a C d)/\Xc K c C LE/\XFl K H C f d vs/\Rps ds vs
noncomputable def Rps:List D->List V->Prop
  | [],vs=>vs=[]
  | d::ds,vs=>∃ v r,vs=v::r/\Rp d v/\Rps ds r
end
noncomputable def Rw:W->V->Prop
  | .d x,v=>Rp K μ H x v
  | .ref i,v=>∃ a,μ[i]?=some a/\v=.ref a
noncomputable def Rws:List W->List V->Prop
  | [],vs=>vs=[]
  | d::ds,vs=>∃ v r,vs=v::r/\Rw K μ H d v/\Rws ds r
structure HR (M:Mm):Prop where
  len:μ.length=M.length
  nd:μ.Nodup
  ent:∀ (i:Nat) (a:Addr) (ds:List D),μ[i]?=some a->M[i]?=some ds->∃ vs,H a=some (.lst vs)/\Rps K μ H ds vs
structure LR (L:Lc) (σ:St):Prop where
  len:L.length=σ.length
  ent:∀ (i:Nat) (w:W),L[i]?=some (some w)->∃ v,σ[i]?=some (some v)/\Rw K μ H w v
end
structure Ext (μ:List Addr) (H:Hp) (μ':List Addr) (H':Hp):Prop where
  keep:∀ a o,a∉μ->H a=some o->H' a=some o
  new:∀ a,a∈μ'->a∈μ\/H a=none
  pre:∀ (i:Nat) (a:Addr),μ[i]?=some a->μ'[i]?=some a
section
variable {K:PySem.W.Frag} {μ μ1 μ2:List Addr} {H H1 H2:Hp} {M:Mm}
theorem FzL.sq {a:Addr} {vs:List V} (h:FzL K H a vs):SqL K H a vs:=by
  rcases h with ⟨o,h⟩ | h
  · exact .inl (.inr ⟨o,h⟩)
  · exact .inr h
theorem Ext.refl:Ext μ H μ H:=⟨fun _ _ _ h=>h,fun _ h=>.inl h,fun _ _ h=>h⟩
theorem Ext.out (e:Ext μ H μ1 H1) {a:Addr} {o:HO} (h:H a=some o) (n:a∉μ):a∉μ1:=fun z=>by
  rcases e.new a z with z | z
  · exact n z
  · rw [h] at z; cases z
theorem Ext.trans (e:Ext μ H μ1 H1) (f:Ext μ1 H1 μ2 H2):Ext μ H μ2 H2 where
  keep:=fun a o n h=>f.keep a o (e.out h n) (e.keep a o n h)
  new:=fun a h=>by
    rcases f.new a h with h | h
    · exact e.new a h
    · by_cases n:a∈μ
      · exact .inl n
      · cases q:H a with
        | none=>exact .inr rfl
        | some o=>rw [e.keep a o n q] at h; cases h
  pre:=fun i a h=>f.pre i a (e.pre i a h)
noncomputable def Lsts (μ:List Addr) (H:Hp):Prop:=∀ a∈μ,∃ vs,H a=some (.lst vs)
theorem HR.lsts (h:HR K μ H M):Lsts μ H:=fun a ha=>by
  obtain ⟨i,hi,e⟩:=List.mem_iff_getElem.mp ha
  have hM:i < M.length:=h.len▸hi
  obtain ⟨vs,q,_⟩:=h.ent i a M[i] (by rw [List.getElem?_eq_getElem hi,e]) (by simp [hM])
  exact ⟨vs,q⟩
theorem Rd.ext {a:Addr} {u:HO} (hu:∀ vs,u≠.lst vs) (l:Lsts μ H) (e:Ext μ H μ1 H1) (h:Rd H a u):Rd H1 a u:=by
  rcases h with h | ⟨o,h⟩
  · exact .inl (e.keep a _ (fun z=>by obtain ⟨vs,q⟩:=l a z; rw [h] at q; cases q; exact hu _ rfl) h)
  · exact .inr ⟨o,e.keep a _ (fun z=>by obtain ⟨vs,q⟩:=l a z; rw [h] at q; cases q) h⟩
theorem SqT.ext {a:Addr} {vs:List V} (l:Lsts μ H) (e:Ext μ H μ1 H1) (h:SqT K H a vs):SqT K H1 a vs:=by
  rcases h with h | h
  · exact .inl (Rd.ext (fun _ z=>by cases z) l e h)
  · exact .inr h
theorem FzL.ext {a:Addr} {vs:List V} (l:Lsts μ H) (e:Ext μ H μ1 H1) (h:FzL K H a vs):FzL K H1 a vs:=by
  rcases h with ⟨o,h⟩ | h
  · exact .inl ⟨o,e.keep a _ (fun z=>by obtain ⟨vs,q⟩:=l a z; rw [h] at q; cases q) h⟩
  · exact .inr h
theorem XFl.ext {C:Addr} {f:Str} {d:Option Addr} {vs:List V} (l:Lsts μ H) (e:Ext μ H μ1 H1) (h:XFl K H C f d vs):XFl K H1 C f d vs:=by
  rcases h with h | ⟨dx,u,h1,h2,h3,h4⟩
  · exact .inl h
  · exact .inr ⟨dx,u,h1,h2,e.keep dx _ (fun z=>by obtain ⟨vs,q⟩:=l dx z; rw [h3] at q; cases q) h3,h4⟩
mutual
theorem Rp.ext (l:Lsts μ H) (e:Ext μ H μ1 H1):∀ (d:D) (v:V),Rp K μ H d v->Rp K μ1 H1 d v
  | .non,v,h=>by simpa [Rp] using h
  | .bl b,v,h=>by simpa [Rp] using h
  | .int b,v,h=>by simpa [Rp] using h
  | .str b,v,h=>by simpa [Rp] using h
  | .tup ds,v,h=>by
    simp only [Rp] at h ⊢
    obtain ⟨a,vs,e1,e2,e3⟩:=h
    exact ⟨a,vs,e1,e.keep _ _ (fun z=>by obtain ⟨us,q⟩:=l a z; rw [e2] at q; cases q) e2,Rps.ext l e ds vs e3⟩
  | .lst ds,v,h=>by
    simp only [Rp] at h ⊢
    obtain ⟨a,vs,e1,e2,n,e3⟩:=h
    exact ⟨a,vs,e1,e.keep _ _ n e2,e.out e2 n,Rps.ext l e ds vs e3⟩
  | .fz ds,v,h=>by
    simp only [Rp] at h ⊢
    obtain ⟨a,vs,e1,e2,e3⟩:=h
    exact ⟨a,vs,e1,FzL.ext l e e2,Rps.ext l e ds vs e3⟩
  | .exn c f ds,v,h=>by
    simp only [Rp] at h ⊢
    obtain ⟨a,vs,C,LE,d,e1,e2,e3,e4,e5⟩:=h
    exact ⟨a,vs,C,LE,d,e1,e.keep _ _ (fun z=>by obtain ⟨us,q⟩:=l a z; rw [e2] at q; cases q) e2,e3,XFl.ext l e e4,Rps.ext l e ds vs e5⟩
theorem Rps.ext (l:Lsts μ H) (e:Ext μ H μ1 H1):∀ (ds:List D) (vs:List V),Rps K μ H ds vs->Rps K μ1 H1 ds vs
  | [],vs,h=>by simpa [Rps] using h
  | d::ds,vs,h=>by
    simp only [Rps] at h ⊢
    obtain ⟨v,r,e1,e2,e3⟩:=h
    exact ⟨v,r,e1,Rp.ext l e d v e2,Rps.ext l e ds r e3⟩
end
theorem Rw.ext (l:Lsts μ H) (e:Ext μ H μ1 H1) {w:W} {v:V} (h:Rw K μ H w v):Rw K μ1 H1 w v:=by
  cases w with
  | d x=>exact Rp.ext l e x v h
  | ref i=>obtain ⟨a,h1,h2⟩:=h; exact ⟨a,e.pre i a h1,h2⟩
theorem Rws.ext (l:Lsts μ H) (e:Ext μ H μ1 H1):∀ {ws:List W} {vs:List V},Rws K μ H ws vs->Rws K μ1 H1 ws vs
  | [],_,h=>h
  | _::_,_,⟨v,r,e1,e2,e3⟩=>⟨v,r,e1,Rw.ext l e e2,Rws.ext l e e3⟩
theorem LR.ext (l:Lsts μ H) (e:Ext μ H μ1 H1) {L:Lc} {σ:St} (h:LR K μ H L σ):LR K μ1 H1 L σ :=
  ⟨h.len,fun i w q=>let ⟨v,q1,q2⟩:=h.ent i w q; ⟨v,q1,Rw.ext l e q2⟩⟩
theorem Rps.length:∀ {ds:List D} {vs:List V},Rps K μ H ds vs->ds.length=vs.length
  | [],_,h=>by simp only [Rps] at h; subst h; rfl
  | _::_,_,h=>by simp only [Rps] at h; obtain ⟨v,r,e1,_,e3⟩:=h; subst e1; simp [Rps.length e3]
theorem Rps.get:∀ {ds:List D} {vs:List V} {i:Nat} {d:D},Rps K μ H ds vs->ds[i]?=some d->∃ v,vs[i]?=some v/\Rp K μ H d v
  | [],_,_,_,_,q=>by simp at q
  | _::_,_,0,_,h,q=>by simp only [Rps] at h; obtain ⟨v,r,e1,e2,e3⟩:=h; simp at q; subst q e1; exact ⟨v,rfl,e2⟩
  | _::_,_,i+1,_,h,q=>by
    simp only [Rps] at h; obtain ⟨v,r,e1,e2,e3⟩:=h; subst e1
    obtain ⟨u,q1,q2⟩:=Rps.get (i:=i) e3 (by simpa using q)
    exact ⟨u,by simpa using q1,q2⟩
theorem Rps.nil:Rps K μ H [] []:=by simp [Rps]
theorem Rps.cons {d:D} {v:V} {ds:List D} {vs:List V} (h:Rp K μ H d v) (t:Rps K μ H ds vs):Rps K μ H (d::ds) (v::vs):=by simp only [Rps]; exact ⟨v,vs,rfl,h,t⟩
theorem Rps.append:∀ {ds es:List D} {vs us:List V},Rps K μ H ds vs->Rps K μ H es us->Rps K μ H (ds++es) (vs++us)
  | [],_,_,_,h,t=>by simp only [Rps] at h; subst h; exact t
  | _::_,_,_,_,h,t=>by simp only [Rps] at h; obtain ⟨v,r,e1,e2,e3⟩:=h; subst e1; exact .cons e2 (Rps.append e3 t)
theorem Rps.drop:∀ {ds:List D} {vs:List V} (n:Nat),Rps K μ H ds vs->Rps K μ H (ds.drop n) (vs.drop n)
  | _,_,0,h=>by simpa using h
  | [],_,n+1,h=>by simp only [Rps] at h; subst h; exact .nil
  | _::_,_,n+1,h=>by simp only [Rps] at h; obtain ⟨v,r,e1,e2,e3⟩:=h; subst e1; simpa using Rps.drop n e3
theorem Rps.take:∀ {ds:List D} {vs:List V} (n:Nat),Rps K μ H ds vs->Rps K μ H (ds.take n) (vs.take n)
  | _,_,0,h=>by simpa using Rps.nil
  | [],_,n+1,h=>by simp only [Rps] at h; subst h; exact .nil
  | _::_,_,n+1,h=>by simp only [Rps] at h; obtain ⟨v,r,e1,e2,e3⟩:=h; subst e1; simpa using Rps.cons e2 (Rps.take n e3)
theorem Rps.set {d:D} {v:V} (q:Rp K μ H d v):∀ {ds:List D} {vs:List V} (n:Nat),Rps K μ H ds vs->Rps K μ H (ds.set n d) (vs.set n v)
  | [],_,n,h=>by simp only [Rps] at h; subst h; simpa using Rps.nil
  | _::_,_,0,h=>by simp only [Rps] at h; obtain ⟨u,r,e1,e2,e3⟩:=h; subst e1; simpa using Rps.cons q e3
  | _::_,_,n+1,h=>by simp only [Rps] at h; obtain ⟨u,r,e1,e2,e3⟩:=h; subst e1; simpa using Rps.cons e2 (Rps.set q n e3)
theorem Rps.dropLast {ds:List D} {vs:List V} (h:Rps K μ H ds vs):Rps K μ H ds.dropLast vs.dropLast:=by
  rw [List.dropLast_eq_take,List.dropLast_eq_take,<- h.length]; exact h.take _
theorem Rps.eraseIdx:∀ {ds:List D} {vs:List V} (n:Nat),Rps K μ H ds vs->Rps K μ H (ds.eraseIdx n) (vs.eraseIdx n)
  | [],_,n,h=>by simp only [Rps] at h; subst h; simpa using Rps.nil
  | _::_,_,0,h=>by simp only [Rps] at h; obtain ⟨u,r,e1,e2,e3⟩:=h; subst e1; simpa using e3
  | _::_,_,n+1,h=>by simp only [Rps] at h; obtain ⟨u,r,e1,e2,e3⟩:=h; subst e1; simpa using Rps.cons e2 (Rps.eraseIdx n e3)
theorem Rps.reverse {ds:List D}:∀ {vs:List V},Rps K μ H ds vs->Rps K μ H ds.reverse vs.reverse:=by
  induction ds with
  | nil=>intro vs h; simp only [Rps] at h; subst h; exact .nil
  | cons d ds ih=>intro vs h; simp only [Rps] at h; obtain ⟨u,r,e1,e2,e3⟩:=h; subst e1; simpa using (ih e3).append (.cons e2 .nil)
theorem Rps.rep {ds:List D} {vs:List V} (h:Rps K μ H ds vs):∀ k:Nat,Rps K μ H (List.replicate k ds).flatten (List.replicate k vs).flatten
  | 0=>by simpa using Rps.nil
  | k+1=>by simpa [List.replicate_succ] using h.append (h.rep k)
theorem Rps.ints {ns:List Int}:Rps K μ H (ns.map D.int) (ns.map V.int):=by
  induction ns with
  | nil=>exact .nil
  | cons n r ih=>exact .cons (by simp [Rp]) ih
theorem Rws.length:∀ {ws:List W} {vs:List V},Rws K μ H ws vs->ws.length=vs.length
  | [],_,h=>by cases h; rfl
  | _::_,_,⟨v,r,e1,_,e3⟩=>by subst e1; simp [Rws.length e3]
theorem Rws.get:∀ {ws:List W} {vs:List V} {i:Nat} {w:W},Rws K μ H ws vs->ws[i]?=some w->∃ v,vs[i]?=some v/\Rw K μ H w v
  | [],_,_,_,_,q=>by simp at q
  | _::_,_,0,_,⟨v,r,e1,e2,e3⟩,q=>by simp at q; subst q e1; exact ⟨v,rfl,e2⟩
  | _::_,_,i+1,_,⟨v,r,e1,e2,e3⟩,q=>by
    subst e1
    obtain ⟨u,q1,q2⟩:=Rws.get (i:=i) e3 (by simpa using q)
    exact ⟨u,by simpa using q1,q2⟩
theorem HR.out (h:HR K μ H M) {p:Addr} (hp:H p=none):p∉μ:=fun z=>by
  obtain ⟨vs,q⟩:=h.lsts p z
  rw [hp] at q; cases q
theorem ext_lay (h:HR K μ H M) {p:Addr} {o:HO} (hp:H p=none):Ext μ H μ (upd H p o) :=
  ⟨fun a u n q=>by rw [upd_ne (ne_of_none q hp)]; exact q,fun a q=>.inl q,fun _ _ q=>q⟩
theorem HR.lay (h:HR K μ H M) {p:Addr} {o:HO} (hp:H p=none):HR K μ (upd H p o) M where
  len:=h.len
  nd:=h.nd
  ent:=fun i a ds q1 q2=>by
    obtain ⟨vs,q3,q4⟩:=h.ent i a ds q1 q2
    exact ⟨vs,by rw [upd_ne (ne_of_none q3 hp)]; exact q3,Rps.ext h.lsts (ext_lay h hp) _ _ q4⟩
theorem ext_new (h:HR K μ H M) {p:Addr} {vs:List V} (hp:H p=none):Ext μ H (μ++[p]) (upd H p (.lst vs)) where
  keep:=fun a u n q=>by rw [upd_ne (ne_of_none q hp)]; exact q
  new:=fun a q=>by
    rcases List.mem_append.mp q with q | q
    · exact .inl q
    · rw [List.mem_singleton] at q; subst q; exact .inr hp
  pre:=fun i a q=>by
    rw [List.getElem?_append_left (List.getElem?_eq_some_iff.mp q).1]; exact q
theorem HR.new (h:HR K μ H M) {p:Addr} {ds:List D} {vs:List V} (hp:H p=none) (r:Rps K μ H ds vs):HR K (μ++[p]) (upd H p (.lst vs)) (M++[ds]) where
  len:=by simp [h.len]
  nd:=List.nodup_append.mpr ⟨h.nd,by simp,fun a ha b hb=>by rw [List.mem_singleton] at hb; subst hb; rintro rfl; exact h.out hp ha⟩
  ent:=fun i a es q1 q2=>by
    have x:=ext_new (vs:=vs) h hp
    by_cases hi:i < μ.length
    · rw [List.getElem?_append_left hi] at q1
      rw [List.getElem?_append_left (by rw [<- h.len]; exact hi)] at q2
      obtain ⟨us,q3,q4⟩:=h.ent i a es q1 q2
      exact ⟨us,by rw [upd_ne (ne_of_none q3 hp)]; exact q3,Rps.ext h.lsts x _ _ q4⟩
    · have:i=μ.length:=by
        have:=(List.getElem?_eq_some_iff.mp q1).1
        simp at this; omega
      subst this
      rw [List.getElem?_append_right (Nat.le_refl _)] at q1
      rw [h.len,List.getElem?_append_right (Nat.le_refl _)] at q2
      simp at q1 q2
      subst q1 q2
      exact ⟨vs,upd_same,Rps.ext h.lsts x _ _ r⟩
theorem ext_set {i:Nat} {a:Addr} {o:HO} (q:μ[i]?=some a):Ext μ H μ (upd H a o) :=
  ⟨fun b u n q'=>by rw [upd_ne (fun z=>n (by subst z; exact List.mem_of_getElem? q))]; exact q',fun a q=>.inl q,fun _ _ q=>q⟩
theorem HR.set (h:HR K μ H M) {i:Nat} {a:Addr} {ds:List D} {vs:List V} (q:μ[i]?=some a) (r:Rps K μ H ds vs):HR K μ (upd H a (.lst vs)) (M.set i ds) where
  len:=by simp [h.len]
  nd:=h.nd
  ent:=fun j b es q1 q2=>by
    have x:=ext_set (H:=H) (o:=.lst vs) q
    by_cases hj:i=j
    · subst hj
      rw [q] at q1; cases q1
      have hlt:i < M.length:=by rw [<- h.len]; exact (List.getElem?_eq_some_iff.mp q).1
      rw [List.getElem?_set_self hlt] at q2; cases q2
      exact ⟨vs,upd_same,Rps.ext h.lsts x _ _ r⟩
    · rw [List.getElem?_set_ne hj] at q2
      obtain ⟨us,q3,q4⟩:=h.ent j b es q1 q2
      have hb:b≠a:=by
        rintro rfl
        have h1:=(List.getElem?_eq_some_iff.mp q).1
        have h2:=(List.getElem?_eq_some_iff.mp q1).1
        have e1:=(List.getElem?_eq_some_iff.mp q).2
        have e2:=(List.getElem?_eq_some_iff.mp q1).2
        have pw:=List.pairwise_iff_getElem.mp h.nd
        rcases Nat.lt_or_gt_of_ne hj with l | l
        · exact pw i j h1 h2 l (e1.trans e2.symm)
        · exact pw j i h2 h1 l (e2.trans e1.symm)
      exact ⟨us,by rw [upd_ne hb]; exact q3,Rps.ext h.lsts x _ _ q4⟩
theorem HR.at (h:HR K μ H M) {i:Nat} {ds:List D} (q:M[i]?=some ds):∃ a vs,μ[i]?=some a/\H a=some (.lst vs)/\Rps K μ H ds vs:=by
  have hlt:i < μ.length:=by rw [h.len]; exact (List.getElem?_eq_some_iff.mp q).1
  obtain ⟨vs,q1,q2⟩:=h.ent i μ[i] ds (by simp [hlt]) q
  exact ⟨μ[i],vs,by simp [hlt],q1,q2⟩
end
structure Zt where
  z:Exn->Mm->List Addr->Hp->Prop
  mono:∀ {x M μ H μ' H'},Ext μ H μ' H'->z x M μ H->z x M μ' H'
noncomputable def Z0:Zt:=⟨fun _ _ _ _=>False,fun _ h=>h⟩
noncomputable def Pst {α:Type} (K:PySem.W.Frag) (Z:Zt) (μ:List Addr) (H:Hp) (o:Oc α) (Q:List Addr->Hp->Mm->α->Prop):Prop:=match o with
  | .ok a M'=>∀ μ' H',Ext μ H μ' H'->HR K μ' H' M'->Q μ' H' M' a
  | .ex x M'=>Z.z x M' μ H
  | .bad=>False
section
variable {α β:Type} {K:PySem.W.Frag} {Z:Zt} {μ μ1:List Addr} {H H1:Hp} {o:Oc α} {Q Q':List Addr->Hp->Mm->α->Prop}
theorem Pst.mono (e:Ext μ H μ1 H1) (h:Pst K Z μ H o Q):Pst K Z μ1 H1 o Q:=by
  cases o with
  | ok a M=>exact fun μ' H' e' hr=>h μ' H' (e.trans e') hr
  | ex x M=>exact Z.mono e h
  | bad=>exact h
theorem Pst.imp (h:Pst K Z μ H o Q) (f:∀ μ' H' M' a,Ext μ H μ' H'->HR K μ' H' M'->o=.ok a M'->Q μ' H' M' a->Q' μ' H' M' a):Pst K Z μ H o Q':=by
  cases o with
  | ok a M=>exact fun μ' H' e' hr=>f μ' H' M a e' hr rfl (h μ' H' e' hr)
  | ex x M=>exact h
  | bad=>exact h
theorem Pst.bind {k:α->Mm->Oc β} {R:List Addr->Hp->Mm->β->Prop} (h:Pst K Z μ H (o.bind k) R):Pst K Z μ H o (fun μ' H' M' a=>Pst K Z μ' H' (k a M') R):=by
  cases o with
  | ok a M=>exact fun μ' H' e' hr=>Pst.mono e' h
  | ex x M=>exact h
  | bad=>exact h
end
noncomputable abbrev FE:=Lc->Mm->Oc W
noncomputable abbrev FT:=Lc->Mm->Oc Bool
noncomputable abbrev FA:=Lc->Mm->Oc (List W)
inductive Out where
  | nx (L:Lc) | bk (L:Lc) | ct (L:Lc) | rt (w:W)
noncomputable abbrev FS:=Lc->Mm->Oc Out
noncomputable abbrev FG:=W->Lc->Mm->Oc Lc
noncomputable abbrev FGs:=List D->Lc->Mm->Oc Lc
noncomputable abbrev Fn:=List W->Mm->Oc W
section
variable (K:PySem.W.Frag) (Z:Zt)
noncomputable def lift (f:FE):TE:=fun σ H Q=>∃ μ M L,HR K μ H M/\LR K μ H L σ/\Pst K Z μ H (f L M) fun μ' H' _ w=>∀ v,Rw K μ' H' w v->Q v H'
noncomputable def liftT (f:FT):TT:=fun σ H Q=>∃ μ M L,HR K μ H M/\LR K μ H L σ/\Pst K Z μ H (f L M) fun μ' H' M' b=>Q b H'
noncomputable def liftA (f:FA):TA:=fun σ H Q=>∃ μ M L,HR K μ H M/\LR K μ H L σ/\Pst K Z μ H (f L M) fun μ' H' _ ws=>∀ vs,Rws K μ' H' ws vs->Q vs H'
end
end EV
namespace EV
open PySem PySem.Spec PyProof.Rows L2
section
variable (X:Cx) (K:PySem.W.Frag) (Z:Zt)
noncomputable abbrev Sk (K:PySem.W.Frag) (E:Ends) (μ':List Addr) (H':Hp) (_:Mm) (o:Out):Prop:=match o with
  | .nx L'=>∀ σ',LR K μ' H' L' σ'->E.nx σ' H'
  | .bk L'=>∀ σ',LR K μ' H' L' σ'->E.bk σ' H'
  | .ct L'=>∀ σ',LR K μ' H' L' σ'->E.ct σ' H'
  | .rt w=>∀ v,Rw K μ' H' w v->E.rt v H'
noncomputable def liftS (F:FS):TS:=fun E σ H=>∃ μ M L,HR K μ H M/\LR K μ H L σ/\Pst K Z μ H (F L M) (Sk K E)
noncomputable def liftG (g:FG):TG:=fun v σ H Q=>∃ μ M L w,HR K μ H M/\LR K μ H L σ/\Rw K μ H w v/\Pst K Z μ H (g w L M) fun μ' H' _ L'=>∀ σ',LR K μ' H' L' σ'->Q σ' H'
noncomputable def liftGs (g:FGs):TGs:=fun vs σ H Q=>∃ μ M L ds,HR K μ H M/\LR K μ H L σ/\Rps K μ H ds vs/\Pst K Z μ H (g ds L M) fun μ' H' _ L'=>∀ σ',LR K μ' H' L' σ'->Q σ' H'
structure Ev (e:Expr) (f:FE):Prop where
  k:X.K=K
  h:PE X e (lift K Z f)
structure Et (e:Expr) (f:FT):Prop where
  k:X.K=K
  h:PT X e (liftT K Z f)
structure Ew (e:Expr) (f:FT):Prop where
  k:X.K=K
  h:PW X e (liftT K Z f)
structure Ea (es:List Expr) (f:FA):Prop where
  k:X.K=K
  h:PA X es (liftA K Z f)
structure Es (st:Stmt) (F:FS):Prop where
  k:X.K=K
  h:PS X st (liftS K Z F)
structure Ess (st:List Stmt) (F:FS):Prop where
  k:X.K=K
  h:PSs X st (liftS K Z F)
structure Eg (tg:Expr) (g:FG):Prop where
  k:X.K=K
  h:PG X tg (liftG K Z g)
structure Egs (tg:List Expr) (g:FGs):Prop where
  k:X.K=K
  h:PGs X tg (liftGs K Z g)
end
section
variable {X:Cx} {K:PySem.W.Frag} {Z:Zt} {e a b:Expr} {es:List Expr} {pos:Pos} {f fa fb fc:FE} {t ta tb:FT} {fs:FA}
theorem cqE {t t':TE} (h:PE X e t) (i:∀ σ H Q,t' σ H Q->t σ H Q):PE X e t':=fun pins s σ H Q I q=>h pins s σ H Q I (i _ _ _ q)
theorem cqT {t t':TT} (h:PT X e t) (i:∀ σ H Q,t' σ H Q->t σ H Q):PT X e t':=fun pins s σ H Q I q=>h pins s σ H Q I (i _ _ _ q)
theorem cqW {t t':TT} (h:PW X e t) (i:∀ σ H Q,t' σ H Q->t σ H Q):PW X e t':=fun wh pins s σ H Q I q=>h wh pins s σ H Q I (i _ _ _ q)
theorem cqA {t t':TA} (h:PA X es t) (i:∀ σ H Q,t' σ H Q->t σ H Q):PA X es t':=fun p pins s σ H Q I q=>h p pins s σ H Q I (i _ _ _ q)
theorem cqS {st:Stmt} {t t':TS} (h:PS X st t) (i:∀ E σ H,t' E σ H->t E σ H):PS X st t':=fun pins s σ H E I q=>h pins s σ H E I (i _ _ _ q)
theorem cqSs {st:List Stmt} {t t':TS} (h:PSs X st t) (i:∀ E σ H,t' E σ H->t E σ H):PSs X st t':=fun pins s σ H E I q=>h pins s σ H E I (i _ _ _ q)
theorem cqG {t t':TG} (h:PG X e t) (i:∀ v σ H Q,t' v σ H Q->t v σ H Q):PG X e t':=fun pins s σ H v u Q I r q=>h pins s σ H v u Q I r (i _ _ _ _ q)
theorem cqGs {t t':TGs} (h:PGs X es t) (i:∀ v σ H Q,t' v σ H Q->t v σ H Q):PGs X es t':=fun pins s σ H v u Q I r q=>h pins s σ H v u Q I r (i _ _ _ _ q)
noncomputable def eV (i:Nat):FE:=fun L M=>match L[i]? with
  | some (some w)=>.ok w M
  | _=>.bad
noncomputable def eC (d:D):FE:=fun _ M=>.ok (.d d) M
theorem ev_var (i:Nat) {x:Str} (hN:X.N[i]?=some x:=by rfl) (hk:X.K=K:=by rfl) (hv:Vis X.env.scope x:=by first | exact Or.inl rfl | exact Or.inr (Or.inl rfl) | exact Or.inr (Or.inr rfl))
    (hd:(x==("__debug__":Str))=false:=by decide) (hcd:(x==("__classdict__":Str))=false:=by decide):Ev X K Z (.Name x pos) (eV i) :=
  ⟨hk,cqE (pe_var hN hv hd hcd) fun σ H Q ⟨μ,M,L,hr,lr,p⟩=>by
    unfold eV at p
    cases q:L[i]? with
    | none=>rw [q] at p; exact p.elim
    | some o =>
      cases o with
      | none=>rw [q] at p; exact p.elim
      | some w =>
        rw [q] at p
        obtain ⟨v,q1,q2⟩:=lr.ent i w q
        exact ⟨v,q1,p μ H .refl hr v q2⟩⟩
theorem ev_c {d:D} {v:V} (hd:∀ K μ H,Rp K μ H d v) (hk:X.K=K) (h:PE X e (tC v)):Ev X K Z e (eC d) :=
  ⟨hk,cqE h fun σ H Q ⟨μ,M,L,hr,lr,p⟩=>p μ H .refl hr v (hd K μ H)⟩
theorem ev_int {i:Int} {j:Nat} (hk:X.K=K:=by rfl):Ev X K Z (.Constant (.int i) j pos) (eC (.int i)):=ev_c (fun _ _ _=>by simp [Rp]) hk pe_int
theorem ev_bl {i:Bool} {j:Nat} (hk:X.K=K:=by rfl):Ev X K Z (.Constant (.bool i) j pos) (eC (.bl i)):=ev_c (fun _ _ _=>by simp [Rp]) hk pe_bl
theorem ev_non {j:Nat} (hk:X.K=K:=by rfl):Ev X K Z (.Constant .none j pos) (eC .non):=ev_c (fun _ _ _=>by simp [Rp]) hk pe_non
theorem ev_str {x:Str} {j:Nat} (hk:X.K=K:=by rfl):Ev X K Z (.Constant (.str x) j pos) (eC (.str x)):=ev_c (fun _ _ _=>by simp [Rp]) hk pe_str
noncomputable def e1 (g:W->Mm->Oc W) (f:FE):FE:=fun L M=>(f L M).bind g
noncomputable def e2 (g:W->W->Mm->Oc W) (f1 f2:FE):FE:=fun L M=>(f1 L M).bind fun x M1=>(f2 L M1).bind fun y M2=>g x y M2
noncomputable abbrev Wk (K:PySem.W.Frag) (Q:VK):List Addr->Hp->Mm->W->Prop:=fun μ' H' _ w=>∀ v,Rw K μ' H' w v->Q v H'
noncomputable def Op2 (K:PySem.W.Frag) (Z:Zt) (r:R2) (g:W->W->Mm->Oc W):Prop :=
  ∀ (μ:List Addr) (H:Hp) (M:Mm) (x y:W) (v u:V) (Q:VK),HR K μ H M->Rw K μ H x v->Rw K μ H y u->Pst K Z μ H (g x y M) (Wk K Q)->r v u H Q
noncomputable def OpG (X:Cx) (K:PySem.W.Frag) (Z:Zt) (f:Value->Value->Sem Value) (g:W->W->Mm->Oc W):Prop:=X.K=K->∃ r,OpR X f r/\Op2 K Z r g
theorem lift2 {r:R2} {g:W->W->Mm->Oc W} (hg:Op2 K Z r g):∀ σ H Q,lift K Z (e2 g fa fb) σ H Q->tOp r (lift K Z fa) (lift K Z fb) σ H Q:=by
  rintro σ H Q ⟨μ,M,L,hr,lr,p⟩
  refine ⟨μ,M,L,hr,lr,p.bind.imp fun μ1 H1 M1 x e1 hr1 _ p1 v rx=>?_⟩
  refine ⟨μ1,M1,L,hr1,lr.ext hr.lsts e1,p1.bind.imp fun μ2 H2 M2 y e2 hr2 _ p2 u ry=>?_⟩
  exact hg μ2 H2 M2 x y v u Q hr2 (rx.ext hr1.lsts e2) ry p2
theorem ev_op {op:Operator} {g:W->W->Mm->Oc W} (ho:OpG X K Z (binaryOp op) g) (ha:Ev X K Z a fa) (hb:Ev X K Z b fb):Ev X K Z (.BinOp a op b pos) (e2 g fa fb):=by
  obtain ⟨r,h1,h2⟩:=ho ha.k
  exact ⟨ha.k,cqE (pe_op h1 ha.h hb.h) (lift2 h2)⟩
theorem ev_cmp {op:CmpOp} {g:W->W->Mm->Oc W} (ho:OpG X K Z (compareOp op) g) (ha:Ev X K Z a fa) (hb:Ev X K Z b fb) (hm:behindInMarks op b=false):Ev X K Z (.Compare a [op] [b] pos) (e2 g fa fb):=by
  obtain ⟨r,h1,h2⟩:=ho ha.k
  exact ⟨ha.k,cqE (pe_cmpR h1 ha.h hb.h hm) (lift2 h2)⟩
noncomputable def tB (f:FE):FT:=fun L M=>(f L M).bind fun w M1=>match w with
  | .d (.bl b)=>.ok b M1
  | _=>.bad
theorem et_cmp {op:CmpOp} {g:W->W->Mm->Oc W} (ho:OpG X K Z (compareOp op) g) (ha:Ev X K Z a fa) (hb:Ev X K Z b fb) (hm:behindInMarks op b=false):Et X K Z (.Compare a [op] [b] pos) (tB (e2 g fa fb)):=by
  obtain ⟨r,h1,h2⟩:=ho ha.k
  refine ⟨ha.k,cqT (pt_cmpR h1 ha.h hb.h hm) ?_⟩
  rintro σ H Q ⟨μ,M,L,hr,lr,p⟩
  refine lift2 h2 σ H _ ⟨μ,M,L,hr,lr,p.bind.imp fun μ1 H1 M1 x e1 hr1 _ p1 v rx=>?_⟩
  cases x with
  | d y=>cases y with
    | bl c=>exact ⟨c,by simpa [Rw,Rp] using rx,p1 μ1 H1 .refl hr1⟩
    | _=>exact p1.elim
  | ref i=>exact p1.elim
noncomputable def tru (M:Mm):W->Option Bool
  | .d .non=>some false
  | .d (.bl b)=>some b
  | .d (.int i)=>some (i != 0)
  | .d (.str x)=>if x.length<=16777216 then some (x.length != 0) else none
  | .d (.tup xs)=>some (!xs.isEmpty)
  | .d (.lst xs)=>some (!xs.isEmpty)
  | .d (.fz xs)=>some (!xs.isEmpty)
  | .d (.exn _ _ _)=>none
  | .ref i=>(M[i]?).map fun xs=>!xs.isEmpty
noncomputable def tV (f:FE):FT:=fun L M=>(f L M).bind fun w M1=>match tru M1 w with
  | some b=>.ok b M1
  | none=>.bad
theorem emp {μ:List Addr} {H:Hp} {ds:List D} {vs:List V} (r:Rps K μ H ds vs):(!ds.isEmpty)=!vs.isEmpty:=by
  have:=r.length
  cases ds <;> cases vs <;> simp_all
theorem tru_V {μ:List Addr} {H:Hp} {M:Mm} {w:W} {v:V} {b:Bool} (hr:HR K μ H M) (r:Rw K μ H w v) (h:tru M w=some b):TruV K v H b:=by
  cases w with
  | ref i =>
    obtain ⟨a,q,rfl⟩:=r
    simp only [tru,Option.map_eq_some_iff] at h
    obtain ⟨xs,h1,rfl⟩:=h
    obtain ⟨a',vs,q1,q2,q3⟩:=hr.at h1
    rw [q] at q1; cases q1
    exact .inl ⟨vs,SqL.of q2,emp q3⟩
  | d x =>
    cases x with
    | non=>simp only [Rw,Rp] at r; subst r; simp only [tru,Option.some.injEq] at h; exact h.symm
    | bl c=>simp only [Rw,Rp] at r; subst r; simp only [tru,Option.some.injEq] at h; exact h.symm
    | int i=>simp only [Rw,Rp] at r; subst r; simp only [tru,Option.some.injEq] at h; exact h.symm
    | str z =>
      simp only [Rw,Rp] at r; subst r
      simp only [tru] at h
      split at h
      · rename_i hz
        cases h
        refine ⟨by rw [sizeLine_eq]; exact hz,?_⟩
        rw [Bool.eq_iff_iff]; simp
      · cases h
    | tup xs=>simp only [Rw,Rp] at r; obtain ⟨a,vs,rfl,q1,q2⟩:=r; simp only [tru,Option.some.injEq] at h; subst h; exact .inr (.inl ⟨vs,SqT.of q1,emp q2⟩)
    | lst xs=>simp only [Rw,Rp] at r; obtain ⟨a,vs,rfl,q1,_,q2⟩:=r; simp only [tru,Option.some.injEq] at h; subst h; exact .inl ⟨vs,SqL.of q1,emp q2⟩
    | fz xs=>simp only [Rw,Rp] at r; obtain ⟨a,vs,rfl,q1,q2⟩:=r; simp only [tru,Option.some.injEq] at h; subst h; exact .inl ⟨vs,q1.sq,emp q2⟩
    | exn c f xs=>simp [tru] at h
theorem et_val (ha:Ev X K Z a f) (he:∀ whole,isTrue a X.env whole=(do let v <- whole; standAt a.pos; holding [v] (truthy v)):=by intro _; rfl):Et X K Z a (tV f):=by
  refine ⟨ha.k,cqT (pt_truth ha.h he) ?_⟩
  rintro σ H Q ⟨μ,M,L,hr,lr,p⟩
  refine ⟨μ,M,L,hr,lr,p.bind.imp fun μ1 H1 M1 x e1 hr1 _ p1 v rx=>?_⟩
  cases q:tru M1 x with
  | none=>rw [q] at p1; exact p1.elim
  | some k=>rw [q] at p1; exact ⟨k,by rw [ha.k]; exact tru_V hr1 rx q,p1 μ1 H1 .refl hr1⟩
noncomputable def tNot (t:FT):FT:=fun L M=>(t L M).bind fun b M1=>.ok (!b) M1
noncomputable def tOr (t u:FT):FT:=fun L M=>(t L M).bind fun b M1=>if b=true then .ok true M1 else u L M1
theorem et_not (ha:Et X K Z a ta):Et X K Z (.UnaryOp .Not a pos) (tNot ta):=by
  refine ⟨ha.k,cqT (pt_not ha.h) ?_⟩
  rintro σ H Q ⟨μ,M,L,hr,lr,p⟩
  exact ⟨μ,M,L,hr,lr,p.bind.imp fun μ1 H1 M1 x e1 hr1 _ p1=>p1 μ1 H1 .refl hr1⟩
variable {rest:List Expr}
theorem ew_or1 (ha:Et X K Z a ta):Ew X K Z (.BoolOp .Or [a] pos) ta:=⟨ha.k,pw_or1 ha.h⟩
theorem ew_or (ha:Et X K Z a ta) (hb:Ew X K Z (.BoolOp .Or (b::rest) pos) tb):Ew X K Z (.BoolOp .Or (a::b::rest) pos) (tOr ta tb):=by
  refine ⟨ha.k,cqW (pw_or ha.h hb.h) ?_⟩
  rintro σ H Q ⟨μ,M,L,hr,lr,p⟩
  refine ⟨μ,M,L,hr,lr,p.bind.imp fun μ1 H1 M1 x e1 hr1 _ p1=>?_⟩
  cases x with
  | true=>exact p1 μ1 H1 .refl hr1
  | false=>exact ⟨μ1,M1,L,hr1,lr.ext hr.lsts e1,p1⟩
theorem et_w (h:Ew X K Z a ta):Et X K Z a ta:=⟨h.k,h.h.pt⟩
end
end EV
namespace EV
open PySem PySem.Spec PyProof.Rows L2
noncomputable def lv (M:Mm):W->Option (List D)
  | .d (.lst xs)=>some xs
  | .ref i=>M[i]?
  | _=>none
noncomputable def lr (M:Mm):W->Option (List D)
  | .d (.fz xs)=>some xs
  | w=>lv M w
noncomputable def sv (M:Mm):W->Option (List D)
  | .d (.tup xs)=>some xs
  | w=>lr M w
noncomputable def okD (d:D) (M:Mm):Oc W:=.ok (.d d) M
@[simp] theorem okD_eq (d:D) (M:Mm):okD d M=.ok (.d d) M:=rfl
section
variable {X:Cx} {K:PySem.W.Frag} {Z:Zt} {μ:List Addr} {H:Hp} {M:Mm} {e a b:Expr} {es:List Expr} {pos:Pos} {f fa fb:FE} {fs:FA}
theorem OpR.or {F:Value->Value->Sem Value} {r r':R2} (h:OpR X F r) (h':OpR X F r'):OpR X F (fun x y H Q=>r x y H Q\/r' x y H Q):=by
  intro pins s σ H x y v u Q I rx ry q
  rcases q with q | q
  · exact h pins s σ H x y v u Q I rx ry q
  · exact h' pins s σ H x y v u Q I rx ry q
theorem lv_at {w:W} {v:V} {ds:List D} (hr:HR K μ H M) (r:Rw K μ H w v) (h:lv M w=some ds):∃ a vs,v=.ref a/\H a=some (.lst vs)/\Rps K μ H ds vs:=by
  cases w with
  | ref i =>
    obtain ⟨a,q,rfl⟩:=r
    obtain ⟨a',vs,q1,q2,q3⟩:=hr.at h
    rw [q] at q1; cases q1
    exact ⟨a,vs,rfl,q2,q3⟩
  | d x =>
    cases x with
    | lst xs=>simp only [lv,Option.some.injEq] at h; subst h; simp only [Rw,Rp] at r; obtain ⟨a,vs,e,q1,_,q2⟩:=r; exact ⟨a,vs,e,q1,q2⟩
    | _=>simp [lv] at h
theorem lr_at {w:W} {v:V} {ds:List D} (hr:HR K μ H M) (r:Rw K μ H w v) (h:lr M w=some ds):∃ a vs,v=.ref a/\SqL K H a vs/\Rps K μ H ds vs:=by
  by_cases hf:∃ xs,w=.d (.fz xs)
  · obtain ⟨xs,rfl⟩:=hf
    simp only [lr,Option.some.injEq] at h; subst h
    simp only [Rw,Rp] at r; obtain ⟨a,vs,e,q1,q2⟩:=r
    exact ⟨a,vs,e,q1.sq,q2⟩
  · have:lr M w=lv M w:=by
      cases w with
      | ref i=>rfl
      | d x=>cases x <;> first | rfl | exact (hf ⟨_,rfl⟩).elim
    rw [this] at h
    obtain ⟨a,vs,e,q1,q2⟩:=lv_at hr r h
    exact ⟨a,vs,e,SqL.of q1,q2⟩
theorem sv_at {w:W} {v:V} {ds:List D} (hr:HR K μ H M) (r:Rw K μ H w v) (h:sv M w=some ds):∃ a vs,v=.ref a/\(SqL K H a vs\/SqT K H a vs)/\Rps K μ H ds vs:=by
  by_cases hf:∃ xs,w=.d (.tup xs)
  · obtain ⟨xs,rfl⟩:=hf
    simp only [sv,Option.some.injEq] at h; subst h
    simp only [Rw,Rp] at r; obtain ⟨a,vs,e,q1,q2⟩:=r
    exact ⟨a,vs,e,.inr (SqT.of q1),q2⟩
  · have:sv M w=lr M w:=by
      cases w with
      | ref i=>rfl
      | d x=>cases x <;> first | rfl | exact (hf ⟨_,rfl⟩).elim
    rw [this] at h
    obtain ⟨a,vs,e,q1,q2⟩:=lr_at hr r h
    exact ⟨a,vs,e,.inl q1,q2⟩
theorem new_tup {Q:VK} {ds:List D} {vs:List V} (hr:HR K μ H M) (r:Rps K μ H ds vs) (p:Pst K Z μ H (okD (.tup ds) M) (Wk K Q)):∀ q,H q=none->Q (.ref q) (upd H q (.tup vs)):=fun q hq =>
  p μ _ (ext_lay hr hq) (hr.lay hq) (.ref q) (by simp only [Rw,Rp]; exact ⟨q,vs,rfl,upd_same,Rps.ext hr.lsts (ext_lay hr hq) _ _ r⟩)
theorem new_lst {Q:VK} {ds:List D} {vs:List V} (hr:HR K μ H M) (r:Rps K μ H ds vs) (p:Pst K Z μ H (okD (.lst ds) M) (Wk K Q)):∀ q,H q=none->Q (.ref q) (upd H q (.lst vs)):=fun q hq =>
  p μ _ (ext_lay hr hq) (hr.lay hq) (.ref q) (by simp only [Rw,Rp]; exact ⟨q,vs,rfl,upd_same,hr.out hq,Rps.ext hr.lsts (ext_lay hr hq) _ _ r⟩)
theorem new_ref {Q:VK} {ds:List D} {vs:List V} (hr:HR K μ H M) (r:Rps K μ H ds vs) (p:Pst K Z μ H (.ok (.ref M.length) (M++[ds])) (Wk K Q)):∀ q,H q=none->Q (.ref q) (upd H q (.lst vs)):=fun q hq =>
  p _ _ (ext_new hr hq) (hr.new hq r) (.ref q) ⟨q,by rw [<- hr.len]; simp,rfl⟩
noncomputable def rCatA (K:PySem.W.Frag):R2:=fun x y H Q=>∃ a b xs ys,x=.ref a/\y=.ref b/\SqT K H a xs/\SqT K H b ys/\xs.length+ys.length<=sizeLine /\
  (xs=[]->Q (.ref b) H)/\(ys=[]->Q (.ref a) H)/\(∀ p,H p=none->Q (.ref p) (upd H p (.tup (xs++ys))))
theorem op_catA:OpR X (binaryOp .Add) (rCatA X.K):=by
  intro pins s σ H x y v u Q I rx ry h
  obtain ⟨a,b,xs,ys,rfl,rfl,ha,hb,hz,q0,q1,q2⟩:=h
  by_cases hx:xs=[]
  · subst hx
    cases rx
    cases ry
    obtain ⟨its,r1,p1,_⟩:=I.tuple ha
    obtain ⟨its2,r2,p2,_⟩:=I.tuple hb
    have hv:its=[]:=r1.nil_iff.mpr rfl
    subst hv
    obtain ⟨⟨cls,dd,data,sl⟩,ho,hc,n,hd⟩:=id p1
    obtain ⟨⟨cls2,dd2,data2,sl2⟩,ho2,hc2,n2,hd2⟩:=id p2
    simp only at hc hd hc2 hd2
    subst hc hd hc2 hd2
    exact concat_meets ⟨_,ho,rfl⟩ ⟨_,ho2,rfl⟩ noFill_tuple_add seq_tuple_add PySem.F.slot_tuple_add PySem.F.entry_tuple_add (PySem.F.args_tuple_add_2 _ _)
      (tuple_addW0 a b _ its2.toArray n n2 dd dd2 sl sl2 (by simp)) ⟨ho,ho2,⟨.ref b,H,I,rfl,q0 rfl⟩⟩
  · exact op_catT pins s σ H _ _ v u Q I rx ry ⟨a,b,xs,ys,rfl,rfl,ha,hb,hx,hz,q1,fun _=>q2⟩
noncomputable def pAdd (x y:W) (M:Mm):Oc W:=match x,y with
  | .d (.int i),.d (.int j)=>.ok (.d (.int (i+j))) M
  | .d (.tup xs),.d (.tup ys)=>if xs.length+ys.length<=16777216 then .ok (.d (.tup (xs++ys))) M else .bad
  | .d (.str i),.d (.str j)=>if i.length+j.length<=16777216 then .ok (.d (.str (i++j))) M else .bad
  | x,y=>match lv M x,lv M y with
    | some xs,some ys=>if xs.length+ys.length<=16777216 then .ok (.d (.lst (xs++ys))) M else .bad
    | _,_=>.bad
theorem pAdd_lists {x y:W} {v u:V} {Q:VK} (hr:HR K μ H M) (rx:Rw K μ H x v) (ry:Rw K μ H y u) (p:Pst K Z μ H (match lv M x,lv M y with
    | some xs,some ys=>if xs.length+ys.length<=16777216 then .ok (.d (.lst (xs++ys))) M else .bad
    | _,_=>.bad) (Wk K Q)):rCat v u H Q:=by
  cases q1:lv M x with
  | none=>rw [q1] at p; exact p.elim
  | some xs =>
    cases q2:lv M y with
    | none=>rw [q1,q2] at p; exact p.elim
    | some ys =>
      rw [q1,q2] at p
      simp only at p
      split at p
      · rename_i hz
        obtain ⟨a,vs,rfl,h1,r1⟩:=lv_at hr rx q1
        obtain ⟨b,us,rfl,h2,r2⟩:=lv_at hr ry q2
        exact ⟨a,b,vs,us,rfl,rfl,h1,h2,by rw [<- r1.length,<- r2.length,sizeLine_eq]; exact hz,new_lst hr (r1.append r2) p⟩
      · exact p.elim
theorem opAdd:OpG X K Z (binaryOp .Add) pAdd:=fun hk=>by
  refine ⟨_,OpR.or (OpR.or op_add (hk▸op_catA)) (OpR.or op_cat op_add_str),?_⟩
  intro μ H M x y v u Q hr rx ry p
  have gen:=fun p=>pAdd_lists (Q:=Q) (K:=K) (Z:=Z) hr rx ry p
  cases x with
  | ref i=>exact .inr (.inl (gen p))
  | d x =>
    cases y with
    | ref j=>exact .inr (.inl (gen (by cases x <;> exact p)))
    | d y =>
      cases x <;> cases y <;> first
        | exact .inr (.inl (gen p))
        | skip
      · simp only [Rw,Rp] at rx ry; exact .inl (.inl ⟨_,_,rx,ry,p μ H .refl hr _ (by simp [Rw,Rp])⟩)
      · simp only [Rw,Rp] at rx ry
        simp only [pAdd] at p
        split at p
        · rename_i hz
          exact .inr (.inr ⟨_,_,rx,ry,by rw [sizeLine_eq]; exact hz,p μ H .refl hr _ (by simp [Rw,Rp])⟩)
        · exact p.elim
      · rename_i xs ys
        have rx':=rx
        have ry':=ry
        simp only [Rw,Rp] at rx ry
        obtain ⟨a,vs,rfl,h1,r1⟩:=rx
        obtain ⟨b,us,rfl,h2,r2⟩:=ry
        simp only [pAdd] at p
        split at p
        · rename_i hz
          refine .inl (.inr ⟨a,b,vs,us,rfl,rfl,SqT.of h1,SqT.of h2,by rw [<- r1.length,<- r2.length,sizeLine_eq]; exact hz,fun e=>?_,fun e=>?_,new_tup hr (r1.append r2) p⟩)
          · subst e
            have:xs=[]:=by have:=r1.length; simpa using this
            subst this
            exact p μ H .refl hr _ (by simpa using ry')
          · subst e
            have:ys=[]:=by have:=r2.length; simpa using this
            subst this
            exact p μ H .refl hr _ (by simpa using rx')
        · exact p.elim
noncomputable def pI (c:Int->Int->Bool) (g:Int->Int->D) (x y:W) (M:Mm):Oc W:=match x,y with
  | .d (.int i),.d (.int j)=>if c i j=true then .ok (.d (g i j)) M else .bad
  | _,_=>.bad
theorem opI {F:Value->Value->Sem Value} {C:Int->Int->Prop} {c:Int->Int->Bool} {g:Int->Int->D} {gv:Int->Int->V} (h:OpR X F (rI C gv)) (hc:∀ i j,c i j=true->C i j) (hg:∀ K μ H i j,Rp K μ H (g i j) (gv i j)) :
    OpG X K Z F (pI c g):=fun hk=>⟨_,h,by
  intro μ H M x y v u Q hr rx ry p
  cases x with
  | ref i=>exact p.elim
  | d x=>cases y with
    | ref j=>cases x <;> exact p.elim
    | d y=>cases x <;> cases y <;> first
      | exact p.elim
      | (simp only [Rw,Rp] at rx ry
         simp only [pI] at p
         split at p
         · rename_i hz; exact ⟨_,_,rx,ry,hc _ _ hz,p μ H .refl hr _ (hg K μ H _ _)⟩
         · exact p.elim)⟩
theorem opI0 {F:Value->Value->Sem Value} {g:Int->Int->D} {gv:Int->Int->V} (h:OpR X F (rI0 gv)) (hg:∀ K μ H i j,Rp K μ H (g i j) (gv i j)):OpG X K Z F (pI (fun _ _=>true) g):=fun hk=>⟨_,h,by
  intro μ H M x y v u Q hr rx ry p
  cases x with
  | ref i=>exact p.elim
  | d x=>cases y with
    | ref j=>cases x <;> exact p.elim
    | d y=>cases x <;> cases y <;> first
      | exact p.elim
      | (simp only [Rw,Rp] at rx ry
         exact ⟨_,_,rx,ry,p μ H .refl hr _ (hg K μ H _ _)⟩)⟩
noncomputable abbrev pSub:=pI (fun _ _=>true) fun i j=>.int (i - j)
noncomputable abbrev pLt:=pI (fun _ _=>true) fun i j=>.bl (decide (i < j))
noncomputable abbrev pGt:=pI (fun _ _=>true) fun i j=>.bl (decide (j < i))
noncomputable abbrev pGe:=pI (fun _ _=>true) fun i j=>.bl (decide (j<=i))
noncomputable abbrev pMod:=pI (fun _ j=>decide (0 < j)) fun i j=>.int (i % j)
noncomputable abbrev pDiv:=pI (fun _ j=>decide (0 < j/\j < 18446744073709551616)) fun i j=>.int (i / j)
noncomputable abbrev pPow:=pI (fun i j=>decide (0<=j/\j<=1000000/\i.natAbs < 18446744073709551616)) fun i j=>.int (i ^ j.toNat)
theorem opSub:OpG X K Z (binaryOp .Sub) pSub:=opI0 op_sub fun _ _ _ _ _=>by simp [Rp]
theorem opLt:OpG X K Z (compareOp .Lt) pLt:=opI0 op_lt fun _ _ _ _ _=>by simp [Rp]
theorem opGt:OpG X K Z (compareOp .Gt) pGt:=opI0 op_gt fun _ _ _ _ _=>by simp [Rp]
theorem opGe:OpG X K Z (compareOp .GtE) pGe:=opI0 op_ge fun _ _ _ _ _=>by simp [Rp]
theorem opMod:OpG X K Z (binaryOp .Mod) pMod:=opI op_mod (fun _ _ h=>of_decide_eq_true h) fun _ _ _ _ _=>by simp [Rp]
theorem opDiv:OpG X K Z (binaryOp .FloorDiv) pDiv:=opI op_fdivW (fun _ _ h=>by simp only [decide_eq_true_eq] at h; exact h) fun _ _ _ _ _=>by simp [Rp]
theorem opPow:OpG X K Z (binaryOp .Pow) pPow:=opI op_pow (fun _ _ h=>by simp only [decide_eq_true_eq] at h; exact h) fun _ _ _ _ _=>by simp [Rp]
noncomputable def isN:W->Bool
  | .d .non=>true
  | _=>false
noncomputable def pIs (x y:W) (M:Mm):Oc W:=match y with
  | .d .non=>.ok (.d (.bl (isN x))) M
  | _=>.bad
theorem isN_V {x:W} {v:V} (r:Rw K μ H x v):decide (v=.non)=isN x:=by
  cases x with
  | ref i=>obtain ⟨a,_,rfl⟩:=r; simp [isN]
  | d x=>cases x with
    | non=>simp only [Rw,Rp] at r; subst r; simp [isN]
    | bl b=>simp only [Rw,Rp] at r; subst r; simp [isN]
    | int b=>simp only [Rw,Rp] at r; subst r; simp [isN]
    | str b=>simp only [Rw,Rp] at r; subst r; simp [isN]
    | tup b=>simp only [Rw,Rp] at r; obtain ⟨a,vs,rfl,_⟩:=r; simp [isN]
    | lst b=>simp only [Rw,Rp] at r; obtain ⟨a,vs,rfl,_⟩:=r; simp [isN]
    | fz b=>simp only [Rw,Rp] at r; obtain ⟨a,vs,rfl,_⟩:=r; simp [isN]
    | exn c f b=>simp only [Rw,Rp] at r; obtain ⟨a,vs,_,_,_,rfl,_⟩:=r; simp [isN]
theorem opIs:OpG X K Z (compareOp .Is) pIs:=fun hk=>⟨_,op_isN,by
  intro μ H M x y v u Q hr rx ry p
  cases y with
  | ref j=>exact p.elim
  | d y=>cases y with
    | non=>simp only [Rw,Rp] at ry; exact ⟨ry,p μ H .refl hr _ (by simp only [Rw,Rp]; rw [isN_V rx])⟩
    | _=>exact p.elim⟩
end
end EV
namespace EV
open PySem PySem.Spec PyProof.Rows L2
section
variable {X:Cx} {K:PySem.W.Frag} {Z:Zt} {μ:List Addr} {H:Hp} {M:Mm} {e a b:Expr} {es:List Expr} {pos:Pos} {f fa fb:FE} {fs:FA}
mutual
noncomputable def eqD:D->D->Bool
  | .non,.non=>true
  | .bl a,.bl b=>a==b
  | .bl a,.int b=>(if a then 1 else 0)==b
  | .int a,.bl b=>a==(if b then 1 else 0)
  | .int a,.int b=>a==b
  | .str a,.str b=>a==b
  | .tup xs,.tup ys=>eqDs xs ys
  | .lst xs,.lst ys=>eqDs xs ys
  | .lst xs,.fz ys=>eqDs xs ys
  | .fz xs,.lst ys=>eqDs xs ys
  | .fz xs,.fz ys=>eqDs xs ys
  | .exn c f xs,.exn c' f' ys=>c==c'&&f==f'&&eqDs xs ys
  | _,_=>false
noncomputable def eqDs:List D->List D->Bool
  | [],[]=>true
  | x::xs,y::ys=>eqD x y&&eqDs xs ys
  | _,_=>false
end
mutual
noncomputable def dep:D->Nat
  | .tup xs=>deps xs+1
  | .lst xs=>deps xs+1
  | .fz xs=>deps xs+1
  | .exn _ _ _=>1000
  | _=>0
noncomputable def deps:List D->Nat
  | []=>0
  | x::xs=>max (dep x) (deps xs)
end
theorem deps_get:∀ {xs:List D} {i:Nat} {x:D},xs[i]?=some x->dep x<=deps xs
  | [],_,_,h=>by simp at h
  | y::xs,0,x,h=>by simp at h; subst h; simp only [deps]; omega
  | y::xs,i+1,x,h=>by
    have:=deps_get (xs:=xs) (i:=i) (x:=x) (by simpa using h)
    simp only [deps]; omega
theorem eqDs_at:∀ (xs ys:List D),eqDs xs ys=((List.range (min xs.length ys.length)).all (fun i=>eqD (xs.getD i .non) (ys.getD i .non))&&xs.length==ys.length)
  | [],[]=>rfl
  | [],y::ys=>by simp [eqDs]
  | x::xs,[]=>by simp [eqDs]
  | x::xs,y::ys=>by
    simp only [eqDs]
    rw [eqDs_at xs ys]
    have:min (x::xs).length (y::ys).length=min xs.length ys.length+1:=by simp
    rw [this,List.range_succ_eq_map,List.all_cons]
    simp only [List.getD_cons_zero,List.all_map,Bool.and_assoc,List.length_cons]
    congr 1
    congr 1
    rw [Bool.eq_iff_iff]; simp
variable {pins:List (Addr×Obj)} {σ:L2.St} {s:Shared}
theorem rps_val {i:Nat} {ds:List D} {vs:List V} {its:List Value} (r:Rps K μ H ds vs) (rv:Vals vs its) (h:i < its.toArray.size):∃ d v,ds[i]?=some d/\Rp K μ H d v/\RelV v its.toArray[i]:=by
  have h1:i < its.length:=by simpa using h
  have h2:i < vs.length:=by rw [rv.length]; exact h1
  have h3:i < ds.length:=by rw [r.length]; exact h2
  obtain ⟨v,q1,q2⟩:=r.get (i:=i) (d:=ds[i]) (by simp [h3])
  obtain ⟨u,q3,q4⟩:=rv.get q1
  refine ⟨ds[i],v,by simp [h3],q2,?_⟩
  rw [List.getElem?_eq_getElem h1] at q3
  cases q3
  simpa using q4
theorem getD_of {ds:List D} {i:Nat} {d:D} (h:ds[i]?=some d):ds.getD i .non=d:=by rw [List.getD_eq_getElem?_getD,h]; rfl
noncomputable abbrev Eqs (K:PySem.W.Frag) (μ:List Addr) (H:Hp) (s:Shared) (A:Around) (xs:List D):Prop :=
  ∀ (j:Nat) (d:D),xs[j]?=some d->∀ (d2:D) (v1 v2:V) (u1 u2:Value),dep d2<=100->Rp K μ H d v1->Rp K μ H d2 v2->RelV v1 u1->RelV v2 u2->SeqAt.EqAt A s u1 u2 (eqD d d2)
theorem items_eq {A:Around} {xs ys:List D} {vs us:List V} {its its2:List Value} (r1:Rps K μ H xs vs) (r2:Rps K μ H ys us) (q1:Vals vs its) (q2:Vals us its2) (n2:deps ys<=100) (ih:Eqs K μ H s A xs) :
    ∀ j (h1:j < its.toArray.size) (h2:j < its2.toArray.size),SeqAt.EqAt A s its.toArray[j] its2.toArray[j] ((fun i=>eqD (xs.getD i .non) (ys.getD i .non)) j):=by
  intro j h1 h2
  obtain ⟨d,v,e1,e2,e3⟩:=rps_val r1 q1 h1
  obtain ⟨d',v',e1',e2',e3'⟩:=rps_val r2 q2 h2
  simp only [getD_of e1,getD_of e1']
  exact ih j d e1 d' v v' _ _ (Nat.le_trans (deps_get e1') n2) e2 e2' e3 e3'
theorem sizes_eq {xs ys:List D} {vs us:List V} {its its2:List Value} (r1:Rps K μ H xs vs) (r2:Rps K μ H ys us) (q1:Vals vs its) (q2:Vals us its2):its.toArray.size=xs.length/\its2.toArray.size=ys.length:=by
  simp [r1.length,r2.length,q1.length,q2.length]
theorem rc_tup {A:Around} {xs ys:List D} {vs us:List V} {a b:Addr} (I:Inv X pins σ H s) (h1:SqT X.K H a vs) (h2:SqT X.K H b us) (r1:Rps K μ H xs vs) (r2:Rps K μ H ys us) (hu:A.units < cLine) (n2:deps ys<=100) (ih:Eqs K μ H s A.in1 xs) :
    SeqAt.RcAt A s (.ref a) (.ref b) (eqDs xs ys):=by
  obtain ⟨its,q1,p1,_⟩:=I.tuple h1
  obtain ⟨its2,q2,p2,_⟩:=I.tuple h2
  have:=SeqAt.RcAt.tuples p1 p2 hu (items_eq r1 r2 q1 q2 n2 ih)
  obtain ⟨e1,e2⟩:=sizes_eq r1 r2 q1 q2
  rw [e1,e2] at this
  rw [eqDs_at]; exact this
theorem rcne_tup {A:Around} {xs ys:List D} {vs us:List V} {a b:Addr} (I:Inv X pins σ H s) (h1:SqT X.K H a vs) (h2:SqT X.K H b us) (r1:Rps K μ H xs vs) (r2:Rps K μ H ys us) (hu:A.units < cLine) (n2:deps ys<=100) (ih:Eqs K μ H s A.in1 xs) :
    SeqAt.RcNeAt A s (.ref a) (.ref b) (!eqDs xs ys):=by
  obtain ⟨its,q1,p1,_⟩:=I.tuple h1
  obtain ⟨its2,q2,p2,_⟩:=I.tuple h2
  have:=SeqAt.RcNeAt.tuples p1 p2 hu (items_eq r1 r2 q1 q2 n2 ih)
  obtain ⟨e1,e2⟩:=sizes_eq r1 r2 q1 q2
  rw [e1,e2] at this
  rw [eqDs_at]; exact this
theorem eqDs_len {xs ys:List D} (h:xs.length≠ys.length):eqDs xs ys=false:=by
  rw [eqDs_at]
  have:(xs.length==ys.length)=false:=by simpa using h
  rw [this,Bool.and_false]
theorem eqDs_same {xs ys:List D} (h:xs.length=ys.length):eqDs xs ys=(List.range xs.length).all (fun i=>eqD (xs.getD i .non) (ys.getD i .non)):=by
  rw [eqDs_at,<- h]; simp
theorem rc_lst {A:Around} {xs ys:List D} {vs us:List V} {a b:Addr} (I:Inv X pins σ H s) (h1:SqL X.K H a vs) (h2:SqL X.K H b us) (r1:Rps K μ H xs vs) (r2:Rps K μ H ys us) (hu:A.units < cLine) (n2:deps ys<=100) (ih:Eqs K μ H s A.in1 xs) :
    SeqAt.RcAt A s (.ref a) (.ref b) (eqDs xs ys):=by
  obtain ⟨its,q1,p1,_⟩:=I.list h1
  obtain ⟨its2,q2,p2,_⟩:=I.list h2
  obtain ⟨e1,e2⟩:=sizes_eq r1 r2 q1 q2
  by_cases hl:xs.length=ys.length
  · have:=SeqAt.RcAt.lists p1.isList p2.isList (by rw [e1,e2,hl]) hu (items_eq r1 r2 q1 q2 n2 ih)
    rw [e1] at this
    rw [eqDs_same hl]; exact this
  · rw [eqDs_len hl]
    exact SeqAt.RcAt.lists_lengths p1.isList p2.isList (by rw [e1,e2]; simpa using hl) hu
theorem rcne_lst {A:Around} {xs ys:List D} {vs us:List V} {a b:Addr} (I:Inv X pins σ H s) (h1:SqL X.K H a vs) (h2:SqL X.K H b us) (r1:Rps K μ H xs vs) (r2:Rps K μ H ys us) (hu:A.units < cLine) (n2:deps ys<=100) (ih:Eqs K μ H s A.in1 xs) :
    SeqAt.RcNeAt A s (.ref a) (.ref b) (!eqDs xs ys):=by
  obtain ⟨its,q1,p1,_⟩:=I.list h1
  obtain ⟨its2,q2,p2,_⟩:=I.list h2
  obtain ⟨e1,e2⟩:=sizes_eq r1 r2 q1 q2
  by_cases hl:xs.length=ys.length
  · have:=SeqAt.RcNeAt.lists p1.isList p2.isList (by rw [e1,e2,hl]) hu (items_eq r1 r2 q1 q2 n2 ih)
    rw [e1] at this
    rw [eqDs_same hl]; exact this
  · rw [eqDs_len hl]
    exact SeqAt.RcNeAt.lists_lengths p1.isList p2.isList (by rw [e1,e2]; simpa using hl) hu
noncomputable def fv:D->Option V
  | .non=>some .non
  | .bl b=>some (.bl b)
  | .int i=>some (.int i)
  | .str x=>some (.str x)
  | _=>none
theorem fv_rp {d:D} {v u:V} (h:fv d=some u) (r:Rp K μ H d v):v=u/\flatV u=true:=by
  cases d <;> simp only [fv,Option.some.injEq,reduceCtorEq] at h <;> (simp only [Rp] at r; subst h; exact ⟨r,rfl⟩)
theorem fv_eq {d e:D} {u w:V} (h:fv d=some u) (h':fv e=some w):eqV u w=eqD d e:=by
  cases d <;> simp only [fv,Option.some.injEq,reduceCtorEq] at h <;> (cases e <;> simp only [fv,Option.some.injEq,reduceCtorEq] at h' <;> (subst h; subst h'; simp [eqV,eqD]))
theorem fv_of {d:D} {v:V} (r:Rp K μ H d v) (h:flatV v=true):fv d=some v:=by
  cases d with
  | non=>simp only [Rp] at r; subst r; rfl
  | bl b=>simp only [Rp] at r; subst r; rfl
  | int b=>simp only [Rp] at r; subst r; rfl
  | str b=>simp only [Rp] at r; subst r; rfl
  | tup b=>simp only [Rp] at r; obtain ⟨a,vs,rfl,_⟩:=r; cases h
  | lst b=>simp only [Rp] at r; obtain ⟨a,vs,rfl,_⟩:=r; cases h
  | fz b=>simp only [Rp] at r; obtain ⟨a,vs,rfl,_⟩:=r; cases h
  | exn c f b=>simp only [Rp] at r; obtain ⟨a,vs,_,_,_,rfl,_⟩:=r; cases h
theorem eqV_self {v:V} (h:flatV v=true):eqV v v=true:=by cases v <;> first | (cases h; done) | rfl | (simp [eqV]; done)
theorem flat_inj {d d':D} {v:V} {u:V} (hf:fv d=some u) (h:Rp K μ H d v) (h':Rp K μ H d' v):eqD d d'=true:=by
  obtain ⟨rfl,fl⟩:=fv_rp hf h
  rw [<- fv_eq hf (fv_of h' fl)]
  exact eqV_self fl
inductive At (K:PySem.W.Frag) (μ:List Addr) (H:Hp):D->Addr->List D->Bool->Prop where
  | tup {a vs ds}:SqT K H a vs->Rps K μ H ds vs->At K μ H (.tup ds) a ds true
  | lst {a vs ds}:SqL K H a vs->Rps K μ H ds vs->At K μ H (.lst ds) a ds false
  | fz {a vs ds}:SqL K H a vs->Rps K μ H ds vs->At K μ H (.fz ds) a ds false
theorem no_both {a:Addr} {vs us:List V} (I:Inv X pins σ H s) (h1:SqT X.K H a vs) (h2:SqL X.K H a us):False:=by
  obtain ⟨its,q1,p1,_⟩:=I.tuple h1
  obtain ⟨its2,q2,p2,_⟩:=I.list h2
  exact SeqAt.ne_of_list_tuple p2.isList p1 rfl
mutual
theorem rp_inj (I:Inv X pins σ H s) (hk:X.K=K):∀ (d d':D) (v:V),dep d<=100->dep d'<=100->Rp K μ H d v->Rp K μ H d' v->eqD d d'=true
  | .non,d',v,n,n',h,h'=>flat_inj rfl h h'
  | .bl x,d',v,n,n',h,h'=>flat_inj rfl h h'
  | .int x,d',v,n,n',h,h'=>flat_inj rfl h h'
  | .str x,d',v,n,n',h,h'=>flat_inj rfl h h'
  | .tup xs,d',v,n,n',h,h'=>by
    simp only [Rp] at h
    obtain ⟨a,vs,rfl,h1,r1⟩:=h
    cases d' with
    | tup ys =>
      simp only [Rp] at h'
      obtain ⟨b,us,e,h2,r2⟩:=h'
      cases e
      cases I.tuple_inj (SqT.of (K:=X.K) h1) (SqT.of h2)
      simp only [eqD]
      exact rps_inj I hk xs ys vs (by simp only [dep] at n; omega) (by simp only [dep] at n'; omega) r1 r2
    | lst ys=>simp only [Rp] at h'; obtain ⟨b,us,e,h2,_,r2⟩:=h'; cases e; exact (no_both I (SqT.of h1) (SqL.of h2)).elim
    | fz ys=>simp only [Rp] at h'; obtain ⟨b,us,e,h2,r2⟩:=h'; cases e; exact (no_both I (SqT.of h1) (hk▸h2.sq)).elim
    | exn c f ys=>simp [dep] at n'
    | _=>simp only [Rp] at h'; cases h'
  | .lst xs,d',v,n,n',h,h'=>by
    simp only [Rp] at h
    obtain ⟨a,vs,rfl,h1,_,r1⟩:=h
    cases d' with
    | tup ys=>simp only [Rp] at h'; obtain ⟨b,us,e,h2,r2⟩:=h'; cases e; exact (no_both I (SqT.of h2) (SqL.of h1)).elim
    | lst ys =>
      simp only [Rp] at h'; obtain ⟨b,us,e,h2,_,r2⟩:=h'; cases e
      cases I.list_inj (SqL.of h1) (SqL.of h2)
      simp only [eqD]
      exact rps_inj I hk xs ys vs (by simp only [dep] at n; omega) (by simp only [dep] at n'; omega) r1 r2
    | fz ys =>
      simp only [Rp] at h'; obtain ⟨b,us,e,h2,r2⟩:=h'; cases e
      cases I.list_inj (SqL.of h1) (hk▸h2.sq)
      simp only [eqD]
      exact rps_inj I hk xs ys vs (by simp only [dep] at n; omega) (by simp only [dep] at n'; omega) r1 r2
    | exn c f ys=>simp [dep] at n'
    | _=>simp only [Rp] at h'; cases h'
  | .fz xs,d',v,n,n',h,h'=>by
    simp only [Rp] at h
    obtain ⟨a,vs,rfl,h1,r1⟩:=h
    cases d' with
    | tup ys=>simp only [Rp] at h'; obtain ⟨b,us,e,h2,r2⟩:=h'; cases e; exact (no_both I (SqT.of h2) (hk▸h1.sq)).elim
    | lst ys =>
      simp only [Rp] at h'; obtain ⟨b,us,e,h2,_,r2⟩:=h'; cases e
      cases I.list_inj (hk▸h1.sq) (SqL.of h2)
      simp only [eqD]
      exact rps_inj I hk xs ys vs (by simp only [dep] at n; omega) (by simp only [dep] at n'; omega) r1 r2
    | fz ys =>
      simp only [Rp] at h'; obtain ⟨b,us,e,h2,r2⟩:=h'; cases e
      cases I.list_inj (hk▸h1.sq) (hk▸h2.sq)
      simp only [eqD]
      exact rps_inj I hk xs ys vs (by simp only [dep] at n; omega) (by simp only [dep] at n'; omega) r1 r2
    | exn c f ys=>simp [dep] at n'
    | _=>simp only [Rp] at h'; cases h'
  | .exn c f xs,d',v,n,n',h,h'=>by simp [dep] at n
theorem rps_inj (I:Inv X pins σ H s) (hk:X.K=K):∀ (xs ys:List D) (vs:List V),deps xs<=100->deps ys<=100->Rps K μ H xs vs->Rps K μ H ys vs->eqDs xs ys=true
  | [],ys,vs,n,n',h,h'=>by simp only [Rps] at h; subst h; cases ys with | nil=>rfl | cons y ys=>simp only [Rps] at h'; obtain ⟨_,_,e,_⟩:=h'; cases e
  | x::xs,ys,vs,n,n',h,h'=>by
    simp only [Rps] at h
    obtain ⟨v,r,rfl,e2,e3⟩:=h
    cases ys with
    | nil=>simp only [Rps] at h'; cases h'
    | cons y ys =>
      simp only [Rps] at h'
      obtain ⟨v',r',e,e2',e3'⟩:=h'
      cases e
      simp only [deps] at n n'
      simp only [eqDs,rp_inj I hk x y v (by omega) (by omega) e2 e2',rps_inj I hk xs ys r (by omega) (by omega) e3 e3',Bool.and_self]
end
theorem fv_none {d:D} {v:V} (h:fv d=none) (n:dep d<=100) (r:Rp K μ H d v):∃ a ds k,v=.ref a/\At K μ H d a ds k:=by
  cases d with
  | tup xs=>simp only [Rp] at r; obtain ⟨a,vs,e,q1,q2⟩:=r; exact ⟨a,xs,true,e,.tup (SqT.of q1) q2⟩
  | lst xs=>simp only [Rp] at r; obtain ⟨a,vs,e,q1,_,q2⟩:=r; exact ⟨a,xs,false,e,.lst (SqL.of q1) q2⟩
  | fz xs=>simp only [Rp] at r; obtain ⟨a,vs,e,q1,q2⟩:=r; exact ⟨a,xs,false,e,.fz q1.sq q2⟩
  | exn c f xs=>simp [dep] at n
  | _=>simp [fv] at h
theorem rc_flat {A:Around} {d d2:D} {v1 v2 w w2:V} {u1 u2:Value} (n1:fv d=some w) (n2:fv d2=some w2) (h1:Rp K μ H d v1) (h2:Rp K μ H d2 v2) (q1:RelV v1 u1) (q2:RelV v2 u2) :
    (SeqAt.RcAt A s u1 u2 (eqD d d2)/\SeqAt.RcNeAt A s u1 u2 (!eqD d d2)):=by
  cases d with
  | non =>
    simp only [Rp] at h1; subst h1; cases q1
    cases d2 with
    | non=>simp only [Rp] at h2; subst h2; cases q2; simp only [eqD]; exact ⟨SeqAt.RcAt.none_none,SeqAt.RcNeAt.none_none⟩
    | bl y=>simp only [Rp] at h2; subst h2; cases q2; simp only [eqD]; exact ⟨SeqAt.RcAt.none_bool y,SeqAt.RcNeAt.none_bool y⟩
    | int y=>simp only [Rp] at h2; subst h2; obtain ⟨t2,rfl⟩:=q2; simp only [eqD]; exact ⟨SeqAt.RcAt.none_int y t2,SeqAt.RcNeAt.none_int y t2⟩
    | str y=>simp only [Rp] at h2; subst h2; obtain ⟨t2,rfl⟩:=q2; simp only [eqD]; exact ⟨SeqAt.RcAt.none_str y t2,SeqAt.RcNeAt.none_str y t2⟩
    | _=>simp [fv] at n2
  | bl x =>
    simp only [Rp] at h1; subst h1; cases q1
    cases d2 with
    | non=>simp only [Rp] at h2; subst h2; cases q2; simp only [eqD]; exact ⟨SeqAt.RcAt.bool_none x,SeqAt.RcNeAt.bool_none x⟩
    | bl y=>simp only [Rp] at h2; subst h2; cases q2; simp only [eqD]; exact ⟨SeqAt.RcAt.bool_bool x y,SeqAt.RcNeAt.bool_bool x y⟩
    | int y=>simp only [Rp] at h2; subst h2; obtain ⟨t2,rfl⟩:=q2; simp only [eqD]; exact ⟨SeqAt.RcAt.bool_int x y t2,SeqAt.RcNeAt.bool_int x y t2⟩
    | str y=>simp only [Rp] at h2; subst h2; obtain ⟨t2,rfl⟩:=q2; simp only [eqD]; exact ⟨SeqAt.RcAt.bool_str x y t2,SeqAt.RcNeAt.bool_str x y t2⟩
    | _=>simp [fv] at n2
  | int x =>
    simp only [Rp] at h1; subst h1; obtain ⟨t,rfl⟩:=q1
    cases d2 with
    | non=>simp only [Rp] at h2; subst h2; cases q2; simp only [eqD]; exact ⟨SeqAt.RcAt.int_none x t,SeqAt.RcNeAt.int_none x t⟩
    | bl y=>simp only [Rp] at h2; subst h2; cases q2; simp only [eqD]; exact ⟨SeqAt.RcAt.int_bool x t y,SeqAt.RcNeAt.int_bool x t y⟩
    | int y=>simp only [Rp] at h2; subst h2; obtain ⟨t2,rfl⟩:=q2; simp only [eqD]; exact ⟨SeqAt.RcAt.int_int x t y t2,SeqAt.RcNeAt.int_int x t y t2⟩
    | str y=>simp only [Rp] at h2; subst h2; obtain ⟨t2,rfl⟩:=q2; simp only [eqD]; exact ⟨SeqAt.RcAt.int_str x t y t2,SeqAt.RcNeAt.int_str x t y t2⟩
    | _=>simp [fv] at n2
  | str x =>
    simp only [Rp] at h1; subst h1; obtain ⟨t,rfl⟩:=q1
    cases d2 with
    | non=>simp only [Rp] at h2; subst h2; cases q2; simp only [eqD]; exact ⟨SeqAt.RcAt.str_none x t,SeqAt.RcNeAt.str_none x t⟩
    | bl y=>simp only [Rp] at h2; subst h2; cases q2; simp only [eqD]; exact ⟨SeqAt.RcAt.str_bool x t y,SeqAt.RcNeAt.str_bool x t y⟩
    | int y=>simp only [Rp] at h2; subst h2; obtain ⟨t2,rfl⟩:=q2; simp only [eqD]; exact ⟨SeqAt.RcAt.str_int x t y t2,SeqAt.RcNeAt.str_int x t y t2⟩
    | str y=>simp only [Rp] at h2; subst h2; obtain ⟨t2,rfl⟩:=q2; simp only [eqD]; exact ⟨SeqAt.RcAt.str_str x t y t2,SeqAt.RcNeAt.str_str x t y t2⟩
    | _=>simp [fv] at n2
  | _=>simp [fv] at n1
theorem tuple_flat {A:Around} {d2:D} {a:Addr} {its:Array Value} {v2 w2:V} {u2:Value} (pl:s.heap.IsTuple a its) (hu:A.units < cLine) (n2:fv d2=some w2) (h2:Rp K μ H d2 v2) (q2:RelV v2 u2) :
    SeqAt.EqAt A s (.ref a) u2 false/\SeqAt.EqAt A s u2 (.ref a) false/\SeqAt.RcAt A s (.ref a) u2 false/\SeqAt.RcNeAt A s (.ref a) u2 true/\SeqAt.RcAt A s u2 (.ref a) false/\SeqAt.RcNeAt A s u2 (.ref a) true:=by
  cases d2 with
  | non=>simp only [Rp] at h2; subst h2; cases q2; exact ⟨SeqAt.EqAt.tuple_none pl hu,SeqAt.EqAt.none_tuple pl hu,SeqAt.RcAt.tuple_none pl hu,SeqAt.RcNeAt.tuple_none pl hu,SeqAt.RcAt.none_tuple pl hu,SeqAt.RcNeAt.none_tuple pl hu⟩
  | bl y=>simp only [Rp] at h2; subst h2; cases q2; exact ⟨SeqAt.EqAt.tuple_bool y pl hu,SeqAt.EqAt.bool_tuple y pl hu,SeqAt.RcAt.tuple_bool y pl hu,SeqAt.RcNeAt.tuple_bool y pl hu,SeqAt.RcAt.bool_tuple y pl hu,SeqAt.RcNeAt.bool_tuple y pl hu⟩
  | int y=>simp only [Rp] at h2; subst h2; obtain ⟨t2,rfl⟩:=q2; exact ⟨SeqAt.EqAt.tuple_int y t2 pl hu,SeqAt.EqAt.int_tuple y t2 pl hu,SeqAt.RcAt.tuple_int y t2 pl hu,SeqAt.RcNeAt.tuple_int y t2 pl hu,SeqAt.RcAt.int_tuple y t2 pl hu,SeqAt.RcNeAt.int_tuple y t2 pl hu⟩
  | str y=>simp only [Rp] at h2; subst h2; obtain ⟨t2,rfl⟩:=q2; exact ⟨SeqAt.EqAt.tuple_str y t2 pl hu,SeqAt.EqAt.str_tuple y t2 pl hu,SeqAt.RcAt.tuple_str y t2 pl hu,SeqAt.RcNeAt.tuple_str y t2 pl hu,SeqAt.RcAt.str_tuple y t2 pl hu,SeqAt.RcNeAt.str_tuple y t2 pl hu⟩
  | _=>simp [fv] at n2
theorem list_flat {A:Around} {d2:D} {a:Addr} {its:Array Value} {v2 w2:V} {u2:Value} (pl:s.heap.IsList a its) (hu:A.units < cLine) (n2:fv d2=some w2) (h2:Rp K μ H d2 v2) (q2:RelV v2 u2) :
    SeqAt.EqAt A s (.ref a) u2 false/\SeqAt.EqAt A s u2 (.ref a) false/\SeqAt.RcAt A s (.ref a) u2 false/\SeqAt.RcNeAt A s (.ref a) u2 true/\SeqAt.RcAt A s u2 (.ref a) false/\SeqAt.RcNeAt A s u2 (.ref a) true:=by
  cases d2 with
  | non=>simp only [Rp] at h2; subst h2; cases q2; exact ⟨SeqAt.EqAt.list_none pl hu,SeqAt.EqAt.none_list pl hu,SeqAt.RcAt.list_none pl hu,SeqAt.RcNeAt.list_none pl hu,SeqAt.RcAt.none_list pl hu,SeqAt.RcNeAt.none_list pl hu⟩
  | bl y=>simp only [Rp] at h2; subst h2; cases q2; exact ⟨SeqAt.EqAt.list_bool y pl hu,SeqAt.EqAt.bool_list y pl hu,SeqAt.RcAt.list_bool y pl hu,SeqAt.RcNeAt.list_bool y pl hu,SeqAt.RcAt.bool_list y pl hu,SeqAt.RcNeAt.bool_list y pl hu⟩
  | int y=>simp only [Rp] at h2; subst h2; obtain ⟨t2,rfl⟩:=q2; exact ⟨SeqAt.EqAt.list_int y t2 pl hu,SeqAt.EqAt.int_list y t2 pl hu,SeqAt.RcAt.list_int y t2 pl hu,SeqAt.RcNeAt.list_int y t2 pl hu,SeqAt.RcAt.int_list y t2 pl hu,SeqAt.RcNeAt.int_list y t2 pl hu⟩
  | str y=>simp only [Rp] at h2; subst h2; obtain ⟨t2,rfl⟩:=q2; exact ⟨SeqAt.EqAt.list_str y t2 pl hu,SeqAt.EqAt.str_list y t2 pl hu,SeqAt.RcAt.list_str y t2 pl hu,SeqAt.RcNeAt.list_str y t2 pl hu,SeqAt.RcAt.str_list y t2 pl hu,SeqAt.RcNeAt.str_list y t2 pl hu⟩
  | _=>simp [fv] at n2
theorem at_flat {A:Around} {d d2:D} {a:Addr} {xs:List D} {k:Bool} {v2 w2:V} {u2:Value} (I:Inv X pins σ H s) (hk:X.K=K) (hu:A.units < cLine) (h1:At K μ H d a xs k) (n2:fv d2=some w2) (h2:Rp K μ H d2 v2) (q2:RelV v2 u2) :
    SeqAt.EqAt A s (.ref a) u2 false/\SeqAt.EqAt A s u2 (.ref a) false/\SeqAt.RcAt A s (.ref a) u2 false/\SeqAt.RcNeAt A s (.ref a) u2 true/\SeqAt.RcAt A s u2 (.ref a) false/\SeqAt.RcNeAt A s u2 (.ref a) true:=by
  cases h1 with
  | tup h r=>obtain ⟨its,r',pl,_⟩:=I.tuple (hk▸h); exact tuple_flat pl hu n2 h2 q2
  | lst h r=>obtain ⟨its,r',pl,_⟩:=I.list (hk▸h); exact list_flat pl.isList hu n2 h2 q2
  | fz h r=>obtain ⟨its,r',pl,_⟩:=I.list (hk▸h); exact list_flat pl.isList hu n2 h2 q2
theorem eq_at_flat {d d2:D} {w:V} (n1:fv d=none) (n2:fv d2=some w):eqD d d2=false/\eqD d2 d=false:=by
  cases d <;> simp only [fv,reduceCtorEq] at n1 <;> (cases d2 <;> simp only [fv,reduceCtorEq] at n2 <;> exact ⟨rfl,rfl⟩)
theorem rc_at {A:Around} {d d2:D} {a b:Addr} {xs ys:List D} {k k2:Bool} (I:Inv X pins σ H s) (hk:X.K=K) (hu:A.units < cLine) (h1:At K μ H d a xs k) (h2:At K μ H d2 b ys k2) (n2:dep d2<=100) (ih:Eqs K μ H s A.in1 xs) :
    SeqAt.RcAt A s (.ref a) (.ref b) (eqD d d2)/\SeqAt.RcNeAt A s (.ref a) (.ref b) (!eqD d d2):=by
  cases h1 with
  | tup h r=>cases h2 with
    | tup h' r'=>exact ⟨rc_tup I (hk▸h) (hk▸h') r r' hu (by simp only [dep] at n2; omega) ih,rcne_tup I (hk▸h) (hk▸h') r r' hu (by simp only [dep] at n2; omega) ih⟩
    | lst h' r' =>
      obtain ⟨_,_,pl,_⟩:=I.tuple (hk▸h); obtain ⟨_,_,pl',_⟩:=I.list (hk▸h')
      exact ⟨.tuple_list pl pl'.isList hu,.tuple_list pl pl'.isList hu⟩
    | fz h' r' =>
      obtain ⟨_,_,pl,_⟩:=I.tuple (hk▸h); obtain ⟨_,_,pl',_⟩:=I.list (hk▸h')
      exact ⟨.tuple_list pl pl'.isList hu,.tuple_list pl pl'.isList hu⟩
  | lst h r=>cases h2 with
    | tup h' r' =>
      obtain ⟨_,_,pl,_⟩:=I.list (hk▸h); obtain ⟨_,_,pl',_⟩:=I.tuple (hk▸h')
      exact ⟨.list_tuple pl.isList pl' hu,.list_tuple pl.isList pl' hu⟩
    | lst h' r'=>exact ⟨rc_lst I (hk▸h) (hk▸h') r r' hu (by simp only [dep] at n2; omega) ih,rcne_lst I (hk▸h) (hk▸h') r r' hu (by simp only [dep] at n2; omega) ih⟩
    | fz h' r'=>exact ⟨rc_lst I (hk▸h) (hk▸h') r r' hu (by simp only [dep] at n2; omega) ih,rcne_lst I (hk▸h) (hk▸h') r r' hu (by simp only [dep] at n2; omega) ih⟩
  | fz h r=>cases h2 with
    | tup h' r' =>
      obtain ⟨_,_,pl,_⟩:=I.list (hk▸h); obtain ⟨_,_,pl',_⟩:=I.tuple (hk▸h')
      exact ⟨.list_tuple pl.isList pl' hu,.list_tuple pl.isList pl' hu⟩
    | lst h' r'=>exact ⟨rc_lst I (hk▸h) (hk▸h') r r' hu (by simp only [dep] at n2; omega) ih,rcne_lst I (hk▸h) (hk▸h') r r' hu (by simp only [dep] at n2; omega) ih⟩
    | fz h' r'=>exact ⟨rc_lst I (hk▸h) (hk▸h') r r' hu (by simp only [dep] at n2; omega) ih,rcne_lst I (hk▸h) (hk▸h') r r' hu (by simp only [dep] at n2; omega) ih⟩
theorem eqAt_of {A:Around} {d d2:D} {v1 v2:V} {u1 u2:Value} (I:Inv X pins σ H s) (hk:X.K=K) (hu:A.units < cLine) (h1:Rp K μ H d v1) (h2:Rp K μ H d2 v2) (q1:RelV v1 u1) (q2:RelV v2 u2) (m1:dep d<=100) (m2:dep d2<=100)
    (ih:∀ a xs k,At K μ H d a xs k->Eqs K μ H s A.in1 xs):SeqAt.EqAt A s u1 u2 (eqD d d2):=by
  cases n1:fv d with
  | some w =>
    cases n2:fv d2 with
    | some w2 =>
      obtain ⟨rfl,f1⟩:=fv_rp n1 h1
      obtain ⟨rfl,f2⟩:=fv_rp n2 h2
      rw [<- fv_eq n1 n2]
      exact eqAt_V q1 q2 f1 f2
    | none =>
      obtain ⟨a,ds,k,rfl,at2⟩:=fv_none n2 m2 h2
      cases q2
      rw [(eq_at_flat n2 n1).2]
      exact (at_flat I hk hu at2 n1 h1 q1).2.1
  | none =>
    cases n2:fv d2 with
    | some w2 =>
      obtain ⟨a,ds,k,rfl,at1⟩:=fv_none n1 m1 h1
      cases q1
      rw [(eq_at_flat n1 n2).1]
      exact (at_flat I hk hu at1 n2 h2 q2).1
    | none =>
      obtain ⟨a,xs,k,rfl,at1⟩:=fv_none n1 m1 h1
      obtain ⟨b,ys,k2,rfl,at2⟩:=fv_none n2 m2 h2
      cases q1
      cases q2
      by_cases hab:a=b
      · subst hab
        rw [rp_inj I hk d d2 _ m1 m2 h1 h2]
        exact .same _
      · exact .of_refs hab (rc_at I hk hu at1 at2 m2 (ih a xs k at1)).1
mutual
theorem eqAt_D (I:Inv X pins σ H s) (hk:X.K=K):∀ (d:D) (A:Around) (d2:D) (v1 v2:V) (u1 u2:Value),A.units+dep d < cLine->dep d<=100->dep d2<=100->Rp K μ H d v1->Rp K μ H d2 v2->RelV v1 u1->RelV v2 u2->SeqAt.EqAt A s u1 u2 (eqD d d2)
  | .non,A,d2,v1,v2,u1,u2,hu,m1,m2,h1,h2,q1,q2=>eqAt_of I hk (by omega) h1 h2 q1 q2 m1 m2 fun a xs k z=>nomatch z
  | .bl x,A,d2,v1,v2,u1,u2,hu,m1,m2,h1,h2,q1,q2=>eqAt_of I hk (by omega) h1 h2 q1 q2 m1 m2 fun a xs k z=>nomatch z
  | .int x,A,d2,v1,v2,u1,u2,hu,m1,m2,h1,h2,q1,q2=>eqAt_of I hk (by omega) h1 h2 q1 q2 m1 m2 fun a xs k z=>nomatch z
  | .str x,A,d2,v1,v2,u1,u2,hu,m1,m2,h1,h2,q1,q2=>eqAt_of I hk (by omega) h1 h2 q1 q2 m1 m2 fun a xs k z=>nomatch z
  | .tup xs,A,d2,v1,v2,u1,u2,hu,m1,m2,h1,h2,q1,q2=>eqAt_of I hk (by omega) h1 h2 q1 q2 m1 m2 fun a ys k z=>by
    have e:xs=ys:=by cases z; rfl
    subst e
    exact eqAt_Ds I hk xs A.in1 (by simp only [dep] at hu; show A.units+1+deps xs < cLine; omega) (by simp only [dep] at m1; omega)
  | .lst xs,A,d2,v1,v2,u1,u2,hu,m1,m2,h1,h2,q1,q2=>eqAt_of I hk (by omega) h1 h2 q1 q2 m1 m2 fun a ys k z=>by
    have e:xs=ys:=by cases z; rfl
    subst e
    exact eqAt_Ds I hk xs A.in1 (by simp only [dep] at hu; show A.units+1+deps xs < cLine; omega) (by simp only [dep] at m1; omega)
  | .fz xs,A,d2,v1,v2,u1,u2,hu,m1,m2,h1,h2,q1,q2=>eqAt_of I hk (by omega) h1 h2 q1 q2 m1 m2 fun a ys k z=>by
    have e:xs=ys:=by cases z; rfl
    subst e
    exact eqAt_Ds I hk xs A.in1 (by simp only [dep] at hu; show A.units+1+deps xs < cLine; omega) (by simp only [dep] at m1; omega)
  | .exn c f xs,A,d2,v1,v2,u1,u2,hu,m1,m2,h1,h2,q1,q2=>by simp [dep] at m1
theorem eqAt_Ds (I:Inv X pins σ H s) (hk:X.K=K):∀ (xs:List D) (A:Around),A.units+deps xs < cLine->deps xs<=100->Eqs K μ H s A xs
  | [],A,hu,m=>fun j d h=>by simp at h
  | x::xs,A,hu,m=>fun j d h=>match j,h with
    | 0,h=>fun d2 v1 v2 u1 u2 m2 r1 r2 q1 q2=>by
      have e:d=x:=by simpa using h.symm
      rw [e] at r1 ⊢
      exact eqAt_D I hk x A d2 v1 v2 u1 u2 (by simp only [deps] at hu; omega) (by simp only [deps] at m; omega) m2 r1 r2 q1 q2
    | j+1,h=>fun d2 v1 v2 u1 u2 m2 r1 r2 q1 q2=>eqAt_Ds I hk xs A (by simp only [deps] at hu; omega) (by simp only [deps] at m; omega) j d (by simpa using h) d2 v1 v2 u1 u2 m2 r1 r2 q1 q2
end
noncomputable def wd (M:Mm):W->Option D
  | .d x=>some x
  | .ref i=>(M[i]?).map D.lst
noncomputable def Rq (K:PySem.W.Frag) (μ:List Addr) (H:Hp) (d:D) (v:V):Prop:=Rp K μ H d v\/∃ a ds vs,d=.lst ds/\v=.ref a/\H a=some (.lst vs)/\Rps K μ H ds vs
theorem wd_rq {w:W} {v:V} {d:D} (hr:HR K μ H M) (r:Rw K μ H w v) (h:wd M w=some d):Rq K μ H d v:=by
  cases w with
  | d x=>simp only [wd,Option.some.injEq] at h; subst h; exact .inl r
  | ref i =>
    simp only [wd,Option.map_eq_some_iff] at h
    obtain ⟨ds,h1,rfl⟩:=h
    obtain ⟨a,q,rfl⟩:=r
    obtain ⟨a',vs,q1,q2,q3⟩:=hr.at h1
    rw [q] at q1; cases q1
    exact .inr ⟨a,ds,vs,rfl,rfl,q2,q3⟩
theorem rq_none {d:D} {v:V} (n:fv d=none) (m:dep d<=100) (h:Rq K μ H d v):∃ a ds k,v=.ref a/\At K μ H d a ds k:=by
  rcases h with h | ⟨a,ds,vs,rfl,rfl,q1,q2⟩
  · exact fv_none n m h
  · exact ⟨a,ds,false,rfl,.lst (SqL.of q1) q2⟩
theorem rq_rp {d:D} {v w:V} (n:fv d=some w) (h:Rq K μ H d v):Rp K μ H d v:=by
  rcases h with h | ⟨a,ds,vs,rfl,rfl,q1,q2⟩
  · exact h
  · cases n
theorem at_dep {d:D} {a:Addr} {xs:List D} {k:Bool} (h:At K μ H d a xs k):dep d=deps xs+1:=by cases h <;> rfl
noncomputable def pEq (x y:W) (M:Mm):Oc W:=match wd M x,wd M y with
  | some d,some e=>if dep d<=100/\dep e<=100 then .ok (.d (.bl (eqD d e))) M else .bad
  | _,_=>.bad
noncomputable def pNe (x y:W) (M:Mm):Oc W:=match wd M x,wd M y with
  | some d,some e=>if dep d<=100/\dep e<=100 then .ok (.d (.bl (!eqD d e))) M else .bad
  | _,_=>.bad
noncomputable def rEqD (K:PySem.W.Frag) (neg:Bool):R2:=fun v u H Q=>∃ μ d e,Rq K μ H d v/\Rq K μ H e u/\(dep d<=100/\dep e<=100)/\Q (.bl (if neg=true then !eqD d e else eqD d e)) H
theorem rc_D (I:Inv X pins σ H s) (hk:X.K=K) {A:Around} {d d2:D} {v1 v2:V} {u1 u2:Value} (hu:A.units+dep d+1 < cLine) (m1:dep d<=100) (m2:dep d2<=100) (h1:Rq K μ H d v1) (h2:Rq K μ H d2 v2) (q1:RelV v1 u1) (q2:RelV v2 u2) :
    (SeqAt.RcAt A s u1 u2 (eqD d d2)/\SeqAt.RcNeAt A s u1 u2 (!eqD d d2)):=by
  have hu0:A.units < cLine:=by omega
  cases n1:fv d with
  | some w =>
    have h1:=rq_rp n1 h1
    cases n2:fv d2 with
    | some w2=>exact rc_flat n1 n2 h1 (rq_rp n2 h2) q1 q2
    | none =>
      obtain ⟨b,ys,k2,rfl,at2⟩:=rq_none n2 m2 h2
      cases q2
      rw [(eq_at_flat n2 n1).2]
      obtain ⟨_,_,_,_,x,y⟩:=at_flat I hk hu0 at2 n1 h1 q1
      exact ⟨x,y⟩
  | none =>
    obtain ⟨a,xs,k,rfl,at1⟩:=rq_none n1 m1 h1
    cases q1
    cases n2:fv d2 with
    | some w2 =>
      rw [(eq_at_flat n1 n2).1]
      obtain ⟨_,_,x,y,_⟩:=at_flat I hk hu0 at1 n2 (rq_rp n2 h2) q2
      exact ⟨x,y⟩
    | none =>
      obtain ⟨b,ys,k2,rfl,at2⟩:=rq_none n2 m2 h2
      cases q2
      have:=at_dep at1
      exact rc_at I hk hu0 at1 at2 m2 (eqAt_Ds I hk xs A.in1 (by show A.units+1+deps xs < cLine; omega) (by omega))
theorem op_eqD (hu:X.A.units+101 < cLine):OpR X (compareOp .Eq) (rEqD X.K false):=by
  intro pins s σ H x y v u Q I rx ry h
  obtain ⟨μ,d,e,h1,h2,h3,q⟩:=h
  exact (rc_D I rfl (A:=X.A) (by omega) h3.1 h3.2 h1 h2 rx ry).1 _ _ _ _ ⟨.bl _,H,I,rfl,q⟩
theorem op_neD (hu:X.A.units+101 < cLine):OpR X (compareOp .NotEq) (rEqD X.K true):=by
  intro pins s σ H x y v u Q I rx ry h
  obtain ⟨μ,d,e,h1,h2,h3,q⟩:=h
  exact (rc_D I rfl (A:=X.A) (by omega) h3.1 h3.2 h1 h2 rx ry).2 _ _ _ _ ⟨.bl _,H,I,rfl,q⟩
theorem opEq (hu:X.A.units+101 < cLine):OpG X K Z (compareOp .Eq) pEq:=fun hk=>⟨_,hk▸op_eqD hu,by
  intro μ H M x y v u Q hr rx ry p
  unfold pEq at p
  cases q1:wd M x with
  | none=>rw [q1] at p; exact p.elim
  | some d=>cases q2:wd M y with
    | none=>rw [q1,q2] at p; exact p.elim
    | some e =>
      rw [q1,q2] at p
      simp only at p
      split at p
      · exact ⟨μ,d,e,wd_rq hr rx q1,wd_rq hr ry q2,by assumption,p μ H .refl hr _ (by simp [Rw,Rp])⟩
      · exact p.elim⟩
theorem opNe (hu:X.A.units+101 < cLine):OpG X K Z (compareOp .NotEq) pNe:=fun hk=>⟨_,hk▸op_neD hu,by
  intro μ H M x y v u Q hr rx ry p
  unfold pNe at p
  cases q1:wd M x with
  | none=>rw [q1] at p; exact p.elim
  | some d=>cases q2:wd M y with
    | none=>rw [q1,q2] at p; exact p.elim
    | some e =>
      rw [q1,q2] at p
      simp only at p
      split at p
      · exact ⟨μ,d,e,wd_rq hr rx q1,wd_rq hr ry q2,by assumption,p μ H .refl hr _ (by simp [Rw,Rp])⟩
      · exact p.elim⟩
end
end EV
namespace EV
open PySem PySem.Spec PyProof.Rows L2
section
variable {X:Cx} {K:PySem.W.Frag} {Z:Zt} {μ:List Addr} {H:Hp} {M:Mm} {e a b o:Expr} {es:List Expr} {pos:Pos} {f fa fb fo:FE} {fs:FA}
@[irreducible] noncomputable def lid:Nat:=2 ^ 4096
theorem lid_bits {i:Int} (h:i.natAbs < lid):Builtin.Int.intBits i<=4096:=by unfold lid at h; exact intBits_le_iff.mpr h
noncomputable def mulOk (i j:Int):Bool:=decide ((-18446744073709551616 < i/\i < 18446744073709551616)\/(-18446744073709551616 < j/\j < 18446744073709551616)\/(i.natAbs < lid/\j.natAbs < lid))
theorem op_mulW:OpR X (binaryOp .Mult) (rI (fun i j=>CMul i j\/(i.natAbs < lid/\j.natAbs < lid)) fun i j=>.int (i*j)):=L2.opI fun _ _ _ _ _ _ _ hc q=>mul_int q (by
  rcases hc with hc | ⟨h1,h2⟩
  · exact hc.ok
  · exact mulOk_of_bits (lid_bits h1) (lid_bits h2) (by omega))
noncomputable def pMul (x y:W) (M:Mm):Oc W:=match x,y with
  | .d (.int i),.d (.int j)=>if mulOk i j=true then .ok (.d (.int (i*j))) M else .bad
  | x,.d (.int k)=>match lv M x with
    | some xs=>if xs.length*k.toNat<=16777216/\k < 9223372036854775808 /\ -9223372036854775808<=k then .ok (.d (.lst (List.replicate k.toNat xs).flatten)) M else .bad
    | none=>.bad
  | _,_=>.bad
theorem pMul_rep {x:W} {v:V} {k:Int} {Q:VK} (hr:HR K μ H M) (rx:Rw K μ H x v) (p:Pst K Z μ H (match lv M x with
    | some xs=>if xs.length*k.toNat<=16777216/\k < 9223372036854775808 /\ -9223372036854775808<=k then .ok (.d (.lst (List.replicate k.toNat xs).flatten)) M else .bad
    | none=>.bad) (Wk K Q)):rRep v (.int k) H Q:=by
  cases q1:lv M x with
  | none=>rw [q1] at p; exact p.elim
  | some xs =>
    rw [q1] at p
    simp only at p
    split at p
    · rename_i hz
      obtain ⟨a,vs,rfl,h1,r1⟩:=lv_at hr rx q1
      exact ⟨a,k,vs,rfl,rfl,h1,hz.2.2,hz.2.1,by rw [<- r1.length,sizeLine_eq]; exact hz.1,new_lst hr (r1.rep k.toNat) p⟩
    · exact p.elim
theorem opMul:OpG X K Z (binaryOp .Mult) pMul:=fun hk=>by
  refine ⟨_,OpR.or op_mulW op_rep,?_⟩
  intro μ H M x y v u Q hr rx ry p
  cases y with
  | ref j=>cases x with
    | ref i=>exact p.elim
    | d x=>cases x <;> exact p.elim
  | d y=>cases y with
    | int k =>
      have ry':u=.int k:=by simpa only [Rw,Rp] using ry
      subst ry'
      cases x with
      | ref i=>exact .inr (pMul_rep hr rx p)
      | d x=>cases x with
        | int i =>
          simp only [pMul] at p
          simp only [Rw,Rp] at rx
          split at p
          · rename_i hz
            refine .inl ⟨i,k,rx,rfl,?_,p μ H .refl hr _ (by simp [Rw,Rp])⟩
            simp only [mulOk,decide_eq_true_eq] at hz
            rcases hz with hz | hz | hz
            · exact .inl (.inl hz)
            · exact .inl (.inr hz)
            · exact .inr hz
          · exact p.elim
        | _=>exact .inr (pMul_rep hr rx p)
    | _=>cases x with
      | ref i=>exact p.elim
      | d x=>cases x <;> exact p.elim
noncomputable def pNot (x:W) (M:Mm):Oc W:=match x with
  | .d (.bl b)=>.ok (.d (.bl (!b))) M
  | _=>.bad
theorem ev_not (ha:Ev X K Z a fa):Ev X K Z (.UnaryOp .Not a pos) (e1 pNot fa):=by
  refine ⟨ha.k,cqE (pe_not ha.h) ?_⟩
  rintro σ H Q ⟨μ,M,L,hr,lr,p⟩
  refine ⟨μ,M,L,hr,lr,p.bind.imp fun μ1 H1 M1 x e1 hr1 _ p1 v rx=>?_⟩
  cases x with
  | ref i=>exact p1.elim
  | d x=>cases x with
    | bl i=>simp only [Rw,Rp] at rx; exact ⟨i,rx,p1 μ1 H1 .refl hr1 _ (by simp [Rw,Rp])⟩
    | _=>exact p1.elim
noncomputable def eAnd (f g:FE):FE:=fun L M=>(f L M).bind fun x M1=>match x with
  | .d (.bl true)=>g L M1
  | .d (.bl false)=>.ok (.d (.bl false)) M1
  | _=>.bad
variable {rest:List Expr}
theorem ev_one {op} (ha:Ev X K Z a fa):Ev X K Z (.BoolOp op [a] pos) fa:=⟨ha.k,pe_one ha.h⟩
theorem ev_and (ha:Ev X K Z a fa) (hb:Ev X K Z (.BoolOp .And (b::rest) pos) fb):Ev X K Z (.BoolOp .And (a::b::rest) pos) (eAnd fa fb):=by
  refine ⟨ha.k,cqE (pe_and ha.h hb.h) ?_⟩
  rintro σ H Q ⟨μ,M,L,hr,lr,p⟩
  refine ⟨μ,M,L,hr,lr,p.bind.imp fun μ1 H1 M1 x e1 hr1 _ p1 v rx=>?_⟩
  cases x with
  | ref i=>exact p1.elim
  | d x=>cases x with
    | bl i =>
      simp only [Rw,Rp] at rx
      refine ⟨i,rx,?_⟩
      cases i with
      | true=>exact ⟨μ1,M1,L,hr1,lr.ext hr.lsts e1,p1⟩
      | false=>exact p1 μ1 H1 .refl hr1 _ (by simp [Rw,Rp])
    | _=>exact p1.elim
noncomputable def eIf (t:FT) (f g:FE):FE:=fun L M=>(t L M).bind fun c M1=>if c=true then f L M1 else g L M1
theorem ev_if {c:Expr} {t:FT} (hc:Et X K Z c t) (ha:Ev X K Z a fa) (hb:Ev X K Z b fb):Ev X K Z (.IfExp c a b pos) (eIf t fa fb):=by
  refine ⟨ha.k,cqE (pe_ifExp hc.h ha.h hb.h) ?_⟩
  rintro σ H Q ⟨μ,M,L,hr,lr,p⟩
  refine ⟨μ,M,L,hr,lr,p.bind.imp fun μ1 H1 M1 x e1 hr1 _ p1=>?_⟩
  cases x with
  | true=>exact ⟨μ1,M1,L,hr1,lr.ext hr.lsts e1,p1⟩
  | false=>exact ⟨μ1,M1,L,hr1,lr.ext hr.lsts e1,p1⟩
noncomputable def pIx (x y:W) (M:Mm):Oc W:=match y with
  | .d (.int i)=>match x with
    | .d (.str z)=>match atI z.cps.toList i with
      | some c=>if z.length<=16777216 then .ok (.d (.str ⟨#[c]⟩)) M else .bad
      | none=>.bad
    | x=>match sv M x with
      | some xs=>match atI xs i with
        | some d=>.ok (.d d) M
        | none=>.bad
      | none=>.bad
  | _=>.bad
theorem atI_rp {ds:List D} {vs:List V} {i:Int} {d:D} (r:Rps K μ H ds vs) (h:atI ds i=some d):∃ v,atI vs i=some v/\Rp K μ H d v:=by
  unfold atI at h ⊢
  rw [r.length] at h
  cases q:ixN vs.length i with
  | none=>rw [q] at h; cases h
  | some j=>rw [q] at h; exact r.get h
theorem pIx_seq {x:W} {v:V} {i:Int} {Q:VK} (hr:HR K μ H M) (rx:Rw K μ H x v) (p:Pst K Z μ H (match sv M x with
      | some xs=>match atI xs i with
        | some d=>Oc.ok (.d d) M
        | none=>.bad
      | none=>.bad) (Wk K Q)):rIx K v (.int i) H Q:=by
  cases q1:sv M x with
  | none=>rw [q1] at p; exact p.elim
  | some xs =>
    rw [q1] at p
    cases q2:atI xs i with
    | none=>simp only [q2] at p; exact p.elim
    | some d =>
      simp only [q2] at p
      obtain ⟨a,vs,rfl,h1,r1⟩:=sv_at hr rx q1
      obtain ⟨v,h2,r2⟩:=atI_rp r1 q2
      have q:=p μ H .refl hr v r2
      rcases h1 with h1 | h1
      · exact .inl ⟨a,vs,i,v,rfl,rfl,h1,h2,q⟩
      · exact .inr (.inl ⟨a,vs,i,v,rfl,rfl,h1,h2,q⟩)
theorem op2_ix:Op2 K Z (rIx K) pIx:=by
  intro μ H M x y v u Q hr rx ry p
  cases y with
  | ref j=>exact p.elim
  | d y=>cases y with
    | int i =>
      have:u=.int i:=by simpa only [Rw,Rp] using ry
      subst this
      cases x with
      | ref j=>exact pIx_seq hr rx p
      | d x=>cases x with
        | str z =>
          simp only [Rw,Rp] at rx
          simp only [pIx] at p
          cases q:atI z.cps.toList i with
          | none=>simp only [q] at p; exact p.elim
          | some c =>
            simp only [q] at p
            split at p
            · exact .inr (.inr ⟨z,i,c,rx,rfl,by rw [sizeLine_eq]; assumption,q,p μ H .refl hr _ (by simp [Rw,Rp])⟩)
            · exact p.elim
        | _=>exact pIx_seq hr rx p
    | _=>exact p.elim
theorem ev_ix (ha:Ev X K Z a fa) (hb:Ev X K Z b fb) (hs:PlainIx b:=by intro _ _; rfl):Ev X K Z (.Subscript a b pos) (e2 pIx fa fb):=by
  have h:=pe_ix (pos:=pos) (ix_seq (X:=X)) ha.h hb.h hs
  rw [ha.k] at h
  exact ⟨ha.k,cqE h (lift2 op2_ix)⟩
noncomputable def aNil:FA:=fun _ M=>.ok [] M
noncomputable def aCons (f:FE) (g:FA):FA:=fun L M=>(f L M).bind fun w M1=>(g L M1).bind fun ws M2=>.ok (w::ws) M2
theorem ea_nil (hk:X.K=K:=by rfl):Ea X K Z [] aNil:=⟨hk,cqA pa_nil fun σ H Q ⟨μ,M,L,hr,lr,p⟩=>p μ H .refl hr [] rfl⟩
theorem ea_cons (ha:Ev X K Z e fa) (hr:Ea X K Z es fs) (hs:starEach (e::es) X.env=(false,eval e X.env)::starEach es X.env:=by rfl):Ea X K Z (e::es) (aCons fa fs):=by
  refine ⟨ha.k,cqA (pa_cons ha.h hr.h hs) ?_⟩
  rintro σ H Q ⟨μ,M,L,hr,lr,p⟩
  refine ⟨μ,M,L,hr,lr,p.bind.imp fun μ1 H1 M1 x e1 hr1 _ p1 v rx=>?_⟩
  refine ⟨μ1,M1,L,hr1,lr.ext hr.lsts e1,p1.bind.imp fun μ2 H2 M2 y e2 hr2 _ p2 us ry=>?_⟩
  exact p2 μ2 H2 .refl hr2 (v::us) ⟨v,us,rfl,rx.ext hr1.lsts e2,ry⟩
noncomputable def allD:List W->Option (List D)
  | []=>some []
  | .d x::ws=>(allD ws).map (x::·)
  | .ref _::_=>none
theorem allD_rps:∀ {ws:List W} {vs:List V} {ds:List D},Rws K μ H ws vs->allD ws=some ds->Rps K μ H ds vs
  | [],_,_,h,q=>by cases h; simp only [allD,Option.some.injEq] at q; subst q; exact .nil
  | .d x::ws,_,_,⟨v,r,e1,e2,e3⟩,q=>by
    simp only [allD,Option.map_eq_some_iff] at q
    obtain ⟨ds,q1,rfl⟩:=q
    subst e1
    exact .cons e2 (allD_rps e3 q1)
  | .ref i::ws,_,_,_,q=>by simp [allD] at q
noncomputable def mkT (ws:List W) (M:Mm):Oc W:=match allD ws with
  | some ds=>if ds.length<=16777216 then okD (.tup ds) M else .bad
  | none=>.bad
noncomputable def mkL (ws:List W) (M:Mm):Oc W:=match allD ws with
  | some ds=>if ds.length<=16777216 then okD (.lst ds) M else .bad
  | none=>.bad
noncomputable def mkR (ws:List W) (M:Mm):Oc W:=match allD ws with
  | some ds=>if ds.length<=16777216 then .ok (.ref M.length) (M++[ds]) else .bad
  | none=>.bad
noncomputable def eA (g:List W->Mm->Oc W) (fs:FA):FE:=fun L M=>(fs L M).bind g
theorem ev_tup {x1} (h:Ea X K Z es fs):Ev X K Z (.Tuple es x1 pos) (eA mkT fs):=by
  refine ⟨h.k,cqE (pe_tup h.h) ?_⟩
  rintro σ H Q ⟨μ,M,L,hr,lr,p⟩
  refine ⟨μ,M,L,hr,lr,p.bind.imp fun μ1 H1 M1 ws e1 hr1 _ p1 vs rx=>?_⟩
  unfold mkT at p1
  cases q:allD ws with
  | none=>rw [q] at p1; exact p1.elim
  | some ds =>
    rw [q] at p1
    simp only at p1
    split at p1
    · have r:=allD_rps rx q
      exact ⟨by rw [<- r.length,sizeLine_eq]; assumption,new_tup hr1 r p1⟩
    · exact p1.elim
theorem ev_lst (h:Ea X K Z es fs):Ev X K Z (.List es pos) (eA mkL fs):=by
  refine ⟨h.k,cqE (pe_lst h.h) ?_⟩
  rintro σ H Q ⟨μ,M,L,hr,lr,p⟩
  refine ⟨μ,M,L,hr,lr,p.bind.imp fun μ1 H1 M1 ws e1 hr1 _ p1 vs rx=>?_⟩
  unfold mkL at p1
  cases q:allD ws with
  | none=>rw [q] at p1; exact p1.elim
  | some ds =>
    rw [q] at p1
    simp only at p1
    split at p1
    · have r:=allD_rps rx q
      exact ⟨by rw [<- r.length,sizeLine_eq]; assumption,new_lst hr1 r p1⟩
    · exact p1.elim
theorem ev_lstR (h:Ea X K Z es fs):Ev X K Z (.List es pos) (eA mkR fs):=by
  refine ⟨h.k,cqE (pe_lst h.h) ?_⟩
  rintro σ H Q ⟨μ,M,L,hr,lr,p⟩
  refine ⟨μ,M,L,hr,lr,p.bind.imp fun μ1 H1 M1 ws e1 hr1 _ p1 vs rx=>?_⟩
  unfold mkR at p1
  cases q:allD ws with
  | none=>rw [q] at p1; exact p1.elim
  | some ds =>
    rw [q] at p1
    simp only at p1
    split at p1
    · have r:=allD_rps rx q
      exact ⟨by rw [<- r.length,sizeLine_eq]; assumption,new_ref hr1 r p1⟩
    · exact p1.elim
noncomputable def eInts (ns:List Int):FE:=fun _ M=>.ok (.d (.lst (ns.map D.int))) M
theorem ev_ints {ns:List Int} (h:IntsE es ns) (hn:ns.length<=16777216:=by decide) (hk:X.K=K:=by rfl):Ev X K Z (.List es pos) (eInts ns):=by
  refine ⟨hk,cqE (pe_lst (pa_ints h)) ?_⟩
  rintro σ H Q ⟨μ,M,L,hr,lr,p⟩
  exact ⟨by rw [List.length_map,sizeLine_eq]; exact hn,new_lst hr Rps.ints p⟩
noncomputable def Cl (K:PySem.W.Frag) (Z:Zt) (r:List V->Hp->VK->Prop) (g:List W->Mm->Oc W):Prop :=
  ∀ (μ:List Addr) (H:Hp) (M:Mm) (ws:List W) (vs:List V) (Q:VK),HR K μ H M->Rws K μ H ws vs->Pst K Z μ H (g ws M) (Wk K Q)->r vs H Q
noncomputable def ClG (X:Cx) (K:PySem.W.Frag) (Z:Zt) (f:Value) (g:List W->Mm->Oc W):Prop:=X.K=K->∃ r,CallR X f r/\Cl K Z r g
theorem liftC {r:List V->Hp->VK->Prop} {g:List W->Mm->Oc W} (h:Cl K Z r g):∀ σ H Q,lift K Z (eA g fs) σ H Q->tCB r (liftA K Z fs) σ H Q:=by
  rintro σ H Q ⟨μ,M,L,hr,lr,p⟩
  exact ⟨μ,M,L,hr,lr,p.bind.imp fun μ1 H1 M1 ws e1 hr1 _ p1 vs rx=>h μ1 H1 M1 ws vs Q hr1 rx p1⟩
theorem ev_callB {x:Str} {p:Pos} {id:String} {g:List W->Mm->Oc W} (hc:ClG X K Z (.builtin id) g) (hg:Gl X x) (hm:X.mg x=none) (hv:bootBuiltins x=some (.builtin id)) (ha:Ea X K Z (e::es) fs)
    (hn:x≠"__name__":=by decide) (hdb:(x==("__debug__":Str))=false:=by decide) (he:starEach (e::es) X.env=(false,eval e X.env)::starEach es X.env:=by rfl)
    (hpl:(backTo pos (starEach es X.env)).any (·.1)=false:=by rfl):Ev X K Z (.Call (.Name x p) (e::es) [] pos) (eA g fs):=by
  obtain ⟨r,h1,h2⟩:=hc ha.k
  exact ⟨ha.k,cqE (pe_callB h1 hg hm hv ha.h hn hdb he hpl) (liftC h2)⟩
theorem ev_callT {x:Str} {p:Pos} {T:String} {g:List W->Mm->Oc W} (hc:ClG X K Z (.type T) g) (hg:Gl X x) (hm:X.mg x=none) (hv:bootBuiltins x=some (.type T)) (ha:Ea X K Z (e::es) fs)
    (hn:x≠"__name__":=by decide) (hdb:(x==("__debug__":Str))=false:=by decide) (he:starEach (e::es) X.env=(false,eval e X.env)::starEach es X.env:=by rfl)
    (hpl:(backTo pos (starEach es X.env)).any (·.1)=false:=by rfl):Ev X K Z (.Call (.Name x p) (e::es) [] pos) (eA g fs):=by
  obtain ⟨r,h1,h2⟩:=hc ha.k
  exact ⟨ha.k,cqE (pe_callTy h1 hg hm hv ha.h hn hdb he hpl) (liftC h2)⟩
noncomputable def cLen (ws:List W) (M:Mm):Oc W:=match ws with
  | [.d (.str z)]=>if z.length<=16777216 then .ok (.d (.int z.length)) M else .bad
  | [w]=>match sv M w with
    | some xs=>.ok (.d (.int xs.length)) M
    | none=>.bad
  | _=>.bad
theorem cLen_seq {w:W} {v:V} {Q:VK} (hr:HR K μ H M) (rx:Rw K μ H w v) (p:Pst K Z μ H (match sv M w with
    | some xs=>Oc.ok (.d (.int xs.length)) M
    | none=>.bad) (Wk K Q)):∃ p ys,[v]=[V.ref p]/\(SqL K H p ys\/SqT K H p ys)/\Q (.int ys.length) H:=by
  cases q1:sv M w with
  | none=>rw [q1] at p; exact p.elim
  | some xs =>
    rw [q1] at p
    obtain ⟨a,vs,rfl,h1,r1⟩:=sv_at hr rx q1
    exact ⟨a,vs,rfl,h1,p μ H .refl hr _ (by simp [Rw,Rp,r1.length])⟩
theorem callLen:ClG X K Z (.builtin "len") cLen:=fun hk=>by
  refine ⟨_,CallR.or (hk▸call_len_seq) call_len_str,?_⟩
  intro μ H M ws vs Q hr rx p
  match ws,rx,p with
  | [],_,p=>exact p.elim
  | .ref i::[],⟨v,r,e1,e2,e3⟩,p=>cases e3; subst e1; exact .inl (cLen_seq hr e2 p)
  | .d x::[],⟨v,r,e1,e2,e3⟩,p =>
    cases e3; subst e1
    cases x with
    | str z =>
      simp only [cLen] at p
      simp only [Rw,Rp] at e2
      subst e2
      split at p
      · exact .inr ⟨z,rfl,by rw [sizeLine_eq]; assumption,p μ H .refl hr _ (by simp [Rw,Rp])⟩
      · exact p.elim
    | _=>exact .inl (cLen_seq hr e2 p)
  | .ref i::_::_,_,p=>exact p.elim
  | .d x::_::_,_,p=>cases x <;> exact p.elim
noncomputable def cInt (ws:List W) (M:Mm):Oc W:=match ws with
  | [.d (.int i)]=>.ok (.d (.int i)) M
  | [.d (.bl k)]=>.ok (.d (.int (if k=true then 1 else 0))) M
  | _=>.bad
theorem callInt:ClG X K Z (.type "int") cInt:=fun hk=>by
  refine ⟨_,call_int1,?_⟩
  intro μ H M ws vs Q hr rx p
  match ws,rx,p with
  | [],_,p=>exact p.elim
  | .ref i::_,_,p=>exact p.elim
  | .d x::[],⟨v,r,e1,e2,e3⟩,p =>
    cases e3; subst e1
    cases x with
    | int i=>simp only [Rw,Rp] at e2; subst e2; exact .inl ⟨i,rfl,p μ H .refl hr _ (by simp [Rw,Rp])⟩
    | bl k=>simp only [Rw,Rp] at e2; subst e2; exact .inr ⟨k,rfl,p μ H .refl hr _ (by simp [Rw,Rp])⟩
    | _=>exact p.elim
  | .d x::_::_,_,p=>cases x <;> exact p.elim
noncomputable def cMax2 (ws:List W) (M:Mm):Oc W:=match ws with
  | [.d (.int i),.d (.int j)]=>.ok (.d (.int (if j > i then j else i))) M
  | _=>.bad
noncomputable def cMin2 (ws:List W) (M:Mm):Oc W:=match ws with
  | [.d (.int i),.d (.int j)]=>.ok (.d (.int (if j < i then j else i))) M
  | _=>.bad
theorem callMax2 (hc:X.calm=true):ClG X K Z (.builtin "max") cMax2:=fun hk=>by
  refine ⟨_,call_max2 hc,?_⟩
  intro μ H M ws vs Q hr rx p
  unfold cMax2 at p
  split at p
  · obtain ⟨v,r,e1,e2,v',r',e1',e2',e3⟩:=rx
    simp only [Rw,Rp] at e2 e2'
    cases e3; subst e1' e1 e2 e2'
    exact ⟨_,_,rfl,p μ H .refl hr _ (by simp [Rw,Rp])⟩
  · exact p.elim
theorem callMin2 (hc:X.calm=true):ClG X K Z (.builtin "min") cMin2:=fun hk=>by
  refine ⟨_,call_min2 hc,?_⟩
  intro μ H M ws vs Q hr rx p
  unfold cMin2 at p
  split at p
  · obtain ⟨v,r,e1,e2,v',r',e1',e2',e3⟩:=rx
    simp only [Rw,Rp] at e2 e2'
    cases e3; subst e1' e1 e2 e2'
    exact ⟨_,_,rfl,p μ H .refl hr _ (by simp [Rw,Rp])⟩
  · exact p.elim
noncomputable def cTup (ws:List W) (M:Mm):Oc W:=match ws with
  | [w]=>match sv M w with
    | some xs=>okD (.tup xs) M
    | none=>.bad
  | _=>.bad
theorem one_seq {g:List D->Oc W} {ws:List W} {vs:List V} {Q:List Addr->Hp->Mm->W->Prop} (hr:HR K μ H M) (rx:Rws K μ H ws vs) (p:Pst K Z μ H (match ws with
  | [w]=>match sv M w with
    | some xs=>g xs
    | none=>.bad
  | _=>.bad) Q):∃ w a us xs,ws=[w]/\vs=[.ref a]/\sv M w=some xs/\Rw K μ H w (.ref a)/\(SqL K H a us\/SqT K H a us)/\Rps K μ H xs us/\Pst K Z μ H (g xs) Q:=by
  match ws,rx,p with
  | [],_,p=>exact p.elim
  | [w],⟨v,r,e1,e2,e3⟩,p =>
    cases e3; subst e1
    simp only at p
    cases q:sv M w with
    | none=>rw [q] at p; exact p.elim
    | some xs =>
      rw [q] at p
      obtain ⟨a,us,rfl,h1,r1⟩:=sv_at hr e2 q
      exact ⟨w,a,us,xs,rfl,rfl,q,e2,h1,r1,p⟩
  | _::_::_,_,p=>exact p.elim
theorem callTup:ClG X K Z (.type "tuple") cTup:=fun hk=>by
  refine ⟨_,hk▸call_tuple_of,?_⟩
  intro μ H M ws vs Q hr rx p
  obtain ⟨w,a,us,xs,rfl,rfl,q,e2,h1,r1,p⟩:=one_seq hr rx p
  by_cases hw:∃ ys,w=.d (.tup ys)
  · obtain ⟨ys,rfl⟩:=hw
    simp only [sv,Option.some.injEq] at q
    subst q
    have e2':=e2
    simp only [Rw,Rp] at e2
    obtain ⟨a',vs',ea,h1',r1'⟩:=e2
    cases ea
    exact ⟨a,vs',rfl,.inr ⟨SqT.of h1',p μ H .refl hr _ e2'⟩⟩
  · have hl:lr M w=some xs:=by
      cases w with
      | ref i=>exact q
      | d x=>cases x <;> first | exact q | exact (hw ⟨_,rfl⟩).elim
    obtain ⟨a',vs',ea,h1',r1'⟩:=lr_at hr e2 hl
    cases ea
    exact ⟨a,vs',rfl,.inl ⟨h1',new_tup hr r1' p⟩⟩
end
end EV
namespace EV
open PySem PySem.Spec PyProof.Rows L2
section
variable {X:Cx} {K:PySem.W.Frag} {Z:Zt} {μ:List Addr} {H:Hp} {M:Mm} {e a b o:Expr} {es:List Expr} {pos:Pos} {f fa fb fo:FE} {fs:FA}
variable {st:Stmt} {rest:List Stmt} {F G:FS}
noncomputable def sNil:FS:=fun L M=>.ok (.nx L) M
noncomputable def sSeq (F G:FS):FS:=fun L M=>(F L M).bind fun o M1=>match o with
  | .nx L1=>G L1 M1
  | .bk L1=>.ok (.bk L1) M1
  | .ct L1=>.ok (.ct L1) M1
  | .rt w=>.ok (.rt w) M1
theorem ess_nil (hk:X.K=K:=by rfl):Ess X K Z [] sNil:=⟨hk,cqSs pss_nil fun E σ H ⟨μ,M,L,hr,lr,p⟩=>p μ H .refl hr σ lr⟩
theorem ess_cons (h1:Es X K Z st F) (h2:Ess X K Z rest G):Ess X K Z (st::rest) (sSeq F G):=by
  refine ⟨h1.k,cqSs (pss_cons h1.h h2.h) ?_⟩
  rintro E σ H ⟨μ,M,L,hr,lr,p⟩
  refine ⟨μ,M,L,hr,lr,p.bind.imp fun μ1 H1 M1 o e1 hr1 _ p1=>?_⟩
  cases o with
  | nx L1=>exact fun σ' lr'=>⟨μ1,M1,L1,hr1,lr',p1⟩
  | bk L1=>exact p1 μ1 H1 .refl hr1
  | ct L1=>exact p1 μ1 H1 .refl hr1
  | rt w=>exact p1 μ1 H1 .refl hr1
theorem ess_one (h1:Es X K Z st F):Ess X K Z [st] F:=⟨h1.k,pss_one h1.h⟩
noncomputable def sEx (f:FE):FS:=fun L M=>(f L M).bind fun _ M1=>.ok (.nx L) M1
theorem es_expr (h:Ev X K Z e f) (hs:swapsWith e none pos.line X.env=pure false:=by rfl):Es X K Z (.Expr e pos) (sEx f):=by
  refine ⟨h.k,cqS (ps_expr h.h hs) ?_⟩
  rintro E σ H ⟨μ,M,L,hr,lr,p⟩
  exact ⟨μ,M,L,hr,lr,p.bind.imp fun μ1 H1 M1 x e1 hr1 _ p1 v rx=>p1 μ1 H1 .refl hr1 σ (lr.ext hr.lsts e1)⟩
noncomputable def sRt (f:FE):FS:=fun L M=>(f L M).bind fun w M1=>.ok (.rt w) M1
theorem es_ret (h:Ev X K Z e f):Es X K Z (.Return (some e) pos) (sRt f):=by
  refine ⟨h.k,cqS (ps_ret h.h) ?_⟩
  rintro E σ H ⟨μ,M,L,hr,lr,p⟩
  exact ⟨μ,M,L,hr,lr,p.bind.imp fun μ1 H1 M1 x e1 hr1 _ p1 v rx=>p1 μ1 H1 .refl hr1 v rx⟩
noncomputable def sIf (t:FT) (F G:FS):FS:=fun L M=>(t L M).bind fun b M1=>if b=true then F L M1 else G L M1
theorem es_if {c:Expr} {p q:List Stmt} {t:FT} (hc:Et X K Z c t) (ha:Ess X K Z p F) (hb:Ess X K Z q G):Es X K Z (.If c p q pos) (sIf t F G):=by
  refine ⟨hc.k,cqS (ps_if hc.h ha.h hb.h) ?_⟩
  rintro E σ H ⟨μ,M,L,hr,lr,p⟩
  refine ⟨μ,M,L,hr,lr,p.bind.imp fun μ1 H1 M1 x e1 hr1 _ p1=>?_⟩
  cases x with
  | true=>exact ⟨μ1,M1,L,hr1,lr.ext hr.lsts e1,p1⟩
  | false=>exact ⟨μ1,M1,L,hr1,lr.ext hr.lsts e1,p1⟩
noncomputable def gN (i:Nat):FG:=fun w L M=>.ok (L.set i (some w)) M
theorem LR.set {L:Lc} {σ:St} {i:Nat} {w:W} {v:V} (h:LR K μ H L σ) (r:Rw K μ H w v):LR K μ H (L.set i (some w)) (σ.set i (some v)) where
  len:=by simp [h.len]
  ent:=fun j u q=>by
    by_cases hj:i=j
    · subst hj
      have hl:i < L.length:=by
        by_cases hl:i < L.length
        · exact hl
        · rw [List.set_eq_of_length_le (by omega)] at q
          rw [List.getElem?_eq_none (by omega)] at q; cases q
      rw [List.getElem?_set_self hl] at q
      cases q
      exact ⟨v,by rw [List.getElem?_set_self (by rw [<- h.len]; exact hl)],r⟩
    · rw [List.getElem?_set_ne hj] at q
      obtain ⟨x,q1,q2⟩:=h.ent j u q
      exact ⟨x,by rw [List.getElem?_set_ne hj]; exact q1,q2⟩
theorem eg_name {i:Nat} {x:Str} (hN:X.N.Nodup) (hi:X.N[i]?=some x:=by rfl) (hx:Loc X.env.scope x:=by first | exact Or.inl rfl | exact Or.inr rfl) (hk:X.K=K:=by rfl) (hf:X.fn x=true\/X.env.scope.names.lookup x=some .local:=by first | exact .inl rfl | exact .inr rfl | assumption) :
    Eg X K Z (.Name x pos) (gN i):=⟨hk,cqG (pg_name hN hi hx hf) fun v σ H Q ⟨μ,M,L,w,hr,lr,rx,p⟩=>p μ H .refl hr _ (lr.set rx)⟩
noncomputable def gsNil:FGs:=fun ds L M=>match ds with
  | []=>.ok L M
  | _=>.bad
noncomputable def gsCons (g:FG) (gs:FGs):FGs:=fun ds L M=>match ds with
  | d::r=>(g (.d d) L M).bind fun L1 M1=>gs r L1 M1
  | []=>.bad
theorem egs_nil (hk:X.K=K:=by rfl):Egs X K Z [] gsNil:=⟨hk,cqGs pgs_nil fun vs σ H Q ⟨μ,M,L,ds,hr,lr,rx,p⟩=>by
  cases ds with
  | nil=>simp only [Rps] at rx; exact ⟨rx,p μ H .refl hr σ lr⟩
  | cons d r=>exact p.elim⟩
theorem egs_cons {g:FG} {gs:FGs} (h1:Eg X K Z e g) (h2:Egs X K Z es gs) (hs:(assignEach (e::es) X.env).map (·.2)=assign e X.env::(assignEach es X.env).map (·.2):=by rfl):Egs X K Z (e::es) (gsCons g gs) :=
  ⟨h1.k,cqGs (pgs_cons h1.h h2.h hs) fun vs σ H Q ⟨μ,M,L,ds,hr,lr,rx,p⟩=>by
    cases ds with
    | nil=>exact p.elim
    | cons d r =>
      simp only [Rps] at rx
      obtain ⟨v,vr,e1,rd,rr⟩:=rx
      refine ⟨v,vr,e1,μ,M,L,.d d,hr,lr,rd,p.bind.imp fun μ1 H1 M1 L1 e1 hr1 _ p1 σ1 lr1=>?_⟩
      exact ⟨μ1,M1,L1,r,hr1,lr1,Rps.ext hr.lsts e1 _ _ rr,p1⟩⟩
noncomputable def gT (n:Nat) (gs:FGs):FG:=fun w L M=>match w with
  | .d (.tup xs)=>if xs.length=n then gs xs L M else .bad
  | _=>.bad
theorem eg_tup {k n:Nat} {gs:FGs} (hc:X.calm=true) (h:Egs X K Z es gs) (hn:(assignEach es X.env).length=n:=by rfl) (hst:(assignEach es X.env).findIdx? (·.1)=none:=by rfl):Eg X K Z (.Tuple es k pos) (gT n gs):=by
  have h':=pg_tup (k:=k) (pos:=pos) hc h.h hn hst
  rw [h.k] at h'
  refine ⟨h.k,cqG h' fun v σ H Q ⟨μ,M,L,w,hr,lr,rx,p⟩=>?_⟩
  cases w with
  | ref i=>exact p.elim
  | d x=>cases x with
    | tup xs =>
      simp only [gT] at p
      split at p
      · simp only [Rw,Rp] at rx
        obtain ⟨a,vs,e1,q1,r1⟩:=rx
        exact ⟨a,vs,e1,SqT.of q1,by rw [<- r1.length]; assumption,μ,M,L,xs,hr,lr,r1,p⟩
      · exact p.elim
    | _=>exact p.elim
noncomputable def gS (fo fi:FE):FG:=fun w L M=>(fo L M).bind fun o M1=>(fi L M1).bind fun i M2=>match o,i,w with
  | .ref k,.d (.int j),.d x=>match M2[k]? with
    | some xs=>match ixN xs.length j with
      | some t=>.ok L (M2.set k (xs.set t x))
      | none=>.bad
    | none=>.bad
  | _,_,_=>.bad
theorem eg_sub {i:Expr} {fi:FE} (ho:Ev X K Z o fo) (hi:Ev X K Z i fi) (ha:∀ v,assign (.Subscript o i pos) X.env v=(do
      let ov <- holding [v] (eval o X.env)
      let iv <- holding [v,ov] (eval i X.env)
      standAt pos
      holding [v,ov,iv] (setItem ov iv v)
      release [v,ov,iv] []):=by intro _; rfl):Eg X K Z (.Subscript o i pos) (gS fo fi):=by
  refine ⟨ho.k,cqG (pg_sub ho.h hi.h set_list ha) fun v σ H Q ⟨μ,M,L,w,hr,lr,rx,p⟩=>?_⟩
  refine ⟨μ,M,L,hr,lr,p.bind.imp fun μ1 H1 M1 x e1 hr1 _ p1 vo ro=>?_⟩
  refine ⟨μ1,M1,L,hr1,lr.ext hr.lsts e1,p1.bind.imp fun μ2 H2 M2 y e2 hr2 _ p2 vi ri=>?_⟩
  cases x with
  | d x=>exact p2.elim
  | ref k=>cases y with
    | ref j=>exact p2.elim
    | d y=>cases y with
      | int j=>cases w with
        | ref q=>exact p2.elim
        | d z =>
          simp only at p2
          cases q1:M2[k]? with
          | none=>simp only [q1] at p2; exact p2.elim
          | some xs =>
            simp only [q1] at p2
            cases q2:ixN xs.length j with
            | none=>simp only [q2] at p2; exact p2.elim
            | some t =>
              simp only [q2] at p2
              have ro:=ro.ext hr1.lsts e2
              obtain ⟨a,qa,rfl⟩:=ro
              obtain ⟨a',vs,qa',h1,r1⟩:=hr2.at q1
              rw [qa] at qa'; cases qa'
              simp only [Rw,Rp] at ri
              subst ri
              have rz:=Rw.ext hr1.lsts e2 (Rw.ext hr.lsts e1 rx)
              refine ⟨a,vs,j,t,rfl,rfl,h1,by rw [<- r1.length]; exact q2,?_⟩
              exact p2 μ2 _ (ext_set qa) (hr2.set qa (Rps.set rz t r1)) σ ((lr.ext hr.lsts (e1.trans e2)).ext hr2.lsts (ext_set qa))
      | _=>exact p2.elim
noncomputable def sAs (f:FE) (g:FG):FS:=fun L M=>(f L M).bind fun w M1=>(g w L M1).bind fun L1 M2=>.ok (.nx L1) M2
theorem es_asg {tg:Expr} {g:FG} (he:Ev X K Z e f) (hg:Eg X K Z tg g) (hs:swapsWithSole [tg] e pos.line X.env=pure false:=by rfl) (hw:swappedStores [tg] e X.env=pure none:=by rfl)
    (h1:(assignEach [tg] X.env).map (·.2)=[assign tg X.env]:=by rfl):Es X K Z (.Assign [tg] e pos) (sAs f g):=by
  refine ⟨he.k,cqS (ps_asg he.h hg.h hs hw h1) ?_⟩
  rintro E σ H ⟨μ,M,L,hr,lr,p⟩
  refine ⟨μ,M,L,hr,lr,p.bind.imp fun μ1 H1 M1 x e1 hr1 _ p1 v rx=>?_⟩
  exact ⟨μ1,M1,L,x,hr1,lr.ext hr.lsts e1,rx,p1.bind.imp fun μ2 H2 M2 L2 e2 hr2 _ p2 σ2 lr2=>p2 μ2 H2 .refl hr2 σ2 lr2⟩
theorem es_set {i:Nat} {x:Str} {pos':Pos} (hN:X.N.Nodup) (he:Ev X K Z e f) (hi:X.N[i]?=some x:=by rfl) (hx:Loc X.env.scope x:=by first | exact Or.inl rfl | exact Or.inr rfl) (hs:swapsWith e (some (.Name x pos')) pos.line X.env=pure false:=by rfl)
    (hf:X.fn x=true\/X.env.scope.names.lookup x=some .local:=by first | exact .inl rfl | exact .inr rfl | assumption):Es X K Z (.Assign [.Name x pos'] e pos) (sAs f (gN i)):=by
  refine ⟨he.k,cqS (ps_set hN hi hx he.h hs hf) ?_⟩
  rintro E σ H ⟨μ,M,L,hr,lr,p⟩
  refine ⟨μ,M,L,hr,lr,p.bind.imp fun μ1 H1 M1 x e1 hr1 _ p1 v rx=>?_⟩
  exact p1 μ1 H1 .refl hr1 _ (LR.set (lr.ext hr.lsts e1) rx)
noncomputable def sPar (i j:Nat) (fs:FA):FS:=fun L M=>(fs L M).bind fun ws M1=>match ws with
  | [v,w]=>.ok (.nx ((L.set i (some v)).set j (some w))) M1
  | _=>.bad
end
end EV
namespace EV
open PySem PySem.Spec PyProof.Rows L2
section
variable {X:Cx} {K:PySem.W.Frag} {Z:Zt} {μ:List Addr} {H:Hp} {M:Mm} {e a b o:Expr} {es:List Expr} {pos:Pos} {f fa fb fo:FE} {fs:FA} {st:Stmt} {rest:List Stmt} {F G:FS}
theorem es_par {i j:Nat} {x y:Str} {px py pt:Pos} {kt k2 pt2} (hc:X.calm=true) (hN:X.N.Nodup) (ha:Ea X K Z [a,b] fs) (hi:X.N[i]?=some x:=by rfl) (hj:X.N[j]?=some y:=by rfl) (hij:i≠j:=by decide)
    (hx:X.env.scope.names.lookup x=some .local:=by rfl) (hy:X.env.scope.names.lookup y=some .local:=by rfl)
    (hw:swappedStores [.Tuple [.Name x px,.Name y py] kt pt] (.Tuple [a,b] k2 pt2) X.env=pure (some [x,y]):=by rfl)
    (hs:swapsWithSole [.Tuple [.Name x px,.Name y py] kt pt] (.Tuple [a,b] k2 pt2) pos.line X.env=pure false:=by rfl) :
    Es X K Z (.Assign [.Tuple [.Name x px,.Name y py] kt pt] (.Tuple [a,b] k2 pt2) pos) (sPar i j fs):=by
  refine ⟨ha.k,cqS (ps_par hc hN hi hj hij hx hy ha.h hw hs) ?_⟩
  rintro E σ H ⟨μ,M,L,hr,lr,p⟩
  refine ⟨μ,M,L,hr,lr,p.bind.imp fun μ1 H1 M1 ws e1 hr1 _ p1 vs rx=>?_⟩
  match ws,rx,p1 with
  | [],_,p1=>exact p1.elim
  | [_],_,p1=>exact p1.elim
  | [v,w],⟨v1,r,q1,q2,v2,r',q1',q2',q3⟩,p1 =>
    cases q3; subst q1' q1
    exact ⟨v1,v2,rfl,p1 μ1 H1 .refl hr1 _ (LR.set (LR.set (lr.ext hr.lsts e1) q2) q2')⟩
  | _::_::_::_,_,p1=>exact p1.elim
noncomputable def pAppend (x y:W) (M:Mm):Oc W:=match x,y with
  | .ref k,.d d=>match M[k]? with
    | some xs=>if xs.length < 16777216 then .ok (.d .non) (M.set k (xs++[d])) else .bad
    | none=>.bad
  | _,_=>.bad
theorem ref_ty {k:Nat} {v:V} (hr:HR K μ H M) (r:Rw K μ H (.ref k) v):tyV K "list" v H:=by
  obtain ⟨a,q,rfl⟩:=r
  obtain ⟨vs,h⟩:=hr.lsts a (List.mem_of_getElem? q)
  exact .inl ⟨rfl,vs,SqL.of h⟩
noncomputable def eM1 (g:W->W->Mm->Oc W) (fo fe:FE):FE:=fun L M=>(fo L M).bind fun x M1=>match x with
  | .ref k=>(fe L M1).bind fun y M2=>g (.ref k) y M2
  | _=>.bad
theorem ev_append {apos cpos:Pos} (ho:Ev X K Z o fo) (he:Ev X K Z e fa) (hbase:attributeBase o "append" X.env (eval o X.env)=eval o X.env:=by rfl)
    (hfew:((backTo cpos (starEach [e] X.env)).all (fun x=>!x.1)&&(backToKw cpos (keywordEach [] X.env)).all (fun x=>x.1.isSome)&&decide ([e].length+([]:List Keyword).length+(if ([]:List Keyword).isEmpty then 0 else 1) < 30))=true:=by rfl)
    (hline:(apos.endLine==cpos.line)=true:=by rfl) (hs:starEach [e] X.env=(false,eval e X.env)::starEach [] X.env:=by rfl) (hplain:(backTo cpos (starEach [] X.env)).any (·.1)=false:=by rfl) :
    Ev X K Z (.Call (.Attribute o "append" apos) [e] [] cpos) (eM1 pAppend fo fa):=by
  have h:=pe_bm PySem.F.plainAttrs_list PySem.F.slot_list_append PySem.F.type_list_append mt_append ho.h (pa_cons he.h pa_nil hs) hbase hfew hline hs hplain
  rw [ho.k] at h
  refine ⟨ho.k,cqE h ?_⟩
  rintro σ H Q ⟨μ,M,L,hr,lr,p⟩
  refine ⟨μ,M,L,hr,lr,p.bind.imp fun μ1 H1 M1 x e1 hr1 _ p1 v rx=>?_⟩
  cases x with
  | d x=>exact p1.elim
  | ref k =>
    refine ⟨ref_ty hr1 rx,μ1,M1,L,hr1,lr.ext hr.lsts e1,p1.bind.imp fun μ2 H2 M2 y e2 hr2 _ p2 u ry=>?_⟩
    cases y with
    | ref j=>exact p2.elim
    | d d =>
      simp only [pAppend] at p2
      cases q1:M2[k]? with
      | none=>simp only [q1] at p2; exact p2.elim
      | some xs =>
        simp only [q1] at p2
        split at p2
        · rename_i hz
          obtain ⟨a,qa,rfl⟩:=rx.ext hr1.lsts e2
          obtain ⟨a',vs,qa',h1,r1⟩:=hr2.at q1
          rw [qa] at qa'; cases qa'
          refine ⟨a,vs,u,rfl,rfl,h1,by rw [<- r1.length,sizeLine_eq]; exact hz,?_⟩
          exact p2 μ2 _ (ext_set qa) (hr2.set qa (r1.append (.cons ry .nil))) _ (by simp [Rw,Rp])
        · exact p2.elim
noncomputable def pExtend (x y:W) (M:Mm):Oc W:=match x with
  | .ref k=>match M[k]?,lv M y with
    | some xs,some ys=>if xs.length+ys.length<=16777216 then .ok (.d .non) (M.set k (xs++ys)) else .bad
    | _,_=>.bad
  | _=>.bad
noncomputable def pPop (x:W) (M:Mm):Oc W:=match x with
  | .ref k=>match M[k]? with
    | some xs=>match xs.getLast? with
      | some d=>.ok (.d d) (M.set k xs.dropLast)
      | none=>.bad
    | none=>.bad
  | _=>.bad
theorem ev_pop {apos cpos:Pos} (ho:Ev X K Z o fo) (hbase:attributeBase o "pop" X.env (eval o X.env)=eval o X.env:=by rfl) (hline:(apos.endLine==cpos.line)=true:=by rfl) :
    Ev X K Z (.Call (.Attribute o "pop" apos) [] [] cpos) (e1 pPop fo):=by
  have h:=pe_bm0 PySem.F.plainAttrs_list PySem.F.slot_list_pop PySem.F.type_list_pop mt_pop ho.h hbase hline
  rw [ho.k] at h
  refine ⟨ho.k,cqE h ?_⟩
  rintro σ H Q ⟨μ,M,L,hr,lr,p⟩
  refine ⟨μ,M,L,hr,lr,p.bind.imp fun μ1 H1 M1 x e1 hr1 _ p1 v rx=>?_⟩
  cases x with
  | d x=>exact p1.elim
  | ref k =>
    refine ⟨ref_ty hr1 rx,?_⟩
    simp only [pPop] at p1
    cases q1:M1[k]? with
    | none=>simp only [q1] at p1; exact p1.elim
    | some xs =>
      simp only [q1] at p1
      cases q2:xs.getLast? with
      | none=>simp only [q2] at p1; exact p1.elim
      | some d =>
        simp only [q2] at p1
        obtain ⟨a,qa,rfl⟩:=rx
        obtain ⟨a',vs,qa',h1,r1⟩:=hr1.at q1
        rw [qa] at qa'; cases qa'
        rw [List.getLast?_eq_getElem?] at q2
        obtain ⟨u,q3,q4⟩:=r1.get q2
        refine ⟨a,vs,u,rfl,rfl,h1,by rw [<- r1.length]; exact q3,?_⟩
        exact p1 μ1 _ (ext_set qa) (hr1.set qa r1.dropLast) u (Rp.ext hr1.lsts (ext_set qa) _ _ q4)
noncomputable abbrev FO:=Lc->Mm->Oc (Option Int)
noncomputable def liftO (K:PySem.W.Frag) (Z:Zt) (f:FO):TO:=fun σ H Q=>∃ μ M L,HR K μ H M/\LR K μ H L σ/\Pst K Z μ H (f L M) fun μ' H' _ w=>Q w H'
structure Eo (X:Cx) (K:PySem.W.Frag) (Z:Zt) (e:Option Expr) (f:FO):Prop where
  k:X.K=K
  h:PO X e (liftO K Z f)
noncomputable def oNo:FO:=fun _ M=>.ok none M
noncomputable def oAt (f:FE):FO:=fun L M=>(f L M).bind fun w M1=>match w with
  | .d (.int i)=>.ok (some i) M1
  | _=>.bad
theorem cqO {oe:Option Expr} {t t':TO} (h:PO X oe t) (i:∀ σ H Q,t' σ H Q->t σ H Q):PO X oe t':=fun pins s σ H Q I q=>h pins s σ H Q I (i _ _ _ q)
theorem eo_no (hk:X.K=K:=by rfl):Eo X K Z none oNo:=⟨hk,cqO po_none fun σ H Q ⟨μ,M,L,hr,lr,p⟩=>p μ H .refl hr⟩
theorem eo_at (h:Ev X K Z e f):Eo X K Z (some e) (oAt f):=by
  refine ⟨h.k,cqO (po_some h.h) ?_⟩
  rintro σ H Q ⟨μ,M,L,hr,lr,p⟩
  refine ⟨μ,M,L,hr,lr,p.bind.imp fun μ1 H1 M1 x e1 hr1 _ p1 v rx=>?_⟩
  cases x with
  | ref i=>exact p1.elim
  | d x=>cases x with
    | int i=>simp only [Rw,Rp] at rx; exact ⟨i,rx,p1 μ1 H1 .refl hr1⟩
    | _=>exact p1.elim
noncomputable def cut {α:Type} (xs:List α) (lo hi:Option Int):List α:=(xs.drop (HT.sIx xs.length 0 lo)).take (HT.sIx xs.length xs.length hi - HT.sIx xs.length 0 lo)
noncomputable def pSl (x:W) (lo hi:Option Int) (M:Mm):Oc W:=match x with
  | .d (.tup xs)=>okD (.tup (cut xs lo hi)) M
  | x=>match lr M x with
    | some xs=>okD (.lst (cut xs lo hi)) M
    | none=>.bad
noncomputable def eSl (f:FE) (fl fh:FO):FE:=fun L M=>(f L M).bind fun x M1=>(fl L M1).bind fun lo M2=>(fh L M2).bind fun hi M3=>pSl x lo hi M3
theorem cut_rps {ds:List D} {vs:List V} {lo hi:Option Int} (r:Rps K μ H ds vs):Rps K μ H (cut ds lo hi) (cutV vs lo hi):=by
  unfold cut cutV
  rw [r.length]
  exact (r.drop _).take _
end
end EV
namespace EV
open PySem PySem.Spec PyProof.Rows L2
theorem noFill_tuple_mul:fillsNumberSlot (.type "tuple") "mul"=pure false :=
  PySem.fillsNumberSlot_seq (id:="tuple.__mul__") (r:=some (.builtin "tuple.__rmul__")) F.slot_tuple_mul.lookup (by decide +kernel) F.slot_tuple_rmul.lookup (by decide +kernel)
theorem repeat_tuple:seqRepeat? (.type "tuple")=pure (some (.builtin "tuple.__mul__")):=by
  unfold seqRepeat?
  rw [PySem.seqSlot_of (T:="tuple") (name:="__mul__") (id:="tuple.__mul__") F.slot_tuple_mul.lookup (by decide +kernel),PySem.seqSlot_of (T:="tuple") (name:="__rmul__") (id:="tuple.__rmul__") F.slot_tuple_rmul.lookup (by decide +kernel)]
  rfl
theorem rmul_int_tuple (a:Int) (t:Tok) (l:Addr) (items:Array Value) (n:Nat) (dd:Option Addr) (sl:Array (Option Value)) :
    Meets (Builtin.«int.__rmul__» ⟨[.int a t,.ref l],[]⟩) (fun _ R s=>s.heap.get? l=some { cls:=.type "tuple",dict:=dd,data:=.seq items n,slots:=sl }/\R (.ok (.ret Value.notImplemented)) s) :=
  .of_wp fun prog w A R s h=>by obtain ⟨hp,g,d,tk,os⟩:=s; obtain ⟨hl,h⟩:=h; wp_walk using wpAny_loadPart' hl; exact ⟨_,rfl,h⟩
theorem tuple_mulS (l:Addr) (items:Array Value) (n:Nat) (dd:Option Addr) (sl:Array (Option Value)) (x:Int) (u:Tok) (h1:(decide (x < -(2 ^ 63)) || decide (x>=2 ^ 63))=false) (h2:(items.isEmpty || x==1)=true) :
    Meets (Builtin.«tuple.__mul__» ⟨[.ref l,.int x u],[]⟩) (fun _ R s=>s.heap.get? l=some { cls:=.type "tuple",dict:=dd,data:=.seq items n,slots:=sl }/\R (.ok (.ret (Value.ref l))) s) :=
  .of_wp fun prog w A R s h=>by
    obtain ⟨hp,g,d,tk,os⟩:=s; obtain ⟨hl,h⟩:=h
    have f1:=AutoSeq1.idx_int
    wp_walk using wpAny_loadPart' hl
    refine wpAny_ite_false (by rw [h1]; rfl) ?_
    wp_walk using wpAny_loadPart' hl
    exact ⟨_,rfl,h⟩
theorem tuple_mul0 (l:Addr) (items:Array Value) (n:Nat) (dd:Option Addr) (sl:Array (Option Value)) (x:Int) (u:Tok) (h1:(decide (x < -(2 ^ 63)) || decide (x>=2 ^ 63))=false) (h2:(items.isEmpty || x==1)=false) (h3:(decide (x<=0) || items.isEmpty)=true) :
    Meets (Builtin.«tuple.__mul__» ⟨[.ref l,.int x u],[]⟩) (fun _ R s=>s.heap.get? l=some { cls:=.type "tuple",dict:=dd,data:=.seq items n,slots:=sl }/\R (.ok (.ret (Value.ref s.heap.objs.size))) { s with heap:=s.heap.push { cls:=Value.type "tuple",data:=Data.seq #[] },toks:=s.toks }) :=
  .of_wp fun prog w A R s h=>by
    obtain ⟨hp,g,d,tk,os⟩:=s; obtain ⟨hl,h⟩:=h
    have f1:=AutoSeq1.idx_int
    wp_walk using wpAny_loadPart' hl
    refine wpAny_ite_false (by rw [h1]; rfl) ?_
    wp_walk using wpAny_loadPart' hl
    exact ⟨_,rfl,h⟩
theorem tuple_mul3 (l:Addr) (items:Array Value) (n:Nat) (dd:Option Addr) (sl:Array (Option Value)) (x:Int) (u:Tok) (h1:(decide (x < -(2 ^ 63)) || decide (x>=2 ^ 63))=false) (h2:(items.isEmpty || x==1)=false) (h3:(decide (x<=0) || items.isEmpty)=false)
    (h4:¬ ((items.size:Int)*x > (2 ^ 63 - 1) / 8)) (h5:¬ Builtin.Tuple.tupleTooMany (items.size*x)=true) (hsz:(List.foldl (fun x1 x2=>x1++x2) #[] (List.replicate x.toNat items)).size<=sizeLine) :
    Meets (Builtin.«tuple.__mul__» ⟨[.ref l,.int x u],[]⟩) (fun _ R s=>s.heap.get? l=some { cls:=.type "tuple",dict:=dd,data:=.seq items n,slots:=sl }/\R (.ok (.ret (Value.ref s.heap.objs.size))) { s with heap:=s.heap.push { cls:=Value.type "tuple",data:=Data.seq (List.foldl (fun x1 x2=>x1++x2) #[] (List.replicate x.toNat items)) },toks:=s.toks }) :=
  .of_wp fun prog w A R s h=>by
    obtain ⟨hp,g,d,tk,os⟩:=s; obtain ⟨hl,h⟩:=h
    have f1:=AutoSeq1.idx_int
    wp_walk using wpAny_loadPart' hl
    refine wpAny_ite_false (by rw [h1]; rfl) ?_
    wp_walk using wpAny_loadPart' hl
    refine wpAny_ite_false (decide_eq_false h4) ?_
    wp_walk using wpAny_loadPart' hl
    exact ⟨_,rfl,h⟩
section
variable {X:Cx} {K:PySem.W.Frag} {Z:Zt} {μ:List Addr} {H:Hp} {M:Mm}
noncomputable def rRepT (K:PySem.W.Frag):R2:=fun x y H Q=>∃ a k xs,x=.ref a/\y=.int k/\SqT K H a xs /\ -(2 ^ 63)<=k/\k < 2 ^ 63/\xs.length*k.toNat<=sizeLine /\
  ((xs=[]\/k=1)->Q (.ref a) H)/\∀ p,H p=none->Q (.ref p) (upd H p (.tup (List.replicate k.toNat xs).flatten))
theorem foldl_repA (its:List Value) (m:Nat):List.foldl (fun x1 x2=>x1++x2) #[] (List.replicate m its.toArray)=(List.replicate m its).flatten.toArray:=by
  have:=foldl_rep its m []
  rw [List.nil_append] at this
  exact this
theorem op_repT:OpR X (binaryOp .Mult) (rRepT X.K):=by
  intro pins s σ H x y v u Q I rx ry h
  obtain ⟨l,k,xs,rfl,rfl,hH,h1,h2,hz,qs,q⟩:=h
  cases rx
  obtain ⟨t,rfl⟩:=ry
  obtain ⟨its,r,pl,hsz⟩:=I.tuple hH
  obtain ⟨⟨cls,dd,data,sl⟩,ho,hc,n,hd⟩:=id pl
  simp only at hc hd
  subst hc hd
  have hl:=r.length
  have b1:(decide (k < -(2 ^ 63)) || decide (k>=2 ^ 63))=false:=by
    rw [Bool.or_eq_false_iff]; exact ⟨decide_eq_false (by omega),decide_eq_false (by omega)⟩
  refine wpAny_binaryOp_repeat_ref (T:="tuple") (U:="int") (by decide) ⟨_,ho,rfl⟩ (fun s'=>typeIs_int s' k t) noFill_tuple_mul F.fills_int_mul F.slot_int_rmul repeat_tuple F.slot_int_index.lookup
    (call_meets F.slot_int_rmul (typeIs_int s k t) F.entry_int_rmul (F.args_int_rmul_2 _ _) (rmul_int_tuple k t l its.toArray n dd sl) ⟨ho,rfl,⟨_,ho,rfl⟩,?_⟩)
  by_cases hs:xs=[]\/k=1
  · refine call_meets F.slot_tuple_mul ⟨_,ho,rfl⟩ F.entry_tuple_mul (F.args_tuple_mul_2 _ _) (tuple_mulS l its.toArray n dd sl k t b1 ?_) ⟨ho,⟨.ref l,H,I,rfl,qs hs⟩⟩
    rcases hs with hs | hs
    · subst hs
      have:its=[]:=by simpa using hl.symm
      simp [this]
    · simp [hs]
  · have hne:its≠[]:=fun z=>hs (.inl (by subst z; simpa using hl))
    have hn1:(its.toArray.isEmpty || k==1)=false:=by
      rw [Bool.or_eq_false_iff]; exact ⟨by simpa using hne,by simp; exact fun z=>hs (.inr z)⟩
    by_cases h0:k<=0
    · refine call_meets F.slot_tuple_mul ⟨_,ho,rfl⟩ F.entry_tuple_mul (F.args_tuple_mul_2 _ _) (tuple_mul0 l its.toArray n dd sl k t b1 hn1 (by simp [h0])) ⟨ho,?_⟩
      have e:(List.replicate k.toNat xs).flatten=[]:=by rw [show k.toNat=0 by omega]; rfl
      have q:=q s.heap.objs.size I.fresh
      rw [e] at q
      refine ⟨.ref s.heap.objs.size,_,I.laid (t':=s.toks) (o:=.tup []) (fun b ob q=>Heap.get?_push_of_some _ q) (Nat.le_refl _) ?_,rfl,q⟩
      exact ⟨Nat.zero_le _,[],.nil,IsTup.new _ _⟩
    · have hk:((k.toNat:Nat):Int)=k:=by omega
      have hz':its.length*k.toNat<=sizeLine:=by rw [<- hl]; exact hz
      have hcast:((its.toArray.size:Nat):Int)*k=((its.length*k.toNat:Nat):Int):=by
        rw [List.size_toArray,Int.natCast_mul,hk]
      have hs24:(sizeLine:Nat)=16777216:=sizeLine_eq
      refine call_meets F.slot_tuple_mul ⟨_,ho,rfl⟩ F.entry_tuple_mul (F.args_tuple_mul_2 _ _) (tuple_mul3 l its.toArray n dd sl k t b1 hn1 ?_ ?_ ?_ ?_) ⟨ho,?_⟩
      · rw [Bool.or_eq_false_iff]; exact ⟨decide_eq_false h0,by simpa using hne⟩
      · rw [hcast]; omega
      · unfold Builtin.Tuple.tupleTooMany
        rw [hcast]
        intro z
        have z:=of_decide_eq_true z
        omega
      · rw [foldl_repA,List.size_toArray,len_rep,Nat.mul_comm]; exact hz'
      · rw [foldl_repA]
        refine ⟨.ref s.heap.objs.size,_,I.laid (t':=s.toks) (o:=.tup (List.replicate k.toNat xs).flatten) (fun b ob q=>Heap.get?_push_of_some _ q) (Nat.le_refl _) ?_,rfl,q _ I.fresh⟩
        exact ⟨by rw [len_rep,Nat.mul_comm]; exact hz,_,r.rep k.toNat,IsTup.new _ _⟩
noncomputable def pMulA (x y:W) (M:Mm):Oc W:=match x,y with
  | .d (.tup xs),.d (.int k)=>if xs.length*k.toNat<=16777216/\k < 9223372036854775808 /\ -9223372036854775808<=k then okD (.tup (List.replicate k.toNat xs).flatten) M else .bad
  | x,y=>pMul x y M
theorem opMulA:OpG X K Z (binaryOp .Mult) pMulA:=fun hk=>by
  obtain ⟨r,h1,h2⟩:=(opMul (X:=X) (K:=K) (Z:=Z)) hk
  refine ⟨_,OpR.or (hk▸op_repT) h1,?_⟩
  intro μ H M x y v u Q hr rx ry p
  have gen:=fun p=>(Or.inr (h2 μ H M x y v u Q hr rx ry p):rRepT K v u H Q\/r v u H Q)
  cases x with
  | ref i=>exact gen (by cases y with | ref j=>exact p | d y=>cases y <;> exact p)
  | d x=>cases x with
    | tup xs=>cases y with
      | ref j=>exact gen p
      | d y=>cases y with
        | int k =>
          simp only [pMulA] at p
          split at p
          · rename_i hz
            have rx':=rx
            simp only [Rw,Rp] at rx ry
            obtain ⟨a,vs,rfl,q1,r1⟩:=rx
            refine .inl ⟨a,k,vs,rfl,ry,SqT.of q1,hz.2.2,hz.2.1,by rw [<- r1.length,sizeLine_eq]; exact hz.1,fun e=>?_,new_tup hr (r1.rep k.toNat) p⟩
            refine p μ H .refl hr _ ?_
            have:(List.replicate k.toNat xs).flatten=xs:=by
              rcases e with e | e
              · subst e
                have:xs=[]:=by have:=r1.length; simpa using this
                subst this; simp
              · subst e; simp [List.replicate]
            rw [this]; exact rx'
          · exact p.elim
        | _=>exact gen p
    | _=>exact gen (by cases y with | ref j=>exact p | d y=>cases y <;> exact p)
end
end EV
namespace HT
open PySem PySem.Spec PyProof.Rows
section
variable {prog:Program} {w:World} {A:Around} {E:Value->Shared->Prop} {s:Shared}
theorem getItem_tuple_whole {t sl:Addr} {items:Array Value} {vl vu:Value} {lo hi:Option Int} {Q:Value->Shared->Prop} (ht:IsTup s.heap t items) (hs:s.heap.IsSliceOf sl vl vu .none) (pl:IsPart vl lo) (pu:IsPart vu hi)
    (hw:sIx items.size 0 lo=0/\sIx items.size items.size hi=items.size) (h:Q (.ref t) s):wpAny (model prog w) A (getItem (.ref t) (.ref sl)) Q E s:=by
  obtain ⟨os,hos,hcs,hds⟩:=id hs
  have hTs:s.TypeIs (.ref sl) "slice":=⟨os,hos,hcs⟩
  unfold getItem
  try with_reducible refine wpAny_holding ?_
  first | refine wpAny_bind (wpAny_pure ?_) | skip
  refine wpAny_bind (wpAny_sequenceKey ht.typeIs (by decide) ?_)
  refine wpAny_bind (wpAny_callSpecial?_slot (name:=Str.ofString "__getitem__") ht.typeIs PyProof.Rows.slot_tuple_getitem
    (wpAny_call_entry PyProof.Rows.slot_tuple_getitem ht.typeIs entry_tuple_getitem ?_ (args_tuple_getitem _ _)))
  show wpAny _ _ (Builtin.Tuple.tupleItemsOf (.ref t) >>= _) _ _ s
  refine wpAny_bind (tupleItemsOf_ ht ?_)
  refine wpAny_bind (wpAny_typeOf hTs ?_)
  rw [if_pos (by decide)]
  refine wpAny_bind (sliceApplied_gen hs pl pu ?_)
  have hyes:((((sIx items.size 0 lo:Nat):Int)==0&&(1:Int)==1&&(sIx items.size items.size hi - sIx items.size 0 lo)==items.size)=true):=by
    rw [hw.1,hw.2]; simp
  show wpAny _ _ (if (((sIx items.size 0 lo:Nat):Int)==0&&(1:Int)==1&&(sIx items.size items.size hi - sIx items.size 0 lo)==items.size)=true then _ else _) _ _ s
  rw [if_pos hyes]
  refine wpAny_bind (m:=Builtin.Tuple.tupleIsExact _) ?_
  unfold Builtin.Tuple.tupleIsExact
  refine wpAny_bind (wpAny_typeOf ht.typeIs (wpAny_pure ?_))
  show wpAny _ _ (if ((Value.type "tuple"==Value.type "tuple")=true) then _ else _) _ _ s
  rw [if_pos (by decide)]
  first
    | exact wpAny_bind (wpAny_rule (wpAny_pure ⟨_,rfl,wpAny_pure h⟩))
    | exact wpAny_bind (wpAny_rule (wpAny_bind (wpAny_pure ⟨_,rfl,wpAny_pure h⟩)))
    | exact wpAny_bind (wpAny_rule (wpAny_bind (wpAny_pure (wpAny_pure ⟨_,rfl,wpAny_pure h⟩))))
end
end HT
namespace EV
open PySem PySem.Spec PyProof.Rows L2
theorem kit_NoneType_int (K:PySem.W.Frag):PySem.W.kitOne K (.type "NoneType") (.type "int")=some false:=by with_unfolding_all rfl
theorem kit_NoneType_bool (K:PySem.W.Frag):PySem.W.kitOne K (.type "NoneType") (.type "bool")=some false:=by with_unfolding_all rfl
theorem kit_NoneType_tuple (K:PySem.W.Frag):PySem.W.kitOne K (.type "NoneType") (.type "tuple")=some false:=by with_unfolding_all rfl
theorem kit_bool_int (K:PySem.W.Frag):PySem.W.kitOne K (.type "bool") (.type "int")=some true:=by with_unfolding_all rfl
theorem kit_bool_bool (K:PySem.W.Frag):PySem.W.kitOne K (.type "bool") (.type "bool")=some true:=by with_unfolding_all rfl
theorem kit_bool_tuple (K:PySem.W.Frag):PySem.W.kitOne K (.type "bool") (.type "tuple")=some false:=by with_unfolding_all rfl
theorem kit_int_int (K:PySem.W.Frag):PySem.W.kitOne K (.type "int") (.type "int")=some true:=by with_unfolding_all rfl
theorem kit_int_bool (K:PySem.W.Frag):PySem.W.kitOne K (.type "int") (.type "bool")=some false:=by with_unfolding_all rfl
theorem kit_int_tuple (K:PySem.W.Frag):PySem.W.kitOne K (.type "int") (.type "tuple")=some false:=by with_unfolding_all rfl
theorem kit_str_int (K:PySem.W.Frag):PySem.W.kitOne K (.type "str") (.type "int")=some false:=by with_unfolding_all rfl
theorem kit_str_bool (K:PySem.W.Frag):PySem.W.kitOne K (.type "str") (.type "bool")=some false:=by with_unfolding_all rfl
theorem kit_str_tuple (K:PySem.W.Frag):PySem.W.kitOne K (.type "str") (.type "tuple")=some false:=by with_unfolding_all rfl
theorem kit_list_int (K:PySem.W.Frag):PySem.W.kitOne K (.type "list") (.type "int")=some false:=by with_unfolding_all rfl
theorem kit_list_bool (K:PySem.W.Frag):PySem.W.kitOne K (.type "list") (.type "bool")=some false:=by with_unfolding_all rfl
theorem kit_list_tuple (K:PySem.W.Frag):PySem.W.kitOne K (.type "list") (.type "tuple")=some false:=by with_unfolding_all rfl
theorem kit_tuple_int (K:PySem.W.Frag):PySem.W.kitOne K (.type "tuple") (.type "int")=some false:=by with_unfolding_all rfl
theorem kit_tuple_bool (K:PySem.W.Frag):PySem.W.kitOne K (.type "tuple") (.type "bool")=some false:=by with_unfolding_all rfl
theorem kit_tuple_tuple (K:PySem.W.Frag):PySem.W.kitOne K (.type "tuple") (.type "tuple")=some true:=by with_unfolding_all rfl
section
variable {X:Cx} {K:PySem.W.Frag} {Z:Zt} {μ:List Addr} {H:Hp} {M:Mm} {e a b o:Expr} {es:List Expr} {pos:Pos} {f fa fb fo:FE} {fs:FA} {st:Stmt} {rest:List Stmt} {F G:FS}
noncomputable def rSlA (K:PySem.W.Frag):V->Option Int->Option Int->Hp->VK->Prop:=fun x lo hi H Q=>∃ a xs,x=.ref a/\SqT K H a xs /\
  ((HT.sIx xs.length 0 lo=0/\HT.sIx xs.length xs.length hi=xs.length)->Q (.ref a) H)/\∀ p,H p=none->Q (.ref p) (upd H p (.tup (cutV xs lo hi)))
theorem sl_tupA:SlR X (rSlA X.K):=by
  intro pins s σ H x v vl vu lo hi sl Q I rx hs pl pu h
  obtain ⟨a,xs,rfl,hx,q1,q2⟩:=h
  by_cases hw:HT.sIx xs.length 0 lo=0/\HT.sIx xs.length xs.length hi=xs.length
  · cases rx
    obtain ⟨its,r,ht,hz⟩:=I.tuple hx
    have hlen:its.toArray.size=xs.length:=by rw [List.size_toArray]; exact r.length.symm
    refine ⟨"tuple",_,PyProof.Rows.slot_tuple_getitem.lookup,ht.typeIs,?_⟩
    exact HT.getItem_tuple_whole ht hs pl pu (by rw [hlen]; exact hw) ⟨.ref a,H,I,rfl,q1 hw⟩
  · exact sl_tup pins s σ H _ v vl vu lo hi sl Q I rx hs pl pu ⟨a,xs,rfl,hx,hw,q2⟩
theorem cut_whole {xs:List D} {lo hi:Option Int} (h:HT.sIx xs.length 0 lo=0/\HT.sIx xs.length xs.length hi=xs.length):cut xs lo hi=xs:=by
  unfold cut; rw [h.1,h.2]; simp
theorem pSl_list {x:W} {v:V} {lo hi:Option Int} {Q:VK} (hr:HR K μ H M) (rx:Rw K μ H x v) (p:Pst K Z μ H (match lr M x with
    | some xs=>okD (.lst (cut xs lo hi)) M
    | none=>.bad) (Wk K Q)):rSlL K v lo hi H Q:=by
  cases q1:lr M x with
  | none=>rw [q1] at p; exact p.elim
  | some xs =>
    rw [q1] at p
    obtain ⟨a,vs,rfl,h1,r1⟩:=lr_at hr rx q1
    exact ⟨a,vs,rfl,h1,new_lst hr (cut_rps r1) p⟩
theorem ev_slice {lo hi:Option Expr} {fl fh:FO} {p2:Pos} (he:Ev X K Z e f) (hl:Eo X K Z lo fl) (hh:Eo X K Z hi fh):Ev X K Z (.Subscript e (.Slice lo hi none p2) pos) (eSl f fl fh):=by
  have h:=pe_slice (p2:=p2) (pos:=pos) (SlR.or (sl_tupA (X:=X)) sl_list) he.h hl.h hh.h
  rw [he.k] at h
  refine ⟨he.k,cqE h ?_⟩
  rintro σ H Q ⟨μ,M,L,hr,lr,p⟩
  refine ⟨μ,M,L,hr,lr,p.bind.imp fun μ1 H1 M1 x e1 hr1 _ p1 v rx=>?_⟩
  refine ⟨μ1,M1,L,hr1,lr.ext hr.lsts e1,p1.bind.imp fun μ2 H2 M2 l e2 hr2 _ p2=>?_⟩
  refine ⟨μ2,M2,L,hr2,lr.ext hr.lsts (e1.trans e2),p2.bind.imp fun μ3 H3 M3 u e3 hr3 _ p3=>?_⟩
  have rx:=rx.ext hr1.lsts (e2.trans e3)
  cases x with
  | ref i=>exact .inr (pSl_list hr3 rx p3)
  | d x=>cases x with
    | tup xs =>
      have rx':=rx
      simp only [Rw,Rp] at rx
      obtain ⟨a,vs,rfl,q1,r1⟩:=rx
      refine .inl ⟨a,vs,rfl,SqT.of q1,fun hw=>?_,new_tup hr3 (cut_rps r1) p3⟩
      refine p3 μ3 H3 .refl hr3 _ ?_
      rw [cut_whole (by rw [r1.length]; exact hw)]
      exact rx'
    | _=>exact .inr (pSl_list hr3 rx p3)
noncomputable def isT (T:String) (M:Mm):W->Option Bool
  | .d .non=>some false
  | .d (.bl _)=>some (T=="bool" || T=="int")
  | .d (.int _)=>some (T=="int")
  | .d (.str _)=>some (T=="str")
  | .d (.tup _)=>some (T=="tuple")
  | .d (.lst _)=>some (T=="list")
  | .d (.fz _)=>none
  | .d (.exn _ _ _)=>none
  | .ref _=>some (T=="list")
noncomputable def pIsI (T:String) (x:W) (M:Mm):Oc W:=match isT T M x with
  | some b=>.ok (.d (.bl b)) M
  | none=>.bad
structure KitT (T:String):Prop where
  non:∀ K,PySem.W.kitOne K (.type "NoneType") (.type T)=some false
  bl:∀ K,PySem.W.kitOne K (.type "bool") (.type T)=some (T=="bool" || T=="int")
  int:∀ K,PySem.W.kitOne K (.type "int") (.type T)=some (T=="int")
  str:∀ K,PySem.W.kitOne K (.type "str") (.type T)=some (T=="str")
  tup:∀ K,PySem.W.kitOne K (.type "tuple") (.type T)=some (T=="tuple")
  lst:∀ K,PySem.W.kitOne K (.type "list") (.type T)=some (T=="list")
theorem kT_int:KitT "int":=⟨kit_NoneType_int,kit_bool_int,kit_int_int,kit_str_int,kit_tuple_int,kit_list_int⟩
theorem kT_bool:KitT "bool":=⟨kit_NoneType_bool,kit_bool_bool,kit_int_bool,kit_str_bool,kit_tuple_bool,kit_list_bool⟩
theorem kT_tuple:KitT "tuple":=⟨kit_NoneType_tuple,kit_bool_tuple,kit_int_tuple,kit_str_tuple,kit_tuple_tuple,kit_list_tuple⟩
theorem isT_ok {T:String} (k:KitT T) {x:W} {v:V} {c:Bool} (hr:HR K μ H M) (rx:Rw K μ H x v) (h:isT T M x=some c):∃ t,TyOf K H v t/\PySem.W.kitOne K t (.type T)=some c:=by
  cases x with
  | ref i =>
    simp only [isT,Option.some.injEq] at h; subst h
    obtain ⟨a,q,rfl⟩:=rx
    obtain ⟨vs,h⟩:=hr.lsts a (List.mem_of_getElem? q)
    exact ⟨_,.lst h,k.lst K⟩
  | d x=>cases x with
    | non=>simp only [isT,Option.some.injEq] at h; subst h; simp only [Rw,Rp] at rx; subst rx; exact ⟨_,.non,k.non K⟩
    | bl y=>simp only [isT,Option.some.injEq] at h; subst h; simp only [Rw,Rp] at rx; subst rx; exact ⟨_,.bl y,k.bl K⟩
    | int y=>simp only [isT,Option.some.injEq] at h; subst h; simp only [Rw,Rp] at rx; subst rx; exact ⟨_,.int y,k.int K⟩
    | str y=>simp only [isT,Option.some.injEq] at h; subst h; simp only [Rw,Rp] at rx; subst rx; exact ⟨_,.str y,k.str K⟩
    | tup y=>simp only [isT,Option.some.injEq] at h; subst h; simp only [Rw,Rp] at rx; obtain ⟨a,vs,rfl,q1,_⟩:=rx; exact ⟨_,.tup q1,k.tup K⟩
    | lst y=>simp only [isT,Option.some.injEq] at h; subst h; simp only [Rw,Rp] at rx; obtain ⟨a,vs,rfl,q1,_⟩:=rx; exact ⟨_,.lst q1,k.lst K⟩
    | fz y=>simp [isT] at h
    | exn c f y=>simp [isT] at h
theorem ev_isi {T:String} {x:Str} {p q:Pos} (kt:KitT T) (hm:X.mg "isinstance"=none) (hmT:X.mg x=none) (hvT:bootBuiltins x=some (.type T)) (he:Ev X K Z e f) (hg:Gl X "isinstance":=by rfl) (hgT:Gl X x:=by rfl) (hn:x≠"__name__":=by decide) (hd:(x==("__debug__":Str))=false:=by decide)
    (hs:starEach [e,.Name x q] X.env=(false,eval e X.env)::starEach [.Name x q] X.env:=by rfl) (hs2:starEach [.Name x q] X.env=(false,eval (.Name x q) X.env)::starEach [] X.env:=by rfl) (hpl:(backTo pos (starEach [.Name x q] X.env)).any (·.1)=false:=by rfl) :
    Ev X K Z (.Call (.Name "isinstance" p) [e,.Name x q] [] pos) (e1 (pIsI T) f):=by
  have h:=pe_callB (pos:=pos) (p:=p) call_isinst hg hm bt_isinstance (pa_cons he.h (pa_cons (pe_bltn (v:=.ty T) hgT hmT hvT rfl hn hd) pa_nil hs2) hs) (by decide) (by decide) hs hpl
  rw [he.k] at h
  refine ⟨he.k,cqE h ?_⟩
  rintro σ H Q ⟨μ,M,L,hr,lr,p⟩
  refine ⟨μ,M,L,hr,lr,p.bind.imp fun μ1 H1 M1 x e1 hr1 _ p1 v rx=>?_⟩
  unfold pIsI at p1
  cases q:isT T M1 x with
  | none=>rw [q] at p1; exact p1.elim
  | some c =>
    rw [q] at p1
    obtain ⟨t,h1,h2⟩:=isT_ok kt hr1 rx q
    exact ⟨v,T,t,c,rfl,h1,h2,p1 μ1 H1 .refl hr1 _ (by simp [Rw,Rp])⟩
end
end EV
namespace EV
open PySem PySem.Spec PyProof.Rows L2
noncomputable def whileD (t:FT) (B:FS):Nat->FS
  | 0=>fun _ _=>.bad
  | n+1=>fun L M=>(t L M).bind fun b M1=>if b=true then (B L M1).bind fun o M2=>match o with
      | .nx L2=>whileD t B n L2 M2
      | .ct L2=>whileD t B n L2 M2
      | .bk L2=>.ok (.nx L2) M2
      | .rt w=>.ok (.rt w) M2
    else .ok (.nx L) M1
structure Src where
  ds:List D
  k:Option Nat
noncomputable abbrev FI:=Lc->Mm->Oc Src
noncomputable def Chk (s:Src) (M:Mm):Prop:=∀ t,s.k=some t->M[t]?=some s.ds
open Classical in
noncomputable def forD (s:Src) (g:FG) (B:FS):List D->FS
  | []=>fun L M=>if Chk s M then .ok (.nx L) M else .bad
  | d::r=>fun L M=>if Chk s M then (g (.d d) L M).bind fun L1 M1=>(B L1 M1).bind fun o M2=>match o with
      | .nx L2=>forD s g B r L2 M2
      | .ct L2=>forD s g B r L2 M2
      | .bk L2=>.ok (.nx L2) M2
      | .rt w=>.ok (.rt w) M2
    else .bad
noncomputable def sFor (fi:FI) (g:FG) (B:FS):FS:=fun L M=>(fi L M).bind fun s M1=>forD s g B s.ds L M1
noncomputable def ItOk (K:PySem.W.Frag) (μ:List Addr) (H:Hp) (s:Src) (J:It):Prop :=
  ∃ S:List Addr->Hp->Prop,S μ H/\(∀ μ1 H1 μ2 H2,Lsts μ1 H1->S μ1 H1->Ext μ1 H1 μ2 H2->S μ2 H2) /\
    ∀ μ1 H1 M1 i,HR K μ1 H1 M1->S μ1 H1->Chk s M1 ->
      (∀ d,s.ds[i]?=some d->J.go i H1/\∀ x H2,J.yld i H1 x H2->Ext μ1 H1 μ1 H2/\HR K μ1 H2 M1/\Rp K μ1 H2 d x)/\(s.ds.length<=i->J.stop i H1)
noncomputable def liftI (K:PySem.W.Frag) (Z:Zt) (fi:FI):TI:=fun σ H R=>∃ μ M L,HR K μ H M/\LR K μ H L σ/\Pst K Z μ H (fi L M) fun μ' H' _ s=>∀ J,ItOk K μ' H' s J->R J H'
structure Ei (X:Cx) (K:PySem.W.Frag) (Z:Zt) (tg iter:Expr) (fi:FI):Prop where
  k:X.K=K
  h:PI X tg iter (liftI K Z fi)
theorem cqI {X:Cx} {tg iter:Expr} {t t':TI} (h:PI X tg iter t) (i:∀ σ H Q,t' σ H Q->t σ H Q):PI X tg iter t':=fun pins s σ H Q I q=>h pins s σ H Q I (i _ _ _ q)
section
variable {X:Cx} {K:PySem.W.Frag} {Z:Zt} {μ:List Addr} {H:Hp} {M:Mm} {e a b o:Expr} {es:List Expr} {pos:Pos} {f fa fb fo:FE} {fs:FA} {st:Stmt} {rest:List Stmt} {F G:FS}
theorem es_while {c:Expr} {body:List Stmt} {t:FT} {B:FS} (n:Nat) (hp:PassesOwn (model X.prog X.w) X.A X.env X.xe) (hc:Et X K Z c t) (hb:Ess X K Z body B):Es X K Z (.While c body [] pos) (whileD t B n):=by
  refine ⟨hc.k,cqS (ps_while hp hc.h hb.h) ?_⟩
  rintro E σ H ⟨μ,M,L,hr,lr,p⟩
  refine ⟨fun m σ H=>∃ μ M L,HR K μ H M/\LR K μ H L σ/\Pst K Z μ H (whileD t B m L M) (Sk K E),⟨n,μ,M,L,hr,lr,p⟩,?_⟩
  rintro m σ H ⟨μ,M,L,hr,lr,p⟩
  cases m with
  | zero=>exact p.elim
  | succ m =>
    refine ⟨μ,M,L,hr,lr,(show Pst K Z μ H ((t L M).bind _) _ from p).bind.imp fun μ1 H1 M1 b e1 hr1 _ p1=>?_⟩
    cases b with
    | false=>exact p1 μ1 H1 .refl hr1 σ (lr.ext hr.lsts e1)
    | true =>
      refine ⟨fun σ' H'=>∃ μ M L,HR K μ H' M/\LR K μ H' L σ'/\Pst K Z μ H' (whileD t B m L M) (Sk K E),fun σ' H' q=>⟨m,Nat.lt_succ_self m,q⟩,?_⟩
      refine ⟨μ1,M1,L,hr1,lr.ext hr.lsts e1,(show Pst K Z μ1 H1 ((B L M1).bind _) _ from p1).bind.imp fun μ2 H2 M2 o e2 hr2 _ p2=>?_⟩
      cases o with
      | nx L2=>exact fun σ' lr'=>⟨μ2,M2,L2,hr2,lr',p2⟩
      | ct L2=>exact fun σ' lr'=>⟨μ2,M2,L2,hr2,lr',p2⟩
      | bk L2=>exact p2 μ2 H2 .refl hr2
      | rt w=>exact p2 μ2 H2 .refl hr2
theorem es_for {tg iter:Expr} {body:List Stmt} {fi:FI} {g:FG} {B:FS} (hp:PassesOwn (model X.prog X.w) X.A X.env X.xe) (hc:X.calm=true) (hi:Ei X K Z tg iter fi) (hg:Eg X K Z tg g) (hb:Ess X K Z body B)
    (hs:∀ x,foldedSetIterable iter X.env x=pure x:=by intro _; rfl):Es X K Z (.For tg iter body [] pos) (sFor fi g B):=by
  refine ⟨hi.k,cqS (ps_for hp hc hi.h hg.h hb.h hs) ?_⟩
  rintro E σ H ⟨μ,M,L,hr,lr,p⟩
  refine ⟨μ,M,L,hr,lr,p.bind.imp fun μ1 H1 M1 s e1 hr1 _ p1 J hJ=>?_⟩
  obtain ⟨S,s0,sx,step⟩:=hJ
  refine ⟨fun i m σ H=>m=s.ds.length - i/\i<=s.ds.length/\∃ μ M L,HR K μ H M/\LR K μ H L σ/\S μ H/\Pst K Z μ H (forD s g B (s.ds.drop i) L M) (Sk K E),⟨s.ds.length,by simp,Nat.zero_le _,μ1,M1,L,hr1,lr.ext hr.lsts e1,s0,by simpa using p1⟩,?_⟩
  rintro i m σ H ⟨rfl,hi,μ,M,L,hr,lr,sS,p⟩
  by_cases hlt:i < s.ds.length
  · rw [List.drop_eq_getElem_cons hlt] at p
    unfold forD at p
    split at p
    · rename_i hch
      obtain ⟨go,yl⟩:=(step μ H M i hr sS hch).1 s.ds[i] (by simp [hlt])
      refine .inr ⟨go,fun σ' H'=>i+1<=s.ds.length/\∃ μ M L,HR K μ H' M/\LR K μ H' L σ'/\S μ H'/\Pst K Z μ H' (forD s g B (s.ds.drop (i+1)) L M) (Sk K E),fun σ' H' q=>⟨s.ds.length - (i+1),by omega,rfl,q.1,q.2⟩,fun x H2 y=>?_⟩
      obtain ⟨e2,hr2,rx⟩:=yl x H2 y
      have lr2:=lr.ext hr.lsts e2
      have s2:=sx _ _ _ _ hr.lsts sS e2
      refine ⟨μ,M,L,.d s.ds[i],hr2,lr2,rx,(Pst.mono e2 p).bind.imp fun μ3 H3 M3 L3 e3 hr3 _ p3 σ3 lr3=>?_⟩
      refine ⟨μ3,M3,L3,hr3,lr3,p3.bind.imp fun μ4 H4 M4 o e4 hr4 _ p4=>?_⟩
      have s4:=sx _ _ _ _ hr3.lsts (sx _ _ _ _ hr2.lsts s2 e3) e4
      cases o with
      | nx L4=>exact fun σ' lr'=>⟨hlt,μ4,M4,L4,hr4,lr',s4,p4⟩
      | ct L4=>exact fun σ' lr'=>⟨hlt,μ4,M4,L4,hr4,lr',s4,p4⟩
      | bk L4=>exact p4 μ4 H4 .refl hr4
      | rt w=>exact p4 μ4 H4 .refl hr4
    · exact p.elim
  · have e:i=s.ds.length:=by omega
    subst e
    rw [List.drop_eq_nil_of_le (Nat.le_refl _)] at p
    unfold forD at p
    split at p
    · rename_i hch
      exact .inl ⟨(step μ H M _ hr sS hch).2 (Nat.le_refl _),p μ H .refl hr σ lr⟩
    · exact p.elim
theorem chk_none {ds:List D} {M:Mm}:Chk ⟨ds,none⟩ M:=fun t h=>by cases h
@[simp] theorem chk_none_iff {ds:List D} {M:Mm}:Chk ⟨ds,none⟩ M ↔ True:=⟨fun _=>trivial,fun _=>chk_none⟩
@[simp] theorem chk_some_iff {ds:List D} {M:Mm} {t:Nat}:Chk ⟨ds,some t⟩ M ↔ M[t]?=some ds:=⟨fun h=>h t rfl,fun h t' e=>by cases e; exact h⟩
variable {tg:Expr}
noncomputable def iSq (K:PySem.W.Frag) (tl:TE):TI:=fun σ H R=>tl σ H fun x H1=>∃ a,x=.ref a/\(((∃ xs,SqL K H1 a xs)/\R (Itl K a) H1)\/((∃ xs,SqT K H1 a xs)/\R (Itt K a) H1))
theorem pi_sq {l:Expr} {tl:TE} (hl:PE X l tl):PI X tg l (iSq X.K tl):=by
  intro pins s σ H R I h
  refine thn (hl pins s σ H _ I h) fun v s1 ⟨x,H1,I1,r1,q1⟩=>?_
  obtain ⟨a,e,⟨⟨xs,hq⟩,q⟩ | ⟨⟨xs,hq⟩,q⟩⟩:=q1
  · subst e
    cases r1
    obtain ⟨its,rv,p,hz⟩:=I1.list hq
    refine wpAny_pyIter_list p.isList ?_
    refine ⟨s1.heap.objs.size,[s1.heap.objs.size],_,_,H1,rfl,I1.kept (t':=s1.toks) fun b o e=>Heap.get?_push_of_some _ e,turn_list a _,⟨_,Heap.get?_push_size _ rfl,rfl,rfl⟩,fun b hb=>?_,q⟩
    have e:b=s1.heap.objs.size:=by simpa using hb
    subst e
    exact I1.fpOk (Nat.le_refl _) (I1.hok.fresh (Nat.le_refl _))
  · subst e
    cases r1
    obtain ⟨its,rv,p,hz⟩:=I1.tuple hq
    refine wpAny_pyIter_tuple (show s1.heap.IsTuple a its.toArray from p) ?_
    refine ⟨s1.heap.objs.size,[s1.heap.objs.size],_,_,H1,rfl,I1.kept (t':=s1.toks) fun b o e=>Heap.get?_push_of_some _ e,turn_tuple a _,⟨_,Heap.get?_push_size _ rfl,rfl,rfl⟩,fun b hb=>?_,q⟩
    have e:b=s1.heap.objs.size:=by simpa using hb
    subst e
    exact I1.fpOk (Nat.le_refl _) (I1.hok.fresh (Nat.le_refl _))
noncomputable def srcOf (M:Mm):W->Option Src
  | .d (.tup xs)=>some ⟨xs,none⟩
  | .d (.lst xs)=>some ⟨xs,none⟩
  | .d (.fz xs)=>some ⟨xs,none⟩
  | .ref t=>(M[t]?).map fun xs=>⟨xs,some t⟩
  | _=>none
noncomputable def iE (f:FE):FI:=fun L M=>(f L M).bind fun w M1=>match srcOf M1 w with
  | some s=>.ok s M1
  | none=>.bad
theorem itl_ok {a:Addr} {s:Src} (S:List Addr->Hp->Prop) (s0:S μ H) (sx:∀ μ1 H1 μ2 H2,Lsts μ1 H1->S μ1 H1->Ext μ1 H1 μ2 H2->S μ2 H2)
    (rd:∀ μ1 H1 M1,HR K μ1 H1 M1->S μ1 H1->Chk s M1->∃ vs,SqL K H1 a vs/\Rps K μ1 H1 s.ds vs):ItOk K μ H s (Itl K a):=by
  refine ⟨S,s0,sx,fun μ1 H1 M1 i hr hS hc=>?_⟩
  obtain ⟨vs,h1,r1⟩:=rd μ1 H1 M1 hr hS hc
  refine ⟨fun d hd=>?_,fun hl=>⟨vs,h1,by rw [<- r1.length]; exact hl⟩⟩
  obtain ⟨v,q1,q2⟩:=r1.get hd
  refine ⟨⟨vs,v,h1,q1⟩,fun x H2 y=>?_⟩
  obtain ⟨rfl,y⟩:=y
  have:=y vs h1
  rw [q1] at this
  cases this
  exact ⟨.refl,hr,q2⟩
theorem itt_ok {a:Addr} {s:Src} (S:List Addr->Hp->Prop) (s0:S μ H) (sx:∀ μ1 H1 μ2 H2,Lsts μ1 H1->S μ1 H1->Ext μ1 H1 μ2 H2->S μ2 H2)
    (rd:∀ μ1 H1 M1,HR K μ1 H1 M1->S μ1 H1->Chk s M1->∃ vs,SqT K H1 a vs/\Rps K μ1 H1 s.ds vs):ItOk K μ H s (Itt K a):=by
  refine ⟨S,s0,sx,fun μ1 H1 M1 i hr hS hc=>?_⟩
  obtain ⟨vs,h1,r1⟩:=rd μ1 H1 M1 hr hS hc
  refine ⟨fun d hd=>?_,fun hl=>⟨vs,h1,by rw [<- r1.length]; exact hl⟩⟩
  obtain ⟨v,q1,q2⟩:=r1.get hd
  refine ⟨⟨vs,v,h1,q1⟩,fun x H2 y=>?_⟩
  obtain ⟨rfl,y⟩:=y
  have:=y vs h1
  rw [q1] at this
  cases this
  exact ⟨.refl,hr,q2⟩
theorem data_stays {d:D} {v:V}:∀ μ1 H1 μ2 H2,Lsts μ1 H1->Rp K μ1 H1 d v->Ext μ1 H1 μ2 H2->Rp K μ2 H2 d v:=fun μ1 H1 μ2 H2 l h e=>Rp.ext l e d v h
theorem ei_e (h:Ev X K Z e f):Ei X K Z tg e (iE f):=by
  have h':=pi_sq (tg:=tg) h.h
  rw [h.k] at h'
  refine ⟨h.k,cqI h' ?_⟩
  rintro σ H R ⟨μ,M,L,hr,lr,p⟩
  refine ⟨μ,M,L,hr,lr,p.bind.imp fun μ1 H1 M1 w e1 hr1 _ p1 v rw'=>?_⟩
  cases w with
  | ref t =>
    simp only [srcOf] at p1
    cases q:M1[t]? with
    | none=>simp only [q,Option.map_none] at p1; exact p1.elim
    | some xs =>
      simp only [q,Option.map_some] at p1
      obtain ⟨a,qa,rfl⟩:=rw'
      obtain ⟨a',vs,qa',h1,r1⟩:=hr1.at q
      rw [qa] at qa'; cases qa'
      refine ⟨a,rfl,.inl ⟨⟨vs,SqL.of h1⟩,p1 μ1 H1 .refl hr1 _ ?_⟩⟩
      refine itl_ok (fun μ2 H2=>μ2[t]?=some a) qa (fun μ1 H1 μ2 H2 _ z e=>e.pre _ _ z) fun μ2 H2 M2 hr2 z c=>?_
      obtain ⟨a',vs,qa',h1,r1⟩:=hr2.at (c t rfl)
      rw [z] at qa'; cases qa'
      exact ⟨vs,SqL.of h1,r1⟩
  | d x =>
    cases x with
    | tup xs =>
      have rw2:=rw'
      simp only [Rw,Rp] at rw'
      obtain ⟨a,vs,rfl,h1,r1⟩:=rw'
      refine ⟨a,rfl,.inr ⟨⟨vs,SqT.of h1⟩,p1 μ1 H1 .refl hr1 _ ?_⟩⟩
      refine itt_ok (fun μ2 H2=>Rp K μ2 H2 (.tup xs) (.ref a)) rw2 data_stays fun μ2 H2 M2 hr2 z c=>?_
      simp only [Rp] at z
      obtain ⟨a',vs,e,h1,r1⟩:=z
      cases e
      exact ⟨vs,SqT.of h1,r1⟩
    | lst xs =>
      have rw2:=rw'
      simp only [Rw,Rp] at rw'
      obtain ⟨a,vs,rfl,h1,_,r1⟩:=rw'
      refine ⟨a,rfl,.inl ⟨⟨vs,SqL.of h1⟩,p1 μ1 H1 .refl hr1 _ ?_⟩⟩
      refine itl_ok (fun μ2 H2=>Rp K μ2 H2 (.lst xs) (.ref a)) rw2 data_stays fun μ2 H2 M2 hr2 z c=>?_
      simp only [Rp] at z
      obtain ⟨a',vs,e,h1,_,r1⟩:=z
      cases e
      exact ⟨vs,SqL.of h1,r1⟩
    | fz xs =>
      have rw2:=rw'
      simp only [Rw,Rp] at rw'
      obtain ⟨a,vs,rfl,h1,r1⟩:=rw'
      refine ⟨a,rfl,.inl ⟨⟨vs,h1.sq⟩,p1 μ1 H1 .refl hr1 _ ?_⟩⟩
      refine itl_ok (fun μ2 H2=>Rp K μ2 H2 (.fz xs) (.ref a)) rw2 data_stays fun μ2 H2 M2 hr2 z c=>?_
      simp only [Rp] at z
      obtain ⟨a',vs,e,h1,r1⟩:=z
      cases e
      exact ⟨vs,h1.sq,r1⟩
    | _=>exact p1.elim
noncomputable def rngD (lo:Int) (n:Nat):List D:=(List.range n).map fun k=>D.int (lo+(k:Nat))
theorem rngD_get {lo:Int} {n i:Nat} {d:D} (h:(rngD lo n)[i]?=some d):i < n/\d=.int (lo+i):=by
  unfold rngD at h
  rw [List.getElem?_map] at h
  by_cases hi:i < n
  · rw [List.getElem?_range hi] at h; simp at h; exact ⟨hi,h.symm⟩
  · rw [List.getElem?_eq_none (by simpa using hi)] at h; cases h
theorem itr_ok {lo:Int} {n:Nat}:ItOk K μ H ⟨rngD lo n,none⟩ (Itr lo n):=by
  refine ⟨fun _ _=>True,trivial,fun _ _ _ _ _ _ _=>trivial,fun μ1 H1 M1 i hr _ _=>⟨fun d hd=>?_,fun hl=>by simp only [rngD,List.length_map,List.length_range] at hl; exact hl⟩⟩
  obtain ⟨hi,rfl⟩:=rngD_get hd
  refine ⟨hi,fun x H2 y=>?_⟩
  obtain ⟨rfl,rfl⟩:=y
  exact ⟨.refl,hr,by simp [Rp]⟩
noncomputable def in62 (i:Int):Bool:=decide (-4611686018427387904<=i/\i < 4611686018427387904)
noncomputable def iR1 (f:FE):FI:=fun L M=>(f L M).bind fun w M1=>match w with
  | .d (.int j)=>if in62 j=true then .ok ⟨rngD 0 j.toNat,none⟩ M1 else .bad
  | _=>.bad
noncomputable def iR2 (f g:FE):FI:=fun L M=>(f L M).bind fun w M1=>(g L M1).bind fun u M2=>match w,u with
  | .d (.int i),.d (.int j)=>if in62 i=true/\in62 j=true then .ok ⟨rngD i (j - i).toNat,none⟩ M2 else .bad
  | _,_=>.bad
theorem ei_range1 {p:Pos} (hm:X.mg "range"=none) (ha:Ev X K Z a f) (hg:Gl X "range":=by rfl) (hs:starEach [a] X.env=[(false,eval a X.env)]:=by rfl):Ei X K Z tg (.Call (.Name "range" p) [a] [] pos) (iR1 f):=by
  refine ⟨ha.k,cqI (pi_range1 hg hm (pa_cons ha.h pa_nil hs) hs) ?_⟩
  rintro σ H R ⟨μ,M,L,hr,lr,p⟩
  refine ⟨μ,M,L,hr,lr,p.bind.imp fun μ1 H1 M1 w e1 hr1 _ p1 v rw'=>?_⟩
  cases w with
  | ref i=>exact p1.elim
  | d x=>cases x with
    | int j =>
      simp only at p1
      split at p1
      · rename_i hz
        simp only [in62,decide_eq_true_eq] at hz
        simp only [Rw,Rp] at rw'
        subst rw'
        exact ⟨j,rfl,hz.1,hz.2,p1 μ1 H1 .refl hr1 _ itr_ok⟩
      · exact p1.elim
    | _=>exact p1.elim
theorem ei_range2 {p:Pos} (hm:X.mg "range"=none) (ha:Ev X K Z a fa) (hb:Ev X K Z b fb) (hg:Gl X "range":=by rfl) (hs:starEach [a,b] X.env=[(false,eval a X.env),(false,eval b X.env)]:=by rfl) (hs2:starEach [b] X.env=[(false,eval b X.env)]:=by rfl) :
    Ei X K Z tg (.Call (.Name "range" p) [a,b] [] pos) (iR2 fa fb):=by
  refine ⟨ha.k,cqI (pi_range2 hg hm (pa_cons ha.h (pa_cons hb.h pa_nil hs2) (by rw [hs,hs2])) hs hs2) ?_⟩
  rintro σ H R ⟨μ,M,L,hr,lr,p⟩
  refine ⟨μ,M,L,hr,lr,p.bind.imp fun μ1 H1 M1 w e1 hr1 _ p1 v rw'=>?_⟩
  refine ⟨μ1,M1,L,hr1,lr.ext hr.lsts e1,p1.bind.imp fun μ2 H2 M2 u e2 hr2 _ p2 v2 ru=>?_⟩
  have rw':=rw'.ext hr1.lsts e2
  cases w with
  | ref i=>exact p2.elim
  | d x=>cases x with
    | int i=>cases u with
      | ref j=>exact p2.elim
      | d y=>cases y with
        | int j =>
          simp only at p2
          split at p2
          · rename_i hz
            simp only [in62,decide_eq_true_eq] at hz
            simp only [Rw,Rp] at rw' ru
            subst rw' ru
            exact ⟨i,j,rfl,⟨hz.1.1,hz.1.2,hz.2.1,hz.2.2⟩,p2 μ2 H2 .refl hr2 _ itr_ok⟩
          · exact p2.elim
        | _=>exact p2.elim
    | _=>exact p2.elim
end
end EV
namespace EV
open PySem PySem.Spec PyProof.Rows L2
section
variable {K:PySem.W.Frag} {μ μ1 μ2:List Addr} {H H1 H2:Hp} {M M2:Mm}
theorem Ext.back (e:Ext μ H μ2 H2):Ext μ H μ H2:=⟨e.keep,fun a h=>.inl h,fun _ _ h=>h⟩
theorem Ext.take (e:Ext μ H μ2 H2):μ2.take μ.length=μ:=by
  apply List.ext_getElem?
  intro i
  rw [List.getElem?_take]
  split
  · rename_i hi
    have:=e.pre i μ[i] (by simp [hi])
    rw [this]; simp [hi]
  · rename_i hi
    rw [List.getElem?_eq_none (by omega)]
mutual
theorem Rp.sub (hs:∀ a,a∈μ1->a∈μ):∀ (d:D) (v:V),Rp K μ H d v->Rp K μ1 H d v
  | .non,v,h=>by simpa [Rp] using h
  | .bl b,v,h=>by simpa [Rp] using h
  | .int b,v,h=>by simpa [Rp] using h
  | .str b,v,h=>by simpa [Rp] using h
  | .tup ds,v,h=>by simp only [Rp] at h ⊢; obtain ⟨a,vs,e1,e2,e3⟩:=h; exact ⟨a,vs,e1,e2,Rps.sub hs ds vs e3⟩
  | .lst ds,v,h=>by simp only [Rp] at h ⊢; obtain ⟨a,vs,e1,e2,n,e3⟩:=h; exact ⟨a,vs,e1,e2,fun z=>n (hs a z),Rps.sub hs ds vs e3⟩
  | .fz ds,v,h=>by simp only [Rp] at h ⊢; obtain ⟨a,vs,e1,e2,e3⟩:=h; exact ⟨a,vs,e1,e2,Rps.sub hs ds vs e3⟩
  | .exn c f ds,v,h=>by simp only [Rp] at h ⊢; obtain ⟨a,vs,C,LE,d,e1,e2,e3,e4,e5⟩:=h; exact ⟨a,vs,C,LE,d,e1,e2,e3,e4,Rps.sub hs ds vs e5⟩
theorem Rps.sub (hs:∀ a,a∈μ1->a∈μ):∀ (ds:List D) (vs:List V),Rps K μ H ds vs->Rps K μ1 H ds vs
  | [],vs,h=>by simpa [Rps] using h
  | d::ds,vs,h=>by simp only [Rps] at h ⊢; obtain ⟨v,r,e1,e2,e3⟩:=h; exact ⟨v,r,e1,Rp.sub hs d v e2,Rps.sub hs ds r e3⟩
end
theorem HR.back (h:HR K μ2 H2 M2) (e:Ext μ H μ2 H2):HR K μ H2 (M2.take μ.length):=by
  have ht:=e.take
  have hsub:∀ a,a∈μ->a∈μ2:=fun a ha=>by rw [<- ht] at ha; exact List.mem_of_mem_take ha
  have hlen:μ.length<=μ2.length:=by have:=congrArg List.length ht; simp at this; omega
  refine ⟨by rw [List.length_take,<- h.len]; omega,by rw [<- ht]; exact h.nd.sublist (List.take_sublist _ _),fun i a ds q1 q2=>?_⟩
  rw [List.getElem?_take] at q2
  split at q2
  · obtain ⟨vs,q3,q4⟩:=h.ent i a ds (e.pre i a q1) q2
    exact ⟨vs,q3,Rps.sub hsub _ _ q4⟩
  · cases q2
end
noncomputable def outL (js:List (Option Nat)) (L:Lc):Lc:=js.map fun o=>o.bind fun j=>(L[j]?).join
open Classical in
noncomputable def compD (t:Nat) (s:Src) (g:FG) (c:FT) (f:FE):List D->Lc->Mm->Oc Unit
  | []=>fun _ M=>if Chk s M then .ok () M else .bad
  | d::r=>fun L M=>if Chk s M then (g (.d d) L M).bind fun L1 M1=>(c L1 M1).bind fun b M2=>if b=true then (f L1 M2).bind fun w M3=>match w,M3[t]? with
      | .d x,some acc=>if acc.length < 16777216 then compD t s g c f r L1 (M3.set t (acc++[x])) else .bad
      | _,_=>.bad
      else compD t s g c f r L1 M2
    else .bad
noncomputable def compT (js:List (Option Nat)) (fi:FI) (g:FG) (c:FT) (f:FE) (L:Lc) (M:Mm):Oc (List D):=(fi L M).bind fun s M1=>match compD M1.length s g c f s.ds (outL js L) (M1++[[]]) with
  | .ok _ M2=>match M2[M1.length]? with
    | some acc=>.ok acc (M2.take M1.length)
    | none=>.bad
  | _=>.bad
noncomputable def eComp (js:List (Option Nat)) (fi:FI) (g:FG) (c:FT) (f:FE):FE:=fun L M=>(compT js fi g c f L M).bind fun acc M1=>.ok (.d (.lst acc)) M1
noncomputable def tYes:FT:=fun _ M=>.ok true M
structure Eif (X:Cx) (K:PySem.W.Frag) (Z:Zt) (ifs:List Expr) (t:FT):Prop where
  k:X.K=K
  h:PIf X ifs (liftT K Z t)
section
variable {X:Cx} {K:PySem.W.Frag} {Z:Zt} {μ:List Addr} {H:Hp} {M:Mm} {e a b o:Expr} {es:List Expr} {pos:Pos} {f fa fb fo:FE} {fs:FA} {st:Stmt} {rest:List Stmt} {F G:FS}
theorem eif_nil (hk:X.K=K:=by rfl):Eif X K Z [] tYes:=⟨hk,fun pins s σ H Q I ⟨μ,M,L,hr,lr,p⟩=>pif_nil pins s σ H Q I (p μ H .refl hr)⟩
theorem eif_one {c:Expr} {t:FT} (h:Et X K Z c t):Eif X K Z [c] t:=⟨h.k,pif_one h.h⟩
theorem LR.out {L:Lc} {σ:St} {js:List (Option Nat)} (h:LR K μ H L σ):LR K μ H (outL js L) (outσ js σ) where
  len:=by simp [outL,outσ]
  ent:=fun i w q=>by
    unfold outL at q
    unfold outσ
    rw [List.getElem?_map] at q ⊢
    cases e:js[i]? with
    | none=>rw [e] at q; cases q
    | some oj =>
      rw [e] at q
      cases oj with
      | none=>simp at q
      | some j =>
        simp only [Option.map_some,Option.bind_some,Option.some.injEq] at q ⊢
        cases e2:L[j]? with
        | none=>rw [e2] at q; cases q
        | some ow =>
          rw [e2] at q
          simp at q
          subst q
          obtain ⟨v,q1,q2⟩:=h.ent j w e2
          exact ⟨v,by rw [q1]; rfl,q2⟩
theorem turns_ok {Zi:Zt} {s:Src} {g:FG} {c:FT} {f:FE} {J:It} {Dt:Addr} {Q:Hp->Prop} {σ:St} {L:Lc} (n:Nat) (μ0:List Addr) (H0:Hp) (e0:Ext μ0 H0 μ H) (hn:μ0.length=n) (hD:μ[n]?=some Dt)
    (hr:HR K μ H M) (lr:LR K μ H L σ) (hJ:ItOk K μ H s J)
    (p:match compD n s g c f s.ds L M with
      | .ok _ M2=>∀ μ2 H2,Ext μ H μ2 H2->HR K μ2 H2 M2->Q H2
      | .ex z M2=>Zi.z z M2 μ H
      | .bad=>False):tTurns J (liftG K Zi g) (liftT K Zi c) (lift K Zi f) Dt σ H Q:=by
  obtain ⟨S,s0,sx,step⟩:=hJ
  -- what holds at turn i
  let R:List Addr->Hp->Lc->Mm->List D->Prop:=fun μ1 H1 L M rest=>match compD n s g c f rest L M with
      | .ok _ M2=>∀ μ2 H2,Ext μ1 H1 μ2 H2->HR K μ2 H2 M2->Q H2
      | .ex z M2=>Zi.z z M2 μ1 H1
      | .bad=>False
  refine ⟨fun i m σ H1=>m=s.ds.length - i/\i<=s.ds.length/\∃ μ1 M L,Ext μ0 H0 μ1 H1/\μ1[n]?=some Dt/\HR K μ1 H1 M/\LR K μ1 H1 L σ/\S μ1 H1/\R μ1 H1 L M (s.ds.drop i),⟨s.ds.length,by simp,Nat.zero_le _,μ,M,L,e0,hD,hr,lr,s0,by simpa [R] using p⟩,?_⟩
  rintro i m σ H1 ⟨rfl,hi,μ1,M,L,e1,hD1,hr,lr,sS,p⟩
  by_cases hlt:i < s.ds.length
  · simp only [R] at p
    rw [List.drop_eq_getElem_cons hlt] at p
    unfold compD at p
    by_cases hch:Chk s M
    · rw [if_pos hch] at p
      obtain ⟨go,yl⟩:=(step μ1 H1 M i hr sS hch).1 s.ds[i] (by simp [hlt])
      refine .inr ⟨go,fun σ' H'=>i+1<=s.ds.length/\∃ μ1 M L,Ext μ0 H0 μ1 H'/\μ1[n]?=some Dt/\HR K μ1 H' M/\LR K μ1 H' L σ'/\S μ1 H'/\R μ1 H' L M (s.ds.drop (i+1)),fun σ' H' q=>⟨s.ds.length - (i+1),by omega,rfl,q.1,q.2⟩,fun x H2 y=>?_⟩
      obtain ⟨e2,hr2,rx⟩:=yl x H2 y
      have lr2:=lr.ext hr.lsts e2
      have s2:=sx _ _ _ _ hr.lsts sS e2
      refine ⟨μ1,M,L,.d s.ds[i],hr2,lr2,rx,?_⟩
      cases q3:g (.d s.ds[i]) L M with
      | bad=>rw [q3] at p; exact p.elim
      | ex z M2=>rw [q3] at p; exact Zi.mono e2 p
      | ok L3 M3 =>
        rw [q3] at p
        intro μ3 H3 e3 hr3 σ3 lr3
        refine ⟨μ3,M3,L3,hr3,lr3,?_⟩
        simp only [bind_ok] at p
        have s3:=sx _ _ _ _ hr2.lsts s2 e3
        cases q4:c L3 M3 with
        | bad=>rw [q4] at p; exact p.elim
        | ex z M2=>rw [q4] at p; exact Zi.mono (e2.trans e3) p
        | ok b M4 =>
          rw [q4] at p
          intro μ4 H4 e4 hr4
          simp only [bind_ok] at p
          have s4:=sx _ _ _ _ hr3.lsts s3 e4
          have lr4:=lr3.ext hr3.lsts e4
          have E4:=((e1.trans e2).trans e3).trans e4
          have D4:=e4.pre _ _ (e3.pre _ _ (e2.pre _ _ hD1))
          cases b with
          | false =>
            refine ⟨hlt,μ4,M4,L3,E4,D4,hr4,lr4,s4,?_⟩
            simp only [R]
            simp only [Bool.false_eq_true,if_false] at p
            cases q5:compD n s g c f (s.ds.drop (i+1)) L3 M4 with
            | ok u M5=>rw [q5] at p; exact fun μ5 H5 e5 hr5=>p μ5 H5 (((e2.trans e3).trans e4).trans e5) hr5
            | ex z M5=>rw [q5] at p; exact Zi.mono ((e2.trans e3).trans e4) p
            | bad=>rw [q5] at p; exact p
          | true =>
            simp only [if_true] at p
            refine ⟨μ4,M4,L3,hr4,lr4,?_⟩
            cases q5:f L3 M4 with
            | bad=>rw [q5] at p; exact p.elim
            | ex z M2=>rw [q5] at p; exact Zi.mono ((e2.trans e3).trans e4) p
            | ok w M5 =>
              rw [q5] at p
              intro μ5 H5 e5 hr5 v rw'
              simp only [bind_ok] at p
              cases w with
              | ref k=>exact p.elim
              | d x =>
                cases q6:M5[n]? with
                | none=>rw [q6] at p; exact p.elim
                | some acc =>
                  rw [q6] at p
                  simp only at p
                  by_cases hz:acc.length < 16777216
                  · rw [if_pos hz] at p
                    have D5:=e5.pre _ _ D4
                    obtain ⟨a',vs,qa',h1,r1⟩:=hr5.at q6
                    rw [D5] at qa'; cases qa'
                    refine ⟨vs,h1,by rw [<- r1.length,sizeLine_eq]; exact hz,hlt,μ5,M5.set n (acc++[x]),L3,(E4.trans e5).trans (ext_set D5),D5,hr5.set D5 (r1.append (.cons rw' .nil)),?_,?_,?_⟩
                    · exact (lr4.ext hr4.lsts e5).ext hr5.lsts (ext_set D5)
                    · exact sx _ _ _ _ hr5.lsts (sx _ _ _ _ hr4.lsts s4 e5) (ext_set D5)
                    · simp only [R]
                      cases q7:compD n s g c f (s.ds.drop (i+1)) L3 (M5.set n (acc++[x])) with
                      | ok u M6=>rw [q7] at p; exact fun μ6 H6 e6 hr6=>p μ6 H6 (((((e2.trans e3).trans e4).trans e5).trans (ext_set D5)).trans e6) hr6
                      | ex z M6=>rw [q7] at p; exact Zi.mono ((((e2.trans e3).trans e4).trans e5).trans (ext_set D5)) p
                      | bad=>rw [q7] at p; exact p
                  · rw [if_neg hz] at p; exact p.elim
    · rw [if_neg hch] at p; exact p.elim
  · have e:i=s.ds.length:=by omega
    subst e
    simp only [R] at p
    rw [List.drop_eq_nil_of_le (Nat.le_refl _)] at p
    unfold compD at p
    by_cases hch:Chk s M
    · rw [if_pos hch] at p
      exact .inl ⟨(step μ1 H1 M _ hr sS hch).2 (Nat.le_refl _),p μ1 H1 .refl hr⟩
    · rw [if_neg hch] at p; exact p.elim
theorem comp_ok1 {js:List (Option Nat)} {fi:FI} {g:FG} {c:FT} {f:FE} {σ:St} {Q:VK} (h:∃ μ M L,HR K μ H M/\LR K μ H L σ/\Pst K Z μ H (compT js fi g c f L M) fun μ' H' M' acc=>∀ q vs,H' q=some (.lst vs)->q∉μ'->Rps K μ' H' acc vs->Q (.ref q) H') :
    tComp js (liftI K Z fi) (liftG K Z0 g) (liftT K Z0 c) (lift K Z0 f) σ H Q:=by
  obtain ⟨μ,M,L,hr,lr,p⟩:=h
  refine ⟨μ,M,L,hr,lr,p.bind.imp fun μ1 H1 M1 s e1 hr1 _ p1 J hJ Dt hDt=>?_⟩
  have x:=ext_new (vs:=[]) hr1 hDt
  have hlen:=hr1.len
  obtain ⟨S,s0,sx,step⟩:=hJ
  refine turns_ok (M:=M1++[[]]) M1.length μ1 H1 x hr1.len (by rw [<- hlen]; simp) (hr1.new hDt .nil) (LR.out ((lr.ext hr.lsts e1).ext hr1.lsts x)) ⟨S,sx _ _ _ _ hr1.lsts s0 x,sx,step⟩ ?_
  cases q:compD M1.length s g c f s.ds (outL js L) (M1++[[]]) with
  | bad=>simp only [q] at p1; exact p1.elim
  | ex z M2=>simp only [q] at p1; exact p1.elim
  | ok u M2 =>
    simp only [q] at p1
    intro μ2 H2 e2 hr2
    cases q2:M2[M1.length]? with
    | none=>simp only [q2] at p1; exact p1.elim
    | some acc =>
      simp only [q2] at p1
      have E:=x.trans e2
      have hb:=hr2.back E
      rw [hlen] at hb
      have hD2:μ2[M1.length]?=some Dt:=e2.pre _ _ (by rw [<- hlen]; simp)
      obtain ⟨a',vs,qa',h1,r1⟩:=hr2.at q2
      rw [hD2] at qa'; cases qa'
      exact p1 μ1 H2 E.back hb Dt vs h1 (hr1.out hDt) (Rps.sub (fun a ha=>by rw [<- E.take] at ha; exact List.mem_of_mem_take ha) _ _ r1)
theorem comp_val {js:List (Option Nat)} {fi:FI} {g:FG} {c:FT} {f:FE}:∀ σ H Q,lift K Z (eComp js fi g c f) σ H Q->tComp js (liftI K Z fi) (liftG K Z0 g) (liftT K Z0 c) (lift K Z0 f) σ H Q:=by
  rintro σ H Q ⟨μ,M,L,hr,lr,p⟩
  refine comp_ok1 ⟨μ,M,L,hr,lr,p.bind.imp fun μ1 H1 M1 acc e1 hr1 _ p1 q vs h1 h2 h3=>?_⟩
  exact p1 μ1 H1 .refl hr1 _ (by simp only [Rw,Rp]; exact ⟨q,vs,rfl,h1,h2,h3⟩)
theorem ev_comp {tg iter elt:Expr} {ifs:List Expr} {scope:Scope} {Nc:List Str} {js:List (Option Nat)} {fi:FI} {g:FG} {c:FT} {f:FE} (hc:X.calm=true) (T:CompOk X.N X.env.scope scope Nc js) (hit:Ei X K Z tg iter fi)
    (hg:∀ cl C fp pins s₂ H₂,Eg (compCx X Nc scope cl C fp pins s₂ H₂) K Z0 tg g) (hi:∀ cl C fp pins s₂ H₂,Eif (compCx X Nc scope cl C fp pins s₂ H₂) K Z0 ifs c) (he:∀ cl C fp pins s₂ H₂,Ev (compCx X Nc scope cl C fp pins s₂ H₂) K Z0 elt f)
    (hs:∀ x,foldedSetIterable iter X.env x=pure x:=by intro _; rfl):Ev X K Z (.ListComp elt [⟨tg,iter,ifs,0⟩] scope pos) (eComp js fi g c f) :=
  ⟨hit.k,cqE (pe_comp hc T hit.h (fun _ _ _ _ _ _=>(hg _ _ _ _ _ _).h) (fun _ _ _ _ _ _=>(hi _ _ _ _ _ _).h) (fun _ _ _ _ _ _=>(he _ _ _ _ _ _).h) hs) comp_val⟩
theorem es_comp {tg iter elt:Expr} {ifs:List Expr} {scope:Scope} {Nc:List Str} {js:List (Option Nat)} {fi:FI} {g:FG} {c:FT} {f:FE} {i:Nat} {y:Str} {py spos:Pos} (hN:X.N.Nodup) (hc:X.calm=true) (T:CompOk X.N X.env.scope scope Nc js) (hit:Ei X K Z tg iter fi)
    (hg:∀ cl C fp pins s₂ H₂,Eg (compCx X Nc scope cl C fp pins s₂ H₂) K Z0 tg g) (hi:∀ cl C fp pins s₂ H₂,Eif (compCx X Nc scope cl C fp pins s₂ H₂) K Z0 ifs c) (he:∀ cl C fp pins s₂ H₂,Ev (compCx X Nc scope cl C fp pins s₂ H₂) K Z0 elt f)
    (hyi:X.N[i]?=some y:=by rfl) (hy:X.env.scope.names.lookup y=some .local:=by rfl)
    (hsw:swapsWith (.ListComp elt [⟨tg,iter,ifs,0⟩] scope pos) (some (.Name y py)) spos.line X.env=pure true:=by rfl)
    (hs:∀ x,foldedSetIterable iter X.env x=pure x:=by intro _; rfl):Es X K Z (.Assign [.Name y py] (.ListComp elt [⟨tg,iter,ifs,0⟩] scope pos) spos) (sAs (eComp js fi g c f) (gN i)):=by
  refine ⟨hit.k,cqS (ps_comp hN hyi hy hc T hit.h (fun _ _ _ _ _ _=>(hg _ _ _ _ _ _).h) (fun _ _ _ _ _ _=>(hi _ _ _ _ _ _).h) (fun _ _ _ _ _ _=>(he _ _ _ _ _ _).h) hsw hs) ?_⟩
  rintro E σ H ⟨μ,M,L,hr,lr,p⟩
  refine comp_val _ _ _ ⟨μ,M,L,hr,lr,p.bind.imp fun μ1 H1 M1 x e1 hr1 _ p1 v rx=>?_⟩
  exact p1 μ1 H1 .refl hr1 _ (LR.set (lr.ext hr.lsts e1) rx)
noncomputable def retc (n:Nat) (w:W) (M:Mm):Oc W:=match w with
  | .d x=>.ok (.d x) (M.take n)
  | .ref i=>if i < n then .ok (.ref i) (M.take n) else match M[i]? with
    | some ds=>.ok (.d (.lst ds)) (M.take n)
    | none=>.bad
noncomputable def fnD (m n:Nat) (F:FS):Fn:=fun ws M=>if ws.length=m then (F (ws.map some++List.replicate (n - ws.length) none) M).bind fun o M'=>match o with
    | .rt w=>retc M.length w M'
    | .nx _=>.ok (.d .non) (M'.take M.length)
    | _=>.bad
  else .bad
noncomputable def fnR (m n:Nat) (F:FS):Fn:=fun ws M=>if ws.length=m then (F (ws.map some++List.replicate (n - ws.length) none) M).bind fun o M'=>match o with
    | .rt (.ref i)=>if M.length<=i then (match M'[i]? with
      | some ds=>.ok (.ref M.length) (M'.take M.length++[ds])
      | none=>.bad) else .bad
    | _=>.bad
  else .bad
noncomputable def spF (K:PySem.W.Frag) (Z:Zt) (m:Nat) (Fm:Fn):Sp:=fun vs H Q E=>vs.length=m/\∃ μ M ws,HR K μ H M/\Rws K μ H ws vs/\Pst K Z μ H (Fm ws M) (Wk K Q)
theorem lr_start {N:List Str} {ws:List W} {vs:List V} (r:Rws K μ H ws vs):LR K μ H (ws.map some++List.replicate (N.length - ws.length) none) (L2.start N vs):=by
  have hl:=r.length
  refine ⟨by simp [L2.start,hl],fun i w q=>?_⟩
  by_cases hi:i < ws.length
  · rw [List.getElem?_append_left (by simpa using hi),List.getElem?_map] at q
    cases e:ws[i]? with
    | none=>rw [e] at q; cases q
    | some w' =>
      rw [e] at q; cases q
      obtain ⟨v,q1,q2⟩:=r.get e
      refine ⟨v,?_,q2⟩
      unfold L2.start
      rw [List.getElem?_append_left (by simp; omega),List.getElem?_map,q1]; rfl
  · rw [List.getElem?_append_right (by simpa using hi),List.getElem?_replicate] at q
    split at q <;> cases q
theorem fn_ok {P:Program} {w:World} {mg:Str->Option Value} {base:Heap} {x qual:Str} {st:Stmt} {fa:Addr} {fd:FuncData} {N ps:List Str} {k:Nat} {F:FS} (hf:Fun K x qual st fa fd) (S:FnScope N ps (defScope st))
    (hb:∀ (cdv:Value) (A:Around) (outer:List Env) (s:Shared) (H:Hp) (E:XK),Room k (A.deeper (envOfC qual (defScope st) s.heap.objs.size fa cdv))->Ess (cxOf CX0 P w K mg base N qual (defScope st) fa cdv A outer s H E).nox K Z0 (defBody st) F) :
    FnOk P w K mg base CX0 (k+1) fa fd ps (spF K Z0 ps.length (fnD ps.length N.length F)):=by
  refine hf.ok S (fun vs H Q E h=>h.1) fun cdv A outer s H vs Q E hr hsp=>⟨_,(hb cdv A outer s H E hr).h,?_⟩
  obtain ⟨hv,μ,M,ws,hr,rx,p⟩:=hsp
  refine ⟨μ,M,_,hr,lr_start rx,?_⟩
  unfold fnD at p
  rw [if_pos (by rw [rx.length]; exact hv)] at p
  cases q:F (ws.map some++List.replicate (N.length - ws.length) none) M with
  | bad=>rw [q] at p; exact p
  | ex z M'=>rw [q] at p; exact p
  | ok o M' =>
    rw [q] at p
    simp only [bind_ok] at p
    intro μ1 H1 e1 hr1
    have hb:=hr1.back e1
    rw [hr.len] at hb
    cases o with
    | nx L'=>exact fun σ' lr'=>p μ H1 e1.back hb _ (by simp [Rw,Rp])
    | bk L'=>exact p.elim
    | ct L'=>exact p.elim
    | rt w =>
      intro v rv
      have hsub:∀ a,a∈μ->a∈μ1:=fun a ha=>by rw [<- e1.take] at ha; exact List.mem_of_mem_take ha
      cases w with
      | d x=>exact p μ H1 e1.back hb v (Rp.sub hsub x v rv)
      | ref i =>
        simp only [retc] at p
        split at p
        · rename_i hi
          obtain ⟨a,qa,rfl⟩:=rv
          refine p μ H1 e1.back hb _ ⟨a,?_,rfl⟩
          rw [<- hr.len] at hi
          have:=e1.pre i μ[i] (by simp [hi])
          rw [qa] at this; cases this
          simp [hi]
        · rename_i hi
          cases q2:M'[i]? with
          | none=>simp only [q2] at p; exact p.elim
          | some ds =>
            simp only [q2] at p
            obtain ⟨a,qa,rfl⟩:=rv
            obtain ⟨a',vs',qa',h1,r1⟩:=hr1.at q2
            rw [qa] at qa'; cases qa'
            refine p μ H1 e1.back hb _ ?_
            simp only [Rw,Rp]
            refine ⟨a,vs',rfl,h1,fun ha=>?_,Rps.sub hsub _ _ r1⟩
            obtain ⟨j,hj,ej⟩:=List.mem_iff_getElem.mp ha
            have h2:=e1.pre j a (by rw [<- ej]; simp [hj])
            have l1:=(List.getElem?_eq_some_iff.mp qa).1
            have l2:=(List.getElem?_eq_some_iff.mp h2).1
            have g1:=(List.getElem?_eq_some_iff.mp qa).2
            have g2:=(List.getElem?_eq_some_iff.mp h2).2
            have pw:=List.pairwise_iff_getElem.mp hr1.nd
            rw [hr.len] at hj
            exact pw j i l2 l1 (by omega) (g2.trans g1.symm)
theorem fn_okR {P:Program} {w:World} {mg:Str->Option Value} {base:Heap} {x qual:Str} {st:Stmt} {fa:Addr} {fd:FuncData} {N ps:List Str} {k:Nat} {F:FS} (hf:Fun K x qual st fa fd) (S:FnScope N ps (defScope st))
    (hb:∀ (cdv:Value) (A:Around) (outer:List Env) (s:Shared) (H:Hp) (E:XK),Room k (A.deeper (envOfC qual (defScope st) s.heap.objs.size fa cdv))->Ess (cxOf CX0 P w K mg base N qual (defScope st) fa cdv A outer s H E).nox K Z0 (defBody st) F) :
    FnOk P w K mg base CX0 (k+1) fa fd ps (spF K Z0 ps.length (fnR ps.length N.length F)):=by
  refine hf.ok S (fun vs H Q E h=>h.1) fun cdv A outer s H vs Q E hr hsp=>⟨_,(hb cdv A outer s H E hr).h,?_⟩
  obtain ⟨hv,μ,M,ws,hr,rx,p⟩:=hsp
  refine ⟨μ,M,_,hr,lr_start rx,?_⟩
  unfold fnR at p
  rw [if_pos (by rw [rx.length]; exact hv)] at p
  cases q:F (ws.map some++List.replicate (N.length - ws.length) none) M with
  | bad=>rw [q] at p; exact p
  | ex z M'=>rw [q] at p; exact p
  | ok o M' =>
    rw [q] at p
    simp only [bind_ok] at p
    intro μ1 H1 e1 hr1
    have hb:=hr1.back e1
    rw [hr.len] at hb
    cases o with
    | nx L'=>exact p.elim
    | bk L'=>exact p.elim
    | ct L'=>exact p.elim
    | rt w =>
      intro v rv
      have hsub:∀ a,a∈μ->a∈μ1:=fun a ha=>by rw [<- e1.take] at ha; exact List.mem_of_mem_take ha
      cases w with
      | d x=>exact p.elim
      | ref i =>
        simp only at p
        split at p
        · rename_i hi
          cases q2:M'[i]? with
          | none=>simp only [q2] at p; exact p.elim
          | some ds =>
            simp only [q2] at p
            obtain ⟨a,qa,rfl⟩:=rv
            obtain ⟨a',vs',qa',h1,r1⟩:=hr1.at q2
            rw [qa] at qa'; cases qa'
            have hna:a∉μ:=fun ha=>by
              obtain ⟨j,hj,ej⟩:=List.mem_iff_getElem.mp ha
              have h2:=e1.pre j a (by rw [<- ej]; simp [hj])
              have l1:=(List.getElem?_eq_some_iff.mp qa).1
              have l2:=(List.getElem?_eq_some_iff.mp h2).1
              have g1:=(List.getElem?_eq_some_iff.mp qa).2
              have g2:=(List.getElem?_eq_some_iff.mp h2).2
              have pw:=List.pairwise_iff_getElem.mp hr1.nd
              rw [hr.len] at hj
              exact pw j i l2 l1 (by omega) (g2.trans g1.symm)
            have hsub2:∀ b,b∈μ++[a]->b∈μ1:=fun b hb=>by
              rcases List.mem_append.mp hb with hb | hb
              · exact hsub b hb
              · rw [List.mem_singleton] at hb; subst hb; exact List.mem_of_getElem? qa
            refine p (μ++[a]) H1 ⟨e1.keep,fun b hb=>e1.new b (hsub2 b hb),fun j b hj=>by rw [List.getElem?_append_left (List.getElem?_eq_some_iff.mp hj).1]; exact hj⟩ ?_ _ ⟨a,by rw [<- hr.len]; simp,rfl⟩
            refine ⟨by simp [hb.len],List.nodup_append.mpr ⟨hb.nd,by simp,fun b hb' c hc=>by rw [List.mem_singleton] at hc; subst hc; rintro rfl; exact hna hb'⟩,fun j b es q1 q3=>?_⟩
            by_cases hj:j < μ.length
            · rw [List.getElem?_append_left hj] at q1
              rw [List.getElem?_append_left (by rw [<- hb.len]; exact hj),List.getElem?_take] at q3
              split at q3
              · obtain ⟨us,q4,q5⟩:=hr1.ent j b es (e1.pre j b q1) q3
                exact ⟨us,q4,Rps.sub hsub2 _ _ q5⟩
              · cases q3
            · have hj':j=μ.length:=by have:=(List.getElem?_eq_some_iff.mp q1).1; simp at this; omega
              subst hj'
              rw [List.getElem?_append_right (Nat.le_refl _)] at q1
              rw [hb.len,List.getElem?_append_right (Nat.le_refl _)] at q3
              simp at q1 q3
              subst q1 q3
              exact ⟨vs',h1,Rps.sub hsub2 _ _ r1⟩
        · exact p.elim
theorem ev_call {k:Nat} {fd:FuncData} {fa:Addr} {ps:List Str} {m:Nat} {Fm:Fn} {x:Str} {p:Pos} (Gf:FnOk X.prog X.w X.K X.mg X.base CX0 k fa fd ps (spF K Z0 m Fm)) (hr:Room k X.A) (hm:X.mg x=some (.ref fa)) (hk:PySem.W.keepIn X.K (.ref fa)=true) (hb:Binds X.K fd ps [])
    (ha:Ea X K Z0 (e::es) fs) (hl:ps.length=m:=by rfl) (hg:Gl X x:=by rfl) (hdb:(x==("__debug__":Str))=false:=by decide) (he:starEach (e::es) X.env=(false,eval e X.env)::starEach es X.env:=by rfl) (hpl:(backTo pos (starEach es X.env)).any (·.1)=false:=by rfl)
    (hlen:∀ ws M,ws.length≠m->Fm ws M=.bad:=by intro ws M h; first | exact if_neg h | rfl):Ev X K Z0 (.Call (.Name x p) (e::es) [] pos) (eA Fm fs):=by
  refine ⟨ha.k,cqE (pe_call Gf hr hg hm hk hb .nil pass0 ha.h hdb he hpl) ?_⟩
  rintro σ H Q ⟨μ,M,L,hr,lr,p⟩
  refine ⟨μ,M,L,hr,lr,p.bind.imp fun μ1 H1 M1 ws e1 hr1 _ p1 vs rx=>?_⟩
  show spF K Z0 m Fm (vs++[]) H1 Q E0
  rw [List.append_nil]
  refine ⟨?_,μ1,M1,ws,hr1,rx,p1⟩
  by_cases hw:ws.length=m
  · rw [<- rx.length]; exact hw
  · rw [hlen ws M1 hw] at p1; exact p1.elim
theorem law_sp {K:PySem.W.Frag} {Fm:Fn} {H:Hp} {a:Addr} {ns:List Int} (hO:Only H) (hS:SqL K H a (ns.map V.int)) (h:∃ M',Fm [.d (.fz (ns.map D.int))] []=.ok (.d (.bl true)) M'):spF K Z0 1 Fm [.ref a] H (fun v _=>v=.bl true) fun _ _ _=>False:=by
  obtain ⟨M',h⟩:=h
  refine ⟨rfl,[],[],[.d (.fz (ns.map D.int))],⟨rfl,List.nodup_nil,fun i a ds q=>by simp at q⟩,⟨.ref a,[],rfl,?_,rfl⟩,?_⟩
  · simp only [Rw,Rp]
    refine ⟨a,ns.map V.int,rfl,?_,Rps.ints⟩
    rcases hS with (z | z) | z
    · rcases hO a with q | ⟨o,xs,q⟩ <;> rw [z] at q <;> cases q
    · exact .inl z
    · exact .inr z
  · rw [h]
    intro μ' H' _ _ v rv
    simpa only [Rw,Rp] using rv
end
end EV
namespace EV
open PySem PySem.Spec PyProof.Rows L2
@[irreducible] noncomputable def NW:Nat:=18446744073709551616
theorem NW_eq:NW=18446744073709551616:=by unfold NW; rfl
theorem hu_room {k:Nat} {A:Around} (hr:Room k A):A.units+101 < cLine:=by have:=hr.un; omega
theorem fn_bad {P:Program} {w:World} {K:PySem.W.Frag} {mg:Str->Option Value} {base:Heap} {CX:CXT} {k m:Nat} {Z:Zt} {f:Addr} {fd:FuncData} {ps:List Str} (hl:ps.length=m):FnOk P w K mg base CX k f fd ps (spF K Z m (fun _ _=>.bad)) :=
  ⟨fun vs H Q E h=>by rw [h.1,hl],fun A outer s H args us vs Q E _ _ _ _ h=>by obtain ⟨_,μ,M,ws,_,_,p⟩:=h; exact p.elim⟩
section
variable {X:Cx} {K:PySem.W.Frag} {Z:Zt} {μ:List Addr} {H:Hp} {M:Mm} {e a b o tg:Expr} {es:List Expr} {pos:Pos} {f fa fb fo:FE} {fs:FA} {st:Stmt} {rest:List Stmt} {F G:FS}
end
end EV
namespace ZP
open PySem PySem.Spec PyProof.Rows
section
variable {prog:Program} {w:World} {A:Around} {E:Value->Shared->Prop} {s:Shared}
theorem nextOf_tuple_item {it l:Addr} {i:Nat} {items:Array Value} {x:Value} {Q:Value->Shared->Prop} (hit:s.heap.IsTupleIter it l i)
    (hl:s.heap.IsTuple l items) (hx:items[i]?=some x)
    (hQ:∀ h',h'.IsTupleIter it l (i+1)->Heap.SameBut it s.heap h'->Q x { s with heap:=h' }) :
    wpAny (model prog w) A (Builtin.SmallTypes.nextOf (.ref it)) Q E s:=by
  obtain ⟨o,ho,hc,hd⟩:=id hit
  obtain ⟨ol,hol,_,nl,hdl⟩:=hl
  unfold Builtin.SmallTypes.nextOf
  refine wpAny_bind (wpAny_callSpecial?_slot (name:=Str.ofString "__next__") hit.typeIs F.slot_tuple_iterator_next
    (wpAny_call_entry F.slot_tuple_iterator_next hit.typeIs F.entry_tuple_iterator_next ?_ (F.args_tuple_iterator_next_1 _)))
  show wpAny _ _ (field (.ref it) 0 >>= _) _ _ s
  refine wpAny_bind (wpAny_field ho hd (x:=.ref l) rfl ?_)
  show wpAny _ _ (if (Value.ref l==Value.none)=true then _ else _) _ _ s
  rw [if_neg (show ¬ ((Value.ref l==Value.none)=true) from Bool.false_ne_true)]
  show wpAny _ _ (field (.ref it) 1 >>= _) _ _ s
  refine wpAny_bind (wpAny_field ho hd (x:=.int i 0) rfl ?_)
  show wpAny _ _ (seqItems? (.ref l) >>= _) _ _ s
  refine wpAny_bind (wpAny_seqItems hol hdl ?_)
  simp only [Int.toNat_natCast,hx]
  refine wpAny_bind (wpAny_setField ho hd (by simp) (wpAny_pure ⟨x,rfl,wpAny_pure (hQ _ ?_ (Heap.SameBut.update ..))⟩))
  exact ⟨_,Heap.get?_update_self _ ho (Obj.isFreed_of_fields (Obj.data_mapFields hd _)),(Obj.cls_mapFields ..).trans hc,by
    rw [Obj.data_mapFields hd]; simp [rawInt]⟩
theorem nextOf_tuple_end {it l:Addr} {i:Nat} {items:Array Value} {Q:Value->Shared->Prop} (hh:A.handled=none)
    (hit:s.heap.IsTupleIter it l i) (hl:s.heap.IsTuple l items) (hx:items[i]?=none)
    (hE:∀ h' e,Heap.ExtBut it s.heap h'->(∃ o,h'.get? e=some o/\o.cls=.type "StopIteration")->E (.ref e) { s with heap:=h' }) :
    wpAny (model prog w) A (Builtin.SmallTypes.nextOf (.ref it)) Q E s:=by
  obtain ⟨o,ho,hc,hd⟩:=id hit
  obtain ⟨ol,hol,_,nl,hdl⟩:=hl
  unfold Builtin.SmallTypes.nextOf
  refine wpAny_bind (wpAny_callSpecial?_slot (name:=Str.ofString "__next__") hit.typeIs F.slot_tuple_iterator_next
    (wpAny_call_entry F.slot_tuple_iterator_next hit.typeIs F.entry_tuple_iterator_next ?_ (F.args_tuple_iterator_next_1 _)))
  show wpAny _ _ (field (.ref it) 0 >>= _) _ _ s
  refine wpAny_bind (wpAny_field ho hd (x:=.ref l) rfl ?_)
  show wpAny _ _ (if (Value.ref l==Value.none)=true then _ else _) _ _ s
  rw [if_neg (show ¬ ((Value.ref l==Value.none)=true) from Bool.false_ne_true)]
  show wpAny _ _ (field (.ref it) 1 >>= _) _ _ s
  refine wpAny_bind (wpAny_field ho hd (x:=.int i 0) rfl ?_)
  show wpAny _ _ (seqItems? (.ref l) >>= _) _ _ s
  refine wpAny_bind (wpAny_seqItems hol hdl ?_)
  simp only [Int.toNat_natCast,hx]
  refine wpAny_bind (wpAny_rule (wpAny_bind (wpAny_setField ho hd (by simp) ?_)))
  show wpAny _ _ (newExc (.type "StopIteration") [] >>= _) _ _ _
  refine wpAny_bind ?_
  simp only [newExc,newTuple]
  refine wpAny_bind (wpAny_newObj_type ?_ (by size_fits))
  refine wpAny_bind (m:=firstArgMember _ _) (wpAny_of_eq (a:=Value.none) (by first | rfl | (simp only [firstArgMember]; rfl)) ?_)
  refine wpAny_newObj_type ?_ (by size_fits)
  simp only [raiseNew]
  refine wpAny_bind (wpAny_handled ?_)
  first | rw [show A.in1.handled=none from hh] | rw [hh]
  refine wpAny_bind (wpAny_pure (wpAny_throw ?_))
  exact hE _ _ (((Heap.SameBut.update ..).extBut.push _).push _) ⟨_,Heap.get?_push_size _ rfl,rfl⟩
noncomputable def It1 (h:Heap) (it src:Addr) (i:Nat) (xs:Array Value):Prop:=(h.IsListIter it src i/\h.IsList src xs)\/(h.IsTupleIter it src i/\h.IsTuple src xs)
theorem It1.at {h h':Heap} {it src:Addr} {i:Nat} {xs:Array Value} (x:It1 h it src i xs) (k1:∀ o,h.get? it=some o->h'.get? it=some o) (k2:∀ o,h.get? src=some o->h'.get? src=some o):It1 h' it src i xs:=by
  rcases x with ⟨a,b⟩ | ⟨a,b⟩
  · exact .inl ⟨a.at k1,b.at k2⟩
  · refine .inr ⟨a.at k1,?_⟩
    obtain ⟨o,ho,r⟩:=b
    exact ⟨o,k2 o ho,r⟩
theorem It1.lt {h:Heap} {it src:Addr} {i:Nat} {xs:Array Value} (x:It1 h it src i xs):it < h.objs.size:=by
  rcases x with ⟨⟨_,e,_⟩,_⟩ | ⟨⟨_,e,_⟩,_⟩ <;> exact Heap.lt_size e
theorem It1.ne {h:Heap} {it src:Addr} {i:Nat} {xs:Array Value} (x:It1 h it src i xs):src≠it:=by
  rintro rfl
  rcases x with ⟨⟨o,e,c,_⟩,⟨o',e',c',_⟩⟩ | ⟨⟨o,e,c,_⟩,⟨o',e',c',_⟩⟩ <;> (rw [e] at e'; cases e'; rw [c] at c'; simp at c')
theorem It1.next {it src:Addr} {i:Nat} {xs:Array Value} {x:Value} {Q:Value->Shared->Prop} (h:It1 s.heap it src i xs) (hx:xs[i]?=some x) (hQ:∀ h',It1 h' it src (i+1) xs->Heap.SameBut it s.heap h'->Q x { s with heap:=h' }) :
    wpAny (model prog w) A (Builtin.SmallTypes.nextOf (.ref it)) Q E s:=by
  have hn:=h.ne
  rcases h with ⟨a,b⟩ | ⟨a,b⟩
  · exact wpAny_nextOf_list_item a b hx fun h' a' sb=>hQ h' (.inl ⟨a',b.extBut sb.extBut hn⟩) sb
  · exact nextOf_tuple_item a b hx fun h' a' sb=>hQ h' (.inr ⟨a',b.extBut sb.extBut hn⟩) sb
theorem It1.stop {it src:Addr} {i:Nat} {xs:Array Value} {Q:Value->Shared->Prop} (hh:A.handled=none) (h:It1 s.heap it src i xs) (hx:xs[i]?=none)
    (hE:∀ h' e,Heap.ExtBut it s.heap h'->(∃ o,h'.get? e=some o/\o.cls=.type "StopIteration")->E (.ref e) { s with heap:=h' }):wpAny (model prog w) A (Builtin.SmallTypes.nextOf (.ref it)) Q E s:=by
  rcases h with ⟨a,b⟩ | ⟨a,b⟩
  · exact wpAny_nextOf_list_end hh a b hx hE
  · exact nextOf_tuple_end hh a b hx hE
theorem loadAlive {a:Addr} {Q:Option Obj->Shared->Prop} (h:Q (s.heap.get? a) s):wpAny (model prog w) A (loadIfAlive a) Q E s:=by
  intro Γ p hΓ
  show Sem.wp _ _ (Sem.loadIfAlive a _) _ _ _ _
  rw [Sem.wp_loadIfAlive]
  simpa using h
noncomputable abbrev zobj (TI TO:Addr) (f0 f1:Value):Obj:={ cls:=.type "zip",dict:=none,data:=.fields #[f0,f1,.bool false,.ref TI,.ref TO],slots:=#[] }
structure Ap (z TI TO i1 i2 l1 l2:Addr):Prop where
  TIz:TI≠z
  TOz:TO≠z
  i1z:i1≠z
  i2z:i2≠z
  TITO:TI≠TO
  TIi1:TI≠i1
  TIi2:TI≠i2
  TOi1:TO≠i1
  TOi2:TO≠i2
  i12:i1≠i2
  l1z:l1≠z
  l1TO:l1≠TO
  l1i1:l1≠i1
  l1i2:l1≠i2
  l2z:l2≠z
  l2TO:l2≠TO
  l2i1:l2≠i1
  l2i2:l2≠i2
structure Zs (h:Heap) (z TI TO i1 i2 l1 l2:Addr) (i:Nat) (xs ys:Array Value):Prop where
  z:∃ f0 f1,h.get? z=some (zobj TI TO f0 f1)/\(f0=.none\/∃ T:Nat,f0=rawInt T)
  ti:IsPair h TI (.ref i1) (.ref i2)
  to:∃ a b,IsPair h TO a b
  a:It1 h i1 l1 i xs
  b:It1 h i2 l2 i ys
theorem free_or {z TI TO:Addr} {f0 f1:Value} {Q:Bool->Shared->Prop} (hz:s.heap.get? z=some (zobj TI TO f0 f1)) (hf:f0=.none\/∃ T:Nat,f0=rawInt T) (h1:Q true s) (h2:∀ h' f1',h'.get? z=some (zobj TI TO f0 f1')->Heap.SameBut z s.heap h'->Q false { s with heap:=h' }) :
    wpAny (model prog w) A (Builtin.SmallTypes.ownedTupleIsFree (.ref z)) Q E s:=by
  unfold Builtin.SmallTypes.ownedTupleIsFree
  refine wpAny_bind (wpAny_field hz rfl (x:=f0) rfl ?_)
  rcases hf with rfl | ⟨T,rfl⟩
  · exact wpAny_pure h1
  · show wpAny _ _ (loadIfAlive _ >>= _) _ _ _
    refine wpAny_bind (loadAlive ?_)
    cases q:s.heap.get? ((T:Int).toNat) with
    | none=>exact wpAny_pure h1
    | some o =>
      show wpAny _ _ (field (.ref z) 1 >>= _) _ _ _
      refine wpAny_bind (wpAny_field hz rfl (x:=f1) rfl ?_)
      by_cases hb:(f1 != .bool true)=true
      · rw [if_pos hb]
        refine wpAny_bind (wpAny_setField_rec hz (by simp) fun h1 hz1 hs1=>wpAny_pure (h2 h1 _ hz1 hs1))
      · rw [if_neg hb]
        exact wpAny_pure (h2 s.heap f1 hz ⟨rfl,fun _ _=>rfl⟩)
theorem zip_next_item {z TI TO i1 i2 l1 l2:Addr} {k:Nat} {xs ys:Array Value} {x y:Value} {Q:Value->Shared->Prop} (D:Ap z TI TO i1 i2 l1 l2) (Z:Zs s.heap z TI TO i1 i2 l1 l2 k xs ys) (hx:xs[k]?=some x) (hy:ys[k]?=some y)
    (hQ:∀ h' T,Zs h' z TI TO i1 i2 l1 l2 (k+1) xs ys->IsPair h' T x y->s.heap.objs.size<=T->(∀ c o,c≠z->c≠TO->c≠i1->c≠i2->s.heap.get? c=some o->h'.get? c=some o)->Q (.ref T) { s with heap:=h' }) :
    wpAny (model prog w) A (Builtin.«zip.__next__» ⟨[.ref z],[]⟩) (fun fin s'=>∃ v,fin=.done (.ret v)/\Q v s') E s:=by
  obtain ⟨⟨f0,f1,hz,hf⟩,hTI,⟨a,b,hTO⟩,h1,h2⟩:=Z
  show wpAny _ _ (field (.ref z) 2 >>= _) _ _ _
  refine wpAny_bind (wpAny_field hz rfl (x:=.bool false) rfl ?_)
  show wpAny _ _ (field (.ref z) 3 >>= _) _ _ _
  refine wpAny_bind (wpAny_field hz rfl (x:=.ref TI) rfl ?_)
  refine wpAny_bind (wpAny_seqItems hTI rfl ?_)
  show wpAny _ _ (Builtin.SmallTypes.ownedTupleIsFree (.ref z) >>= _) _ _ _
  refine wpAny_bind (free_or hz hf ?_ fun h₁ f1' hz₁ hs₁=>?_)
  · simp only [if_true]
    refine wpAny_bind (wpAny_rule ?_)
    refine wpAny_bind (wpAny_field hz rfl (x:=.ref TO) rfl ?_)
    refine wpAny_bind (wpAny_setField_rec hz (by simp) fun h₁ hz₁ hs₁=>?_)
    replace hz₁:h₁.get? z=some (zobj TI TO .ellipsis f1):=hz₁
    refine wpAny_bind ?_
    simp only [List.zipIdx_cons,List.zipIdx_nil,List.forIn_cons,List.forIn_nil]
    refine wpAny_bind (wpAny_bind (wpAny_onRaise ?_))
    show wpAny _ _ (Builtin.SmallTypes.nextOf (.ref i1) >>= _) _ _ _
    refine wpAny_bind (It1.next (h1.at (fun o e=>hs₁.extBut _ _ D.i1z e) fun o e=>hs₁.extBut _ _ D.l1z e) hx fun h₂ h1₂ hs₂=>wpAny_pure ?_)
    have hTO₂:IsPair h₂ TO a b:=hs₂.extBut _ _ D.TOi1 (hs₁.extBut _ _ D.TOz hTO)
    refine wpAny_bind (wpAny_seqItems hTO₂ rfl ?_)
    refine wpAny_bind (wpAny_updateSeq_pair hTO₂ fun h₃ hTO₃ hs₃=>?_)
    replace hTO₃:IsPair h₃ TO x b:=hTO₃
    refine wpAny_bind (wpAny_letGo (wpAny_pure ?_))
    refine wpAny_bind (wpAny_bind (wpAny_onRaise ?_))
    show wpAny _ _ (Builtin.SmallTypes.nextOf (.ref i2) >>= _) _ _ _
    refine wpAny_bind (It1.next (h2.at (fun o e=>hs₃.extBut _ _ D.TOi2.symm (hs₂.extBut _ _ D.i12.symm (hs₁.extBut _ _ D.i2z e))) fun o e=>hs₃.extBut _ _ D.l2TO (hs₂.extBut _ _ D.l2i1 (hs₁.extBut _ _ D.l2z e))) hy fun h₄ h2₄ hs₄=>wpAny_pure ?_)
    have hTO₄:IsPair h₄ TO x b:=hs₄.extBut _ _ D.TOi2 hTO₃
    refine wpAny_bind (wpAny_seqItems hTO₄ rfl ?_)
    refine wpAny_bind (wpAny_updateSeq_pair hTO₄ fun h₅ hTO₅ hs₅=>?_)
    replace hTO₅:IsPair h₅ TO x y:=hTO₅
    refine wpAny_bind (wpAny_letGo (wpAny_pure (wpAny_pure ?_)))
    refine wpAny_bind (wpAny_seqItems hTO₅ rfl ?_)
    refine wpAny_bind (wpAny_newTuple ?_)
    have hsz:h₅.objs.size=s.heap.objs.size:=by rw [hs₅.1,hs₄.1,hs₃.1,hs₂.1,hs₁.1]
    have hz₅:h₅.get? z=some (zobj TI TO .ellipsis f1):=hs₅.extBut _ _ D.TOz.symm (hs₄.extBut _ _ D.i2z.symm (hs₃.extBut _ _ D.TOz.symm (hs₂.extBut _ _ D.i1z.symm hz₁)))
    have hk₅:∀ c o,c≠z->c≠TO->c≠i1->c≠i2->s.heap.get? c=some o->h₅.get? c=some o:=fun c o c1 c2 c3 c4 e =>
      hs₅.extBut _ _ c2 (hs₄.extBut _ _ c4 (hs₃.extBut _ _ c2 (hs₂.extBut _ _ c3 (hs₁.extBut _ _ c1 e))))
    have h1₅:It1 h₅ i1 l1 (k+1) xs:=h1₂.at (fun o e=>hs₅.extBut _ _ D.TOi1.symm (hs₄.extBut _ _ D.i12 (hs₃.extBut _ _ D.TOi1.symm e))) fun o e=>hs₅.extBut _ _ D.l1TO (hs₄.extBut _ _ D.l1i2 (hs₃.extBut _ _ D.l1TO e))
    have h2₅:It1 h₅ i2 l2 (k+1) ys:=h2₄.at (fun o e=>hs₅.extBut _ _ D.TOi2.symm e) fun o e=>hs₅.extBut _ _ D.l2TO e
    have hzlt:z < h₅.objs.size:=Heap.lt_size hz₅
    show wpAny _ _ (Builtin.SmallTypes.ownedTupleHandOut (.ref z) (.ref h₅.objs.size) >>= _) _ _ _
    refine wpAny_bind ?_
    unfold Builtin.SmallTypes.ownedTupleHandOut
    have hz₆:(h₅.push { cls:=.type "tuple",data:=.seq #[x,y] }).get? z=some (zobj TI TO .ellipsis f1):=Heap.get?_push_of_some _ hz₅
    refine wpAny_bind (wpAny_setField_rec hz₆ (by simp) fun h₇ hz₇ hs₇=>?_)
    replace hz₇:h₇.get? z=some (zobj TI TO (rawInt h₅.objs.size) f1):=hz₇
    refine wpAny_setField_rec hz₇ (by simp) fun h₈ hz₈ hs₈=>?_
    replace hz₈:h₈.get? z=some (zobj TI TO (rawInt h₅.objs.size) (.bool false)):=hz₈
    have up:∀ c o,c≠z->h₅.get? c=some o->h₈.get? c=some o:=fun c o c1 e=>hs₈.extBut _ _ c1 (hs₇.extBut _ _ c1 (Heap.get?_push_of_some _ e))
    have hT₈:IsPair h₈ h₅.objs.size x y:=hs₈.extBut _ _ (Nat.ne_of_gt hzlt) (hs₇.extBut _ _ (Nat.ne_of_gt hzlt) (Heap.get?_push_size _ rfl))
    refine wpAny_pure ⟨_,rfl,hQ h₈ h₅.objs.size ⟨⟨_,_,hz₈,.inr ⟨_,rfl⟩⟩,up _ _ D.TIz (hk₅ _ _ D.TIz D.TITO D.TIi1 D.TIi2 hTI),⟨_,_,up _ _ D.TOz hTO₅⟩,h1₅.at (fun o e=>up _ o D.i1z e) fun o e=>up _ o D.l1z e,h2₅.at (fun o e=>up _ o D.i2z e) fun o e=>up _ o D.l2z e⟩ hT₈ (by rw [hsz]; exact Nat.le_refl _) fun c o c1 c2 c3 c4 e=>up c o c1 (hk₅ c o c1 c2 c3 c4 e)⟩
  · simp only [Bool.false_eq_true,if_false]
    refine wpAny_bind ?_
    simp only [List.forIn_toArray,List.forIn_cons,List.forIn_nil]
    refine wpAny_bind (wpAny_bind (wpAny_holding ?_))
    show wpAny _ _ (Builtin.SmallTypes.nextOf (.ref i1) >>= _) _ _ _
    refine wpAny_bind (It1.next (h1.at (fun o e=>hs₁.extBut _ _ D.i1z e) fun o e=>hs₁.extBut _ _ D.l1z e) hx fun h₂ h1₂ hs₂=>wpAny_pure (wpAny_pure ?_))
    refine wpAny_bind (wpAny_bind (wpAny_holding ?_))
    show wpAny _ _ (Builtin.SmallTypes.nextOf (.ref i2) >>= _) _ _ _
    refine wpAny_bind (It1.next (h2.at (fun o e=>hs₂.extBut _ _ D.i12.symm (hs₁.extBut _ _ D.i2z e)) fun o e=>hs₂.extBut _ _ D.l2i1 (hs₁.extBut _ _ D.l2z e)) hy fun h₃ h2₃ hs₃=>wpAny_pure (wpAny_pure (wpAny_pure ?_)))
    show wpAny _ _ (newTuple [x,y] >>= _) _ _ _
    refine wpAny_bind (wpAny_newTuple ?_)
    have hsz:h₃.objs.size=s.heap.objs.size:=by rw [hs₃.1,hs₂.1,hs₁.1]
    have kp:∀ c o,c≠z->c≠i1->c≠i2->s.heap.get? c=some o->(h₃.push { cls:=.type "tuple",data:=.seq #[x,y] }).get? c=some o:=fun c o c1 c2 c3 e=>Heap.get?_push_of_some _ (hs₃.extBut _ _ c3 (hs₂.extBut _ _ c2 (hs₁.extBut _ _ c1 e)))
    refine wpAny_pure ⟨_,rfl,hQ _ h₃.objs.size ⟨⟨f0,f1',Heap.get?_push_of_some _ (hs₃.extBut _ _ D.i2z.symm (hs₂.extBut _ _ D.i1z.symm hz₁)),hf⟩,kp _ _ D.TIz D.TIi1 D.TIi2 hTI,⟨_,_,kp _ _ D.TOz D.TOi1 D.TOi2 hTO⟩,?_,?_⟩ (Heap.get?_push_size _ rfl) (by rw [hsz]; exact Nat.le_refl _) fun c o c1 c2 c3 c4 e=>kp c o c1 c3 c4 e⟩
    · exact h1₂.at (fun o e=>Heap.get?_push_of_some _ (hs₃.extBut _ _ D.i12 e)) fun o e=>Heap.get?_push_of_some _ (hs₃.extBut _ _ D.l1i2 e)
    · exact h2₃.at (fun o e=>Heap.get?_push_of_some _ e) fun o e=>Heap.get?_push_of_some _ e
theorem zip_next_end {z TI TO i1 i2 l1 l2:Addr} {k:Nat} {xs ys:Array Value} {Q:Fin->Shared->Prop} (hh:A.handled=none) (D:Ap z TI TO i1 i2 l1 l2) (Z:Zs s.heap z TI TO i1 i2 l1 l2 k xs ys) (hend:xs[k]?=none\/ys[k]?=none)
    (hE:∀ h' e,(∀ c o,c≠z->c≠TO->c≠i1->c≠i2->s.heap.get? c=some o->h'.get? c=some o)->(∃ o,h'.get? e=some o/\o.cls=.type "StopIteration")->E (.ref e) { s with heap:=h' }) :
    wpAny (model prog w) A (Builtin.«zip.__next__» ⟨[.ref z],[]⟩) Q E s:=by
  obtain ⟨⟨f0,f1,hz,hf⟩,hTI,⟨a,b,hTO⟩,h1,h2⟩:=Z
  show wpAny _ _ (field (.ref z) 2 >>= _) _ _ _
  refine wpAny_bind (wpAny_field hz rfl (x:=.bool false) rfl ?_)
  show wpAny _ _ (field (.ref z) 3 >>= _) _ _ _
  refine wpAny_bind (wpAny_field hz rfl (x:=.ref TI) rfl ?_)
  refine wpAny_bind (wpAny_seqItems hTI rfl ?_)
  show wpAny _ _ (Builtin.SmallTypes.ownedTupleIsFree (.ref z) >>= _) _ _ _
  refine wpAny_bind (free_or hz hf ?_ fun h₁ f1' hz₁ hs₁=>?_)
  · simp only [if_true]
    refine wpAny_bind (wpAny_rule ?_)
    refine wpAny_bind (wpAny_field hz rfl (x:=.ref TO) rfl ?_)
    refine wpAny_bind (wpAny_setField_rec hz (by simp) fun h₁ hz₁ hs₁=>?_)
    replace hz₁:h₁.get? z=some (zobj TI TO .ellipsis f1):=hz₁
    refine wpAny_bind ?_
    simp only [List.zipIdx_cons,List.zipIdx_nil,List.forIn_cons,List.forIn_nil]
    refine wpAny_bind (wpAny_bind (wpAny_onRaise ?_))
    show wpAny _ _ (Builtin.SmallTypes.nextOf (.ref i1) >>= _) _ _ _
    have h1':=h1.at (h':=h₁) (fun o e=>hs₁.extBut _ _ D.i1z e) fun o e=>hs₁.extBut _ _ D.l1z e
    cases hx:xs[k]? with
    | none =>
      refine wpAny_bind (It1.stop hh h1' hx fun h₂ e hs₂ he=>?_)
      obtain ⟨oe,hoe,hce⟩:=he
      have hz₂:h₂.get? z=some (zobj TI TO .ellipsis f1):=hs₂ _ _ D.i1z.symm hz₁
      have hez:e≠z:=fun x=>by subst x; rw [hz₂] at hoe; cases hoe; simp at hce
      exact wpAny_setField_rec hz₂ (by simp) fun h₃ _ hs₃=>hE h₃ e (fun c o c1 _ c3 _ x=>hs₃.extBut _ _ c1 (hs₂ _ _ c3 (hs₁.extBut _ _ c1 x))) ⟨oe,hs₃.extBut _ _ hez hoe,hce⟩
    | some x =>
      have hy:ys[k]?=none:=by rcases hend with h | h; rw [hx] at h; cases h; exact h
      refine wpAny_bind (It1.next h1' hx fun h₂ h1₂ hs₂=>wpAny_pure ?_)
      have hTO₂:IsPair h₂ TO a b:=hs₂.extBut _ _ D.TOi1 (hs₁.extBut _ _ D.TOz hTO)
      refine wpAny_bind (wpAny_seqItems hTO₂ rfl ?_)
      refine wpAny_bind (wpAny_updateSeq_pair hTO₂ fun h₃ hTO₃ hs₃=>?_)
      refine wpAny_bind (wpAny_letGo (wpAny_pure ?_))
      refine wpAny_bind (wpAny_bind (wpAny_onRaise ?_))
      show wpAny _ _ (Builtin.SmallTypes.nextOf (.ref i2) >>= _) _ _ _
      refine wpAny_bind (It1.stop hh (h2.at (fun o e=>hs₃.extBut _ _ D.TOi2.symm (hs₂.extBut _ _ D.i12.symm (hs₁.extBut _ _ D.i2z e))) fun o e=>hs₃.extBut _ _ D.l2TO (hs₂.extBut _ _ D.l2i1 (hs₁.extBut _ _ D.l2z e))) hy fun h₄ e hs₄ he=>?_)
      obtain ⟨oe,hoe,hce⟩:=he
      have hz₄:h₄.get? z=some (zobj TI TO .ellipsis f1):=hs₄ _ _ D.i2z.symm (hs₃.extBut _ _ D.TOz.symm (hs₂.extBut _ _ D.i1z.symm hz₁))
      have hez:e≠z:=fun x=>by subst x; rw [hz₄] at hoe; cases hoe; simp at hce
      exact wpAny_setField_rec hz₄ (by simp) fun h₅ _ hs₅=>hE h₅ e (fun c o c1 c2 c3 c4 x=>hs₅.extBut _ _ c1 (hs₄ _ _ c4 (hs₃.extBut _ _ c2 (hs₂.extBut _ _ c3 (hs₁.extBut _ _ c1 x))))) ⟨oe,hs₅.extBut _ _ hez hoe,hce⟩
  · simp only [Bool.false_eq_true,if_false]
    refine wpAny_bind ?_
    simp only [List.forIn_toArray,List.forIn_cons,List.forIn_nil]
    refine wpAny_bind (wpAny_bind (wpAny_holding ?_))
    show wpAny _ _ (Builtin.SmallTypes.nextOf (.ref i1) >>= _) _ _ _
    have h1':=h1.at (h':=h₁) (fun o e=>hs₁.extBut _ _ D.i1z e) fun o e=>hs₁.extBut _ _ D.l1z e
    cases hx:xs[k]? with
    | none=>exact wpAny_bind (It1.stop hh h1' hx fun h₂ e hs₂ he=>hE h₂ e (fun c o c1 _ c3 _ x=>hs₂ _ _ c3 (hs₁.extBut _ _ c1 x)) he)
    | some x =>
      have hy:ys[k]?=none:=by rcases hend with h | h; rw [hx] at h; cases h; exact h
      refine wpAny_bind (It1.next h1' hx fun h₂ h1₂ hs₂=>wpAny_pure (wpAny_pure ?_))
      refine wpAny_bind (wpAny_bind (wpAny_holding ?_))
      show wpAny _ _ (Builtin.SmallTypes.nextOf (.ref i2) >>= _) _ _ _
      exact wpAny_bind (It1.stop hh (h2.at (fun o e=>hs₂.extBut _ _ D.i12.symm (hs₁.extBut _ _ D.i2z e)) fun o e=>hs₂.extBut _ _ D.l2i1 (hs₁.extBut _ _ D.l2z e)) hy fun h₃ e hs₃ he=>hE h₃ e (fun c o c1 _ c3 c4 x=>hs₃ _ _ c4 (hs₂.extBut _ _ c3 (hs₁.extBut _ _ c1 x))) he)
end
theorem walksZip {prog:Program} {w:World} {A:Around} (hh:A.handled=none) (z TI TO i1 i2 l1 l2:Addr) (D:Ap z TI TO i1 i2 l1 l2) (xs ys:Array Value) :
    WalksS prog w A z [z,TI,TO,i1,i2,l1,l2] [z,TO,i1,i2] (fun a b=>b=a) (min xs.size ys.size) (fun i v=>True)
      (fun i s=>Zs s.heap z TI TO i1 i2 l1 l2 i xs ys) where
  sub:=fun c hc=>by simp at hc ⊢; rcases hc with rfl | rfl | rfl | rfl <;> simp
  grefl:=fun _=>rfl
  gtrans:=fun _ _ _ h1 h2=>h2.trans h1
  frame:=fun i s h' tk st _ hk=>by
    obtain ⟨⟨f0,f1,hz,hf⟩,hTI,⟨a,b,hTO⟩,h1,h2⟩:=st
    exact ⟨⟨f0,f1,hk z (by simp) _ hz,hf⟩,hk TI (by simp) _ hTI,⟨a,b,hk TO (by simp) _ hTO⟩,h1.at (fun o e=>hk i1 (by simp) o e) fun o e=>hk l1 (by simp) o e,h2.at (fun o e=>hk i2 (by simp) o e) fun o e=>hk l2 (by simp) o e⟩
  item:=fun i s Q E hi st hQ=>by
    have hT:s.TypeIs (.ref z) "zip":=let ⟨f0,f1,hz,_⟩:=st.z; ⟨_,hz,rfl⟩
    have hix:i < xs.size:=Nat.lt_of_lt_of_le hi (Nat.min_le_left ..)
    have hiy:i < ys.size:=Nat.lt_of_lt_of_le hi (Nat.min_le_right ..)
    unfold pyNext
    refine wpAny_bind (wpAny_attempt (wpAny_callSpecial?_slot (name:=Str.ofString "__next__") hT F.slot_zip_next
      (wpAny_call_entry F.slot_zip_next hT F.entry_zip_next
        (zip_next_item D st (Array.getElem?_eq_getElem hix) (Array.getElem?_eq_getElem hiy) fun h' T z' p' n' k'=>wpAny_pure (hQ _ _ trivial z' ⟨fun b o hb e=>k' b o (fun x=>hb (by simp [x])) (fun x=>hb (by simp [x])) (fun x=>hb (by simp [x])) (fun x=>hb (by simp [x])) e,rfl,rfl,rfl,Nat.le_refl _⟩)) (F.args_zip_next_1 _))))
  done:=fun s Q E st hQ=>by
    have hT:s.TypeIs (.ref z) "zip":=let ⟨f0,f1,hz,_⟩:=st.z; ⟨_,hz,rfl⟩
    have hend:xs[min xs.size ys.size]?=none\/ys[min xs.size ys.size]?=none:=by
      rcases Nat.le_total xs.size ys.size with h | h
      · exact .inl (by rw [Nat.min_eq_left h]; simp)
      · exact .inr (by rw [Nat.min_eq_right h]; simp)
    unfold pyNext
    refine wpAny_bind (wpAny_attempt (wpAny_callSpecial?_slot (name:=Str.ofString "__next__") hT F.slot_zip_next
      (wpAny_call_entry F.slot_zip_next hT F.entry_zip_next (zip_next_end hh D st hend fun h' e hk he=>?_) (F.args_zip_next_1 _))))
    obtain ⟨o,ho,hc⟩:=he
    refine wpAny_bind (wpAny_isInstance (T:="StopIteration") (b:=true) ⟨o,ho,hc⟩ isSubtype_stop ?_)
    exact wpAny_pure (hQ _ ⟨fun b o hb e=>hk b o (fun x=>hb (by simp [x])) (fun x=>hb (by simp [x])) (fun x=>hb (by simp [x])) (fun x=>hb (by simp [x])) e,rfl,rfl,rfl,Nat.le_refl _⟩)
  self:=fun i s Q E st hQ=>by
    obtain ⟨f0,f1,hz,_⟩:=st.z
    have hT:s.TypeIs (.ref z) "zip":=⟨_,hz,rfl⟩
    refine wpAny_pyIter_slot hT F.slot_zip_iter (wpAny_call_entry F.slot_zip_iter hT F.entry_zip_iter ?_ (F.args_zip_iter_1 _))
    show wpAny _ _ (ret (.ref z)) _ _ s
    exact wpAny_pure ⟨_,rfl,"zip",_,hT,F.slot_zip_next.lookup,hQ⟩
end ZP
namespace ZP
open PySem PySem.Spec PyProof.Rows
section
variable {prog:Program} {w:World} {A:Around} {E:Value->Shared->Prop} {s:Shared}
noncomputable abbrev zH1LL (h:Heap) (l1:Addr):Heap:=h.push { cls:=.type "list_iterator",data:=.fields #[.ref l1,.int 0 0] }
noncomputable abbrev zH2LL (h:Heap) (l1 l2:Addr):Heap:=(zH1LL h l1).push { cls:=.type "list_iterator",data:=.fields #[.ref l2,.int 0 0] }
noncomputable abbrev zH3LL (h:Heap) (l1 l2:Addr):Heap:=(zH2LL h l1 l2).push { cls:=.type "tuple",data:=.seq #[.ref h.objs.size,.ref (zH1LL h l1).objs.size] }
noncomputable abbrev zH4LL (h:Heap) (l1 l2:Addr):Heap:=(zH3LL h l1 l2).push { cls:=.type "tuple",data:=.seq #[.none,.none] }
noncomputable abbrev zH5LL (h:Heap) (l1 l2:Addr):Heap:=(zH4LL h l1 l2).push { cls:=.type "zip",data:=.fields #[.none,.bool false,.bool false,.ref (zH2LL h l1 l2).objs.size,.ref (zH3LL h l1 l2).objs.size] }
theorem meets_zipLL (l1 l2:Addr) (xs ys:Array Value) :
    Meets (Builtin.«zip.__new__» ⟨[.type "zip",.ref l1,.ref l2],[]⟩) (fun _ R s=>s.heap.IsList l1 xs/\s.heap.IsList l2 ys /\
      R (.ok (.ret (.ref (zH4LL s.heap l1 l2).objs.size))) { s with heap:=zH5LL s.heap l1 l2 }) :=
  .of_wp fun prog w A R s h=>by
    obtain ⟨hp,g,d,tk,os⟩:=s; obtain ⟨hl1,hl2,h⟩:=h
    have hsub:=sub_zip
    have hL1:Heap.IsList (Shared.heap ⟨hp,g,d,tk,os⟩) l1 xs:=hl1
    have hL2:Heap.IsList (Shared.heap ⟨hp.push { cls:=.type "list_iterator",data:=.fields #[.ref l1,.int 0 0] },g,d,tk,os⟩) l2 ys:=by
      obtain ⟨o,ho,r⟩:=hl2
      exact ⟨o,Heap.get?_push_of_some _ ho,r⟩
    wp_walk using wpAny_pyIter_list hL1,wpAny_pyIter_list hL2
    exact ⟨_,rfl,h⟩
theorem call_zipLL {l1 l2:Addr} {xs ys:Array Value} {Q:Value->Shared->Prop} (hl1:s.heap.IsList l1 xs) (hl2:s.heap.IsList l2 ys)
    (h:∀ h',Zs h' (s.heap.objs.size+4) (s.heap.objs.size+2) (s.heap.objs.size+3) s.heap.objs.size (s.heap.objs.size+1) l1 l2 0 xs ys->h'.objs.size=s.heap.objs.size+5 ->
      (∀ c o,s.heap.get? c=some o->h'.get? c=some o)->Q (.ref (s.heap.objs.size+4)) { s with heap:=h' }) :
    wpAny (model prog w) A (call (.type "zip") [.ref l1,.ref l2]) Q E s:=by
  refine callType_new F.called_zip (by decide) (F.typeCall_zip_2 _ _) (F.newCall_zip_2 _ _) (fun obj=>F.args_object_init_3 obj _ _) F.entry_zip_new
    (meets_zipLL l1 l2 xs ys) ⟨hl1,hl2,?_⟩
  have z1:(zH1LL s.heap l1).objs.size=s.heap.objs.size+1:=Heap.size_push ..
  have z2:(zH2LL s.heap l1 l2).objs.size=s.heap.objs.size+2:=by rw [Heap.size_push,z1]
  have z3:(zH3LL s.heap l1 l2).objs.size=s.heap.objs.size+3:=by rw [Heap.size_push,z2]
  have z4:(zH4LL s.heap l1 l2).objs.size=s.heap.objs.size+4:=by rw [Heap.size_push,z3]
  have z5:(zH5LL s.heap l1 l2).objs.size=s.heap.objs.size+5:=by rw [Heap.size_push,z4]
  have g5:(zH5LL s.heap l1 l2).get? (zH4LL s.heap l1 l2).objs.size=some _:=Heap.get?_push_size _ rfl
  have g4:(zH5LL s.heap l1 l2).get? (zH3LL s.heap l1 l2).objs.size=some _:=Heap.get?_push_of_some _ (Heap.get?_push_size _ rfl)
  have g3:(zH5LL s.heap l1 l2).get? (zH2LL s.heap l1 l2).objs.size=some _:=Heap.get?_push_of_some _ (Heap.get?_push_of_some _ (Heap.get?_push_size _ rfl))
  have g2:(zH5LL s.heap l1 l2).get? (zH1LL s.heap l1).objs.size=some _:=Heap.get?_push_of_some _ (Heap.get?_push_of_some _ (Heap.get?_push_of_some _ (Heap.get?_push_size _ rfl)))
  have g1:(zH5LL s.heap l1 l2).get? s.heap.objs.size=some _:=Heap.get?_push_of_some _ (Heap.get?_push_of_some _ (Heap.get?_push_of_some _ (Heap.get?_push_of_some _ (Heap.get?_push_size _ rfl))))
  have kp:∀ c o,s.heap.get? c=some o->(zH5LL s.heap l1 l2).get? c=some o:=fun c o x =>
    Heap.get?_push_of_some _ (Heap.get?_push_of_some _ (Heap.get?_push_of_some _ (Heap.get?_push_of_some _ (Heap.get?_push_of_some _ x))))
  show _/\_
  rw [z2,z3,z4] at g5
  rw [z1,z2] at g3
  rw [z3] at g4
  rw [z1] at g2
  rw [z4]
  refine ⟨⟨_,g5,rfl⟩,h _ ⟨⟨_,_,g5,.inl rfl⟩,g3,⟨_,_,g4⟩,.inl ⟨⟨_,g1,rfl,rfl⟩,?_⟩,.inl ⟨⟨_,g2,rfl,rfl⟩,?_⟩⟩ z5 kp⟩
  · obtain ⟨o,ho,r⟩:=hl1; exact ⟨o,kp _ _ ho,r⟩
  · obtain ⟨o,ho,r⟩:=hl2; exact ⟨o,kp _ _ ho,r⟩
noncomputable abbrev zH1LT (h:Heap) (l1:Addr):Heap:=h.push { cls:=.type "list_iterator",data:=.fields #[.ref l1,.int 0 0] }
noncomputable abbrev zH2LT (h:Heap) (l1 l2:Addr):Heap:=(zH1LT h l1).push { cls:=.type "tuple_iterator",data:=.fields #[.ref l2,.int 0 0] }
noncomputable abbrev zH3LT (h:Heap) (l1 l2:Addr):Heap:=(zH2LT h l1 l2).push { cls:=.type "tuple",data:=.seq #[.ref h.objs.size,.ref (zH1LT h l1).objs.size] }
noncomputable abbrev zH4LT (h:Heap) (l1 l2:Addr):Heap:=(zH3LT h l1 l2).push { cls:=.type "tuple",data:=.seq #[.none,.none] }
noncomputable abbrev zH5LT (h:Heap) (l1 l2:Addr):Heap:=(zH4LT h l1 l2).push { cls:=.type "zip",data:=.fields #[.none,.bool false,.bool false,.ref (zH2LT h l1 l2).objs.size,.ref (zH3LT h l1 l2).objs.size] }
theorem meets_zipLT (l1 l2:Addr) (xs ys:Array Value) :
    Meets (Builtin.«zip.__new__» ⟨[.type "zip",.ref l1,.ref l2],[]⟩) (fun _ R s=>s.heap.IsList l1 xs/\s.heap.IsTuple l2 ys /\
      R (.ok (.ret (.ref (zH4LT s.heap l1 l2).objs.size))) { s with heap:=zH5LT s.heap l1 l2 }) :=
  .of_wp fun prog w A R s h=>by
    obtain ⟨hp,g,d,tk,os⟩:=s; obtain ⟨hl1,hl2,h⟩:=h
    have hsub:=sub_zip
    have hL1:Heap.IsList (Shared.heap ⟨hp,g,d,tk,os⟩) l1 xs:=hl1
    have hL2:Heap.IsTuple (Shared.heap ⟨hp.push { cls:=.type "list_iterator",data:=.fields #[.ref l1,.int 0 0] },g,d,tk,os⟩) l2 ys:=by
      obtain ⟨o,ho,r⟩:=hl2
      exact ⟨o,Heap.get?_push_of_some _ ho,r⟩
    wp_walk using wpAny_pyIter_list hL1,wpAny_pyIter_tuple hL2
    exact ⟨_,rfl,h⟩
theorem call_zipLT {l1 l2:Addr} {xs ys:Array Value} {Q:Value->Shared->Prop} (hl1:s.heap.IsList l1 xs) (hl2:s.heap.IsTuple l2 ys)
    (h:∀ h',Zs h' (s.heap.objs.size+4) (s.heap.objs.size+2) (s.heap.objs.size+3) s.heap.objs.size (s.heap.objs.size+1) l1 l2 0 xs ys->h'.objs.size=s.heap.objs.size+5 ->
      (∀ c o,s.heap.get? c=some o->h'.get? c=some o)->Q (.ref (s.heap.objs.size+4)) { s with heap:=h' }) :
    wpAny (model prog w) A (call (.type "zip") [.ref l1,.ref l2]) Q E s:=by
  refine callType_new F.called_zip (by decide) (F.typeCall_zip_2 _ _) (F.newCall_zip_2 _ _) (fun obj=>F.args_object_init_3 obj _ _) F.entry_zip_new
    (meets_zipLT l1 l2 xs ys) ⟨hl1,hl2,?_⟩
  have z1:(zH1LT s.heap l1).objs.size=s.heap.objs.size+1:=Heap.size_push ..
  have z2:(zH2LT s.heap l1 l2).objs.size=s.heap.objs.size+2:=by rw [Heap.size_push,z1]
  have z3:(zH3LT s.heap l1 l2).objs.size=s.heap.objs.size+3:=by rw [Heap.size_push,z2]
  have z4:(zH4LT s.heap l1 l2).objs.size=s.heap.objs.size+4:=by rw [Heap.size_push,z3]
  have z5:(zH5LT s.heap l1 l2).objs.size=s.heap.objs.size+5:=by rw [Heap.size_push,z4]
  have g5:(zH5LT s.heap l1 l2).get? (zH4LT s.heap l1 l2).objs.size=some _:=Heap.get?_push_size _ rfl
  have g4:(zH5LT s.heap l1 l2).get? (zH3LT s.heap l1 l2).objs.size=some _:=Heap.get?_push_of_some _ (Heap.get?_push_size _ rfl)
  have g3:(zH5LT s.heap l1 l2).get? (zH2LT s.heap l1 l2).objs.size=some _:=Heap.get?_push_of_some _ (Heap.get?_push_of_some _ (Heap.get?_push_size _ rfl))
  have g2:(zH5LT s.heap l1 l2).get? (zH1LT s.heap l1).objs.size=some _:=Heap.get?_push_of_some _ (Heap.get?_push_of_some _ (Heap.get?_push_of_some _ (Heap.get?_push_size _ rfl)))
  have g1:(zH5LT s.heap l1 l2).get? s.heap.objs.size=some _:=Heap.get?_push_of_some _ (Heap.get?_push_of_some _ (Heap.get?_push_of_some _ (Heap.get?_push_of_some _ (Heap.get?_push_size _ rfl))))
  have kp:∀ c o,s.heap.get? c=some o->(zH5LT s.heap l1 l2).get? c=some o:=fun c o x =>
    Heap.get?_push_of_some _ (Heap.get?_push_of_some _ (Heap.get?_push_of_some _ (Heap.get?_push_of_some _ (Heap.get?_push_of_some _ x))))
  show _/\_
  rw [z2,z3,z4] at g5
  rw [z1,z2] at g3
  rw [z3] at g4
  rw [z1] at g2
  rw [z4]
  refine ⟨⟨_,g5,rfl⟩,h _ ⟨⟨_,_,g5,.inl rfl⟩,g3,⟨_,_,g4⟩,.inl ⟨⟨_,g1,rfl,rfl⟩,?_⟩,.inr ⟨⟨_,g2,rfl,rfl⟩,?_⟩⟩ z5 kp⟩
  · obtain ⟨o,ho,r⟩:=hl1; exact ⟨o,kp _ _ ho,r⟩
  · obtain ⟨o,ho,r⟩:=hl2; exact ⟨o,kp _ _ ho,r⟩
noncomputable abbrev zH1TL (h:Heap) (l1:Addr):Heap:=h.push { cls:=.type "tuple_iterator",data:=.fields #[.ref l1,.int 0 0] }
noncomputable abbrev zH2TL (h:Heap) (l1 l2:Addr):Heap:=(zH1TL h l1).push { cls:=.type "list_iterator",data:=.fields #[.ref l2,.int 0 0] }
noncomputable abbrev zH3TL (h:Heap) (l1 l2:Addr):Heap:=(zH2TL h l1 l2).push { cls:=.type "tuple",data:=.seq #[.ref h.objs.size,.ref (zH1TL h l1).objs.size] }
noncomputable abbrev zH4TL (h:Heap) (l1 l2:Addr):Heap:=(zH3TL h l1 l2).push { cls:=.type "tuple",data:=.seq #[.none,.none] }
noncomputable abbrev zH5TL (h:Heap) (l1 l2:Addr):Heap:=(zH4TL h l1 l2).push { cls:=.type "zip",data:=.fields #[.none,.bool false,.bool false,.ref (zH2TL h l1 l2).objs.size,.ref (zH3TL h l1 l2).objs.size] }
theorem meets_zipTL (l1 l2:Addr) (xs ys:Array Value) :
    Meets (Builtin.«zip.__new__» ⟨[.type "zip",.ref l1,.ref l2],[]⟩) (fun _ R s=>s.heap.IsTuple l1 xs/\s.heap.IsList l2 ys /\
      R (.ok (.ret (.ref (zH4TL s.heap l1 l2).objs.size))) { s with heap:=zH5TL s.heap l1 l2 }) :=
  .of_wp fun prog w A R s h=>by
    obtain ⟨hp,g,d,tk,os⟩:=s; obtain ⟨hl1,hl2,h⟩:=h
    have hsub:=sub_zip
    have hL1:Heap.IsTuple (Shared.heap ⟨hp,g,d,tk,os⟩) l1 xs:=hl1
    have hL2:Heap.IsList (Shared.heap ⟨hp.push { cls:=.type "tuple_iterator",data:=.fields #[.ref l1,.int 0 0] },g,d,tk,os⟩) l2 ys:=by
      obtain ⟨o,ho,r⟩:=hl2
      exact ⟨o,Heap.get?_push_of_some _ ho,r⟩
    wp_walk using wpAny_pyIter_tuple hL1,wpAny_pyIter_list hL2
    exact ⟨_,rfl,h⟩
theorem call_zipTL {l1 l2:Addr} {xs ys:Array Value} {Q:Value->Shared->Prop} (hl1:s.heap.IsTuple l1 xs) (hl2:s.heap.IsList l2 ys)
    (h:∀ h',Zs h' (s.heap.objs.size+4) (s.heap.objs.size+2) (s.heap.objs.size+3) s.heap.objs.size (s.heap.objs.size+1) l1 l2 0 xs ys->h'.objs.size=s.heap.objs.size+5 ->
      (∀ c o,s.heap.get? c=some o->h'.get? c=some o)->Q (.ref (s.heap.objs.size+4)) { s with heap:=h' }) :
    wpAny (model prog w) A (call (.type "zip") [.ref l1,.ref l2]) Q E s:=by
  refine callType_new F.called_zip (by decide) (F.typeCall_zip_2 _ _) (F.newCall_zip_2 _ _) (fun obj=>F.args_object_init_3 obj _ _) F.entry_zip_new
    (meets_zipTL l1 l2 xs ys) ⟨hl1,hl2,?_⟩
  have z1:(zH1TL s.heap l1).objs.size=s.heap.objs.size+1:=Heap.size_push ..
  have z2:(zH2TL s.heap l1 l2).objs.size=s.heap.objs.size+2:=by rw [Heap.size_push,z1]
  have z3:(zH3TL s.heap l1 l2).objs.size=s.heap.objs.size+3:=by rw [Heap.size_push,z2]
  have z4:(zH4TL s.heap l1 l2).objs.size=s.heap.objs.size+4:=by rw [Heap.size_push,z3]
  have z5:(zH5TL s.heap l1 l2).objs.size=s.heap.objs.size+5:=by rw [Heap.size_push,z4]
  have g5:(zH5TL s.heap l1 l2).get? (zH4TL s.heap l1 l2).objs.size=some _:=Heap.get?_push_size _ rfl
  have g4:(zH5TL s.heap l1 l2).get? (zH3TL s.heap l1 l2).objs.size=some _:=Heap.get?_push_of_some _ (Heap.get?_push_size _ rfl)
  have g3:(zH5TL s.heap l1 l2).get? (zH2TL s.heap l1 l2).objs.size=some _:=Heap.get?_push_of_some _ (Heap.get?_push_of_some _ (Heap.get?_push_size _ rfl))
  have g2:(zH5TL s.heap l1 l2).get? (zH1TL s.heap l1).objs.size=some _:=Heap.get?_push_of_some _ (Heap.get?_push_of_some _ (Heap.get?_push_of_some _ (Heap.get?_push_size _ rfl)))
  have g1:(zH5TL s.heap l1 l2).get? s.heap.objs.size=some _:=Heap.get?_push_of_some _ (Heap.get?_push_of_some _ (Heap.get?_push_of_some _ (Heap.get?_push_of_some _ (Heap.get?_push_size _ rfl))))
  have kp:∀ c o,s.heap.get? c=some o->(zH5TL s.heap l1 l2).get? c=some o:=fun c o x =>
    Heap.get?_push_of_some _ (Heap.get?_push_of_some _ (Heap.get?_push_of_some _ (Heap.get?_push_of_some _ (Heap.get?_push_of_some _ x))))
  show _/\_
  rw [z2,z3,z4] at g5
  rw [z1,z2] at g3
  rw [z3] at g4
  rw [z1] at g2
  rw [z4]
  refine ⟨⟨_,g5,rfl⟩,h _ ⟨⟨_,_,g5,.inl rfl⟩,g3,⟨_,_,g4⟩,.inr ⟨⟨_,g1,rfl,rfl⟩,?_⟩,.inl ⟨⟨_,g2,rfl,rfl⟩,?_⟩⟩ z5 kp⟩
  · obtain ⟨o,ho,r⟩:=hl1; exact ⟨o,kp _ _ ho,r⟩
  · obtain ⟨o,ho,r⟩:=hl2; exact ⟨o,kp _ _ ho,r⟩
noncomputable abbrev zH1TT (h:Heap) (l1:Addr):Heap:=h.push { cls:=.type "tuple_iterator",data:=.fields #[.ref l1,.int 0 0] }
noncomputable abbrev zH2TT (h:Heap) (l1 l2:Addr):Heap:=(zH1TT h l1).push { cls:=.type "tuple_iterator",data:=.fields #[.ref l2,.int 0 0] }
noncomputable abbrev zH3TT (h:Heap) (l1 l2:Addr):Heap:=(zH2TT h l1 l2).push { cls:=.type "tuple",data:=.seq #[.ref h.objs.size,.ref (zH1TT h l1).objs.size] }
noncomputable abbrev zH4TT (h:Heap) (l1 l2:Addr):Heap:=(zH3TT h l1 l2).push { cls:=.type "tuple",data:=.seq #[.none,.none] }
noncomputable abbrev zH5TT (h:Heap) (l1 l2:Addr):Heap:=(zH4TT h l1 l2).push { cls:=.type "zip",data:=.fields #[.none,.bool false,.bool false,.ref (zH2TT h l1 l2).objs.size,.ref (zH3TT h l1 l2).objs.size] }
theorem meets_zipTT (l1 l2:Addr) (xs ys:Array Value) :
    Meets (Builtin.«zip.__new__» ⟨[.type "zip",.ref l1,.ref l2],[]⟩) (fun _ R s=>s.heap.IsTuple l1 xs/\s.heap.IsTuple l2 ys /\
      R (.ok (.ret (.ref (zH4TT s.heap l1 l2).objs.size))) { s with heap:=zH5TT s.heap l1 l2 }) :=
  .of_wp fun prog w A R s h=>by
    obtain ⟨hp,g,d,tk,os⟩:=s; obtain ⟨hl1,hl2,h⟩:=h
    have hsub:=sub_zip
    have hL1:Heap.IsTuple (Shared.heap ⟨hp,g,d,tk,os⟩) l1 xs:=hl1
    have hL2:Heap.IsTuple (Shared.heap ⟨hp.push { cls:=.type "tuple_iterator",data:=.fields #[.ref l1,.int 0 0] },g,d,tk,os⟩) l2 ys:=by
      obtain ⟨o,ho,r⟩:=hl2
      exact ⟨o,Heap.get?_push_of_some _ ho,r⟩
    wp_walk using wpAny_pyIter_tuple hL1,wpAny_pyIter_tuple hL2
    exact ⟨_,rfl,h⟩
theorem call_zipTT {l1 l2:Addr} {xs ys:Array Value} {Q:Value->Shared->Prop} (hl1:s.heap.IsTuple l1 xs) (hl2:s.heap.IsTuple l2 ys)
    (h:∀ h',Zs h' (s.heap.objs.size+4) (s.heap.objs.size+2) (s.heap.objs.size+3) s.heap.objs.size (s.heap.objs.size+1) l1 l2 0 xs ys->h'.objs.size=s.heap.objs.size+5 ->
      (∀ c o,s.heap.get? c=some o->h'.get? c=some o)->Q (.ref (s.heap.objs.size+4)) { s with heap:=h' }) :
    wpAny (model prog w) A (call (.type "zip") [.ref l1,.ref l2]) Q E s:=by
  refine callType_new F.called_zip (by decide) (F.typeCall_zip_2 _ _) (F.newCall_zip_2 _ _) (fun obj=>F.args_object_init_3 obj _ _) F.entry_zip_new
    (meets_zipTT l1 l2 xs ys) ⟨hl1,hl2,?_⟩
  have z1:(zH1TT s.heap l1).objs.size=s.heap.objs.size+1:=Heap.size_push ..
  have z2:(zH2TT s.heap l1 l2).objs.size=s.heap.objs.size+2:=by rw [Heap.size_push,z1]
  have z3:(zH3TT s.heap l1 l2).objs.size=s.heap.objs.size+3:=by rw [Heap.size_push,z2]
  have z4:(zH4TT s.heap l1 l2).objs.size=s.heap.objs.size+4:=by rw [Heap.size_push,z3]
  have z5:(zH5TT s.heap l1 l2).objs.size=s.heap.objs.size+5:=by rw [Heap.size_push,z4]
  have g5:(zH5TT s.heap l1 l2).get? (zH4TT s.heap l1 l2).objs.size=some _:=Heap.get?_push_size _ rfl
  have g4:(zH5TT s.heap l1 l2).get? (zH3TT s.heap l1 l2).objs.size=some _:=Heap.get?_push_of_some _ (Heap.get?_push_size _ rfl)
  have g3:(zH5TT s.heap l1 l2).get? (zH2TT s.heap l1 l2).objs.size=some _:=Heap.get?_push_of_some _ (Heap.get?_push_of_some _ (Heap.get?_push_size _ rfl))
  have g2:(zH5TT s.heap l1 l2).get? (zH1TT s.heap l1).objs.size=some _:=Heap.get?_push_of_some _ (Heap.get?_push_of_some _ (Heap.get?_push_of_some _ (Heap.get?_push_size _ rfl)))
  have g1:(zH5TT s.heap l1 l2).get? s.heap.objs.size=some _:=Heap.get?_push_of_some _ (Heap.get?_push_of_some _ (Heap.get?_push_of_some _ (Heap.get?_push_of_some _ (Heap.get?_push_size _ rfl))))
  have kp:∀ c o,s.heap.get? c=some o->(zH5TT s.heap l1 l2).get? c=some o:=fun c o x =>
    Heap.get?_push_of_some _ (Heap.get?_push_of_some _ (Heap.get?_push_of_some _ (Heap.get?_push_of_some _ (Heap.get?_push_of_some _ x))))
  show _/\_
  rw [z2,z3,z4] at g5
  rw [z1,z2] at g3
  rw [z3] at g4
  rw [z1] at g2
  rw [z4]
  refine ⟨⟨_,g5,rfl⟩,h _ ⟨⟨_,_,g5,.inl rfl⟩,g3,⟨_,_,g4⟩,.inr ⟨⟨_,g1,rfl,rfl⟩,?_⟩,.inr ⟨⟨_,g2,rfl,rfl⟩,?_⟩⟩ z5 kp⟩
  · obtain ⟨o,ho,r⟩:=hl1; exact ⟨o,kp _ _ ho,r⟩
  · obtain ⟨o,ho,r⟩:=hl2; exact ⟨o,kp _ _ ho,r⟩
theorem call_zipG {l1 l2:Addr} {xs ys:Array Value} {Q:Value->Shared->Prop} (h1:s.heap.IsList l1 xs\/s.heap.IsTuple l1 xs) (h2:s.heap.IsList l2 ys\/s.heap.IsTuple l2 ys)
    (h:∀ h',Zs h' (s.heap.objs.size+4) (s.heap.objs.size+2) (s.heap.objs.size+3) s.heap.objs.size (s.heap.objs.size+1) l1 l2 0 xs ys->h'.objs.size=s.heap.objs.size+5 ->
      (∀ c o,s.heap.get? c=some o->h'.get? c=some o)->Q (.ref (s.heap.objs.size+4)) { s with heap:=h' }) :
    wpAny (model prog w) A (call (.type "zip") [.ref l1,.ref l2]) Q E s:=by
  rcases h1 with h1 | h1 <;> rcases h2 with h2 | h2
  · exact call_zipLL h1 h2 h
  · exact call_zipLT h1 h2 h
  · exact call_zipTL h1 h2 h
  · exact call_zipTT h1 h2 h
end
end ZP
namespace ZP
open PySem PySem.Spec PyProof.Rows
theorem zip_no_len:typeLookup (.type "zip") "__len__"=pure none:=by rw [typeLookup_type,builtinLookup_eq_fast]; kernel_rfl
theorem zip_no_hint:typeLookup (.type "zip") "__length_hint__"=pure none:=by rw [typeLookup_type,builtinLookup_eq_fast]; kernel_rfl
noncomputable def Prs (h:Heap) (z TO i1 i2 S:Addr) (acc:Array Value) (i:Nat) (xs ys:Array Value):Prop :=
  acc.size=i/\∀ j (hj:j < i),∃ T x y,acc[j]?=some (.ref T)/\xs[j]?=some x/\ys[j]?=some y/\IsPair h T x y/\T≠z/\T≠TO/\T≠i1/\T≠i2/\T≠S
section
variable {prog:Program} {w:World} {A:Around} {R:Result->Shared->Prop}
theorem zip_loop (hh:A.handled=none) {z TI TO i1 i2 l1 l2:Addr} (D:Ap z TI TO i1 i2 l1 l2) {xs ys:Array Value} {n:Nat} (hn:n=min xs.size ys.size) (hsz:n<=sizeLine) (S:Addr) (hSf:S∉[z,TI,TO,i1,i2,l1,l2]) (res:Value) :
    ∀ (k i:Nat) (s:Shared) (acc:Array Value) (c N0:Nat),n - i=k->i<=n->N0<=s.heap.objs.size->Zs s.heap z TI TO i1 i2 l1 l2 i xs ys->s.heap.get? S=some { cls:=.type "list",dict:=none,data:=.seq acc c,slots:=#[] }->Prs s.heap z TO i1 i2 S acc i xs ys ->
    (∀ (j:Nat) (v:Value),acc[j]?=some v->∃ T:Addr,v=Value.ref T/\N0<=T) ->
    (∀ h' acc' c',(∀ b o,b≠S->b≠z->b≠TO->b≠i1->b≠i2->s.heap.get? b=some o->h'.get? b=some o)->h'.get? S=some { cls:=.type "list",dict:=none,data:=.seq acc' c',slots:=#[] }->Prs h' z TO i1 i2 S acc' n xs ys ->
      (∀ (j:Nat) (v:Value),acc'[j]?=some v->∃ T:Addr,v=Value.ref T/\N0<=T)->R (.ok (.ret res)) { s with heap:=h' }) ->
    codeAny (model prog w) A (.builtin "list.extend.loop" ⟨[.ref S,.ref z,res],[]⟩) R s:=by
  simp only [List.mem_cons,List.not_mem_nil,or_false,not_or] at hSf
  obtain ⟨sz,sTI,sTO,s1,s2,sl1,sl2⟩:=hSf
  intro k
  induction k with
  | zero =>
    intro i s acc c N0 hk hi _ hst hS hacc hN hR
    have hin:i=n:=by omega
    subst hin
    refine codeAny_builtin F.entry_extend_loop ?_
    rw [Around.under_plainId F.plain_extend_loop _]
    show wpAny _ A.in1 (pyNext (.ref z) >>= _) _ _ s
    have hT:s.TypeIs (.ref z) "zip":=let ⟨f0,f1,hz,_⟩:=hst.z; ⟨_,hz,rfl⟩
    have hend:xs[i]?=none\/ys[i]?=none:=by
      rcases Nat.le_total xs.size ys.size with h | h
      · exact .inl (by rw [hn,Nat.min_eq_left h]; simp)
      · exact .inr (by rw [hn,Nat.min_eq_right h]; simp)
    refine wpAny_bind ?_
    unfold pyNext
    refine wpAny_bind (wpAny_attempt (wpAny_callSpecial?_slot (name:=Str.ofString "__next__") hT F.slot_zip_next
      (wpAny_call_entry F.slot_zip_next hT F.entry_zip_next (zip_next_end (A:=A.in1.in1) hh D hst hend fun h' e hk he=>?_) (F.args_zip_next_1 _))))
    obtain ⟨o,ho,hc⟩:=he
    refine wpAny_bind (wpAny_isInstance (T:="StopIteration") (b:=true) ⟨o,ho,hc⟩ isSubtype_stop ?_)
    refine wpAny_pure (wpAny_pure (hR h' acc c (fun b o b0 b1 b2 b3 b4 e=>hk b o b1 b2 b3 b4 e) (hk S _ sz sTO s1 s2 hS) ⟨hacc.1,fun j hj=>?_⟩ hN))
    obtain ⟨T,x,y,e1,e2,e3,e4,n1,n2,n3,n4,n5⟩:=hacc.2 j hj
    exact ⟨T,x,y,e1,e2,e3,hk T _ n1 n2 n3 n4 e4,n1,n2,n3,n4,n5⟩
  | succ k ih =>
    intro i s acc c N0 hk hi hN0 hst hS hacc hN hR
    have hlt:i < n:=by omega
    have hix:i < xs.size:=by have:=Nat.min_le_left xs.size ys.size; omega
    have hiy:i < ys.size:=by have:=Nat.min_le_right xs.size ys.size; omega
    refine codeAny_builtin F.entry_extend_loop ?_
    rw [Around.under_plainId F.plain_extend_loop _]
    show wpAny _ A.in1 (pyNext (.ref z) >>= _) _ _ s
    have hT:s.TypeIs (.ref z) "zip":=let ⟨f0,f1,hz,_⟩:=hst.z; ⟨_,hz,rfl⟩
    refine wpAny_bind ?_
    unfold pyNext
    refine wpAny_bind (wpAny_attempt (wpAny_callSpecial?_slot (name:=Str.ofString "__next__") hT F.slot_zip_next
      (wpAny_call_entry F.slot_zip_next hT F.entry_zip_next
        (zip_next_item D hst (Array.getElem?_eq_getElem hix) (Array.getElem?_eq_getElem hiy) fun h' T z' p' n' k'=>wpAny_pure ?_) (F.args_zip_next_1 _))))
    have hS':=k' S _ sz sTO s1 s2 hS
    show wpAny _ A.in1 (updateSeq S (·.push (.ref T)) >>= _) _ _ _
    refine wpAny_bind ?_
    have lt:∀ {c o},s.heap.get? c=some o->T≠c:=fun {c o} e=>Nat.ne_of_gt (Nat.lt_of_lt_of_le (Heap.lt_size e) n')
    have TS:T≠S:=lt hS
    obtain ⟨f0,f1,hz,hf⟩:=id hst.z
    obtain ⟨aa,bb,hTO⟩:=id hst.to
    have up:∀ b o,b≠S->h'.get? b=some o->(h'.update S (Obj.mapSeq fun x=>x.push (.ref T))).get? b=some o:=fun b o hb e=>(Heap.get?_update_other _ _ (Ne.symm hb)).trans e
    have Ti1:T≠i1:=Nat.ne_of_gt (Nat.lt_of_lt_of_le hst.a.lt n')
    have Ti2:T≠i2:=Nat.ne_of_gt (Nat.lt_of_lt_of_le hst.b.lt n')
    refine wpAny_updateSeq hS' rfl (wpAny_pure ⟨plainId_quiet F.plain_extend_loop _,ih (i+1) _ (acc.push (.ref T)) _ N0 (by omega) hlt ?_ ?_ (Heap.get?_update_self _ hS' rfl) ?_ ?_ fun h'' acc' c' hk'' hS'' hacc' hN'=>?_⟩)
      (by rw [hacc.1]; omega) (by show (acc.push (.ref T)).size<=sizeLine+1; rw [Array.size_push,hacc.1]; omega)
    · show N0<=(h'.update S _).objs.size
      have:h'.objs.size=(h'.update S (Obj.mapSeq fun x=>x.push (.ref T))).objs.size:=by simp [Heap.update]
      rw [<- this]
      exact Nat.le_trans hN0 (Nat.le_trans n' (Nat.le_of_lt (Heap.lt_size p')))
    · obtain ⟨⟨g0,g1,gz,gf⟩,gTI,⟨ga,gb,gTO⟩,g1',g2'⟩:=z'
      exact ⟨⟨g0,g1,up _ _ (Ne.symm sz) gz,gf⟩,up _ _ (Ne.symm sTI) gTI,⟨ga,gb,up _ _ (Ne.symm sTO) gTO⟩,g1'.at (fun o e=>up _ o (Ne.symm s1) e) fun o e=>up _ o (Ne.symm sl1) e,g2'.at (fun o e=>up _ o (Ne.symm s2) e) fun o e=>up _ o (Ne.symm sl2) e⟩
    · refine ⟨by rw [Array.size_push,hacc.1],fun j hj=>?_⟩
      by_cases hj':j < i
      · obtain ⟨T',x,y,e1,e2,e3,e4,m1,m2,m3,m4,m5⟩:=hacc.2 j hj'
        refine ⟨T',x,y,?_,e2,e3,up _ _ m5 (k' _ _ m1 m2 m3 m4 e4),m1,m2,m3,m4,m5⟩
        rw [Array.getElem?_push,if_neg (by rw [hacc.1]; omega)]; exact e1
      · have:j=i:=by omega
        subst this
        refine ⟨T,xs[j],ys[j],?_,Array.getElem?_eq_getElem hix,Array.getElem?_eq_getElem hiy,up _ _ TS p',lt hz,lt hTO,Ti1,Ti2,TS⟩
        rw [Array.getElem?_push,if_pos (by rw [hacc.1])]
    · intro j v hv
      rw [Array.getElem?_push] at hv
      split at hv
      · cases hv; exact ⟨T,rfl,Nat.le_trans hN0 n'⟩
      · exact hN j v hv
    · exact hR h'' acc' c' (fun b o b0 b1 b2 b3 b4 e=>hk'' b o b0 b1 b2 b3 b4 (up b o b0 (k' b o b1 b2 b3 b4 e))) hS'' hacc' hN'
variable {E:Value->Shared->Prop} {s:Shared}
theorem ap_of {n l1 l2:Nat} (h1:l1 < n) (h2:l2 < n):Ap (n+4) (n+2) (n+3) n (n+1) l1 l2:=by
  constructor <;> (show (_:Nat)≠(_:Nat); omega)
theorem call_listzip {z TI TO i1 i2 l1 l2:Addr} {xs ys:Array Value} {Q:Value->Shared->Prop} (hh:A.handled=none) (D:Ap z TI TO i1 i2 l1 l2) (Z:Zs s.heap z TI TO i1 i2 l1 l2 0 xs ys) (hn:min xs.size ys.size<=sizeLine)
    (hQ:∀ h' acc' c',(∀ b o,b≠z->b≠TO->b≠i1->b≠i2->s.heap.get? b=some o->h'.get? b=some o)->h'.get? s.heap.objs.size=some { cls:=.type "list",dict:=none,data:=.seq acc' c',slots:=#[] } ->
      Prs h' z TO i1 i2 s.heap.objs.size acc' (min xs.size ys.size) xs ys->(∀ (j:Nat) (v:Value),acc'[j]?=some v->∃ T:Addr,v=Value.ref T/\s.heap.objs.size+1<=T)->Q (.ref s.heap.objs.size) { s with heap:=h' }) :
    wpAny (model prog w) A (call (.type "list") [.ref z]) Q E s:=by
  refine callType_codes (Q₁:=fun obj s₁=>obj=.ref s.heap.objs.size/\s₁={ s with heap:=s.heap.push { cls:=.type "list",data:=.seq #[] } }) F.called_list (F.typeCall_list_1 _) F.entry_list_init
    (code_list_new _ ⟨rfl,rfl⟩) fun obj s₁ h₁=>?_
  obtain ⟨rfl,rfl⟩:=h₁
  have hS:(s.heap.push { cls:=.type "list",data:=.seq #[] }).get? s.heap.objs.size=some { cls:=.type "list",data:=.seq #[] }:=Heap.get?_push_size _ rfl
  obtain ⟨f0,f1,hz,hf⟩:=id Z.z
  obtain ⟨ta,tb,hTO⟩:=id Z.to
  have l1lt:l1 < s.heap.objs.size:=by rcases Z.a with ⟨_,o,e,_⟩ | ⟨_,o,e,_⟩ <;> exact Heap.lt_size e
  have l2lt:l2 < s.heap.objs.size:=by rcases Z.b with ⟨_,o,e,_⟩ | ⟨_,o,e,_⟩ <;> exact Heap.lt_size e
  have hSf:s.heap.objs.size∉[z,TI,TO,i1,i2,l1,l2]:=by
    simp only [List.mem_cons,List.not_mem_nil,or_false,not_or]
    exact ⟨Nat.ne_of_gt (Heap.lt_size hz),Nat.ne_of_gt (Heap.lt_size Z.ti),Nat.ne_of_gt (Heap.lt_size hTO),Nat.ne_of_gt Z.a.lt,Nat.ne_of_gt Z.b.lt,Nat.ne_of_gt l1lt,Nat.ne_of_gt l2lt⟩
  have hSz:s.heap.objs.size≠z:=Nat.ne_of_gt (Heap.lt_size hz)
  refine ⟨⟨_,hS,rfl⟩,F.args_list_init_2 _ _,?_⟩
  show wpAny _ A.in1.in1 (do let old <- Builtin.List.listItems (.ref s.heap.objs.size); Builtin.List.listUpdate (.ref s.heap.objs.size) (fun _=>#[]); letGo old.toList.reverse; Builtin.List.listExtendWith (.ref s.heap.objs.size) (.ref z) .none) _ _ _
  refine wpAny_bind ?_
  unfold Builtin.List.listItems
  refine wpAny_bind (wpAny_seqItems hS rfl (wpAny_pure ?_))
  show wpAny _ _ (updateSeq s.heap.objs.size (fun _=>#[]) >>= fun _=>letGo (#[]:Array Value).toList.reverse >>= fun _=>Builtin.List.listExtendWith (.ref s.heap.objs.size) (.ref z) .none) _ _ _
  refine wpAny_bind (wpAny_updateSeq hS rfl ?_)
  have hS₂:=Heap.get?_update_self (Obj.mapSeq (fun _=>(#[]:Array Value))) hS rfl
  refine wpAny_bind (wpAny_letGo ?_)
  have kp:∀ b o,b≠s.heap.objs.size->s.heap.get? b=some o->((s.heap.push { cls:=.type "list",data:=.seq #[] }).update s.heap.objs.size (Obj.mapSeq (fun _=>(#[]:Array Value)))).get? b=some o :=
    fun b o hb e=>(Heap.get?_update_other _ _ (Ne.symm hb)).trans (Heap.get?_push_of_some _ e)
  have mv:∀ h',(∀ b o,b≠s.heap.objs.size->s.heap.get? b=some o->h'.get? b=some o)->Zs h' z TI TO i1 i2 l1 l2 0 xs ys:=fun h' k=>by
    refine ⟨⟨f0,f1,k _ _ hSz.symm hz,hf⟩,k _ _ (Nat.ne_of_lt (Heap.lt_size Z.ti)) Z.ti,⟨ta,tb,k _ _ (Nat.ne_of_lt (Heap.lt_size hTO)) hTO⟩,Z.a.at (fun o e=>k _ o (Nat.ne_of_lt Z.a.lt) e) fun o e=>k _ o (Nat.ne_of_lt l1lt) e,Z.b.at (fun o e=>k _ o (Nat.ne_of_lt Z.b.lt) e) fun o e=>k _ o (Nat.ne_of_lt l2lt) e⟩
  unfold Builtin.List.listExtendWith
  refine wpAny_bind (wpAny_typeOf (T:="zip") ⟨_,kp z _ hSz.symm hz,rfl⟩ ?_)
  have e1:Builtin.List.listSameRef (.ref s.heap.objs.size) (.ref z)=false:=by simp [Builtin.List.listSameRef,hSz]
  have e2:(Value.type "zip"==Value.type "list")=false:=by decide
  have e3:(Value.type "zip"==Value.type "tuple")=false:=by decide
  simp only [e1,e2,e3,Bool.or_false,Bool.false_eq_true,if_false]
  refine wpAny_bind ((walksZip (A:=A.in1.in1) hh z TI TO i1 i2 l1 l2 D xs ys).self 0 _ _ _ (mv _ kp) ?_)
  refine wpAny_bind (wpAny_holding ?_)
  unfold Builtin.List.listLengthHint
  refine wpAny_bind (wpAny_specialOf (T:="zip") ⟨_,kp z _ hSz.symm hz,rfl⟩ zip_no_len ?_)
  show wpAny _ _ (specialOf (Value.ref z) (Str.ofString "__length_hint__") >>= _) _ _ _
  refine wpAny_bind (wpAny_specialOf (T:="zip") ⟨_,kp z _ hSz.symm hz,rfl⟩ zip_no_hint ?_)
  refine wpAny_pure ?_
  show wpAny _ _ (rule "list.extend.makes-room" >>= fun _=>Builtin.List.listTouch (.ref s.heap.objs.size) >>= fun _ =>
    again (.builtin "list.extend.loop" ⟨[.ref s.heap.objs.size,.ref z,.none],[]⟩)) _ _ _
  refine wpAny_bind (wpAny_rule ?_)
  refine wpAny_bind ?_
  show wpAny _ _ (updateSeq s.heap.objs.size (·.push .none) >>= fun _=>updateSeq s.heap.objs.size (·.pop)) _ _ _
  refine wpAny_bind (wpAny_updateSeq hS₂ rfl ?_)
  have hS₃:=Heap.get?_update_self (Obj.mapSeq (·.push Value.none)) hS₂ rfl
  refine wpAny_updateSeq (hz:=by seq_fits) hS₃ rfl ?_
  have hS₄:=Heap.get?_update_self (Obj.mapSeq (·.pop)) hS₃ rfl
  have kp2:∀ b o,b≠s.heap.objs.size->s.heap.get? b=some o->((((s.heap.push { cls:=.type "list",data:=.seq #[] }).update s.heap.objs.size (Obj.mapSeq (fun _=>(#[]:Array Value)))).update s.heap.objs.size (Obj.mapSeq (·.push Value.none))).update s.heap.objs.size (Obj.mapSeq (·.pop))).get? b=some o :=
    fun b o hb e=>(Heap.get?_update_other _ _ (Ne.symm hb)).trans ((Heap.get?_update_other _ _ (Ne.symm hb)).trans (kp b o hb e))
  refine wpAny_pure ⟨plainId_quiet F.plain_extend_loop _,zip_loop (A:=A.in1) hh D rfl hn s.heap.objs.size hSf .none (min xs.size ys.size) 0 _ _ _ (s.heap.objs.size+1) (by omega) (Nat.zero_le _) ?_ (mv _ kp2) hS₄ ⟨rfl,fun j hj=>absurd hj (Nat.not_lt_zero _)⟩ (fun j v h=>by simp at h) fun h' acc' c' hk hS' hacc hN=>?_⟩
  · exact Heap.lt_size hS₄
  · exact ⟨rfl,hQ h' acc' c' (fun b o b1 b2 b3 b4 e=>hk b o (Nat.ne_of_lt (Heap.lt_size e)) b1 b2 b3 b4 (kp2 b o (Nat.ne_of_lt (Heap.lt_size e)) e)) hS' hacc hN⟩
end
end ZP
namespace EV
open PySem PySem.Spec PyProof.Rows L2
section
variable {X:Cx} {pins:List (Addr×Obj)} {σ:L2.St} {H H':Hp} {s:Shared} {h':Heap}
theorem inv_lays {t':Nat} (I:Inv X pins σ H s) (k:∀ b u,s.heap.get? b=some u->h'.get? b=some u) (old:∀ b o,H b=some o->H' b=some o) (new:∀ b o,H' b=some o->H b=none->s.heap.objs.size<=b)
    (hok:HOk X.prog X.w H' h'):Inv X pins σ H' { s with heap:=h',toks:=t' }:=by
  refine I.un ⟨fun b u q _ _ _=>k b u q,fun b u q _ _ _=>⟨u.slots,k b u q⟩,fun b u q n _=>?_,fun b u q _=>⟨u,k b u q⟩,fun b xs q=>old b _ q,fun b o u q=>old b _ q,fun b ps q=>⟨#[],by rw [old b _ q]; simp⟩⟩ hok
  cases e:H' b with
  | none=>rfl
  | some o=>exact absurd (Heap.lt_size q) (Nat.not_lt.mpr (new b o e n))
end
noncomputable def rZip (K:PySem.W.Frag):R2:=fun x y H Q=>∃ a b xs ys,x=.ref a/\y=.ref b/\(SqL K H a xs\/SqT K H a xs)/\(SqL K H b ys\/SqT K H b ys) /\
  ∀ (H':Hp) (p:Addr) (Ts:List Addr),(∀ b o,H b=some o->H' b=some o)->H p=none->H' p=some (.lst (Ts.map V.ref))->Ts.length=min xs.length ys.length ->
    (∀ (j:Nat) (T:Addr) (x y:V),Ts[j]?=some T->xs[j]?=some x->ys[j]?=some y->H' T=some (.tup [x,y]))->Q (.ref p) H'
section
variable {X:Cx} {K:PySem.W.Frag} {Z:Zt} {a b:Expr} {fa fb:FE} {ta tb:TE} {p q pos pos2:Pos}
theorem seq_of {pins:List (Addr×Obj)} {σ:L2.St} {H:Hp} {s:Shared} {a:Addr} {xs:List V} (I:Inv X pins σ H s) (h:SqL X.K H a xs\/SqT X.K H a xs):∃ its:List Value,Vals xs its/\(s.heap.IsList a its.toArray\/s.heap.IsTuple a its.toArray)/\xs.length<=sizeLine:=by
  rcases h with h | h
  · obtain ⟨its,r,pl,hz⟩:=I.list h; exact ⟨its,r,.inl pl.isList,hz⟩
  · obtain ⟨its,r,pl,hz⟩:=I.tuple h; exact ⟨its,r,.inr pl,hz⟩
theorem pe_listzip (hc:X.calm=true) (h1:X.mg "list"=none) (h2:X.mg "zip"=none) (ha:PE X a ta) (hb:PE X b tb) (g1:Gl X "list":=by rfl) (g2:Gl X "zip":=by rfl)
    (hs:starEach [.Call (.Name "zip" q) [a,b] [] pos2] X.env=(false,eval (.Call (.Name "zip" q) [a,b] [] pos2) X.env)::starEach [] X.env:=by rfl) (hpl:(backTo pos (starEach [] X.env)).any (·.1)=false:=by rfl)
    (hs2:starEach [a,b] X.env=(false,eval a X.env)::starEach [b] X.env:=by rfl) (hs3:starEach [b] X.env=(false,eval b X.env)::starEach [] X.env:=by rfl) (hpl2:(backTo pos2 (starEach [b] X.env)).any (·.1)=false:=by rfl) :
    PE X (.Call (.Name "list" p) [.Call (.Name "zip" q) [a,b] [] pos2] [] pos) (tOp (rZip X.K) ta tb):=by
  intro pins s σ H Q I h
  refine wpAny_Call_Name_kw (ld_blt I g1 h1 bt_list ?_)
  refine PyProof.Rows.callWith_type1 ?_ hs hpl
  rw [hs]
  show wpAny _ _ (spliced ((false,eval (.Call (.Name "zip" q) [a,b] [] pos2) X.env)::backTo pos (starEach [] X.env))) _ _ s
  refine Calls.spliced_cons ?_
  refine wpAny_Call_Name_kw (ld_blt I g2 h2 bt_zip ?_)
  refine PyProof.Rows.callWith_type1 (thn (pa_cons ha (pa_cons hb pa_nil hs3) hs2 pos2 pins s σ H (fun vs H2=>match vs with | [x,y]=>rZip X.K x y H2 Q | _=>False) I h) fun us s1 ⟨vs,H1,I1,r1,hr⟩=>?_) hs2 hpl2
  match vs,r1,hr with
  | [],_,hr=>exact hr.elim
  | [_],_,hr=>exact hr.elim
  | _::_::_::_,_,hr=>exact hr.elim
  | [x,y],r1,hr =>
  obtain ⟨u1,u2,rfl,rx,ry⟩:=r1.two
  obtain ⟨aa,bb,xs,ys,rfl,rfl,sx,sy,hq⟩:=hr
  cases rx
  cases ry
  obtain ⟨its,q1,p1,z1⟩:=seq_of I1 sx
  obtain ⟨its2,q2,p2,z2⟩:=seq_of I1 sy
  have hl1:aa < s1.heap.objs.size:=by rcases p1 with ⟨o,e,_⟩ | ⟨o,e,_⟩ <;> exact Heap.lt_size e
  have hl2:bb < s1.heap.objs.size:=by rcases p2 with ⟨o,e,_⟩ | ⟨o,e,_⟩ <;> exact Heap.lt_size e
  have hsA:its.toArray.size=xs.length:=by simp [q1.length]
  have hsB:its2.toArray.size=ys.length:=by simp [q2.length]
  refine ZP.call_zipG p1 p2 fun h1 Zs1 hsz kp=>?_
  refine Calls.spliced_nil ?_
  refine ZP.call_listzip (I1.ok.hd hc) (ZP.ap_of hl1 hl2) Zs1 (by rw [hsA,hsB]; omega) fun h2 acc c kp2 hS hacc hN=>?_
  have kp3:∀ b o,s1.heap.get? b=some o->h2.get? b=some o:=fun b o e=>by
    have:(b:Nat) < s1.heap.objs.size:=Heap.lt_size e
    exact kp2 b o (Nat.ne_of_lt (Nat.lt_add_right 4 this)) (Nat.ne_of_lt (Nat.lt_add_right 3 this)) (Nat.ne_of_lt this) (Nat.ne_of_lt (Nat.lt_add_right 1 this)) (kp b o e)
  -- the pairs' addresses
  have hT:∀ j:Nat,j < acc.size->∃ T:Addr,acc[j]?=some (.ref T):=fun j hj=>by
    obtain ⟨T,_,_,e,_⟩:=hacc.2 j (by rw [<- hacc.1]; exact hj)
    exact ⟨T,e⟩
  obtain ⟨Ts,hTs⟩:∃ Ts:List Addr,acc.toList=Ts.map Value.ref:=by
    have:∀ l:List Value,(∀ j:Nat,j < l.length->∃ T:Addr,l[j]?=some (.ref T))->∃ Ts:List Addr,l=Ts.map Value.ref:=by
      intro l
      induction l with
      | nil=>exact fun _=>⟨[],rfl⟩
      | cons v r ih =>
        intro hh
        obtain ⟨T,e⟩:=hh 0 (by simp)
        obtain ⟨Ts,e2⟩:=ih fun j hj=>by have:=hh (j+1) (by simpa using hj); simpa using this
        exact ⟨T::Ts,by simp at e; rw [e,e2]; rfl⟩
    exact this acc.toList fun j hj=>by obtain ⟨T,e⟩:=hT j (by simpa using hj); exact ⟨T,by simpa using e⟩
  have hlen:Ts.length=min xs.length ys.length:=by
    have:=congrArg List.length hTs
    rw [List.length_map] at this
    rw [<- this,Array.length_toList,hacc.1,hsA,hsB]
  have hat:∀ (j:Nat) (T:Addr),Ts[j]?=some T->acc[j]?=some (.ref T):=fun j T e=>by
    rw [<- Array.getElem?_toList,hTs,List.getElem?_map,e]; rfl
  have hfr:∀ (j:Nat) (T:Addr),Ts[j]?=some T->h1.objs.size+1<=T:=fun j T e=>by
    obtain ⟨T',e',l⟩:=hN j _ (hat j T e)
    cases e'; exact l
  have hpr:∀ (j:Nat) (T:Addr) (x y:V),Ts[j]?=some T->xs[j]?=some x->ys[j]?=some y->∃ u v,RelV x u/\RelV y v/\IsPair h2 T u v:=fun j T x y e ex ey=>by
    obtain ⟨u,qu,ru⟩:=q1.get ex
    obtain ⟨v,qv,rv⟩:=q2.get ey
    have hj:j < min its.toArray.size its2.toArray.size:=by
      have h1:=(List.getElem?_eq_some_iff.mp ex).1
      have h2:=(List.getElem?_eq_some_iff.mp ey).1
      omega
    obtain ⟨T',x',y',e1,e2,e3,e4,_⟩:=hacc.2 j hj
    rw [hat j T e] at e1; cases e1
    have f2:its[j]?=some x':=by simpa using e2
    have f3:its2[j]?=some y':=by simpa using e3
    rw [qu] at f2; rw [qv] at f3
    cases f2; cases f3
    exact ⟨u,v,ru,rv,e4⟩
  -- what is tracked
  let Pr:Addr->V×V->Prop:=fun b xy=>∃ j:Nat,Ts[j]?=some b/\xs[j]?=some xy.1/\ys[j]?=some xy.2
  have Pru:∀ b xy xy',Pr b xy->Pr b xy'->xy=xy':=by
    rintro b ⟨x,y⟩ ⟨x',y'⟩ ⟨j,e1,e2,e3⟩ ⟨j',e1',e2',e3'⟩
    obtain ⟨u,v,ru,rv,ip⟩:=hpr j b x y e1 e2 e3
    obtain ⟨u',v',ru',rv',ip'⟩:=hpr j' b x' y' e1' e2' e3'
    have ip2:=(show h2.get? b=some _ from ip).symm.trans (show h2.get? b=some _ from ip')
    simp at ip2
    obtain ⟨rfl,rfl⟩:=ip2
    rw [ru.inj ru',rv.inj rv']
  have sS:s1.heap.objs.size<=h1.objs.size:=by rw [hsz]; omega
  have Sfr:H1 h1.objs.size=none:=I1.hok.fresh sS
  have Tfr:∀ b xy,Pr b xy->s1.heap.objs.size<=b/\H1 b=none/\b≠h1.objs.size:=fun b xy ⟨j,e,_⟩=>by
    have:=hfr j b e
    have l:s1.heap.objs.size<=b:=Nat.le_trans sS (Nat.le_of_succ_le this)
    exact ⟨l,I1.hok.fresh l,Nat.ne_of_gt this⟩
  classical
  let H':Hp:=fun b=>if b=h1.objs.size then some (.lst (Ts.map V.ref)) else if hh:∃ xy,Pr b xy then some (.tup [hh.choose.1,hh.choose.2]) else H1 b
  have HS:H' h1.objs.size=some (.lst (Ts.map V.ref)):=if_pos rfl
  have HT:∀ b xy,Pr b xy->H' b=some (.tup [xy.1,xy.2]):=fun b xy hp=>by
    show (if b=h1.objs.size then _ else _)=_
    rw [if_neg (Tfr b xy hp).2.2,dif_pos ⟨xy,hp⟩]
    have hx:∃ xy,Pr b xy:=⟨xy,hp⟩
    rw [Pru b _ _ hx.choose_spec hp]
  have Hold:∀ b o,H1 b=some o->H' b=some o:=fun b o e=>by
    show (if b=h1.objs.size then _ else _)=_
    rw [if_neg (fun z=>by rw [z,Sfr] at e; cases e),dif_neg (fun ⟨xy,hp⟩=>by rw [(Tfr b xy hp).2.1] at e; cases e)]
    exact e
  have Hcase:∀ b o,H' b=some o->(b=h1.objs.size/\o=.lst (Ts.map V.ref))\/(∃ xy,Pr b xy/\o=.tup [xy.1,xy.2])\/H1 b=some o:=fun b o e=>by
    by_cases hb:b=h1.objs.size
    · subst hb; rw [HS] at e; cases e; exact .inl ⟨rfl,rfl⟩
    · by_cases hx:∃ xy,Pr b xy
      · obtain ⟨xy,hp⟩:=hx
        rw [HT b xy hp] at e; cases e
        exact .inr (.inl ⟨xy,hp,rfl⟩)
      · have:H' b=H1 b:=by
          show (if b=h1.objs.size then _ else _)=_
          rw [if_neg hb,dif_neg hx]
        rw [this] at e; exact .inr (.inr e)
  refine ⟨.ref h1.objs.size,H',?_,rfl,hq H' h1.objs.size Ts Hold Sfr HS hlen fun j T x y e ex ey=>HT T (x,y) ⟨j,e,ex,ey⟩⟩
  have fin:Inv X pins σ H' { s1 with heap:=h2,toks:=s1.toks }:=by
   refine inv_lays (s:=s1) (h':=h2) (t':=s1.toks) I1 kp3 Hold (fun b o e n=>?_) fun b o e=>?_
   · rcases Hcase b o e with ⟨rfl,_⟩ | ⟨xy,hp,_⟩ | e'
     · exact sS
     · exact (Tfr b xy hp).1
     · rw [n] at e'; cases e'
   · rcases Hcase b o e with ⟨rfl,rfl⟩ | ⟨xy,hp,rfl⟩ | e'
     · refine ⟨by rw [List.length_map,hlen]; omega,Ts.map Value.ref,c,?_,?_⟩
       · clear hTs hlen hat hfr hpr Pru Tfr HS HT Hold Hcase e H' Pr
         induction Ts with
         | nil=>exact .nil
         | cons T r ih=>exact .cons rfl ih
       · rw [hS,<- hTs]
     · obtain ⟨j,e1,e2,e3⟩:=hp
       obtain ⟨u,v,ru,rv,ip⟩:=hpr j b xy.1 xy.2 e1 e2 e3
       exact ⟨by rw [sizeLine_eq]; show 2<=16777216; decide,[u,v],.cons ru (.cons rv .nil),⟨_,ip,rfl,_,rfl⟩⟩
     · exact (I1.hok b o e').stay (fun c u _ q=>kp3 c u q) (fun c q=>Hold c _ q) fun c xs q=>Hold c _ q
  exact fin
noncomputable def zipT (xs ys:List D):List D:=(xs.zip ys).map fun p=>.tup [p.1,p.2]
noncomputable def pZip (x y:W) (M:Mm):Oc W:=match sv M x,sv M y with
  | some xs,some ys=>okD (.lst (zipT xs ys)) M
  | _,_=>.bad
theorem op2_zip:Op2 K Z (rZip K) pZip:=by
  intro μ H M x y v u Q hr rx ry p
  unfold pZip at p
  cases q1:sv M x with
  | none=>rw [q1] at p; exact p.elim
  | some xs =>
    cases q2:sv M y with
    | none=>rw [q1,q2] at p; exact p.elim
    | some ys =>
      rw [q1,q2] at p
      obtain ⟨a,vs,rfl,h1,r1⟩:=sv_at hr rx q1
      obtain ⟨b,us,rfl,h2,r2⟩:=sv_at hr ry q2
      refine ⟨a,b,vs,us,rfl,rfl,h1,h2,fun H' q Ts old hq hS hl hT=>?_⟩
      have ex:Ext μ H μ H':=⟨fun a o _ h=>old a o h,fun a h=>.inl h,fun _ _ h=>h⟩
      have hr':HR K μ H' M:=⟨hr.len,hr.nd,fun i a ds e1 e2=>by
        obtain ⟨vs,e3,e4⟩:=hr.ent i a ds e1 e2
        exact ⟨vs,old _ _ e3,Rps.ext hr.lsts ex _ _ e4⟩⟩
      refine p μ H' ex hr' _ ?_
      simp only [Rw,Rp]
      refine ⟨q,Ts.map V.ref,rfl,hS,hr.out hq,?_⟩
      have r1':=Rps.ext hr.lsts ex _ _ r1
      have r2':=Rps.ext hr.lsts ex _ _ r2
      clear p q1 q2 rx ry h1 h2 hS hq r1 r2
      unfold zipT
      induction Ts generalizing xs ys vs us with
      | nil =>
        have:(xs.zip ys).length=0:=by rw [List.length_zip,r1'.length,r2'.length,<- hl]; rfl
        rw [List.length_eq_zero_iff.mp this]
        exact .nil
      | cons T r ih =>
        cases xs with
        | nil=>simp only [Rps] at r1'; subst r1'; simp at hl
        | cons x xs =>
          cases ys with
          | nil=>simp only [Rps] at r2'; subst r2'; simp at hl
          | cons y ys =>
            simp only [Rps] at r1' r2'
            obtain ⟨v,vr,rfl,e1,t1⟩:=r1'
            obtain ⟨u,ur,rfl,e2,t2⟩:=r2'
            refine .cons ?_ (ih xs ys vr ur (by simpa using hl) (fun j T x y a b c=>hT (j+1) T x y (by simpa using a) (by simpa using b) (by simpa using c)) t1 t2)
            simp only [Rp]
            exact ⟨T,[v,u],rfl,hT 0 T v u rfl rfl rfl,.cons e1 (.cons e2 .nil)⟩
theorem ev_listzip (hc:X.calm=true) (h1:X.mg "list"=none) (h2:X.mg "zip"=none) (ha:Ev X K Z a fa) (hb:Ev X K Z b fb) (g1:Gl X "list":=by rfl) (g2:Gl X "zip":=by rfl)
    (hs:starEach [.Call (.Name "zip" q) [a,b] [] pos2] X.env=(false,eval (.Call (.Name "zip" q) [a,b] [] pos2) X.env)::starEach [] X.env:=by rfl) (hpl:(backTo pos (starEach [] X.env)).any (·.1)=false:=by rfl)
    (hs2:starEach [a,b] X.env=(false,eval a X.env)::starEach [b] X.env:=by rfl) (hs3:starEach [b] X.env=(false,eval b X.env)::starEach [] X.env:=by rfl) (hpl2:(backTo pos2 (starEach [b] X.env)).any (·.1)=false:=by rfl) :
    Ev X K Z (.Call (.Name "list" p) [.Call (.Name "zip" q) [a,b] [] pos2] [] pos) (e2 pZip fa fb):=by
  have h:=pe_listzip (p:=p) (q:=q) (pos:=pos) (pos2:=pos2) hc h1 h2 ha.h hb.h g1 g2 hs hpl hs2 hs3 hpl2
  rw [ha.k] at h
  exact ⟨ha.k,cqE h (lift2 op2_zip)⟩
end
end EV
namespace RT
open PySem PySem.Spec PyProof.Rows
end RT
namespace RT
open PySem PySem.Spec PyProof.Rows
section
variable {prog:Program} {w:World} {A:Around} {E:Value->Shared->Prop} {s:Shared}
noncomputable def IsRvT (h:Heap) (a l:Addr) (i:Int):Prop:=∃ o,h.get? a=some o/\o.cls=.type "reversed"/\o.data=.fields #[.ref l,rawInt i]
theorem IsRvT.typeIs {a l:Addr} {i:Int} (x:IsRvT s.heap a l i):s.TypeIs (.ref a) "reversed":=let ⟨o,ho,hc,_⟩:=x; ⟨o,ho,hc⟩
theorem IsRvT.at {h h':Heap} {a l:Addr} {i:Int} (x:IsRvT h a l i) (e:∀ o,h.get? a=some o->h'.get? a=some o):IsRvT h' a l i:=let ⟨o,ho,r⟩:=x; ⟨o,e _ ho,r⟩
end
end RT
namespace L2
open PySem PySem.Spec PyProof.Rows
end L2
namespace EV
open PySem PySem.Spec PyProof.Rows L2
section
variable {X:Cx} {K:PySem.W.Frag} {Z:Zt} {μ:List Addr} {H:Hp} {M:Mm} {a:Expr} {pos:Pos} {f:FE} {tg:Expr}
end
end EV
namespace EV
open PySem PySem.Spec PyProof.Rows L2
section
variable {X:Cx} {K:PySem.W.Frag} {Z:Zt} {μ:List Addr} {H:Hp} {M:Mm} {a:Expr} {pos pos2:Pos} {f:FE}
noncomputable def rInts (n:Nat):List Int:=(List.range n).map fun k=>(0:Int)+(k:Nat)
theorem vals_ints {n:Nat} {acc:Array Value} (h:ItemsOf (fun i v=>∃ t,v=.int ((0:Int)+i*1) t) acc n):Vals ((rInts n).map V.int) acc.toList:=by
  have key:∀ (l:List Value) (k:Nat),(∀ j v,l[j]?=some v->∃ t,v=Value.int ((0:Int)+((k+j:Nat):Int)) t)->Vals ((List.range' k l.length).map fun i=>V.int ((0:Int)+(i:Nat))) l:=by
    intro l
    induction l with
    | nil=>intro k _; exact .nil
    | cons x r ih =>
      intro k hk
      rw [List.length_cons,List.range'_succ,List.map_cons]
      refine .cons ?_ (ih (k+1) fun j v e=>?_)
      · obtain ⟨t,e⟩:=hk 0 x rfl
        exact ⟨t,by simpa using e⟩
      · obtain ⟨t,e'⟩:=hk (j+1) v (by simpa using e)
        exact ⟨t,by rw [e']; congr 2; omega⟩
  have hl:acc.toList.length=n:=h.1
  have:=key acc.toList 0 fun j v e=>by
    obtain ⟨t,e'⟩:=h.2 j v (by simpa using e)
    exact ⟨t,by rw [e']; first | rfl | (congr 1 <;> omega)⟩
  rw [hl] at this
  unfold rInts
  rw [List.map_map,List.range_eq_range']
  exact this
theorem boot_range':bootBuiltins "range"=some (.type "range"):=by first | rfl | kernel_rfl
end
end EV
namespace EV
open PySem L2
@[irreducible] noncomputable def Okx {α:Type} (EX:D->Mm->Prop) (o:Oc α) (Q:α->Mm->Prop):Prop:=match o with
  | .ok a M=>Q a M
  | .ex x M=>EX x M
  | .bad=>False
noncomputable abbrev NX:D->Mm->Prop:=fun _ _=>False
noncomputable abbrev Ok {α:Type} (o:Oc α) (Q:α->Mm->Prop):Prop:=Okx NX o Q
section
variable {α β:Type} {EX EX':D->Mm->Prop} {o o':Oc α} {Q Q':α->Mm->Prop} {a:α} {M:Mm}
theorem Okx_def:Okx EX o Q ↔ (∃ a M,o=.ok a M/\Q a M)\/∃ x M,o=.ex x M/\EX x M:=by
  unfold Okx
  cases o with
  | ok a M=>exact ⟨fun h=>.inl ⟨a,M,rfl,h⟩,fun h=>by rcases h with ⟨_,_,e,q⟩ | ⟨_,_,e,q⟩ <;> cases e; exact q⟩
  | ex x M=>exact ⟨fun h=>.inr ⟨x,M,rfl,h⟩,fun h=>by rcases h with ⟨_,_,e,q⟩ | ⟨_,_,e,q⟩ <;> cases e; exact q⟩
  | bad=>exact ⟨fun h=>h.elim,fun h=>by rcases h with ⟨_,_,e,q⟩ | ⟨_,_,e,q⟩ <;> cases e⟩
theorem Ok_def:Ok o Q ↔ ∃ a M,o=.ok a M/\Q a M:=by
  refine Iff.trans (Okx_def (EX:=NX)) ⟨fun h=>?_,.inl⟩
  rcases h with h | ⟨_,_,_,q⟩
  · exact h
  · exact q.elim
theorem ok_ok (q:Q a M):Okx EX (.ok a M) Q:=Okx_def.mpr (.inl ⟨a,M,rfl,q⟩)
theorem ok_raise {x:D} (q:EX x M):Okx EX (.ex x M:Oc α) Q:=Okx_def.mpr (.inr ⟨x,M,rfl,q⟩)
theorem ok_bind {k:α->Mm->Oc β} {Q:β->Mm->Prop} (h:Okx EX o fun a M=>Okx EX (k a M) Q):Okx EX (o.bind k) Q:=by
  rcases Okx_def.mp h with ⟨a,M,rfl,q⟩ | ⟨x,M,rfl,q⟩
  · exact q
  · exact ok_raise q
theorem Okx.mono (h:Okx EX o Q) (f:∀ a M,Q a M->Q' a M):Okx EX o Q':=by
  rcases Okx_def.mp h with ⟨a,M,rfl,q⟩ | ⟨x,M,rfl,q⟩
  · exact ok_ok (f _ _ q)
  · exact ok_raise q
theorem Okx.monoX (h:Okx EX o Q) (f:∀ a M,Q a M->Q' a M) (g:∀ x M,EX x M->EX' x M):Okx EX' o Q':=by
  rcases Okx_def.mp h with ⟨a,M,rfl,q⟩ | ⟨x,M,rfl,q⟩
  · exact ok_ok (f _ _ q)
  · exact ok_raise (g _ _ q)
theorem Ok.mono (h:Ok o Q) (f:∀ a M,Q a M->Q' a M):Okx EX o Q':=Okx.monoX h f fun _ _ z=>z.elim
theorem Okx.eq (h:Okx EX o' Q) (e:o=o'):Okx EX o Q:=e▸h
theorem Ok.eq (h:Ok o' Q) (e:o=o'):Ok o Q:=e▸h
end
section
variable {EX:D->Mm->Prop}
theorem ok_if {α:Type} {c:Bool} {a b:Oc α} {Q:α->Mm->Prop} (h1:c=true->Okx EX a Q) (h2:c=false->Okx EX b Q):Okx EX (if c=true then a else b) Q:=by cases c <;> simp_all
theorem ok_ifd {α:Type} {p:Prop} [Decidable p] {a b:Oc α} {Q:α->Mm->Prop} (h1:p->Okx EX a Q) (h2:¬ p->Okx EX b Q):Okx EX (if decide p=true then a else b) Q:=by by_cases h:p <;> simp_all
theorem ok_ifn {α:Type} {p:Prop} [Decidable p] {a b:Oc α} {Q:α->Mm->Prop} (h1:p->Okx EX b Q) (h2:¬ p->Okx EX a Q):Okx EX (if (!decide p)=true then a else b) Q:=by by_cases h:p <;> simp_all
theorem ok_ifT {α:Type} {c:Bool} {a b:Oc α} {Q:α->Mm->Prop} (h:c=true) (h1:Okx EX a Q):Okx EX (if c=true then a else b) Q:=by rw [if_pos h]; exact h1
theorem ok_ifF {α:Type} {c:Bool} {a b:Oc α} {Q:α->Mm->Prop} (h:c=false) (h1:Okx EX b Q):Okx EX (if c=true then a else b) Q:=by rw [if_neg (by simp [h])]; exact h1
section
variable {L:Lc} {M:Mm} {i j:Nat} {w x y:W} {Q:W->Mm->Prop} {QA:List W->Mm->Prop} {QS:Out->Mm->Prop} {QT:Bool->Mm->Prop} {QG:Lc->Mm->Prop} {f g h:FE} {F G:FS} {t u:FT} {fs:FA} {gg:FG}
theorem ok_V (h:L[i]?=some (some w)) (q:Q w M):Okx EX (eV i L M) Q:=by unfold eV; rw [h]; exact ok_ok q
theorem ok_C {d:D} (q:Q (.d d) M):Okx EX (eC d L M) Q:=ok_ok q
theorem ok_ints {ns:List Int} (q:Q (.d (.lst (ns.map D.int))) M):Okx EX (eInts ns L M) Q:=ok_ok q
theorem ok_e1 {p:W->Mm->Oc W} (h:Okx EX (f L M) fun x M1=>Okx EX (p x M1) Q):Okx EX (e1 p f L M) Q:=ok_bind h
theorem ok_e2 {p:W->W->Mm->Oc W} (h:Okx EX (f L M) fun x M1=>Okx EX (g L M1) fun y M2=>Okx EX (p x y M2) Q):Okx EX (e2 p f g L M) Q:=ok_bind (h.mono fun _ _ z=>ok_bind z)
theorem ok_A {p:List W->Mm->Oc W} (h:Okx EX (fs L M) fun ws M1=>Okx EX (p ws M1) Q):Okx EX (eA p fs L M) Q:=ok_bind h
theorem ok_aN (q:QA [] M):Okx EX (aNil L M) QA:=ok_ok q
theorem ok_aC (h:Okx EX (f L M) fun w M1=>Okx EX (fs L M1) fun ws M2=>QA (w::ws) M2):Okx EX (aCons f fs L M) QA:=ok_bind (h.mono fun _ _ z=>ok_bind (z.mono fun _ _ z=>ok_ok z))
theorem ok_And (h:Okx EX (f L M) fun w M1=>∃ b,w=.d (.bl b)/\(b=true->Okx EX (g L M1) Q)/\(b=false->Q (.d (.bl false)) M1)):Okx EX (eAnd f g L M) Q:=by
  refine ok_bind (h.mono fun w M1 ⟨b,e,h1,h2⟩=>?_)
  subst e
  cases b with
  | true=>exact h1 rfl
  | false=>exact ok_ok (h2 rfl)
theorem ok_If (h:Okx EX (t L M) fun c M1=>Okx EX (if c=true then f L M1 else g L M1) Q):Okx EX (eIf t f g L M) Q:=ok_bind h
theorem ok_tB (h:Okx EX (f L M) fun w M1=>∃ b,w=.d (.bl b)/\QT b M1):Okx EX (EV.tB f L M) QT:=ok_bind (h.mono fun w M1 ⟨b,e,q⟩=>by subst e; exact ok_ok q)
theorem ok_tV (h:Okx EX (f L M) fun w M1=>∃ b,tru M1 w=some b/\QT b M1):Okx EX (tV f L M) QT:=ok_bind (h.mono fun w M1 ⟨b,e,q⟩=>by rw [e]; exact ok_ok q)
theorem ok_tNot (h:Okx EX (t L M) fun b M1=>QT (!b) M1):Okx EX (EV.tNot t L M) QT:=ok_bind (h.mono fun _ _ z=>ok_ok z)
theorem ok_tOr (h:Okx EX (t L M) fun b M1=>(b=true->QT true M1)/\(b=false->Okx EX (u L M1) QT)):Okx EX (EV.tOr t u L M) QT:=ok_bind (h.mono fun b M1 ⟨h1,h2⟩=>by cases b with | true=>exact ok_ok (h1 rfl) | false=>exact h2 rfl)
theorem ok_tYes (q:QT true M):Okx EX (EV.tYes L M) QT:=ok_ok q
theorem ok_nil (q:QS (.nx L) M):Okx EX (sNil L M) QS:=ok_ok q
theorem ok_seq (h:Okx EX (F L M) fun o M1=>match o with
  | .nx L1=>Okx EX (G L1 M1) QS
  | .bk L1=>QS (.bk L1) M1
  | .ct L1=>QS (.ct L1) M1
  | .rt w=>QS (.rt w) M1):Okx EX (sSeq F G L M) QS:=ok_bind (h.mono fun o M1 z=>by cases o with | nx L1=>exact z | bk L1=>exact ok_ok z | ct L1=>exact ok_ok z | rt w=>exact ok_ok z)
theorem ok_ex (h:Okx EX (f L M) fun _ M1=>QS (.nx L) M1):Okx EX (sEx f L M) QS:=ok_bind (h.mono fun _ _ z=>ok_ok z)
theorem ok_rt (h:Okx EX (f L M) fun w M1=>QS (.rt w) M1):Okx EX (sRt f L M) QS:=ok_bind (h.mono fun _ _ z=>ok_ok z)
theorem ok_sIf (h:Okx EX (t L M) fun b M1=>Okx EX (if b=true then F L M1 else G L M1) QS):Okx EX (sIf t F G L M) QS:=ok_bind h
theorem ok_sAs (h:Okx EX (f L M) fun w M1=>Okx EX (gg w L M1) fun L1 M2=>QS (.nx L1) M2):Okx EX (sAs f gg L M) QS:=ok_bind (h.mono fun _ _ z=>ok_bind (z.mono fun _ _ z=>ok_ok z))
theorem ok_sPar (h:Okx EX (fs L M) fun ws M1=>∃ v w,ws=[v,w]/\QS (.nx ((L.set i (some v)).set j (some w))) M1):Okx EX (sPar i j fs L M) QS:=ok_bind (h.mono fun ws M1 ⟨v,w,e,q⟩=>by subst e; exact ok_ok q)
theorem ok_gN (q:QG (L.set i (some w)) M):Okx EX (gN i w L M) QG:=ok_ok q
theorem ok_gT {n:Nat} {gs:FGs} {xs:List D} (hn:xs.length=n) (h:Okx EX (gs xs L M) QG):Okx EX (gT n gs (.d (.tup xs)) L M) QG:=by unfold gT; simp only; rw [if_pos hn]; exact h
theorem ok_gsN (q:QG L M):Okx EX (gsNil [] L M) QG:=ok_ok q
theorem ok_gsC {gs:FGs} {d:D} {ds:List D} (h:Okx EX (gg (.d d) L M) fun L1 M1=>Okx EX (gs ds L1 M1) QG):Okx EX (gsCons gg gs (d::ds) L M) QG:=ok_bind h
theorem ok_gS {d:D} (h:Okx EX (f L M) fun o M1=>Okx EX (g L M1) fun i M2=>∃ k j xs t,o=.ref k/\i=.d (.int j)/\M2[k]?=some xs/\ixN xs.length j=some t/\QG L (M2.set k (xs.set t d))):Okx EX (gS f g (.d d) L M) QG:=by
  refine ok_bind (h.mono fun o M1 z=>ok_bind (z.mono fun i M2 ⟨k,j,xs,t,e1,e2,e3,e4,q⟩=>?_))
  subst e1 e2
  simp only [e3,e4]
  exact ok_ok q
theorem ok_pI {c:Int->Int->Bool} {gg:Int->Int->D} {i j:Int} (hc:c i j=true) (q:Q (.d (gg i j)) M):Okx EX (pI c gg (.d (.int i)) (.d (.int j)) M) Q:=by unfold pI; simp only; rw [if_pos hc]; exact ok_ok q
theorem ok_add {i j:Int} (q:Q (.d (.int (i+j))) M):Okx EX (pAdd (.d (.int i)) (.d (.int j)) M) Q:=ok_ok q
theorem ok_addL {xs ys:List D} (h1:lv M x=some xs) (h2:lv M y=some ys) (hz:xs.length+ys.length<=16777216) (q:Q (.d (.lst (xs++ys))) M):Okx EX (pAdd x y M) Q:=by
  have:pAdd x y M=.ok (.d (.lst (xs++ys))) M:=by
    cases x with
    | ref i=>simp only [pAdd,h1,h2]; rw [if_pos hz]
    | d a=>cases a <;> simp only [lv,reduceCtorEq] at h1
           cases y with
           | ref i=>cases h1; simp only [lv] at h2; simp only [pAdd,lv,h2]; rw [if_pos hz]
           | d b=>cases b <;> simp only [lv,reduceCtorEq] at h2
                  simp only [pAdd,lv]; cases h1; cases h2; rw [if_pos hz]
  rw [this]; exact ok_ok q
theorem ok_mul {i j:Int} (hz:mulOk i j=true) (q:Q (.d (.int (i*j))) M):Okx EX (pMulA (.d (.int i)) (.d (.int j)) M) Q:=by unfold pMulA pMul; simp only; rw [if_pos hz]; exact ok_ok q
theorem ok_not {b:Bool} (q:Q (.d (.bl (!b))) M):Okx EX (pNot (.d (.bl b)) M) Q:=ok_ok q
theorem ok_eq {a b:D} (h1:wd M x=some a) (h2:wd M y=some b) (hd:dep a<=100/\dep b<=100) (q:Q (.d (.bl (eqD a b))) M):Okx EX (pEq x y M) Q:=by unfold pEq; rw [h1,h2]; simp only; rw [if_pos hd]; exact ok_ok q
theorem ok_ne {a b:D} (h1:wd M x=some a) (h2:wd M y=some b) (hd:dep a<=100/\dep b<=100) (q:Q (.d (.bl (!eqD a b))) M):Okx EX (pNe x y M) Q:=by unfold pNe; rw [h1,h2]; simp only; rw [if_pos hd]; exact ok_ok q
theorem ok_eqI {i j:Int} (q:Q (.d (.bl (decide (i=j)))) M):Okx EX (pEq (.d (.int i)) (.d (.int j)) M) Q:=ok_eq rfl rfl (by simp [dep]) (by simp only [eqD]; exact q)
theorem ok_neI {i j:Int} (q:Q (.d (.bl (!decide (i=j)))) M):Okx EX (pNe (.d (.int i)) (.d (.int j)) M) Q:=ok_ne rfl rfl (by simp [dep]) (by simp only [eqD]; exact q)
theorem ok_eqS {a b:Str} (q:Q (.d (.bl (a==b))) M):Okx EX (pEq (.d (.str a)) (.d (.str b)) M) Q:=ok_eq rfl rfl (by simp [dep]) (by simpa only [eqD] using q)
theorem ok_neS {a b:Str} (q:Q (.d (.bl (!(a==b)))) M):Okx EX (pNe (.d (.str a)) (.d (.str b)) M) Q:=ok_ne rfl rfl (by simp [dep]) (by simpa only [eqD] using q)
theorem ok_neB {a b:Bool} (q:Q (.d (.bl (!(a==b)))) M):Okx EX (pNe (.d (.bl a)) (.d (.bl b)) M) Q:=ok_ne rfl rfl (by simp [dep]) (by simpa only [eqD] using q)
theorem ok_is (q:Q (.d (.bl (isN x))) M):Okx EX (pIs x (.d .non) M) Q:=ok_ok q
theorem ok_ixT {xs:List D} {k:Int} {d:D} (h:atI xs k=some d) (q:Q (.d d) M):Okx EX (pIx (.d (.tup xs)) (.d (.int k)) M) Q:=by unfold pIx; simp only [sv,h]; exact ok_ok q
theorem ok_ix {xs:List D} {k:Int} {d:D} (hs:∀ z,x≠.d (.str z)) (h1:sv M x=some xs) (h:atI xs k=some d) (q:Q (.d d) M):Okx EX (pIx x (.d (.int k)) M) Q:=by
  have:pIx x (.d (.int k)) M=.ok (.d d) M:=by
    cases x with
    | ref i=>simp only [pIx,h1,h]
    | d a=>cases a <;> first | (exact (hs _ rfl).elim) | (simp only [pIx,h1,h])
  rw [this]; exact ok_ok q
theorem ok_ixL {xs:List D} {k:Int} {d:D} (h:atI xs k=some d) (q:Q (.d d) M):Okx EX (pIx (.d (.lst xs)) (.d (.int k)) M) Q:=ok_ix (by simp) rfl h q
theorem ok_ixF {xs:List D} {k:Int} {d:D} (h:atI xs k=some d) (q:Q (.d d) M):Okx EX (pIx (.d (.fz xs)) (.d (.int k)) M) Q:=ok_ix (by simp) rfl h q
theorem ok_ixR {b:Nat} {xs:List D} {k:Int} {d:D} (h1:M[b]?=some xs) (h:atI xs k=some d) (q:Q (.d d) M):Okx EX (pIx (.ref b) (.d (.int k)) M) Q:=ok_ix (by simp) h1 h q
theorem ok_mkT {ws:List W} {ds:List D} (h:allD ws=some ds) (hz:ds.length<=16777216) (q:Q (.d (.tup ds)) M):Okx EX (mkT ws M) Q:=by unfold mkT; rw [h]; simp only; rw [if_pos hz]; exact ok_ok q
theorem ok_mkL {ws:List W} {ds:List D} (h:allD ws=some ds) (hz:ds.length<=16777216) (q:Q (.d (.lst ds)) M):Okx EX (mkL ws M) Q:=by unfold mkL; rw [h]; simp only; rw [if_pos hz]; exact ok_ok q
theorem ok_mkR {ws:List W} {ds:List D} (h:allD ws=some ds) (hz:ds.length<=16777216) (q:Q (.ref M.length) (M++[ds])):Okx EX (mkR ws M) Q:=by unfold mkR; rw [h]; simp only; rw [if_pos hz]; exact ok_ok q
theorem ok_len {xs:List D} (hs:∀ z,x≠.d (.str z)) (h:sv M x=some xs) (q:Q (.d (.int xs.length)) M):Okx EX (cLen [x] M) Q:=by
  have:cLen [x] M=.ok (.d (.int xs.length)) M:=by
    cases x with
    | ref i=>simp only [cLen,h]
    | d a=>cases a <;> first | (exact (hs _ rfl).elim) | (simp only [cLen,h])
  rw [this]; exact ok_ok q
theorem ok_lenT {xs:List D} (q:Q (.d (.int xs.length)) M):Okx EX (cLen [.d (.tup xs)] M) Q:=ok_ok q
theorem ok_lenL {xs:List D} (q:Q (.d (.int xs.length)) M):Okx EX (cLen [.d (.lst xs)] M) Q:=ok_ok q
theorem ok_lenF {xs:List D} (q:Q (.d (.int xs.length)) M):Okx EX (cLen [.d (.fz xs)] M) Q:=ok_ok q
theorem ok_lenR {b:Nat} {xs:List D} (h:M[b]?=some xs) (q:Q (.d (.int xs.length)) M):Okx EX (cLen [.ref b] M) Q:=ok_len (by simp) h q
theorem ok_intB {b:Bool} (q:Q (.d (.int (if b=true then 1 else 0))) M):Okx EX (cInt [.d (.bl b)] M) Q:=ok_ok q
theorem ok_max {k l:Int} (q:Q (.d (.int (if l > k then l else k))) M):Okx EX (cMax2 [.d (.int k),.d (.int l)] M) Q:=ok_ok q
theorem ok_min {k l:Int} (q:Q (.d (.int (if l < k then l else k))) M):Okx EX (cMin2 [.d (.int k),.d (.int l)] M) Q:=ok_ok q
theorem ok_tup {xs:List D} (h:sv M x=some xs) (q:Q (.d (.tup xs)) M):Okx EX (cTup [x] M) Q:=by unfold cTup; simp only [h]; exact ok_ok q
theorem ok_isi {T:String} {b:Bool} (h:isT T M x=some b) (q:Q (.d (.bl b)) M):Okx EX (pIsI T x M) Q:=by unfold pIsI; rw [h]; exact ok_ok q
theorem ok_M1 {p:W->W->Mm->Oc W} (h:Okx EX (f L M) fun x M1=>∃ k,x=.ref k/\Okx EX (g L M1) fun y M2=>Okx EX (p (.ref k) y M2) Q):Okx EX (eM1 p f g L M) Q:=ok_bind (h.mono fun x M1 ⟨k,e,z⟩=>by subst e; exact ok_bind z)
theorem ok_append {k:Nat} {d:D} {xs:List D} (h:M[k]?=some xs) (hz:xs.length < 16777216) (q:Q (.d .non) (M.set k (xs++[d]))):Okx EX (pAppend (.ref k) (.d d) M) Q:=by unfold pAppend; simp only [h]; rw [if_pos hz]; exact ok_ok q
theorem ok_extend {k:Nat} {xs ys:List D} (h:M[k]?=some xs) (h2:lv M y=some ys) (hz:xs.length+ys.length<=16777216) (q:Q (.d .non) (M.set k (xs++ys))):Okx EX (pExtend (.ref k) y M) Q:=by unfold pExtend; simp only [h,h2]; rw [if_pos hz]; exact ok_ok q
theorem ok_pop {k:Nat} {xs:List D} {d:D} (h:M[k]?=some (xs++[d])) (q:Q (.d d) (M.set k xs)):Okx EX (pPop (.ref k) M) Q:=by
  unfold pPop; simp only [h,List.getLast?_concat,List.dropLast_concat]; exact ok_ok q
theorem ok_Sl {fl fh:FO} (z:Okx EX (f L M) fun x M1=>Okx EX (fl L M1) fun lo M2=>Okx EX (fh L M2) fun hi M3=>Okx EX (pSl x lo hi M3) Q):Okx EX (eSl f fl fh L M) Q:=ok_bind (z.mono fun _ _ z=>ok_bind (z.mono fun _ _ z=>ok_bind z))
theorem ok_oNo {QO:Option Int->Mm->Prop} (q:QO none M):Okx EX (oNo L M) QO:=ok_ok q
theorem ok_oAt {QO:Option Int->Mm->Prop} (h:Okx EX (f L M) fun w M1=>∃ k,w=.d (.int k)/\QO (some k) M1):Okx EX (oAt f L M) QO:=ok_bind (h.mono fun w M1 ⟨k,e,q⟩=>by subst e; exact ok_ok q)
theorem ok_slT {xs:List D} {lo hi:Option Int} (q:Q (.d (.tup (cut xs lo hi))) M):Okx EX (pSl (.d (.tup xs)) lo hi M) Q:=ok_ok q
theorem ok_slL {xs:List D} {lo hi:Option Int} (hs:∀ z,x≠.d (.tup z)) (h:lr M x=some xs) (q:Q (.d (.lst (cut xs lo hi))) M):Okx EX (pSl x lo hi M) Q:=by
  have:pSl x lo hi M=okD (.lst (cut xs lo hi)) M:=by
    cases x with
    | ref i=>simp only [pSl,h]
    | d a=>cases a <;> first | (exact (hs _ rfl).elim) | (simp only [pSl,h])
  rw [this]; exact ok_ok q
theorem ok_for {fi:FI} {B:FS} (h:Okx EX (fi L M) fun s M1=>Okx EX (forD s gg B s.ds L M1) QS):Okx EX (sFor fi gg B L M) QS:=ok_bind h
theorem ok_iE {s:Src} {QI:Src->Mm->Prop} (h:Okx EX (f L M) fun w M1=>∃ s,srcOf M1 w=some s/\QI s M1):Okx EX (iE f L M) QI:=ok_bind (h.mono fun w M1 ⟨s,e,q⟩=>by rw [e]; exact ok_ok q)
theorem ok_iR1 {QI:Src->Mm->Prop} (h:Okx EX (f L M) fun w M1=>∃ j,w=.d (.int j)/\in62 j=true/\QI ⟨rngD 0 j.toNat,none⟩ M1):Okx EX (iR1 f L M) QI:=ok_bind (h.mono fun w M1 ⟨j,e,hz,q⟩=>by subst e; simp only; rw [if_pos hz]; exact ok_ok q)
theorem ok_iR2 {QI:Src->Mm->Prop} (h:Okx EX (f L M) fun w M1=>Okx EX (g L M1) fun u M2=>∃ i j,w=.d (.int i)/\u=.d (.int j)/\(in62 i=true/\in62 j=true)/\QI ⟨rngD i (j - i).toNat,none⟩ M2):Okx EX (iR2 f g L M) QI :=
  ok_bind (h.mono fun w M1 z=>ok_bind (z.mono fun u M2 ⟨i,j,e1,e2,hz,q⟩=>by subst e1 e2; simp only; rw [if_pos hz]; exact ok_ok q))
theorem forD_inv {s:Src} {B:FS} (I:Nat->Lc->Mm->Prop) (h0:I 0 L M) (hc:∀ i L M,i<=s.ds.length->I i L M->Chk s M)
    (hs:∀ i d L M,s.ds[i]?=some d->I i L M->Okx EX (gg (.d d) L M) fun L1 M1=>Okx EX (B L1 M1) fun o M2=>match o with
      | .nx L2=>I (i+1) L2 M2
      | .ct L2=>I (i+1) L2 M2
      | .bk L2=>QS (.nx L2) M2
      | .rt w=>QS (.rt w) M2) (hd:∀ L M,I s.ds.length L M->QS (.nx L) M):Okx EX (forD s gg B s.ds L M) QS:=by
  have key:∀ k i L M,s.ds.length - i=k->i<=s.ds.length->I i L M->Okx EX (forD s gg B (s.ds.drop i) L M) QS:=by
    intro k
    induction k with
    | zero =>
      intro i L M e hi hI
      have:i=s.ds.length:=by omega
      subst this
      rw [List.drop_eq_nil_of_le (Nat.le_refl _)]
      unfold forD
      rw [if_pos (hc _ L M (Nat.le_refl _) hI)]
      exact ok_ok (hd L M hI)
    | succ k ih =>
      intro i L M e hi hI
      have hlt:i < s.ds.length:=by omega
      rw [List.drop_eq_getElem_cons hlt]
      unfold forD
      rw [if_pos (hc _ L M hi hI)]
      refine ok_bind ((hs i s.ds[i] L M (by simp [hlt]) hI).mono fun L1 M1 z=>ok_bind (z.mono fun o M2 z=>?_))
      cases o with
      | nx L2=>exact ih (i+1) L2 M2 (by omega) (by omega) z
      | ct L2=>exact ih (i+1) L2 M2 (by omega) (by omega) z
      | bk L2=>exact ok_ok z
      | rt w=>exact ok_ok z
  simpa using key s.ds.length 0 L M (by omega) (by omega) h0
theorem while_inv {t:FT} {B:FS} (I:Nat->Lc->Mm->Prop) (hs:∀ m L M,I m L M->Okx EX (t L M) fun b M1=>(b=true->Okx EX (B L M1) fun o M2=>match o with
      | .nx L2=>∃ m',m' < m/\I m' L2 M2
      | .ct L2=>∃ m',m' < m/\I m' L2 M2
      | .bk L2=>QS (.nx L2) M2
      | .rt w=>QS (.rt w) M2)/\(b=false->QS (.nx L) M1)):∀ (n m:Nat) (L:Lc) (M:Mm),I m L M->m < n->Okx EX (whileD t B n L M) QS:=by
  intro n
  induction n with
  | zero=>intro m L M _ h; omega
  | succ n ih =>
    intro m L M hI hm
    unfold whileD
    refine ok_bind ((hs m L M hI).mono fun b M1 ⟨h1,h2⟩=>?_)
    cases b with
    | false=>exact ok_ok (h2 rfl)
    | true =>
      refine ok_bind ((h1 rfl).mono fun o M2 z=>?_)
      cases o with
      | nx L2=>obtain ⟨m',l,z⟩:=z; exact ih m' L2 M2 z (by omega)
      | ct L2=>obtain ⟨m',l,z⟩:=z; exact ih m' L2 M2 z (by omega)
      | bk L2=>exact ok_ok z
      | rt w=>exact ok_ok z
theorem comp_inv {js:List (Option Nat)} {fi:FI} {c:FT} (I:Nat->List D->Lc->Mm->Prop)
    (h:Okx EX (fi L M) fun s M1=>(I 0 [] (outL js L) M1/\(∀ i acc L M,i<=s.ds.length->I i acc L M->M.length=M1.length/\Chk s (M++[acc])/\acc.length<=i)/\s.ds.length<=16777216 /\
      (∀ i d acc L M,s.ds[i]?=some d->I i acc L M->Ok (gg (.d d) L (M++[acc])) fun L1 M2=>Ok (c L1 M2) fun b M3=>(b=true->Ok (f L1 M3) fun w M4=>∃ x M5,w=.d x/\M4=M5++[acc]/\I (i+1) (acc++[x]) L1 M5)/\(b=false->∃ M5,M3=M5++[acc]/\I (i+1) acc L1 M5)) /\
      (∀ acc L M,I s.ds.length acc L M->Q (.d (.lst acc)) M))):Okx EX (eComp js fi gg c f L M) Q:=by
  unfold eComp compT
  refine ok_bind (ok_bind (h.mono fun s M1 ⟨h0,hc,hz,hs,hd⟩=>?_))
  have key:∀ k i acc L M,s.ds.length - i=k->i<=s.ds.length->I i acc L M->∃ acc' L' M',compD M1.length s gg c f (s.ds.drop i) L (M++[acc])=.ok () (M'++[acc'])/\I s.ds.length acc' L' M':=by
    intro k
    induction k with
    | zero =>
      intro i acc L M e hi hI
      have:i=s.ds.length:=by omega
      subst this
      rw [List.drop_eq_nil_of_le (Nat.le_refl _)]
      unfold compD
      rw [if_pos (hc _ acc L M (Nat.le_refl _) hI).2.1]
      exact ⟨acc,L,M,rfl,hI⟩
    | succ k ih =>
      intro i acc L M e hi hI
      have hlt:i < s.ds.length:=by omega
      rw [List.drop_eq_getElem_cons hlt]
      unfold compD
      obtain ⟨hl,hch,hal⟩:=hc _ acc L M hi hI
      rw [if_pos hch]
      obtain ⟨L1,M2,e1,hh⟩:=Ok_def.mp (hs i s.ds[i] acc L M (by simp [hlt]) hI)
      obtain ⟨L1',M3,e2,h1,h2⟩:=Ok_def.mp hh
      rw [e1]
      simp only [bind_ok]
      rw [e2]
      simp only [bind_ok]
      cases L1' with
      | false =>
        obtain ⟨M5,e3,hI'⟩:=h2 rfl
        subst e3
        simp only [Bool.false_eq_true,if_false]
        exact ih (i+1) acc L1 M5 (by omega) (by omega) hI'
      | true =>
        obtain ⟨w,M4,e3,x,M5,rfl,rfl,hI'⟩:=Ok_def.mp (h1 rfl)
        simp only [if_true]
        rw [e3]
        simp only [bind_ok]
        have hl5:=(hc _ _ _ _ (by omega) hI').1
        have g1:(M5++[acc])[M1.length]?=some acc:=by rw [<- hl5]; simp
        rw [g1]
        simp only
        rw [if_pos (by omega)]
        have g2:(M5++[acc]).set M1.length (acc++[x])=M5++[acc++[x]]:=by rw [<- hl5]; simp
        rw [g2]
        exact ih (i+1) (acc++[x]) L1 M5 (by omega) (by omega) hI'
  obtain ⟨acc,L',M',e,hI⟩:=key s.ds.length 0 [] (outL js L) M1 (by omega) (by omega) h0
  rw [List.drop_zero] at e
  rw [e]
  have hl:=(hc _ _ _ _ (Nat.le_refl _) hI).1
  have g1:(M'++[acc])[M1.length]?=some acc:=by rw [<- hl]; simp
  have g2:(M'++[acc]).take M1.length=M':=by rw [<- hl]; simp
  simp only [g1,g2]
  exact ok_ok (ok_ok (hd acc L' M' hI))
theorem ok_fn {m n:Nat} {F:FS} {ws:List W} (hm:ws.length=m) (h:Okx EX (F (ws.map some++List.replicate (n - ws.length) none) M) fun o M'=>match o with
    | .rt w=>Okx EX (retc M.length w M') Q
    | .nx _=>Q (.d .non) (M'.take M.length)
    | _=>False):Okx EX (fnD m n F ws M) Q:=by
  unfold fnD
  rw [if_pos hm]
  refine ok_bind (h.mono fun o M' z=>?_)
  cases o with
  | rt w=>exact z
  | nx L=>exact ok_ok z
  | bk L=>exact z.elim
  | ct L=>exact z.elim
theorem ok_retD {n:Nat} {d:D} (q:Q (.d d) (M.take n)):Okx EX (retc n (.d d) M) Q:=ok_ok q
theorem ok_fnR {m n:Nat} {F:FS} {ws:List W} (hm:ws.length=m) (h:Okx EX (F (ws.map some++List.replicate (n - ws.length) none) M) fun o M'=>∃ i ds,o=.rt (.ref i)/\M.length<=i/\M'[i]?=some ds/\Q (.ref M.length) (M'.take M.length++[ds])):Okx EX (fnR m n F ws M) Q:=by
  unfold fnR
  rw [if_pos hm]
  refine ok_bind (h.mono fun o M' ⟨i,ds,e,hi,e2,q⟩=>?_)
  subst e
  simp only [e2]
  rw [if_pos hi]
  exact ok_ok q
end
noncomputable def Bx (M:Mm) (b:Nat):Prop:=∃ x y z,M[b]?=some [.int x,.int y,.int z]
noncomputable def Nx (b:Nat) (M M':Mm):Prop:=∃ x y z,M'=M.set b [.int x,.int y,.int z]
theorem Bx.lt {M:Mm} {b:Nat} (h:Bx M b):b < M.length:=by obtain ⟨x,y,z,e⟩:=h; exact (List.getElem?_eq_some_iff.mp e).1
theorem Nx.len {M M':Mm} {b:Nat} (h:Nx b M M'):M'.length=M.length:=by obtain ⟨x,y,z,rfl⟩:=h; simp
theorem Nx.bx {M M':Mm} {b:Nat} (h:Nx b M M') (l:Bx M b):Bx M' b:=by
  obtain ⟨x,y,z,rfl⟩:=h
  exact ⟨x,y,z,List.getElem?_set_self l.lt⟩
theorem Nx.trans {M M1 M2:Mm} {b:Nat} (h:Nx b M M1) (h':Nx b M1 M2):Nx b M M2:=by
  obtain ⟨x,y,z,rfl⟩:=h
  obtain ⟨x',y',z',rfl⟩:=h'
  exact ⟨x',y',z',by rw [List.set_set]⟩
theorem Nx.refl {M:Mm} {b:Nat} (h:Bx M b):Nx b M M:=by
  obtain ⟨x,y,z,e⟩:=h
  refine ⟨x,y,z,?_⟩
  apply List.ext_getElem?
  intro i
  by_cases hi:b=i
  · subst hi; rw [List.getElem?_set_self (List.getElem?_eq_some_iff.mp e).1,e]
  · rw [List.getElem?_set_ne hi]
theorem Nx.get {M M':Mm} {b i:Nat} (h:Nx b M M') (n:b≠i):M'[i]?=M[i]?:=by
  obtain ⟨x,y,z,rfl⟩:=h
  rw [List.getElem?_set_ne n]
theorem Nx.app {M M':Mm} {b:Nat} {J:Mm} (h:Nx b M M') (l:b < M.length):Nx b (M++J) (M'++J):=by
  obtain ⟨x,y,z,rfl⟩:=h
  exact ⟨x,y,z,by rw [List.set_append_left _ _ l]⟩
theorem Nx.unapp {M M' J:Mm} {b:Nat} (h:Nx b (M++J) M') (l:b < M.length):∃ M1,M'=M1++J/\Nx b M M1:=by
  obtain ⟨x,y,z,rfl⟩:=h
  exact ⟨_,List.set_append_left _ _ l,x,y,z,rfl⟩
theorem Bx.app {M J:Mm} {b:Nat} (h:Bx M b):Bx (M++J) b:=by
  obtain ⟨x,y,z,e⟩:=h
  exact ⟨x,y,z,by rw [List.getElem?_append_left (List.getElem?_eq_some_iff.mp e).1]; exact e⟩
theorem Nx.take {M M':Mm} {b:Nat} (h:Nx b M M'):M'.take M.length=M':=by rw [<- h.len,List.take_length]
mutual
noncomputable def sz:D->Nat
  | .tup xs=>szs xs+1
  | .lst xs=>szs xs+1
  | .fz xs=>szs xs+1
  | .exn _ _ xs=>szs xs+1
  | _=>1
noncomputable def szs:List D->Nat
  | []=>0
  | x::xs=>sz x+szs xs
end
mutual
noncomputable def noL:D->Bool
  | .tup xs=>noLs xs
  | .lst _=>false
  | .fz _=>false
  | .exn _ _ _=>false
  | _=>true
noncomputable def noLs:List D->Bool
  | []=>true
  | x::xs=>noL x&&noLs xs
end
theorem sz_pos (d:D):0 < sz d:=by cases d <;> simp [sz]
theorem szs_append:∀ xs ys:List D,szs (xs++ys)=szs xs+szs ys
  | [],ys=>by simp [szs]
  | x::xs,ys=>by simp [szs,szs_append xs ys]; omega
theorem len_szs:∀ xs:List D,xs.length<=szs xs
  | []=>by simp [szs]
  | x::xs=>by have:=len_szs xs; have:=sz_pos x; simp [szs]; omega
theorem noLs_mem:∀ {xs:List D},noLs xs=true->∀ {x},x∈xs->noL x=true
  | [],_,_,h=>by cases h
  | y::ys,h,x,hx=>by
    simp only [noLs,Bool.and_eq_true] at h
    rcases List.mem_cons.mp hx with rfl | hx
    · exact h.1
    · exact noLs_mem h.2 hx
theorem noL_mem {xs:List D} (h:noL (.tup xs)=true) {x:D} (hx:x∈xs):noL x=true:=noLs_mem (by simpa [noL] using h) hx
theorem ok_zip {M:Mm} {x y:W} {xs ys:List D} {Q:W->Mm->Prop} (h1:sv M x=some xs) (h2:sv M y=some ys) (q:Q (.d (.lst (zipT xs ys))) M):Okx EX (pZip x y M) Q:=by unfold pZip; rw [h1,h2]; exact ok_ok q
theorem atBox (c:Int):atI [D.int 0,D.int c] (if decide ((10:Int) ^ (Int.toNat 18)<=c)=true then 1 else 0)=some (.int (if (1000000000000000000:Int)<=c then c else 0)):=by
  by_cases hc:(1000000000000000000:Int)<=c <;> simp [hc,atI,ixN]
end
end EV
namespace EV
open PySem PySem.Spec PyProof.Rows L2
variable {EX:D->Mm->Prop}
section
variable {X:Cx} {K:PySem.W.Frag} {Z:Zt} {pos:Pos}
end
section
variable {L:Lc} {M:Mm} {f:FE} {Q:W->Mm->Prop}
end
end EV
namespace EV
open PySem PySem.Spec PyProof.Rows L2
variable {EX:D->Mm->Prop}
section
variable {X:Cx} {K:PySem.W.Frag} {Z:Zt} {μ:List Addr} {H:Hp} {M:Mm} {a b c:Expr} {pos:Pos} {fs:FA}
noncomputable def sPar3 (i j k:Nat) (fs:FA):FS:=fun L M=>(fs L M).bind fun ws M1=>match ws with
  | [u,v,w]=>.ok (.nx (((L.set i (some u)).set j (some v)).set k (some w))) M1
  | _=>.bad
theorem seq_iter {pins:List (Addr×Obj)} {σ:St} {s:Shared} {p:Addr} {ys:List V} {Q:Value->Shared->Prop} (hc:X.calm=true) (I:Inv X pins σ H s) (hq:SqL X.K H p ys\/SqT X.K H p ys)
    (h:∀ (s2:Shared) (J:Addr) (fp:List Addr) (its:Array Value) (St:Nat->Heap->Prop),Vals ys its.toList->Walks X.prog X.w X.A.in1 J fp [J] its.size (fun i v=>its[i]?=some v) St->St 0 s2.heap->(∀ b∈fp,b < s2.heap.objs.size) ->
      (∀ h' tk,(∀ b o,b∉[J]->s2.heap.get? b=some o->h'.get? b=some o)->Inv X pins σ H { s2 with heap:=h',toks:=tk })->Q (.ref J) s2):wpAny (model X.prog X.w) X.A.in1 (pyIter (.ref p)) Q X.xe s:=by
  rcases hq with hq | hq
  · obtain ⟨its,rv,pl,hz⟩:=I.list hq
    have hp:p < s.heap.objs.size:=by
      obtain ⟨o,e,_⟩:=pl.isList
      exact Heap.lt_size e
    have I1:Inv X pins σ H { s with heap:=s.heap.push { cls:=.type "list_iterator",data:=.fields #[.ref p,rawInt 0] } }:=I.kept (t':=s.toks) fun b o e=>Heap.get?_push_of_some _ e
    refine wpAny_pyIter_list pl.isList (h _ s.heap.objs.size [s.heap.objs.size,p] its.toArray _ (by simpa using rv) (Walks.list (by show X.A.in1.handled=none; exact I.ok.hd hc) s.heap.objs.size p (Nat.ne_of_lt hp) its.toArray) ⟨⟨_,Heap.get?_push_size _ rfl,rfl,rfl⟩,pl.isList.at fun o e=>Heap.get?_push_of_some _ e⟩ (fun b hb=>?_) fun h' tk hk=>?_)
    · show b < (s.heap.push _).objs.size
      rw [Heap.size_push]
      simp only [List.mem_cons,List.not_mem_nil,or_false] at hb
      rcases hb with rfl | rfl
      · exact Nat.lt_succ_self _
      · exact Nat.lt_succ_of_lt hp
    · obtain ⟨f0,f1,f2,f3,f4,f5⟩:=I.fpOk (H':=H) (Nat.le_refl _) (I.hok.fresh (Nat.le_refl _))
      exact I1.turned (t':=tk) (it:=s.heap.objs.size) (fun b o hb e=>hk b o (by simpa using hb) e) f0 f1 f3 f4 f5
  · obtain ⟨its,rv,pl,hz⟩:=I.tuple hq
    have pl:s.heap.IsTuple p its.toArray:=pl
    have hp:p < s.heap.objs.size:=by
      obtain ⟨o,e,_⟩:=pl
      exact Heap.lt_size e
    have I1:Inv X pins σ H { s with heap:=s.heap.push { cls:=.type "tuple_iterator",data:=.fields #[.ref p,rawInt 0] } }:=I.kept (t':=s.toks) fun b o e=>Heap.get?_push_of_some _ e
    refine wpAny_pyIter_tuple pl (h _ s.heap.objs.size [s.heap.objs.size,p] its.toArray _ (by simpa using rv) (Walks.tuple (by show X.A.in1.handled=none; exact I.ok.hd hc) s.heap.objs.size p (Nat.ne_of_lt hp) its.toArray) ⟨⟨_,Heap.get?_push_size _ rfl,rfl,rfl⟩,pl.at fun o e=>Heap.get?_push_of_some _ e⟩ (fun b hb=>?_) fun h' tk hk=>?_)
    · show b < (s.heap.push _).objs.size
      rw [Heap.size_push]
      simp only [List.mem_cons,List.not_mem_nil,or_false] at hb
      rcases hb with rfl | rfl
      · exact Nat.lt_succ_self _
      · exact Nat.lt_succ_of_lt hp
    · obtain ⟨f0,f1,f2,f3,f4,f5⟩:=I.fpOk (H':=H) (Nat.le_refl _) (I.hok.fresh (Nat.le_refl _))
      exact I1.turned (t':=tk) (it:=s.heap.objs.size) (fun b o hb e=>hk b o (by simpa using hb) e) f0 f1 f3 f4 f5
noncomputable def blsOf:List D->Option (List Bool)
  | []=>some []
  | .bl i::r=>(blsOf r).map (i::·)
  | _::_=>none
theorem blsOf_map (ns:List Bool):blsOf (ns.map D.bl)=some ns:=by
  induction ns with
  | nil=>rfl
  | cons n r ih=>simp only [List.map_cons,blsOf,ih,Option.map_some]
theorem blsOf_eq:∀ {ds:List D} {ns:List Bool},blsOf ds=some ns->ds=ns.map D.bl
  | [],ns,h=>by cases h; rfl
  | .bl i::r,ns,h=>by
    simp only [blsOf,Option.map_eq_some_iff] at h
    obtain ⟨ms,h1,rfl⟩:=h
    rw [blsOf_eq h1]; rfl
  | .non::_,_,h=>by cases h
  | .int _::_,_,h=>by cases h
  | .str _::_,_,h=>by cases h
  | .tup _::_,_,h=>by cases h
  | .lst _::_,_,h=>by cases h
  | .fz _::_,_,h=>by cases h
  | .exn _ _ _::_,_,h=>by cases h
theorem rps_bls:∀ {ns:List Bool} {vs:List V},Rps K μ H (ns.map D.bl) vs->vs=ns.map V.bl
  | [],vs,h=>by simpa [Rps] using h
  | n::r,vs,h=>by
    simp only [List.map_cons,Rps,Rp] at h
    obtain ⟨v,t,rfl,rfl,h3⟩:=h
    rw [rps_bls h3]; rfl
theorem bl_at {bs:List Bool} {its:Array Value} (rv:Vals (bs.map V.bl) its.toList) {i:Nat} {v:Value} (hv:its[i]?=some v):v=.bool (bs.getD i false):=by
  have hv:its.toList[i]?=some v:=by simpa using hv
  have hlt:i < bs.length:=by have:=(List.getElem?_eq_some_iff.mp hv).1; have h2:=rv.length; simp at h2 this; omega
  obtain ⟨w',hw,rw'⟩:=rv.get (show (bs.map V.bl)[i]?=some (.bl (bs.getD i false)) by simp [hlt])
  rw [hv] at hw
  cases hw
  exact rw'
theorem range_all (bs:List Bool):(List.range bs.length).all (fun i=>bs.getD i false)=bs.all id:=by
  rw [Bool.eq_iff_iff,List.all_eq_true,List.all_eq_true]
  constructor
  · intro h x hx
    obtain ⟨i,hi,rfl⟩:=List.mem_iff_getElem.mp hx
    have:=h i (List.mem_range.mpr hi)
    simpa [hi] using this
  · intro h i hi
    have hi:=List.mem_range.mp hi
    have:=h bs[i] (List.getElem_mem hi)
    simpa [hi] using this
theorem range_any (bs:List Bool):(List.range bs.length).any (fun i=>bs.getD i false)=bs.any id:=by
  rw [Bool.eq_iff_iff,List.any_eq_true,List.any_eq_true]
  constructor
  · rintro ⟨i,hi,h⟩
    have hi:=List.mem_range.mp hi
    exact ⟨bs[i],List.getElem_mem hi,by simpa [hi] using h⟩
  · rintro ⟨x,hx,h⟩
    obtain ⟨i,hi,rfl⟩:=List.mem_iff_getElem.mp hx
    exact ⟨i,List.mem_range.mpr hi,by simpa [hi] using h⟩
theorem call_allB (hc:X.calm=true):CallR X (.builtin "all") (fun xs H Q=>∃ (p:Addr) (bs:List Bool),xs=[.ref p]/\(SqL X.K H p (bs.map V.bl)\/SqT X.K H p (bs.map V.bl))/\Q (.bl (bs.all id)) H):=by
  intro pins s σ H xs us Q I r h
  obtain ⟨p,bs,rfl,hq,q⟩:=h
  obtain ⟨u,rfl,rx⟩:=vals1 r
  cases rx
  refine call_all_walk (seq_iter hc I hq fun s2 J fp its St rv W st0 hfp hI=>?_)
  have hl:bs.length=its.size:=by have:=rv.length; simpa using this
  refine ⟨J,fp,[J],_,_,St,fun i=>bs.getD i false,rfl,W,st0,fun i v s3 Q3 E3 hv q3=>?_,fun h' tk hk=>?_⟩
  · rw [bl_at rv hv]; exact wpAny_truthy_bool q3
  · rw [<- hl,range_all]
    exact ⟨.bl _,H,hI h' tk hk,rfl,q⟩
theorem call_anyB (hc:X.calm=true):CallR X (.builtin "any") (fun xs H Q=>∃ (p:Addr) (bs:List Bool),xs=[.ref p]/\(SqL X.K H p (bs.map V.bl)\/SqT X.K H p (bs.map V.bl))/\Q (.bl (bs.any id)) H):=by
  intro pins s σ H xs us Q I r h
  obtain ⟨p,bs,rfl,hq,q⟩:=h
  obtain ⟨u,rfl,rx⟩:=vals1 r
  cases rx
  refine call_any_walk (seq_iter hc I hq fun s2 J fp its St rv W st0 hfp hI=>?_)
  have hl:bs.length=its.size:=by have:=rv.length; simpa using this
  refine ⟨J,fp,[J],_,_,St,fun i=>bs.getD i false,rfl,W,st0,fun i v s3 Q3 E3 hv q3=>?_,fun h' tk hk=>?_⟩
  · rw [bl_at rv hv]; exact wpAny_truthy_bool q3
  · rw [<- hl,range_any]
    exact ⟨.bl _,H,hI h' tk hk,rfl,q⟩
noncomputable def cBls (g:List Bool->Bool) (ws:List W) (M:Mm):Oc W:=match ws with
  | [w]=>match sv M w with
    | some xs=>match blsOf xs with
      | some bs=>okD (.bl (g bs)) M
      | none=>.bad
    | none=>.bad
  | _=>.bad
noncomputable abbrev cAllB:=cBls fun bs=>bs.all id
noncomputable abbrev cAny:=cBls fun bs=>bs.any id
theorem clBls {g:List Bool->Bool}:Cl K Z (fun xs H Q=>∃ (p:Addr) (bs:List Bool),xs=[.ref p]/\(SqL K H p (bs.map V.bl)\/SqT K H p (bs.map V.bl))/\Q (.bl (g bs)) H) (cBls g):=by
  intro μ H M ws vs Q hr rx p
  match ws,rx,p with
  | [],_,p=>exact p.elim
  | [w],⟨v,r,e1,e2,e3⟩,p =>
    cases e3; subst e1
    simp only [cBls] at p
    cases q:sv M w with
    | none=>rw [q] at p; exact p.elim
    | some xs =>
      rw [q] at p
      simp only at p
      cases q2:blsOf xs with
      | none=>rw [q2] at p; exact p.elim
      | some ns =>
        rw [q2] at p
        obtain ⟨a,us,rfl,h1,r1⟩:=sv_at hr e2 q
        have e:=blsOf_eq q2
        subst e
        have e:=rps_bls r1
        subst e
        exact ⟨a,ns,rfl,h1,p μ H .refl hr _ (by simp [Rw,Rp])⟩
  | _::_::_,_,p=>exact p.elim
theorem callAllB (hc:X.calm=true):ClG X K Z (.builtin "all") cAllB:=fun hk=>⟨_,hk▸call_allB hc,clBls⟩
theorem callAny (hc:X.calm=true):ClG X K Z (.builtin "any") cAny:=fun hk=>⟨_,hk▸call_anyB hc,clBls⟩
end
section
variable {L:Lc} {M:Mm} {w x:W} {f:FE} {fs:FA} {Q:W->Mm->Prop} {QS:Out->Mm->Prop}
theorem ok_par3 {i j k:Nat} (h:Okx EX (fs L M) fun ws M1=>∃ u v w,ws=[u,v,w]/\QS (.nx (((L.set i (some u)).set j (some v)).set k (some w))) M1):Okx EX (sPar3 i j k fs L M) QS:=ok_bind (h.mono fun ws M1 ⟨u,v,w,e,q⟩=>by subst e; exact ok_ok q)
theorem ok_bls {g:List Bool->Bool} {bs:List Bool} {ds:List D} (h:sv M x=some ds) (e:ds=bs.map D.bl) (q:Q (.d (.bl (g bs))) M):Okx EX (cBls g [x] M) Q:=by
  subst e
  unfold cBls; simp only [h,blsOf_map]; exact ok_ok q
end
end EV
namespace EV
open PySem PySem.Spec PyProof.Rows L2
variable {EX:D->Mm->Prop}
section
variable {X:Cx} {K:PySem.W.Frag} {Z:Zt} {μ:List Addr} {H:Hp} {M:Mm} {a b c o i e:Expr} {pos:Pos} {fs:FA} {fa fb fc fo fi fe:FE}
end
section
variable {L:Lc} {M:Mm} {fo fi fe:FE} {QS:Out->Mm->Prop}
end
end EV
namespace L2
open PySem PySem.Spec PyProof.Rows
section
variable {X:Cx} {pins:List (Addr×Obj)} {σ:St} {H:Hp} {s:Shared} {h':Heap} {fp:List Addr}
theorem Inv.turnLay {t':Nat} {T:Addr} {o:HO} (I:Inv X pins σ H s) (hf:∀ b∈fp,FpOk X pins H b) (k:∀ b u,b∉fp->s.heap.get? b=some u->h'.get? b=some u) (hT:s.heap.objs.size<=T) (new:ObjOk X.prog X.w (upd H T o) h' T o) :
    Inv X pins σ (upd H T o) { s with heap:=h',toks:=t' }:=by
  have hn:H T=none:=I.hok.fresh hT
  have nfp:∀ b u,H b=some u->b∉fp:=fun b u e z=>by rw [(hf b z).1] at e; cases e
  have lt:∀ b u,s.heap.get? b=some u->b≠T:=fun b u e z=>by subst z; exact absurd (Heap.lt_size e) (Nat.not_lt.mpr hT)
  have neT:∀ b u,H b=some u->b≠T:=fun b u e z=>by rw [z,hn] at e; cases e
  refine I.step (g':=s.gens) (d':=s.drawn) (ch:=fp) (fun b hb=>?_) (fun b u _ _ hc e _=>k b u hc e) (fun b u _ _ hc e _=>⟨u.slots,k b u hc e⟩) (fun b u _ e n=>by rw [upd_ne (lt b u e)]; exact n)
    (fun b u hc e=>⟨u,k b u hc e⟩) (fun b xs e=>by rw [upd_ne (neT b _ e)]; exact e) (fun b u v e=>by rw [upd_ne (neT b _ e)]; exact e) (fun b ps e=>⟨#[],by rw [upd_ne (neT b _ e),e]; simp⟩) (fun m hm=>?_) (fun b u e=>?_) I.bare
  · obtain ⟨_,f1,_,f3,f4,f5⟩:=hf b hb
    exact ⟨f3,f1,f4,f5⟩
  · obtain ⟨u,es,ep,ho,r⟩:=hm
    exact ⟨u,es,ep,k _ u (fun z=>(hf _ z).2.1 rfl) ho,r⟩
  · by_cases hb:b=T
    · subst hb; rw [upd_same] at e; cases e; exact new
    · rw [upd_ne hb] at e
      refine (I.hok b u e).stay (fun c v hc q=>k c v ?_ q) (fun c q=>by rw [upd_ne (neT c _ q)]; exact q) fun c xs q=>by rw [upd_ne (neT c _ q)]; exact q
      rcases hc with z | z
      · rw [z]; exact nfp b u e
      · exact nfp c _ z
theorem Inv.turnedL {t':Nat} (I:Inv X pins σ H s) (hf:∀ b∈fp,FpOk X pins H b) (k:∀ b u,b∉fp->s.heap.get? b=some u->h'.get? b=some u):Inv X pins σ H { s with heap:=h',toks:=t' }:=by
  have nfp:∀ b u,H b=some u->b∉fp:=fun b u e z=>by rw [(hf b z).1] at e; cases e
  refine I.step (g':=s.gens) (d':=s.drawn) (ch:=fp) (fun b hb=>?_) (fun b u _ _ hc e _=>k b u hc e) (fun b u _ _ hc e _=>⟨u.slots,k b u hc e⟩) (fun _ _ _ _ n=>n)
    (fun b u hc e=>⟨u,k b u hc e⟩) (fun _ _ e=>e) (fun _ _ _ e=>e) (fun b ps e=>⟨#[],by rw [e]; simp⟩) (fun m hm=>?_) (fun b u e=>?_) I.bare
  · obtain ⟨_,f1,_,f3,f4,f5⟩:=hf b hb
    exact ⟨f3,f1,f4,f5⟩
  · obtain ⟨u,es,ep,ho,r⟩:=hm
    exact ⟨u,es,ep,k _ u (fun z=>(hf _ z).2.1 rfl) ho,r⟩
  · refine (I.hok b u e).stay (fun c v hc q=>k c v ?_ q) (fun _ q=>q) fun _ _ q=>q
    rcases hc with z | z
    · rw [z]; exact nfp b u e
    · exact nfp c _ z
end
noncomputable def SqB (b:Bool) (K:PySem.W.Frag) (H:Hp) (a:Addr) (xs:List V):Prop:=if b=true then SqL K H a xs else SqT K H a xs
noncomputable def It0 (b:Bool) (h:Heap) (it src:Addr) (i:Nat):Prop:=if b=true then h.IsListIter it src i else h.IsTupleIter it src i
noncomputable def IsB (b:Bool) (h:Heap) (a:Addr) (xs:Array Value):Prop:=if b=true then h.IsList a xs else h.IsTuple a xs
theorem It0.at {b:Bool} {h h':Heap} {it src:Addr} {i:Nat} (x:It0 b h it src i) (k:∀ o,h.get? it=some o->h'.get? it=some o):It0 b h' it src i:=by
  cases b
  · exact Heap.IsTupleIter.at x k
  · exact Heap.IsListIter.at x k
theorem It0.obj {b:Bool} {h:Heap} {it src:Addr} {i:Nat} (x:It0 b h it src i):∃ o,h.get? it=some o/\∀ v,o.data≠.cell v:=by
  cases b
  · obtain ⟨o,e,c,d⟩:=(show h.IsTupleIter it src i from x)
    exact ⟨o,e,fun v z=>by rw [d] at z; cases z⟩
  · obtain ⟨o,e,c,d⟩:=(show h.IsListIter it src i from x)
    exact ⟨o,e,fun v z=>by rw [d] at z; cases z⟩
theorem it1_of {b:Bool} {h:Heap} {it src:Addr} {i:Nat} {xs:Array Value} (x:It0 b h it src i) (y:IsB b h src xs):ZP.It1 h it src i xs:=by
  cases b
  · exact .inr ⟨x,y⟩
  · exact .inl ⟨x,y⟩
theorem it0_of {b:Bool} {h:Heap} {it src:Addr} {i:Nat} {xs ys:Array Value} (y:IsB b h src ys) (x:ZP.It1 h it src i xs):It0 b h it src i:=by
  cases b
  · rcases x with ⟨_,o,e,c,_⟩ | ⟨x,_⟩
    · obtain ⟨o',e',c',_⟩:=(show h.IsTuple src ys from y)
      rw [e] at e'; cases e'; rw [c] at c'; simp at c'
    · exact x
  · rcases x with ⟨x,_⟩ | ⟨_,o,e,c,_⟩
    · exact x
    · obtain ⟨o',e',c',_⟩:=(show h.IsList src ys from y)
      rw [e] at e'; cases e'; rw [c] at c'; simp at c'
theorem IsB.at {b:Bool} {h h':Heap} {a:Addr} {xs:Array Value} (x:IsB b h a xs) (k:∀ o,h.get? a=some o->h'.get? a=some o):IsB b h' a xs:=by
  cases b
  · obtain ⟨o,e,r⟩:=(show h.IsTuple a xs from x); exact ⟨o,k o e,r⟩
  · obtain ⟨o,e,r⟩:=(show h.IsList a xs from x); exact ⟨o,k o e,r⟩
theorem IsB.lt {b:Bool} {h:Heap} {a:Addr} {xs:Array Value} (x:IsB b h a xs):a < h.objs.size:=by
  cases b
  · obtain ⟨o,e,r⟩:=(show h.IsTuple a xs from x); exact Heap.lt_size e
  · obtain ⟨o,e,r⟩:=(show h.IsList a xs from x); exact Heap.lt_size e
theorem SqB.inv {X:Cx} {pins:List (Addr×Obj)} {σ:St} {H:Hp} {s:Shared} {b:Bool} {a:Addr} {xs:List V} (I:Inv X pins σ H s) (h:SqB b X.K H a xs):∃ its:List Value,Vals xs its/\IsB b s.heap a its.toArray/\xs.length<=sizeLine:=by
  cases b
  · obtain ⟨its,r,pl,hz⟩:=I.tuple (show SqT X.K H a xs from h); exact ⟨its,r,pl,hz⟩
  · obtain ⟨its,r,pl,hz⟩:=I.list (show SqL X.K H a xs from h); exact ⟨its,r,pl.isList,hz⟩
section
variable {prog:Program} {w:World} {A:Around} {E:Value->Shared->Prop} {s:Shared}
theorem letGo_zip {elts:List Expr} {x1} {pos:Pos} {z TI TO T:Addr} {f0 f1:Value} {Q:Unit->Shared->Prop} (hz:s.heap.get? z=some (ZP.zobj TI TO f0 f1)) (hf:f0=.none\/∃ T:Nat,f0=rawInt T)
    (hQ:∀ h' g0,h'.get? z=some (ZP.zobj TI TO g0 f1)->(g0=.none\/∃ T:Nat,g0=rawInt T)->Heap.SameBut z s.heap h'->Q () { s with heap:=h' }):wpAny (model prog w) A (letOwnedTupleGo (.Tuple elts x1 pos) (.ref z) (.ref T)) Q E s:=by
  unfold letOwnedTupleGo
  refine wpAny_bind (wpAny_load hz ?_)
  show wpAny _ A (if (["enumerate","zip","dict_itemiterator","dict_reverseitemiterator","odict_iterator","itertools.zip_longest","itertools.pairwise"].contains "zip"&&(#[f0,f1,.bool false,.ref TI,.ref TO]:Array Value)[0]?==some (rawInt T))=true then _ else _) Q E s
  by_cases hc:(["enumerate","zip","dict_itemiterator","dict_reverseitemiterator","odict_iterator","itertools.zip_longest","itertools.pairwise"].contains "zip"&&(#[f0,f1,.bool false,.ref TI,.ref TO]:Array Value)[0]?==some (rawInt T))=true
  · rw [if_pos hc]
    refine wpAny_bind (wpAny_rule ?_)
    show wpAny _ A (setField (.ref z) 0 .none) Q E s
    exact wpAny_setField_rec hz (by simp) fun h' hz' hs'=>hQ h' .none hz' (.inl rfl) hs'
  · rw [if_neg hc]
    exact wpAny_pure (hQ s.heap f0 hz hf ⟨rfl,fun _ _=>rfl⟩)
end
noncomputable def tnz (b1 b2:Bool) (z TI TO i1 i2 l1 l2:Addr) (i:Nat) (h:Heap):Prop :=
  (∃ f0 f1,h.get? z=some (ZP.zobj TI TO f0 f1)/\(f0=.none\/∃ T:Nat,f0=rawInt T))/\IsPair h TI (.ref i1) (.ref i2)/\(∃ a b,IsPair h TO a b)/\It0 b1 h i1 l1 i/\It0 b2 h i2 l2 i
noncomputable def Itz (b1 b2:Bool) (K:PySem.W.Frag) (l1 l2:Addr) (xs ys:List V):It :=
  ⟨fun i H=>SqB b1 K H l1 xs/\SqB b2 K H l2 ys/\i < xs.length/\i < ys.length,fun i H x H'=>∃ T u v,H T=none/\x=.ref T/\xs[i]?=some u/\ys[i]?=some v/\H'=upd H T (.tup [u,v]),fun i H=>SqB b1 K H l1 xs/\SqB b2 K H l2 ys/\(xs.length<=i\/ys.length<=i)⟩
theorem turn_zip {P:Program} {w:World} {K:PySem.W.Frag} {elts:List Expr} {x1} {pos:Pos} {b1 b2:Bool} {z TI TO i1 i2 l1 l2:Addr} (D:ZP.Ap z TI TO i1 i2 l1 l2) (xs ys:List V):Turn P w K (.Tuple elts x1 pos) (Itz b1 b2 K l1 l2 xs ys) [z,TI,TO,i1,i2] z (tnz b1 b2 z TI TO i1 i2 l1 l2) where
  mem:=by simp
  obj:=fun i h st b hb=>by
    obtain ⟨⟨f0,f1,hz,_⟩,hTI,⟨a,c,hTO⟩,h1,h2⟩:=st
    simp only [List.mem_cons,List.not_mem_nil,or_false] at hb
    rcases hb with rfl | rfl | rfl | rfl | rfl
    · exact ⟨_,hz,fun v z=>by cases z⟩
    · exact ⟨_,hTI,fun v z=>by cases z⟩
    · exact ⟨_,hTO,fun v z=>by cases z⟩
    · exact h1.obj
    · exact h2.obj
  keep:=fun i h h' st k=>by
    obtain ⟨⟨f0,f1,hz,hf⟩,hTI,⟨a,c,hTO⟩,h1,h2⟩:=st
    exact ⟨⟨f0,f1,k z (by simp) _ hz,hf⟩,k TI (by simp) _ hTI,⟨a,c,k TO (by simp) _ hTO⟩,h1.at fun o e=>k i1 (by simp) o e,h2.at fun o e=>k i2 (by simp) o e⟩
  item:=by
    intro X hP hw hK hc i pins s σ H E I hf st hg
    subst hP hw hK
    obtain ⟨sx,sy,hx,hy⟩:=hg
    obtain ⟨its1,r1,y1,z1⟩:=sx.inv I
    obtain ⟨its2,r2,y2,z2⟩:=sy.inv I
    obtain ⟨⟨f0,f1,hz,hf0⟩,hTI,hTO,h1,h2⟩:=st
    have hT:s.TypeIs (.ref z) "zip":=⟨_,hz,rfl⟩
    obtain ⟨u,hu,ru⟩:=r1.get (List.getElem?_eq_getElem hx)
    obtain ⟨v,hv,rv⟩:=r2.get (List.getElem?_eq_getElem hy)
    have zlt:z < s.heap.objs.size:=Heap.lt_size hz
    unfold pyNext
    refine wpAny_bind (wpAny_attempt (wpAny_callSpecial?_slot (name:=Str.ofString "__next__") hT F.slot_zip_next
      (wpAny_call_entry F.slot_zip_next hT F.entry_zip_next
        (ZP.zip_next_item D ⟨⟨f0,f1,hz,hf0⟩,hTI,hTO,it1_of h1 y1,it1_of h2 y2⟩ (x:=u) (y:=v) (by simpa using hu) (by simpa using hv) fun h' T z' p' n' k'=>wpAny_pure ?_) (F.args_zip_next_1 _))))
    refine ⟨_,rfl,?_⟩
    obtain ⟨⟨g0,g1,hz',hg0⟩,hTI',⟨c,d,hTO'⟩,a1',a2'⟩:=z'
    have y1':IsB b1 h' l1 its1.toArray:=y1.at fun o e=>k' l1 o D.l1z D.l1TO D.l1i1 D.l1i2 e
    have y2':IsB b2 h' l2 its2.toArray:=y2.at fun o e=>k' l2 o D.l2z D.l2TO D.l2i1 D.l2i2 e
    refine letGo_zip (s:={ s with heap:=h' }) hz' hg0 fun h2 g2 hz2 hg2 sb=>?_
    have sb:Heap.SameBut z h' h2:=sb
    have kk:∀ b o,b∉[z,TI,TO,i1,i2]->s.heap.get? b=some o->h2.get? b=some o:=fun b o hb e=>by
      simp only [List.mem_cons,List.not_mem_nil,or_false,not_or] at hb
      obtain ⟨q1,q2,q3,q4,q5⟩:=hb
      exact sb.extBut b o q1 (k' b o q1 q3 q4 q5 e)
    have hTz:T≠z:=fun e=>absurd zlt (Nat.not_lt.mpr (e▸n'))
    have hp2:h2.get? T=some { cls:=.type "tuple",data:=.seq #[u,v] }:=sb.extBut T _ hTz p'
    refine ⟨.ref T,upd H T (.tup [xs[i],ys[i]]),I.turnLay (t':=s.toks) hf kk n' (show ObjOk X.prog X.w _ h2 T (.tup [xs[i],ys[i]]) from ⟨by show 2<=sizeLine; decide,[u,v],.cons ru (.cons rv .nil),_,hp2,rfl,_,rfl⟩),rfl,⟨T,xs[i],ys[i],I.hok.fresh n',rfl,List.getElem?_eq_getElem hx,List.getElem?_eq_getElem hy,rfl⟩,?_,fun b hb=>?_⟩
    · exact ⟨⟨g2,g1,hz2,hg2⟩,sb.extBut TI _ D.TIz hTI',⟨c,d,sb.extBut TO _ D.TOz hTO'⟩,(it0_of y1' a1').at fun o e=>sb.extBut i1 o D.i1z e,(it0_of y2' a2').at fun o e=>sb.extBut i2 o D.i2z e⟩
    · rw [upd_ne]
      · exact (hf b hb).1
      · rintro rfl
        simp only [List.mem_cons,List.not_mem_nil,or_false] at hb
        have:b < s.heap.objs.size:=by
          rcases hb with rfl | rfl | rfl | rfl | rfl
          · exact zlt
          · exact Heap.lt_size hTI
          · obtain ⟨_,_,q⟩:=hTO; exact Heap.lt_size q
          · obtain ⟨o,q,_⟩:=h1.obj; exact Heap.lt_size q
          · obtain ⟨o,q,_⟩:=h2.obj; exact Heap.lt_size q
        exact absurd this (Nat.not_lt.mpr n')
  done:=by
    intro X hP hw hK hc i pins s σ H E I hf st hg
    subst hP hw hK
    obtain ⟨sx,sy,hend⟩:=hg
    obtain ⟨its1,r1,y1,z1⟩:=sx.inv I
    obtain ⟨its2,r2,y2,z2⟩:=sy.inv I
    obtain ⟨⟨f0,f1,hz,hf0⟩,hTI,hTO,h1,h2⟩:=st
    have hT:s.TypeIs (.ref z) "zip":=⟨_,hz,rfl⟩
    have l1':=r1.length
    have l2':=r2.length
    unfold pyNext
    refine wpAny_bind (wpAny_attempt (wpAny_callSpecial?_slot (name:=Str.ofString "__next__") hT F.slot_zip_next
      (wpAny_call_entry F.slot_zip_next hT F.entry_zip_next (ZP.zip_next_end (I.ok.hd hc) D ⟨⟨f0,f1,hz,hf0⟩,hTI,hTO,it1_of h1 y1,it1_of h2 y2⟩ (by
        rcases hend with q | q
        · exact .inl (by simp; omega)
        · exact .inr (by simp; omega)) fun h' e hk he=>?_) (F.args_zip_next_1 _))))
    obtain ⟨o,ho,hcl⟩:=he
    refine wpAny_bind (wpAny_isInstance (T:="StopIteration") (b:=true) ⟨o,ho,hcl⟩ isSubtype_stop ?_)
    refine wpAny_pure ⟨rfl,I.turnedL (t':=s.toks) hf fun b o hb e=>?_⟩
    simp only [List.mem_cons,List.not_mem_nil,or_false,not_or] at hb
    obtain ⟨q1,q2,q3,q4,q5⟩:=hb
    exact hk b o q1 q3 q4 q5 e
  self:=fun A i s Q E st hQ=>by
    obtain ⟨⟨f0,f1,hz,_⟩,_⟩:=st
    have hT:s.TypeIs (.ref z) "zip":=⟨_,hz,rfl⟩
    refine wpAny_pyIter_slot hT F.slot_zip_iter (wpAny_call_entry F.slot_zip_iter hT F.entry_zip_iter ?_ (F.args_zip_iter_1 _))
    show wpAny _ _ (ret (.ref z)) _ _ s
    exact wpAny_pure ⟨_,rfl,"zip",_,hT,F.slot_zip_next.lookup,hQ⟩
theorem pi_zip {X:Cx} {elts:List Expr} {x1} {tpos:Pos} {a b:Expr} {ta tb:TE} {p pos:Pos} (hg:Gl X "zip") (hm:X.mg "zip"=none) (ha:PE X a ta) (hb:PE X b tb)
    (hs2:starEach [a,b] X.env=(false,eval a X.env)::starEach [b] X.env:=by rfl) (hs3:starEach [b] X.env=(false,eval b X.env)::starEach [] X.env:=by rfl) (hpl2:(backTo pos (starEach [b] X.env)).any (·.1)=false:=by rfl) :
    PI X (.Tuple elts x1 tpos) (.Call (.Name "zip" p) [a,b] [] pos) (fun σ H R=>ta σ H fun x H1=>tb σ H1 fun y H2=>∃ l1 l2 b1 b2 xs ys,x=.ref l1/\y=.ref l2/\SqB b1 X.K H2 l1 xs/\SqB b2 X.K H2 l2 ys/\R (Itz b1 b2 X.K l1 l2 xs ys) H2):=by
  intro pins s σ H R I h
  refine wpAny_Call_Name_kw (ld_blt I hg hm bt_zip ?_)
  refine PyProof.Rows.callWith_type1 (thn (pa_cons ha (pa_cons hb pa_nil hs3) hs2 pos pins s σ H (fun vs H2=>match vs with | [x,y]=>∃ l1 l2 b1 b2 xs ys,x=.ref l1/\y=.ref l2/\SqB b1 X.K H2 l1 xs/\SqB b2 X.K H2 l2 ys/\R (Itz b1 b2 X.K l1 l2 xs ys) H2 | _=>False) I h) fun us s1 ⟨vs,H1,I1,r1,hr⟩=>?_) hs2 hpl2
  match vs,r1,hr with
  | [],_,hr=>exact hr.elim
  | [_],_,hr=>exact hr.elim
  | _::_::_::_,_,hr=>exact hr.elim
  | [x,y],r1,hr =>
  obtain ⟨u1,u2,rfl,rx,ry⟩:=r1.two
  obtain ⟨l1,l2,b1,b2,xs,ys,rfl,rfl,sx,sy,hq⟩:=hr
  cases rx
  cases ry
  obtain ⟨its,q1,p1,z1⟩:=sx.inv I1
  obtain ⟨its2,q2,p2,z2⟩:=sy.inv I1
  have hl1:=p1.lt
  have hl2:=p2.lt
  have e1:s1.heap.IsList l1 its.toArray\/s1.heap.IsTuple l1 its.toArray:=by cases b1; exact .inr p1; exact .inl p1
  have e2:s1.heap.IsList l2 its2.toArray\/s1.heap.IsTuple l2 its2.toArray:=by cases b2; exact .inr p2; exact .inl p2
  have D:=ZP.ap_of hl1 hl2
  refine ZP.call_zipG e1 e2 fun h1 Zs1 hsz kp=>?_
  obtain ⟨⟨f0,f1,hz,hf0⟩,hTI,hTO,a1,a2⟩:=Zs1
  have tz:tnz b1 b2 (s1.heap.objs.size+4) (s1.heap.objs.size+2) (s1.heap.objs.size+3) s1.heap.objs.size (s1.heap.objs.size+1) l1 l2 0 h1:=⟨⟨f0,f1,hz,hf0⟩,hTI,hTO,it0_of (p1.at fun o e=>kp l1 o e) a1,it0_of (p2.at fun o e=>kp l2 o e) a2⟩
  refine (turn_zip (P:=X.prog) (w:=X.w) (K:=X.K) (elts:=elts) (x1:=x1) (pos:=tpos) (b1:=b1) (b2:=b2) D xs ys).self _ 0 _ _ _ tz ?_
  refine ⟨s1.heap.objs.size+4,_,_,_,H1,rfl,I1.kept (t':=s1.toks) fun b o e=>kp b o e,turn_zip D xs ys,tz,fun b hb=>?_,hq⟩
  refine I1.fpOk ?_ (I1.hok.fresh ?_) <;>
  · simp only [List.mem_cons,List.not_mem_nil,or_false] at hb
    rcases hb with rfl | rfl | rfl | rfl | rfl <;> (show (_:Nat)<=(_:Nat); omega)
end L2
namespace EV
open PySem PySem.Spec PyProof.Rows L2
variable {EX:D->Mm->Prop}
section
variable {X:Cx} {K:PySem.W.Frag} {Z:Zt} {μ:List Addr} {H:Hp} {M:Mm} {a b:Expr} {pos:Pos} {f g:FE} {tg:Expr}
noncomputable def dz:W->Option (List D)
  | .d (.tup xs)=>some xs
  | .d (.lst xs)=>some xs
  | .d (.fz xs)=>some xs
  | _=>none
theorem src_of {w:W} {v:V} {ds:List D} (r:Rw K μ H w v) (h:dz w=some ds):∃ (b:Bool) (a:Addr) (vs:List V) (S:List Addr->Hp->Prop),v=.ref a/\S μ H/\(∀ μ1 H1 μ2 H2,Lsts μ1 H1->S μ1 H1->Ext μ1 H1 μ2 H2->S μ2 H2)/\∀ μ1 H1,S μ1 H1->SqB b K H1 a vs/\Rps K μ1 H1 ds vs:=by
  cases w with
  | ref i=>cases h
  | d x=>cases x with
    | tup xs =>
      cases h
      simp only [Rw,Rp] at r
      obtain ⟨p,vs,rfl,h1,r1⟩:=r
      exact ⟨false,p,vs,fun μ2 H2=>H2 p=some (.tup vs)/\Rps K μ2 H2 ds vs,rfl,⟨h1,r1⟩,fun μ1 H1 μ2 H2 l z e=>⟨e.keep _ _ (fun q=>by obtain ⟨us,q⟩:=l p q; rw [z.1] at q; cases q) z.1,Rps.ext l e _ _ z.2⟩,fun μ1 H1 z=>⟨SqT.of z.1,z.2⟩⟩
    | lst xs =>
      cases h
      simp only [Rw,Rp] at r
      obtain ⟨p,vs,rfl,h1,hn,r1⟩:=r
      exact ⟨true,p,vs,fun μ2 H2=>H2 p=some (.lst vs)/\p∉μ2/\Rps K μ2 H2 ds vs,rfl,⟨h1,hn,r1⟩,fun μ1 H1 μ2 H2 l z e=>⟨e.keep _ _ z.2.1 z.1,fun q=>(e.new p q).elim z.2.1 (fun q=>by rw [z.1] at q; cases q),Rps.ext l e _ _ z.2.2⟩,fun μ1 H1 z=>⟨SqL.of z.1,z.2.2⟩⟩
    | fz xs =>
      cases h
      simp only [Rw,Rp] at r
      obtain ⟨p,vs,rfl,h1,r1⟩:=r
      exact ⟨true,p,vs,fun μ2 H2=>FzL K H2 p vs/\Rps K μ2 H2 ds vs,rfl,⟨h1,r1⟩,fun μ1 H1 μ2 H2 l z e=>⟨z.1.ext l e,Rps.ext l e _ _ z.2⟩,fun μ1 H1 z=>⟨z.1.sq,z.2⟩⟩
    | _=>cases h
theorem zipT_get {xs ys:List D} {i:Nat} {d:D} (h:(zipT xs ys)[i]?=some d):∃ x y,xs[i]?=some x/\ys[i]?=some y/\d=.tup [x,y]:=by
  unfold zipT at h
  rw [List.getElem?_map,Option.map_eq_some_iff] at h
  obtain ⟨p,h1,rfl⟩:=h
  rw [List.getElem?_zip_eq_some] at h1
  exact ⟨_,_,h1.1,h1.2,rfl⟩
theorem zipT_length {xs ys:List D}:(zipT xs ys).length=min xs.length ys.length:=by simp [zipT]
theorem pair_new {T:Addr} {x y:D} {u v:V} (hr:HR K μ H M) (hT:H T=none) (r1:Rp K μ H x u) (r2:Rp K μ H y v):Ext μ H μ (upd H T (.tup [u,v]))/\HR K μ (upd H T (.tup [u,v])) M/\Rp K μ (upd H T (.tup [u,v])) (.tup [x,y]) (.ref T):=by
  have e:=ext_lay (o:=.tup [u,v]) hr hT
  refine ⟨e,hr.lay hT,?_⟩
  simp only [Rp]
  exact ⟨T,[u,v],rfl,upd_same,.cons (Rp.ext hr.lsts e _ _ r1) (.cons (Rp.ext hr.lsts e _ _ r2) .nil)⟩
noncomputable def iZip (f g:FE):FI:=fun L M=>(f L M).bind fun x M1=>(g L M1).bind fun y M2=>match dz x,dz y with
  | some xs,some ys=>.ok ⟨zipT xs ys,none⟩ M2
  | _,_=>.bad
theorem ei_zip {elts:List Expr} {x1} {tpos p:Pos} (hm:X.mg "zip"=none) (ha:Ev X K Z a f) (hb:Ev X K Z b g) (hg:Gl X "zip":=by rfl)
    (hs2:starEach [a,b] X.env=(false,eval a X.env)::starEach [b] X.env:=by rfl) (hs3:starEach [b] X.env=(false,eval b X.env)::starEach [] X.env:=by rfl) (hpl2:(backTo pos (starEach [b] X.env)).any (·.1)=false:=by rfl):Ei X K Z (.Tuple elts x1 tpos) (.Call (.Name "zip" p) [a,b] [] pos) (iZip f g):=by
  have h':=pi_zip (elts:=elts) (x1:=x1) (tpos:=tpos) (p:=p) (pos:=pos) hg hm ha.h hb.h hs2 hs3 hpl2
  rw [ha.k] at h'
  refine ⟨ha.k,cqI h' ?_⟩
  rintro σ H R ⟨μ,M,L,hr,lr,p⟩
  refine ⟨μ,M,L,hr,lr,p.bind.imp fun μ1 H1 M1 w e1 hr1 _ p1 v rw'=>?_⟩
  refine ⟨μ1,M1,L,hr1,lr.ext hr.lsts e1,p1.bind.imp fun μ2 H2 M2 w2 e2 hr2 _ p2 v2 rw2=>?_⟩
  cases q1:dz w with
  | none=>simp only [q1] at p2; exact p2.elim
  | some xs =>
    cases q2:dz w2 with
    | none=>simp only [q1,q2] at p2; exact p2.elim
    | some ys =>
      simp only [q1,q2] at p2
      obtain ⟨b1,l1,vs1,S1,rfl,s1,x1,d1⟩:=src_of (rw'.ext hr1.lsts e2) q1
      obtain ⟨b2,l2,vs2,S2,rfl,s2,x2,d2⟩:=src_of rw2 q2
      refine ⟨l1,l2,b1,b2,vs1,vs2,rfl,rfl,(d1 _ _ s1).1,(d2 _ _ s2).1,p2 μ2 H2 .refl hr2 _ ?_⟩
      refine ⟨fun μ H=>S1 μ H/\S2 μ H,⟨s1,s2⟩,fun μ1 H1 μ2 H2 l z e=>⟨x1 _ _ _ _ l z.1 e,x2 _ _ _ _ l z.2 e⟩,fun μ3 H3 M3 i hr3 hS hc=>?_⟩
      obtain ⟨c1,r1⟩:=d1 _ _ hS.1
      obtain ⟨c2,r2⟩:=d2 _ _ hS.2
      refine ⟨fun d hd=>?_,fun hl=>?_⟩
      · obtain ⟨x,y,hx,hy,rfl⟩:=zipT_get hd
        obtain ⟨u,hu,ru⟩:=r1.get hx
        obtain ⟨v,hv,rv⟩:=r2.get hy
        refine ⟨⟨c1,c2,(List.getElem?_eq_some_iff.mp hu).1,(List.getElem?_eq_some_iff.mp hv).1⟩,fun x' H4 hy4=>?_⟩
        obtain ⟨T,u',v',hT,rfl,hu',hv',rfl⟩:=hy4
        rw [hu] at hu'; cases hu'
        rw [hv] at hv'; cases hv'
        exact pair_new hr3 hT ru rv
      · refine ⟨c1,c2,?_⟩
        simp only [zipT_length] at hl
        rw [<- r1.length,<- r2.length]
        omega
end
section
variable {L:Lc} {M:Mm} {f g:FE}
theorem ok_iZip {QI:Src->Mm->Prop} (h:Okx EX (f L M) fun x M1=>Okx EX (g L M1) fun y M2=>∃ xs ys,dz x=some xs/\dz y=some ys/\QI ⟨zipT xs ys,none⟩ M2):Okx EX (iZip f g L M) QI :=
  ok_bind (h.mono fun x M1 z=>ok_bind (z.mono fun y M2 ⟨xs,ys,e1,e2,q⟩=>by simp only [e1,e2]; exact ok_ok q))
end
end EV
namespace L2
open PySem PySem.Spec PyProof.Rows
section
variable {prog:Program} {w:World} {A:Around} {E:Value->Shared->Prop} {s:Shared}
end
end L2
namespace L2
open PySem PySem.Spec PyProof.Rows
open AutoSeq1 (wpAny_loadPart')
section
variable {prog:Program} {w:World} {A:Around} {E:Value->Shared->Prop} {s:Shared}
end
end L2
namespace EV
open PySem PySem.Spec PyProof.Rows L2
variable {EX:D->Mm->Prop}
section
variable {X:Cx} {K:PySem.W.Frag} {Z:Zt} {μ:List Addr} {H:Hp} {M:Mm} {a b:Expr} {pos:Pos} {f g:FE} {tg:Expr}
end
section
variable {L:Lc} {M:Mm} {f g:FE}
end
end EV
namespace L2
open PySem PySem.Spec PyProof.Rows
open AutoSeq1 (wpAny_loadPart')
theorem extend_tup (l b:Addr) (xs ys:Array Value) (n n2:Nat) (dd:Option Addr) (sl:Array (Option Value)) (h0:¬(!xs.isEmpty&&Builtin.List.listTooLong (xs.size+ys.size))=true) (h1:xs.size<=sizeLine) (h2:xs.size+ys.size<=sizeLine+1) :
    Meets (Builtin.«list.extend» ⟨[.ref l,.ref b],[]⟩) (fun _ R s=>s.heap.get? l=some { cls:=.type "list",dict:=none,data:=.seq xs n,slots:=#[] }/\s.heap.get? b=some { cls:=.type "tuple",dict:=dd,data:=.seq ys n2,slots:=sl }/\R (.ok (.ret Value.none)) { s with heap:=s.heap.update l (Obj.mapSeq fun x=>x++ys),toks:=s.toks }) :=
  .of_wp fun prog w A R s h=>by
    obtain ⟨hp,g,d,tk,os⟩:=s; obtain ⟨hl,hb,h⟩:=h
    have f1:=AutoSeq1.idx_int; have f2:=AutoSeq1.sub_tuple_tuple; have f3:=AutoSeq1.sub_list_list; have f4:=AutoSeq1.sub_tuple_list; have f5:=AutoSeq1.sub_list_tuple
    have hz':(xs++ys).size<=sizeLine+1:=by rw [Array.size_append]; exact h2
    wp_walk using (wpAny_updateSeq hl rfl (hz:=h1) (_hz':=hz')),wpAny_loadPart' hl,wpAny_loadPart' hb
    exact ⟨_,rfl,h⟩
section
variable {X:Cx}
noncomputable def rExtendT (K:PySem.W.Frag):V->List V->Hp->VK->Prop:=fun x vs H Q=>∃ l b xs zs,x=.ref l/\vs=[.ref b]/\H l=some (.lst xs)/\SqT K H b zs/\xs.length+zs.length<=sizeLine/\Q .non (upd H l (.lst (xs++zs)))
theorem mt_extendT:MtM X "list.extend" (fun x vs H Q=>rExtend x vs H Q\/rExtendT X.K x vs H Q):=by
  intro pins s σ H x vs v us Q I rx rv h
  rcases h with h | h
  · exact mt_extend pins s σ H x vs v us Q I rx rv h
  obtain ⟨l,b,xs,zs,rfl,rfl,hH,hB,hz,q⟩:=h
  cases rx
  obtain ⟨u,rfl,ru⟩:=rv.one
  cases ru
  obtain ⟨z,its,n,r,hl,e⟩:=I.lstM hH
  obtain ⟨its2,r2,⟨o,e2,c2,n2,d2⟩,z2⟩:=I.tuple hB
  obtain ⟨oc,od,odt,osl⟩:=o
  have c2:oc=.type "tuple":=c2
  have d2:odt=.seq its2.toArray n2:=d2
  subst c2 d2
  have l1:=r.length
  have l2:=r2.length
  have hsz:its.toArray.size+its2.toArray.size<=sizeLine:=by rw [List.size_toArray,List.size_toArray]; omega
  have hlong:¬ (!its.toArray.isEmpty&&Builtin.List.listTooLong (its.toArray.size+its2.toArray.size))=true:=by
    rw [notLongL hsz,Bool.and_false]
    exact Bool.false_ne_true
  refine call_meets F.slot_list_extend ⟨_,e,rfl⟩ F.entry_list_extend (F.args_list_extend_2 _ _) (extend_tup l b its.toArray its2.toArray n n2 od osl hlong (by rw [List.size_toArray]; omega) (by omega)) ⟨e,e2,?_⟩
  refine ⟨.non,_,I.lset (its':=its++its2) hH e (by simp) (r.append r2) ?_,rfl,q⟩
  rw [List.length_append]
  omega
end
end L2
namespace EV
open PySem PySem.Spec PyProof.Rows L2
variable {EX:D->Mm->Prop}
section
variable {X:Cx} {K:PySem.W.Frag} {Z:Zt} {μ:List Addr} {H:Hp} {M:Mm} {a b c o e i:Expr} {es:List Expr} {pos:Pos} {fs:FA} {f fa fb fc fo fe fi:FE} {tg:Expr}
noncomputable def pExtendA (x y:W) (M:Mm):Oc W:=match x,y with
  | .ref k,.d (.tup ys)=>match M[k]? with
    | some xs=>if xs.length+ys.length<=16777216 then .ok (.d .non) (M.set k (xs++ys)) else .bad
    | _=>.bad
  | x,y=>pExtend x y M
theorem ev_extendA {apos cpos:Pos} (ho:Ev X K Z o fo) (he:Ev X K Z e fa) (hbase:attributeBase o "extend" X.env (eval o X.env)=eval o X.env:=by rfl)
    (hfew:((backTo cpos (starEach [e] X.env)).all (fun x=>!x.1)&&(backToKw cpos (keywordEach [] X.env)).all (fun x=>x.1.isSome)&&decide ([e].length+([]:List Keyword).length+(if ([]:List Keyword).isEmpty then 0 else 1) < 30))=true:=by rfl)
    (hline:(apos.endLine==cpos.line)=true:=by rfl) (hs:starEach [e] X.env=(false,eval e X.env)::starEach [] X.env:=by rfl) (hplain:(backTo cpos (starEach [] X.env)).any (·.1)=false:=by rfl) :
    Ev X K Z (.Call (.Attribute o "extend" apos) [e] [] cpos) (eM1 pExtendA fo fa):=by
  have h:=pe_bm PySem.F.plainAttrs_list PySem.F.slot_list_extend PySem.F.type_list_extend mt_extendT ho.h (pa_cons he.h pa_nil hs) hbase hfew hline hs hplain
  rw [ho.k] at h
  refine ⟨ho.k,cqE h ?_⟩
  rintro σ H Q ⟨μ,M,L,hr,lr,p⟩
  refine ⟨μ,M,L,hr,lr,p.bind.imp fun μ1 H1 M1 x e1 hr1 _ p1 v rx=>?_⟩
  cases x with
  | d x=>exact p1.elim
  | ref k =>
    refine ⟨ref_ty hr1 rx,μ1,M1,L,hr1,lr.ext hr.lsts e1,p1.bind.imp fun μ2 H2 M2 y e2 hr2 _ p2 u ry=>?_⟩
    have lst:Pst K Z μ2 H2 (pExtend (.ref k) y M2) (fun μ' H' _ w=>∀ v,Rw K μ' H' w v->Q v H')->rExtend v [u] H2 Q:=fun p2=>by
      simp only [pExtend] at p2
      cases q1:M2[k]? with
      | none=>simp only [q1] at p2; exact p2.elim
      | some xs =>
        cases q2:lv M2 y with
        | none=>simp only [q1,q2] at p2; exact p2.elim
        | some ys =>
          simp only [q1,q2] at p2
          split at p2
          · rename_i hz
            obtain ⟨a,qa,rfl⟩:=rx.ext hr1.lsts e2
            obtain ⟨a',vs,qa',h1,r1⟩:=hr2.at q1
            rw [qa] at qa'; cases qa'
            obtain ⟨b,us,rfl,h2,r2⟩:=lv_at hr2 ry q2
            refine ⟨a,b,vs,us,rfl,rfl,h1,h2,by rw [<- r1.length,<- r2.length,sizeLine_eq]; exact hz,?_⟩
            exact p2 μ2 _ (ext_set qa) (hr2.set qa (r1.append r2)) _ (by simp [Rw,Rp])
          · exact p2.elim
    cases y with
    | ref j=>exact .inl (lst p2)
    | d y=>cases y with
      | tup ys =>
        simp only [pExtendA] at p2
        cases q1:M2[k]? with
        | none=>simp only [q1] at p2; exact p2.elim
        | some xs =>
          simp only [q1] at p2
          split at p2
          · rename_i hz
            obtain ⟨a,qa,rfl⟩:=rx.ext hr1.lsts e2
            obtain ⟨a',vs,qa',h1,r1⟩:=hr2.at q1
            rw [qa] at qa'; cases qa'
            simp only [Rw,Rp] at ry
            obtain ⟨b,us,rfl,h2,r2⟩:=ry
            refine .inr ⟨a,b,vs,us,rfl,rfl,h1,SqT.of h2,by rw [<- r1.length,<- r2.length,sizeLine_eq]; exact hz,?_⟩
            exact p2 μ2 _ (ext_set qa) (hr2.set qa (r1.append r2)) _ (by simp [Rw,Rp])
          · exact p2.elim
      | _=>exact .inl (lst p2)
end
section
variable {L:Lc} {M:Mm} {f:FE} {fs:FA} {fi:FE} {x y:W} {Q:W->Mm->Prop} {QS:Out->Mm->Prop}
theorem ok_extendL {k:Nat} {xs ys:List D} (hy:∀ z,y≠.d (.tup z)) (h:M[k]?=some xs) (h2:lv M y=some ys) (hz:xs.length+ys.length<=16777216) (q:Q (.d .non) (M.set k (xs++ys))):Okx EX (pExtendA (.ref k) y M) Q:=by
  have:pExtendA (.ref k) y M=pExtend (.ref k) y M:=by
    unfold pExtendA
    split
    · exact (hy _ rfl).elim
    · rfl
  rw [this]; exact ok_extend h h2 hz q
end
end EV
namespace L2
open PySem PySem.Spec PyProof.Rows
section
variable {prog:Program} {w:World} {A:Around} {E:Value->Shared->Prop} {s:Shared}
end
section
variable {X:Cx} {pos:Pos}
end
end L2
namespace EV
open PySem PySem.Spec PyProof.Rows L2
variable {EX:D->Mm->Prop}
section
variable {X:Cx} {K:PySem.W.Frag} {Z:Zt} {es:List Expr} {pos:Pos}
end
section
variable {L:Lc} {M:Mm} {QG:Lc->Mm->Prop}
end
end EV
namespace L2
open PySem PySem.Spec PyProof.Rows
end L2
namespace EV
open PySem PySem.Spec PyProof.Rows L2
variable {EX:D->Mm->Prop}
section
variable {X:Cx} {K:PySem.W.Frag} {Z:Zt}
end
section
variable {L:Lc} {M:Mm} {x:W} {Q:W->Mm->Prop}
end
end EV
namespace EV
open PySem PySem.Spec PyProof.Rows L2
variable {EX:D->Mm->Prop}
section
variable {X:Cx} {K:PySem.W.Frag} {Z:Zt} {μ:List Addr} {H:Hp} {M:Mm} {a tg:Expr} {pos pos2:Pos} {f:FE}
noncomputable def downD (n:Nat):List D:=(List.range n).map fun i=>D.int ((n:Int) - 1 - (i:Nat))
theorem downD_get {n i:Nat} {d:D} (h:(downD n)[i]?=some d):i < n/\d=.int ((n:Int) - 1 - (i:Nat)):=by
  unfold downD at h
  rw [List.getElem?_map,Option.map_eq_some_iff] at h
  obtain ⟨k,h1,rfl⟩:=h
  obtain ⟨h2,h3⟩:=List.getElem?_eq_some_iff.mp h1
  simp only [List.length_range] at h2
  simp only [List.getElem_range] at h3
  subst h3
  exact ⟨h2,rfl⟩
theorem downD_length {n:Nat}:(downD n).length=n:=by simp [downD]
theorem itd_ok {n:Nat}:ItOk K μ H ⟨downD n,none⟩ (Itd n) :=
  ⟨fun _ _=>True,trivial,fun _ _ _ _ _ _ _=>trivial,fun μ1 H1 M1 i hr _ _=>⟨fun d hd=>by
    obtain ⟨h1,rfl⟩:=downD_get hd
    refine ⟨h1,fun x H2 y=>?_⟩
    obtain ⟨rfl,rfl⟩:=y
    exact ⟨.refl,hr,by simp [Rp]⟩,fun h=>by rw [show (Src.ds ⟨downD n,none⟩)=downD n from rfl,downD_length] at h; exact h⟩⟩
noncomputable def iDown (f:FE):FI:=fun L M=>(f L M).bind fun w M1=>match w with
  | .d (.int j)=>if 0<=j/\j < 4611686018427387904 then .ok ⟨downD j.toNat,none⟩ M1 else .bad
  | _=>.bad
theorem ei_down {p p2:Pos} (hm:X.mg "reversed"=none) (hm2:X.mg "range"=none) (ha:Ev X K Z a f) (hg:Gl X "reversed":=by rfl) (hg2:Gl X "range":=by rfl) (hs:starEach [a] X.env=[(false,eval a X.env)]:=by rfl)
    (hs2:starEach [.Call (.Name "range" p2) [a] [] pos2] X.env=[(false,eval (.Call (.Name "range" p2) [a] [] pos2) X.env)]:=by rfl):Ei X K Z tg (.Call (.Name "reversed" p) [.Call (.Name "range" p2) [a] [] pos2] [] pos) (iDown f):=by
  refine ⟨ha.k,cqI (pi_revR (tg:=tg) (p:=p) (pos:=pos) hg hm (pa_cons (pe_callTy call_range1 hg2 hm2 boot_range' (pa_cons ha.h pa_nil hs) (by decide) (by decide) hs rfl) pa_nil hs2) hs2) ?_⟩
  rintro σ H R ⟨μ,M,L,hr,lr,p⟩
  refine ⟨μ,M,L,hr,lr,p.bind.imp fun μ1 H1 M1 w e1 hr1 _ p1 v rw'=>?_⟩
  cases w with
  | ref i=>exact p1.elim
  | d x=>cases x with
    | int j =>
      simp only at p1
      split at p1
      · rename_i hz
        simp only [Rw,Rp] at rw'
        subst rw'
        refine ⟨j,rfl,fun q hq=>⟨q,j,rfl,upd_same,hz.1,by simpa using hz.2,?_⟩⟩
        exact p1 μ1 _ (ext_lay hr1 hq) (hr1.lay hq) _ itd_ok
      · exact p1.elim
    | _=>exact p1.elim
end
section
variable {L:Lc} {M:Mm} {f:FE}
theorem ok_iDown {QI:Src->Mm->Prop} (h:Okx EX (f L M) fun x M1=>∃ j:Int,x=.d (.int j)/\0<=j/\j < 4611686018427387904/\QI ⟨downD j.toNat,none⟩ M1):Okx EX (iDown f L M) QI :=
  ok_bind (h.mono fun x M1 ⟨j,e,h0,h1,q⟩=>by subst e; simp only; rw [if_pos ⟨h0,h1⟩]; exact ok_ok q)
end
end EV
namespace EV
open PySem PySem.Spec PyProof.Rows L2
variable {EX:D->Mm->Prop}
section
variable {X:Cx} {K:PySem.W.Frag} {Z:Zt} {pos:Pos} {F:FS}
noncomputable def eTrim (f:FE):FE:=fun L M=>(f L M).bind fun w M'=>match w with
  | .d x=>.ok (.d x) (M'.take M.length)
  | _=>.bad
theorem ev_trim {e:Expr} {f:FE} (h:Ev X K Z e f):Ev X K Z e (eTrim f):=by
  refine ⟨h.k,cqE h.h ?_⟩
  rintro σ H Q ⟨μ,M,L,hr,lr,p⟩
  refine ⟨μ,M,L,hr,lr,p.bind.imp fun μ' H' M' w e hr' eq p1 v rv=>?_⟩
  cases w with
  | ref i=>exact p1.elim
  | d x =>
    have hsub:∀ a,a∈μ->a∈μ':=fun a ha=>by rw [<- e.take] at ha; exact List.mem_of_mem_take ha
    have q1:=hr'.back e
    unfold eTrim at p
    rw [eq] at p
    exact p μ H' e.back (by rw [<- hr.len]; exact q1) v (Rp.sub hsub x v rv)
end
section
variable {L:Lc} {M:Mm} {f:FE} {Q:W->Mm->Prop}
theorem ok_trim (h:Okx EX (f L M) fun w M'=>∃ x,w=.d x/\Q (.d x) (M'.take M.length)):Okx EX (eTrim f L M) Q :=
  ok_bind (h.mono fun w M' ⟨x,e,q⟩=>by subst e; exact ok_ok q)
end
end EV
namespace EV
open PySem PySem.Spec PyProof.Rows L2
noncomputable def ZR (K:PySem.W.Frag) (R:Addr->Hp->Prop):Zt:=⟨fun x M μ H=>∀ μ' H',Ext μ H μ' H'->HR K μ' H' M->∀ a,Rp K μ' H' x (.ref a)->R a H',fun e h μ' H' e' hr a ra=>h μ' H' (e.trans e') hr a ra⟩
noncomputable abbrev wishR (E:XK):Addr->Hp->Prop:=fun a H'=>E (.ref a) none H'
noncomputable def spX (K:PySem.W.Frag) (m:Nat) (Fm:Fn):Sp:=fun vs H Q E=>vs.length=m/\∃ μ M ws,HR K μ H M/\Rws K μ H ws vs/\Pst K (ZR K (wishR E)) μ H (Fm ws M) (Wk K Q)
section
variable {X:Cx} {K:PySem.W.Frag} {Z:Zt} {R:Addr->Hp->Prop} {μ:List Addr} {H:Hp} {M:Mm} {e a b:Expr} {es:List Expr} {pos:Pos} {f fa fb fc:FE} {fs:FA} {st:Stmt} {rest:List Stmt} {F G:FS}
theorem Pst.never {α:Type} {o:Oc α} {Q:List Addr->Hp->Mm->α->Prop} (h:Pst K Z0 μ H o Q):Pst K Z μ H o Q:=by
  cases o with
  | ok a M=>exact h
  | ex x M=>exact h.elim
  | bad=>exact h
noncomputable def fnX (m n:Nat) (F:FS):Fn:=fun ws M=>match fnD m n F ws M with
  | .ok w M'=>.ok w M'
  | .ex x M'=>.ex x (M'.take M.length)
  | .bad=>.bad
structure FunG (K:PySem.W.Frag) (x qual:Str) (st:Stmt) (f:Addr) (fd:FuncData):Prop where
  ex:∃ (oc:Value) (od:Option Addr) (dV kV doc pm:Value) (an:Option Addr) (cdv ct:Value) (osl:Array (Option Value)),
    fd=PySem.W.fnOf x qual (defArgs st) (defBody st) (defScope st) dV kV doc pm an cdv ct/\K.lookup f=some ⟨oc,od,.func fd,osl⟩/\PySem.W.codeIn K cdv qual=true
theorem _root_.L2.Fun.g {x qual:Str} {st:Stmt} {f:Addr} {fd:FuncData} (F:Fun K x qual st f fd):FunG K x qual st f fd:=by
  obtain ⟨oc,od,kV,doc,pm,an,cdv,ct,osl,h⟩:=F.ex
  exact ⟨oc,od,_,kV,doc,pm,an,cdv,ct,osl,h⟩
structure FunD (K:PySem.W.Frag) (x qual:Str) (st:Stmt) (f:Addr) (fd:FuncData) (d:Value):Prop where
  ex:∃ (T:Addr) (oc:Value) (od:Option Addr) (kV doc pm:Value) (an:Option Addr) (cdv ct:Value) (osl:Array (Option Value)),
    fd=PySem.W.fnOf x qual (defArgs st) (defBody st) (defScope st) (.ref T) kV doc pm an cdv ct/\K.lookup f=some ⟨oc,od,.func fd,osl⟩/\PySem.W.codeIn K cdv qual=true/\∃ c dd n sl,K.lookup T=some ⟨c,dd,.seq #[d] n,sl⟩
theorem FunD.g {x qual:Str} {st:Stmt} {f:Addr} {fd:FuncData} {d:Value} (F:FunD K x qual st f fd d):FunG K x qual st f fd:=by
  obtain ⟨T,oc,od,kV,doc,pm,an,cdv,ct,osl,h1,h2,h3,_⟩:=F.ex
  exact ⟨oc,od,_,kV,doc,pm,an,cdv,ct,osl,h1,h2,h3⟩
theorem FunD.binds {x qual:Str} {st:Stmt} {f:Addr} {fd:FuncData} {ps:List Str} {d:Value} (F:FunD K x qual st f fd d)
    (h:∀ (T:Addr) (kV doc pm:Value) (an:Option Addr) (cdv ct:Value) (us:List Value),us.length=ps.length->∃ k,bindArgs (PySem.W.fnOf x qual (defArgs st) (defBody st) (defScope st) (.ref T) kV doc pm an cdv ct) ⟨us,[]⟩=seqItems? (.ref T) >>= k/\k (some #[d])=pure (ps.zip us)):Binds K fd ps []:=by
  obtain ⟨T,oc,od,kV,doc,pm,an,cdv,ct,osl,rfl,h2,h3,c,dd,n,sl,hT⟩:=F.ex
  intro s us X hl
  rw [List.append_nil] at hl ⊢
  obtain ⟨k,h1,h2⟩:=h T kV doc pm an cdv ct us hl
  exact PySem.W.binds_K X rfl hT rfl h1 h2
theorem fnX_len {m n:Nat} {F:FS} {ws:List W} {M:Mm} (h:ws.length≠m):fnX m n F ws M=.bad:=by unfold fnX fnD; rw [if_neg h]
theorem fn_okX {P:Program} {w:World} {mg:Str->Option Value} {base:Heap} {x qual:Str} {st:Stmt} {fa:Addr} {fd:FuncData} {N ps:List Str} {k:Nat} {F:FS} (hf:FunG K x qual st fa fd) (S:FnScope N ps (defScope st))
    (hb:∀ (cdv:Value) (A:Around) (outer:List Env) (s:Shared) (H:Hp) (E:XK),Room k (A.deeper (envOfC qual (defScope st) s.heap.objs.size fa cdv))->Xz (cxOf (CX1 P w) P w K mg base N qual (defScope st) fa cdv A outer s H E) (wishR E) ->
      Ess (cxOf (CX1 P w) P w K mg base N qual (defScope st) fa cdv A outer s H E) K (ZR K (wishR E)) (defBody st) F) :
    FnOk P w K mg base (CX1 P w) (k+1) fa fd ps (spX K ps.length (fnX ps.length N.length F)):=by
  obtain ⟨oc,od,dV,kV,doc,pm,an,cdv,ct,osl,rfl,lk,hcd⟩:=hf.ex
  refine fn_of lk hcd S (fun vs H Q E h=>h.1) fun A outer s H vs Q E hr hsp=>⟨_,(hb cdv A outer s H E hr xz_cx).h,?_⟩
  obtain ⟨hv,μ,M,ws,hr,rx,p⟩:=hsp
  refine ⟨μ,M,_,hr,lr_start rx,?_⟩
  unfold fnX fnD at p
  rw [if_pos (by rw [rx.length]; exact hv)] at p
  cases q:F (ws.map some++List.replicate (N.length - ws.length) none) M with
  | bad=>rw [q] at p; exact p
  | ex z M' =>
    rw [q] at p
    intro μ1 H1 e1 hr1 a ra
    have hb:=hr1.back e1
    rw [hr.len] at hb
    have hsub:∀ a,a∈μ->a∈μ1:=fun a ha=>by rw [<- e1.take] at ha; exact List.mem_of_mem_take ha
    exact p μ H1 e1.back hb a (Rp.sub hsub z _ ra)
  | ok o M' =>
    rw [q] at p
    simp only [bind_ok] at p
    intro μ1 H1 e1 hr1
    have hb:=hr1.back e1
    rw [hr.len] at hb
    cases o with
    | nx L'=>exact fun σ' lr'=>p μ H1 e1.back hb _ (by simp [Rw,Rp])
    | bk L'=>exact p.elim
    | ct L'=>exact p.elim
    | rt w =>
      intro v rv
      have hsub:∀ a,a∈μ->a∈μ1:=fun a ha=>by rw [<- e1.take] at ha; exact List.mem_of_mem_take ha
      cases w with
      | d x=>exact p μ H1 e1.back hb v (Rp.sub hsub x v rv)
      | ref i =>
        simp only [retc] at p
        by_cases hi:i < M.length
        · rw [if_pos hi] at p
          obtain ⟨a,qa,rfl⟩:=rv
          refine p μ H1 e1.back hb _ ⟨a,?_,rfl⟩
          rw [<- hr.len] at hi
          rw [<- e1.take,List.getElem?_take_of_lt hi]; exact qa
        · rw [if_neg hi] at p
          cases q2:M'[i]? with
          | none=>rw [q2] at p; exact p.elim
          | some ds =>
            rw [q2] at p
            obtain ⟨a,qa,rfl⟩:=rv
            obtain ⟨a',vs',qa',h1,r1⟩:=hr1.at q2
            rw [qa] at qa'; cases qa'
            have hna:a∉μ:=fun z=>by
              obtain ⟨j,h2⟩:=List.mem_iff_getElem?.mp z
              have hj:=(List.getElem?_eq_some_iff.mp h2).1
              have h2:=e1.pre j a h2
              have l1:=(List.getElem?_eq_some_iff.mp qa).1
              have l2:=(List.getElem?_eq_some_iff.mp h2).1
              have g1:=(List.getElem?_eq_some_iff.mp qa).2
              have g2:=(List.getElem?_eq_some_iff.mp h2).2
              have pw:=List.pairwise_iff_getElem.mp hr1.nd
              rw [hr.len] at hj
              exact pw j i l2 l1 (by omega) (g2.trans g1.symm)
            refine p μ H1 e1.back hb _ ?_
            simp only [Rw,Rp]
            exact ⟨a,vs',rfl,h1,hna,Rps.sub hsub _ _ r1⟩
theorem fn_badX {P:Program} {w:World} {K:PySem.W.Frag} {mg:Str->Option Value} {base:Heap} {CX:CXT} {k m:Nat} {f:Addr} {fd:FuncData} {ps:List Str} (hl:ps.length=m):FnOk P w K mg base CX k f fd ps (spX K m (fun _ _=>.bad)) :=
  ⟨fun vs H Q E h=>by rw [h.1,hl],fun A outer s H args us vs Q E _ _ _ _ h=>by obtain ⟨_,μ,M,ws,_,_,p⟩:=h; exact p.elim⟩
theorem sp_len {m:Nat} {Fm:Fn} {vs:List V} {ws:List W} {μ1:List Addr} {H1:Hp} {M1:Mm} {Q:VK} {E:XK} (hlen:∀ ws M,ws.length≠m->Fm ws M=.bad) (hr1:HR K μ1 H1 M1) (rx:Rws K μ1 H1 ws vs) (p1:Pst K (ZR K (wishR E)) μ1 H1 (Fm ws M1) (Wk K Q)):spX K m Fm vs H1 Q E:=by
  refine ⟨?_,μ1,M1,ws,hr1,rx,p1⟩
  by_cases hw:ws.length=m
  · rw [<- rx.length]; exact hw
  · rw [hlen ws M1 hw] at p1; exact p1.elim
noncomputable abbrev EofR (R:Addr->Hp->Prop):XK:=fun v _ H'=>∃ a,v=.ref a/\R a H'
theorem ZR.to (h:∀ a H,R a H->wishR (EofR R) a H:=fun a H h=>⟨a,rfl,h⟩) {α:Type} {o:Oc α} {Q:List Addr->Hp->Mm->α->Prop} (p:Pst K (ZR K R) μ H o Q):Pst K (ZR K (wishR (EofR R))) μ H o Q:=by
  cases o with
  | ok a M=>exact p
  | ex x M=>exact fun μ' H' e hr a ra=>h a H' (p μ' H' e hr a ra)
  | bad=>exact p
theorem ev_callX {k:Nat} {fd:FuncData} {fa:Addr} {ps:List Str} {m:Nat} {Fm:Fn} {x:Str} {p:Pos} (hz:Xz X R) (Gf:FnOk X.prog X.w X.K X.mg X.base (CX1 X.prog X.w) k fa fd ps (spX K m Fm)) (hr:Room k X.A) (hm:X.mg x=some (.ref fa)) (hk:PySem.W.keepIn X.K (.ref fa)=true) (hb:Binds X.K fd ps [])
    (ha:Ea X K (ZR K R) (e::es) fs) (hg:Gl X x:=by rfl) (hdb:(x==("__debug__":Str))=false:=by decide) (he:starEach (e::es) X.env=(false,eval e X.env)::starEach es X.env:=by rfl) (hpl:(backTo pos (starEach es X.env)).any (·.1)=false:=by rfl)
    (hlen:∀ ws M,ws.length≠m->Fm ws M=.bad:=by intro ws M h; first | exact if_neg h | rfl):Ev X K (ZR K R) (.Call (.Name x p) (e::es) [] pos) (eA Fm fs):=by
  refine ⟨ha.k,cqE (pe_call (E:=EofR R) Gf hr hg hm hk hb .nil (passes_of rfl rfl ⟨fun pins σ ev s' h=>hz.go pins σ ev s' (h.imp fun a H ⟨a',q1,q2⟩=>by cases q1; exact q2)⟩) ha.h hdb he hpl) ?_⟩
  rintro σ H Q ⟨μ,M,L,hr,lr,p⟩
  refine ⟨μ,M,L,hr,lr,p.bind.imp fun μ1 H1 M1 ws e1 hr1 _ p1 vs rx=>?_⟩
  show spX K m Fm (vs++[]) H1 Q (EofR R)
  rw [List.append_nil]
  exact sp_len hlen hr1 rx (ZR.to (p:=p1))
theorem ev_callN {k:Nat} {fd:FuncData} {fa:Addr} {ps:List Str} {m:Nat} {Fm:Fn} {x:Str} {p:Pos} (Gf:FnOk X.prog X.w X.K X.mg X.base (CX1 X.prog X.w) k fa fd ps (spX K m Fm)) (hr:Room k X.A) (hm:X.mg x=some (.ref fa)) (hk:PySem.W.keepIn X.K (.ref fa)=true) (hb:Binds X.K fd ps [])
    (ha:Ea X K Z0 (e::es) fs) (hg:Gl X x:=by rfl) (hdb:(x==("__debug__":Str))=false:=by decide) (he:starEach (e::es) X.env=(false,eval e X.env)::starEach es X.env:=by rfl) (hpl:(backTo pos (starEach es X.env)).any (·.1)=false:=by rfl)
    (hlen:∀ ws M,ws.length≠m->Fm ws M=.bad:=by intro ws M h; first | exact if_neg h | rfl):Ev X K Z0 (.Call (.Name x p) (e::es) [] pos) (eA Fm fs):=by
  refine ⟨ha.k,cqE (pe_call (E:=E0) Gf hr hg hm hk hb .nil (passes_of rfl rfl (xz_never fun _ _ z=>z)) ha.h hdb he hpl) ?_⟩
  rintro σ H Q ⟨μ,M,L,hr,lr,p⟩
  refine ⟨μ,M,L,hr,lr,p.bind.imp fun μ1 H1 M1 ws e1 hr1 _ p1 vs rx=>?_⟩
  show spX K m Fm (vs++[]) H1 Q E0
  rw [List.append_nil]
  exact sp_len hlen hr1 rx (Pst.never p1)
noncomputable def aDef (fs:FA) (ds:List D):FA:=fun L M=>(fs L M).bind fun ws M1=>.ok (ws++ds.map W.d) M1
theorem Rws.append:∀ {ws us:List W} {vs zs:List V},Rws K μ H ws vs->Rws K μ H us zs->Rws K μ H (ws++us) (vs++zs)
  | [],_,_,_,h,t=>by cases h; exact t
  | _::_,_,_,_,⟨v,r,e1,e2,e3⟩,t=>by subst e1; exact ⟨v,_,rfl,e2,Rws.append e3 t⟩
noncomputable def nx (Fm:Fn):Fn:=fun ws M=>match Fm ws M with
  | .ok w M'=>.ok w M'
  | _=>.bad
theorem ev_callP {k:Nat} {fd:FuncData} {fa:Addr} {ps:List Str} {m:Nat} {Fm:Fn} {x:Str} {p:Pos} (Gf:FnOk X.prog X.w X.K X.mg X.base CX0 k fa fd ps (spF K Z0 m Fm)) (hr:Room k X.A) (hm:X.mg x=some (.ref fa)) (hk:PySem.W.keepIn X.K (.ref fa)=true) (hb:Binds X.K fd ps [])
    (ha:Ea X K Z (e::es) fs) (hg:Gl X x:=by rfl) (hdb:(x==("__debug__":Str))=false:=by decide) (he:starEach (e::es) X.env=(false,eval e X.env)::starEach es X.env:=by rfl) (hpl:(backTo pos (starEach es X.env)).any (·.1)=false:=by rfl)
    (hlen:∀ ws M,ws.length≠m->Fm ws M=.bad:=by intro ws M h; first | exact if_neg h | rfl):Ev X K Z (.Call (.Name x p) (e::es) [] pos) (eA (nx Fm) fs):=by
  refine ⟨ha.k,cqE (pe_call Gf hr hg hm hk hb .nil pass0 ha.h hdb he hpl) ?_⟩
  rintro σ H Q ⟨μ,M,L,hr,lr,p⟩
  refine ⟨μ,M,L,hr,lr,p.bind.imp fun μ1 H1 M1 ws e1 hr1 _ p1 vs rx=>?_⟩
  show spF K Z0 m Fm (vs++[]) H1 Q E0
  rw [List.append_nil]
  have p2:Pst K Z0 μ1 H1 (Fm ws M1) (Wk K Q):=by
    unfold nx at p1
    cases q:Fm ws M1 with
    | ok w M'=>rw [q] at p1; exact p1
    | ex z M'=>rw [q] at p1; exact p1.elim
    | bad=>rw [q] at p1; exact p1.elim
  refine ⟨?_,μ1,M1,ws,hr1,rx,p2⟩
  by_cases hw:ws.length=m
  · rw [<- rx.length]; exact hw
  · rw [hlen ws M1 hw] at p2; exact p2.elim
theorem ext_upd (hr:HR K μ H M) {p:Addr} {o:HO} (hp:H p=none):Ext μ H μ (upd H p o)/\HR K μ (upd H p o) M:=⟨ext_lay hr hp,hr.lay hp⟩
noncomputable def sRaise (c f:Str) (fe:FE):FS:=fun L M=>(fe L M).bind fun w M1=>match w with
  | .d d=>.ex (.exn c f [d]) M1
  | _=>.bad
theorem es_raise {k:Nat} {C LE fI:Addr} {fd:FuncData} {ps:List Str} {c ff:Str} {p:Pos} {cpos:Pos} (hz:Xz X R) (F:Xc K c C LE) (hO:xcB X.K C (.ref LE::vb) (some (.ref fI))=true) (hF:LeF X.K LE) (hf:PySem.W.typeIn X.K (.ref fI)=some (.type "function"))
    (G:FnOk X.prog X.w X.K X.mg X.base (CX1 X.prog X.w) k fI fd ps (spXI C ff)) (hn:PySem.W.findIn K (.ref C) ff=some none) (hr:Room (k+1) X.A) (hb:Binds X.K fd ps []) (hm:X.mg c=some (.ref C)) (hk:PySem.W.keepIn X.K (.ref C)=true) (hc:X.calm=true) (ha:Ev X K (ZR K R) a fa)
    (hg:Gl X c:=by rfl) (hdb:(c==("__debug__":Str))=false:=by decide) (he:starEach [a] X.env=[(false,eval a X.env)]:=by rfl):Es X K (ZR K R) (.Raise (some (.Call (.Name c p) [a] [] cpos)) none pos) (sRaise c ff fa):=by
  refine ⟨ha.k,cqS (ps_raise (pos:=pos) (R:=R) (ini:=some (.ref fI)) hO hc hz (pe_xmake (E:=E0) hO hF hf G hr hb (passes_of rfl rfl (xz_never fun _ _ z=>z)) hm hk (pa_cons ha.h pa_nil he) hg hdb he)) ?_⟩
  rintro E σ H ⟨μ,M,L,hr,lr,p⟩
  refine ⟨μ,M,L,hr,lr,p.bind.imp fun μ1 H1 M1 w e1 hr1 _ p1 y ry=>?_⟩
  cases w with
  | ref i=>exact p1.elim
  | d d =>
    refine ⟨y,rfl,fun e dx he hd ne=>⟨e,some dx,upd H1 dx (.xd [(ff,y)]),rfl,rfl,?_⟩⟩
    obtain ⟨x1,h1⟩:=ext_upd (o:=.xd [(ff,y)]) hr1 hd
    have he':upd H1 dx (.xd [(ff,y)]) e=none:=by rw [upd_ne (Ne.symm ne)]; exact he
    obtain ⟨x2,h2⟩:=ext_upd (o:=XO e C (some dx)) h1 he'
    have x3:=x1.trans x2
    refine p1 μ1 _ x3 h2 e ?_
    simp only [Rp]
    exact ⟨e,[y],C,LE,some dx,rfl,upd_same,F,.inr ⟨dx,y,rfl,rfl,by rw [upd_ne ne]; exact upd_same,hn⟩,.cons (Rp.ext hr1.lsts x3 _ _ ry) .nil⟩
end
end EV
namespace EV
open PySem PySem.Spec PyProof.Rows L2
noncomputable def noX {α:Type} (f:Lc->Mm->Oc α):Lc->Mm->Oc α:=fun L M=>match f L M with
  | .ok a M1=>.ok a M1
  | _=>.bad
theorem Pst.noX {α:Type} {K:PySem.W.Frag} {Z:Zt} {μ:List Addr} {H:Hp} {f:Lc->Mm->Oc α} {L:Lc} {M:Mm} {Q:List Addr->Hp->Mm->α->Prop} (p:Pst K Z μ H (noX f L M) Q):Pst K Z0 μ H (f L M) Q:=by
  unfold EV.noX at p
  cases q:f L M with
  | ok a M'=>rw [q] at p; exact p
  | ex x M'=>rw [q] at p; exact p.elim
  | bad=>rw [q] at p; exact p
noncomputable def liftX (K:PySem.W.Frag) (f:FE) (σ:L2.St) (H:Hp) (Q:VK) (R:Addr->Hp->Prop):Prop:=∃ μ M L,HR K μ H M/\LR K μ H L σ/\Pst K (ZR K R) μ H (f L M) (Wk K Q)
noncomputable def liftB (K:PySem.W.Frag) (F:FS) (D:Ends) (R:Addr->Hp->Prop) (σ:L2.St) (H:Hp):Prop:=∃ μ M L,HR K μ H M/\LR K μ H L σ/\Pst K (ZR K R) μ H (F L M) (Sk K D)
structure Exx (X:Cx) (K:PySem.W.Frag) (e:Expr) (f:FE):Prop where
  k:X.K=K
  h:PEx X e (liftX K f)
structure Tb (X:Cx) (K:PySem.W.Frag) (b:List Stmt) (F:FS):Prop where
  k:X.K=K
  h:PBx X b (liftB K F)
section
variable {X:Cx} {K:PySem.W.Frag} {Z:Zt} {R:Addr->Hp->Prop} {μ:List Addr} {H:Hp} {M:Mm} {e a b:Expr} {es:List Expr} {pos:Pos} {f fa fb fc:FE} {fs:FA} {st:Stmt} {rest:List Stmt} {F G:FS}
theorem ex_callD {k:Nat} {fd:FuncData} {fa:Addr} {ps:List Str} {m:Nat} {Fm:Fn} {x:Str} {p:Pos} {dvs:List V} {ds:List Value} {dd:List D} (Gf:FnOk X.prog X.w X.K X.mg X.base (CX1 X.prog X.w) k fa fd ps (spX K m Fm)) (hr:Room k X.A) (hm:X.mg x=some (.ref fa)) (hk:PySem.W.keepIn X.K (.ref fa)=true) (hb:Binds X.K fd ps ds) (hd:Vals dvs ds) (hdd:∀ μ H,Rws K μ H (dd.map W.d) dvs)
    (ha:Ea X.nox K Z0 (e::es) fs) (hg:Gl X x:=by rfl) (hdb:(x==("__debug__":Str))=false:=by decide) (he:starEach (e::es) X.env=(false,eval e X.env)::starEach es X.env:=by rfl) (hpl:(backTo pos (starEach es X.env)).any (·.1)=false:=by rfl)
    (hlen:∀ ws M,ws.length≠m->Fm ws M=.bad:=by intro ws M h; first | exact if_neg h | rfl):Exx X K (.Call (.Name x p) (e::es) [] pos) (eA Fm (aDef (noX fs) dd)):=by
  refine ⟨ha.k,?_⟩
  rintro pins s σ H Q R I ⟨μ,M,L,hr0,lr,p⟩
  refine wpAny_Call_Name_kw (ld_glob I hg hm ?_ hdb)
  have p:Pst K (ZR K R) μ H ((noX fs L M).bind fun ws M1=>Fm (ws++dd.map W.d) M1) (Wk K Q):=by
    unfold eA aDef at p
    cases q:noX fs L M with
    | ok ws M1=>rw [q] at p; exact p
    | ex x M1=>rw [q] at p; exact p
    | bad=>rw [q] at p; exact p
  have hA:=ha.h pos pins s σ H (fun vs H1=>spX K m Fm (vs++dvs) H1 Q (EofR R)) (I.wish _) ⟨μ,M,L,hr0,lr,(p.bind.noX).imp fun μ1 H1 M1 ws e1 hr1 _ p1 vs rx=>sp_len hlen hr1 (rx.append (hdd μ1 H1)) (ZR.to (p:=p1))⟩
  refine PySem.W.callWith_K (h₀:=X.base) I.ok.mod.kin hk (wpAny_mono hA (fun us s1 ⟨vs,H1,I1,r,q⟩=>?_) fun _ _ z=>z.elim) he hpl
  have I1:=I1.unwish
  refine ⟨I1.kIn,?_⟩
  have r2:Vals (vs++dvs) (us++ds):=r.append hd
  have hl:(us++ds).length=ps.length:=by rw [<- r2.length]; exact Gf.len _ _ _ _ q
  refine wpAny_call (codeAny_mono (Gf.run X.A X.stack s1 H1 ⟨us,[]⟩ (us++ds) (vs++dvs) Q (EofR R) hr I1.env0 (hb s1 us I1.kIn hl) r2 q) fun rr s' hq=>?_)
  cases rr with
  | error ev=>exact (XE.call I1 hq).imp fun a H ⟨a',q1,q2⟩=>by cases q1; exact q2
  | ok fl =>
    cases fl with
    | ret u=>exact I1.after hq
    | next=>exact False.elim hq
    | brk=>exact False.elim hq
    | cont=>exact False.elim hq
theorem ex_call {k:Nat} {fd:FuncData} {fa:Addr} {ps:List Str} {m:Nat} {Fm:Fn} {x:Str} {p:Pos} (Gf:FnOk X.prog X.w X.K X.mg X.base (CX1 X.prog X.w) k fa fd ps (spX K m Fm)) (hr:Room k X.A) (hm:X.mg x=some (.ref fa)) (hk:PySem.W.keepIn X.K (.ref fa)=true) (hb:Binds X.K fd ps [])
    (ha:Ea X.nox K Z0 (e::es) fs) (hg:Gl X x:=by rfl) (hdb:(x==("__debug__":Str))=false:=by decide) (he:starEach (e::es) X.env=(false,eval e X.env)::starEach es X.env:=by rfl) (hpl:(backTo pos (starEach es X.env)).any (·.1)=false:=by rfl)
    (hlen:∀ ws M,ws.length≠m->Fm ws M=.bad:=by intro ws M h; first | exact if_neg h | rfl):Exx X K (.Call (.Name x p) (e::es) [] pos) (eA Fm (aDef (noX fs) [])) :=
  ex_callD Gf hr hm hk hb .nil (fun _ _=>rfl) ha hg hdb he hpl hlen
theorem tb_set {i:Nat} {x:Str} {pos':Pos} (hN:X.N.Nodup) (he:Exx X K e f) (hi:X.N[i]?=some x:=by rfl) (hx:Loc X.env.scope x:=by first | exact Or.inl rfl | exact Or.inr rfl) (hs:swapsWith e (some (.Name x pos')) pos.line X.env=pure false:=by rfl)
    (hf:X.fn x=true\/X.env.scope.names.lookup x=some .local:=by first | exact .inl rfl | exact .inr rfl | assumption):Tb X K [.Assign [.Name x pos'] e pos] (sAs f (gN i)):=by
  refine ⟨he.k,?_⟩
  rintro pins s σ H D R I ⟨μ,M,L,hr0,lr,p⟩
  refine wpAny_execs_cons (wpAny_Assign_Name (thn (he.h pins s σ H (fun v H1=>D.nx (σ.set i (some v)) H1) R I ⟨μ,M,L,hr0,lr,p.bind.imp fun μ1 H1 M1 w e1 hr1 _ p1 v rv=>p1 μ1 H1 .refl hr1 _ (LR.set (lr.ext hr0.lsts e1) rv)⟩) fun v s1 ⟨y,H1,I1,r1,q1⟩=>?_) hs)
  exact store_ok I1 hN hi hx r1 (fun s2 I2=>wpAny_execs_nil ⟨_,H1,I2,q1⟩) hf
end
end EV
namespace EV
open PySem PySem.Spec PyProof.Rows L2
noncomputable def mt (cn c:Str):Bool:=c==cn || cn=="LentError" || cn=="ValueError"
noncomputable def mtD (cn:Str):D->Bool
  | .exn c _ _=>mt cn c
  | _=>false
section
variable {K:PySem.W.Frag}
noncomputable def CtD (K:PySem.W.Frag) (cn:Str) (Dc:Addr):Prop:=∀ c C LE,Xc K c C LE->mt cn c=true->XM K C Dc
noncomputable def Ct (K:PySem.W.Frag) (cn:Str) (cv:Value):Prop:=∀ c C LE,Xc K c C LE->PySem.W.kitOne K (.ref C) cv=some (mt cn c)
theorem xc_same {c:Str} {C C' LE LE':Addr} (F:Xc K c C LE) (G:Xc K c C' LE'):C=C':=by
  have:=F.nm.symm.trans G.nm
  cases this; rfl
theorem xc_ne {c c':Str} {C LE C' LE':Addr} (F:Xc K c C LE) (G:Xc K c' C' LE') (n:c≠c'):C≠C':=by
  rintro rfl
  obtain ⟨d1,a1,a2,_⟩:=F.cd
  obtain ⟨d2,b1,b2,_⟩:=G.cd
  rw [a1] at b1; cases b1
  exact n (a2.symm.trans b2)
theorem xc_le_ne {c c':Str} {C LE C' LE':Addr} (F:Xc K c C LE) (G:Xc K c' C' LE'):LE≠C':=by
  rintro rfl
  obtain ⟨d1,a1,a2⟩:=F.le
  obtain ⟨d2,b1,b2,_⟩:=G.cd
  rw [a1] at b1; cases b1
  exact G.ne (b2.symm.trans a2)
theorem xc_ty {C:Addr} {bm:List Value} {ini:Option Value} (q:xcB K C bm ini=true):PySem.W.typeIn K (.ref C)=some (.type "type")/\(PySem.W.clsIn K C).isSome=true:=by
  unfold xcB at q
  split at q
  · rename_i dd cd sl ho
    exact ⟨by simp [PySem.W.typeIn,ho],by simp [PySem.W.clsIn,ho]⟩
  · cases q
theorem ctd_own {cn:Str} {Dc LE:Addr} (G:Xc K cn Dc LE) (hv:cn≠"ValueError":=by decide):CtD K cn Dc:=fun c C LE' F h=>by
  have hc:c=cn:=by
    simp only [mt,Bool.or_eq_true,beq_iff_eq] at h
    rcases h with (h | h) | h
    · exact h
    · exact (G.ne h).elim
    · exact (hv h).elim
  subst hc
  cases xc_same F G
  obtain ⟨ini,ob⟩:=G.ob
  exact ⟨⟨_,ini,ob,by simp⟩,⟨_,ini,ob,rfl⟩⟩
theorem ct_own {cn:Str} {Dc LE:Addr} (G:Xc K cn Dc LE) (hv:cn≠"ValueError":=by decide):Ct K cn (.ref Dc):=fun c C LE' F=>by
  have e1:(cn==("LentError":Str))=false:=by simpa using G.ne
  have e2:(cn==("ValueError":Str))=false:=by simpa using hv
  unfold PySem.W.kitOne mt
  rw [e1,e2,Bool.or_false,Bool.or_false]
  by_cases hc:c=cn
  · subst hc
    cases xc_same F G
    rw [if_pos (by simp)]; simp
  · have n:=xc_ne F G hc
    have n2:=xc_le_ne F G
    obtain ⟨ini,ob⟩:=G.ob
    obtain ⟨t1,t2⟩:=xc_ty ob
    rw [if_neg (by simpa using n)]
    unfold PySem.W.kitCls
    dsimp only
    rw [if_pos (by rw [t1,t2]; decide)]
    show PySem.W.mroIn K C (.ref Dc)=_
    rw [F.mro]
    have hcc:(c==cn)=false:=by simpa using hc
    rw [hcc]
    simp [n,n2]
    exact ⟨fun z=>n z.symm,fun z=>n2 z.symm⟩
theorem ct_le {Dc:Addr} (h:PySem.W.nsIn K mainGlobals "LentError"=some (some (.ref Dc))):Ct K "LentError" (.ref Dc):=fun c C LE F=>by
  have:=h.symm.trans F.leN
  cases this
  obtain ⟨t1,t2⟩:=xc_ty F.leO
  unfold PySem.W.kitOne
  have e:mt "LentError" c=true:=by simp [mt]
  rw [e]
  split
  · rfl
  · unfold PySem.W.kitCls
    dsimp only
    rw [if_pos (by rw [t1,t2]; decide)]
    show PySem.W.mroIn K C (.ref Dc)=_
    rw [F.mro]
    simp
theorem ve_meta:PySem.W.kitMeta "ValueError"=true:=by decide +kernel
theorem ct_ve:Ct K "ValueError" (.type "ValueError"):=fun c C LE F=>by
  unfold PySem.W.kitOne
  have e:mt "ValueError" c=true:=by simp [mt]
  rw [e,if_neg (by simp)]
  unfold PySem.W.kitCls
  dsimp only
  rw [if_pos ve_meta]
  show PySem.W.mroIn K C (.type "ValueError")=_
  rw [F.mro]
  rfl
end
structure Ecs (X:Cx) (K:PySem.W.Frag) (es:List Expr) (cns:List Str):Prop where
  k:X.K=K
  h:∃ ys cvs,PA X es (fun _ H Q=>Q ys H)/\ys.map clV=cvs.map some/\ys.length<=es.length/\∀ c C LE,Xc K c C LE->PySem.W.kitAny K (.ref C) cvs=some (cns.any fun n=>mt n c)
section
variable {X:Cx} {K:PySem.W.Frag} {Z:Zt} {R:Addr->Hp->Prop} {μ:List Addr} {H:Hp} {M:Mm} {e a b:Expr} {es:List Expr} {pos:Pos} {f fa fb fc:FE} {fs:FA} {st:Stmt} {rest:List Stmt} {F G:FS}
theorem ecs_nil (hk:X.K=K:=by rfl):Ecs X K [] []:=⟨hk,[],[],pa_nil,rfl,Nat.le_refl _,fun _ _ _ _=>rfl⟩
theorem ecs_cons {cn:Str} {cns:List Str} {Dc:Addr} {q:Pos} (ct:Ct K cn (.ref Dc)) (hm:X.mg cn=some (.ref Dc)) (h:Ecs X K es cns) (hg:Gl X cn:=by rfl) (hd:(cn==("__debug__":Str))=false:=by decide)
    (hs:starEach (.Name cn q::es) X.env=(false,eval (.Name cn q) X.env)::starEach es X.env:=by rfl):Ecs X K (.Name cn q::es) (cn::cns):=by
  obtain ⟨ys,cvs,h1,h2,h3,h4⟩:=h.h
  refine ⟨h.k,.ref Dc::ys,.ref Dc::cvs,?_,by simp [clV,h2],by simpa using h3,fun c C LE F=>?_⟩
  · exact cqA (pa_cons (pe_glob (v:=.ref Dc) hg hm rfl hd) h1 hs) fun σ H Q q=>q
  · unfold PySem.W.kitAny
    rw [ct c C LE F]
    rw [List.any_cons]
    cases mt cn c with
    | true=>rfl
    | false=>exact h4 c C LE F
noncomputable def pIsX (cns:List Str) (w:W) (M:Mm):Oc W:=match w with
  | .d (.exn c _ _)=>.ok (.d (.bl (cns.any fun n=>mt n c))) M
  | _=>.bad
theorem xfl_d {C:Addr} {f:Str} {d:Option Addr} {vs:List V} (h:XFl K H C f d vs):d=none\/∃ dx fs,d=some dx/\H dx=some (.xd fs):=by
  rcases h with h | ⟨dx,u,h1,_,h3,_⟩
  · exact .inl h.1
  · exact .inr ⟨dx,_,h1,h3⟩
theorem ev_isX1 {cn:Str} {cv:Value} {y:V} {p q:Pos} (hy:clV y=some cv) (ct:Ct K cn cv) (hp:PE X (.Name cn q) (tC y)) (hm:X.mg "isinstance"=none) (he:Ev X K Z e f) (hg:Gl X "isinstance":=by rfl)
    (hs:starEach [e,.Name cn q] X.env=(false,eval e X.env)::starEach [.Name cn q] X.env:=by rfl) (hs2:starEach [.Name cn q] X.env=(false,eval (.Name cn q) X.env)::starEach [] X.env:=by rfl) (hpl:(backTo pos (starEach [.Name cn q] X.env)).any (·.1)=false:=by rfl) :
    Ev X K Z (.Call (.Name "isinstance" p) [e,.Name cn q] [] pos) (e1 (pIsX [cn]) f):=by
  have h:=pe_callB (pos:=pos) (p:=p) call_isX hg hm bt_isinstance (pa_cons he.h (pa_cons hp pa_nil hs2) hs) (by decide) (by decide) hs hpl
  rw [he.k] at h
  refine ⟨he.k,cqE h ?_⟩
  rintro σ H Q ⟨μ,M,L,hr,lr,p⟩
  refine ⟨μ,M,L,hr,lr,p.bind.imp fun μ1 H1 M1 x e1 hr1 _ p1 v rx=>?_⟩
  cases x with
  | ref i=>exact p1.elim
  | d x=>cases x with
    | exn c ff xs =>
      simp only [Rw,Rp] at rx
      obtain ⟨a,vs,C,LE,d,rfl,hx,F,xf,rs⟩:=rx
      exact ⟨a,C,LE,c,d,y,cv,_,rfl,hx,xfl_d xf,F,hy,ct c C LE F,p1 μ1 H1 .refl hr1 _ (by simp [Rw,Rp])⟩
    | _=>exact p1.elim
theorem ev_isX {cn:Str} {Dc:Addr} {p q:Pos} (ct:Ct K cn (.ref Dc)) (hmc:X.mg cn=some (.ref Dc)) (hm:X.mg "isinstance"=none) (he:Ev X K Z e f) (hg:Gl X "isinstance":=by rfl) (hgc:Gl X cn:=by rfl) (hd:(cn==("__debug__":Str))=false:=by decide)
    (hs:starEach [e,.Name cn q] X.env=(false,eval e X.env)::starEach [.Name cn q] X.env:=by rfl) (hs2:starEach [.Name cn q] X.env=(false,eval (.Name cn q) X.env)::starEach [] X.env:=by rfl) (hpl:(backTo pos (starEach [.Name cn q] X.env)).any (·.1)=false:=by rfl) :
    Ev X K Z (.Call (.Name "isinstance" p) [e,.Name cn q] [] pos) (e1 (pIsX [cn]) f):=ev_isX1 (y:=.ref Dc) rfl ct (pe_glob (v:=.ref Dc) hgc hmc rfl hd) hm he hg hs hs2 hpl
theorem bt_ve:bootBuiltins "ValueError"=some (.type "ValueError"):=PyProof.Rows.Boot.«ValueError»
theorem ev_isXV {p q:Pos} (hmc:X.mg "ValueError"=none) (hm:X.mg "isinstance"=none) (he:Ev X K Z e f) (hg:Gl X "isinstance":=by rfl) (hgc:Gl X "ValueError":=by rfl)
    (hs:starEach [e,.Name "ValueError" q] X.env=(false,eval e X.env)::starEach [.Name "ValueError" q] X.env:=by rfl) (hs2:starEach [.Name "ValueError" q] X.env=(false,eval (.Name "ValueError" q) X.env)::starEach [] X.env:=by rfl) (hpl:(backTo pos (starEach [.Name "ValueError" q] X.env)).any (·.1)=false:=by rfl) :
    Ev X K Z (.Call (.Name "isinstance" p) [e,.Name "ValueError" q] [] pos) (e1 (pIsX ["ValueError"]) f):=ev_isX1 (y:=.ty "ValueError") rfl ct_ve (pe_bltn (v:=.ty "ValueError") hgc hmc bt_ve rfl) hm he hg hs hs2 hpl
theorem ev_isXs {cns:List Str} {p:Pos} {x1} {q:Pos} (hc:Ecs X K es cns) (hm:X.mg "isinstance"=none) (he:Ev X K Z e f) (hl:es.length<=100:=by decide) (hg:Gl X "isinstance":=by rfl)
    (hs:starEach [e,.Tuple es x1 q] X.env=(false,eval e X.env)::starEach [.Tuple es x1 q] X.env:=by rfl) (hs2:starEach [.Tuple es x1 q] X.env=(false,eval (.Tuple es x1 q) X.env)::starEach [] X.env:=by rfl) (hpl:(backTo pos (starEach [.Tuple es x1 q] X.env)).any (·.1)=false:=by rfl) :
    Ev X K Z (.Call (.Name "isinstance" p) [e,.Tuple es x1 q] [] pos) (e1 (pIsX cns) f):=by
  obtain ⟨ys,cvs,h1,h2,h3,h4⟩:=hc.h
  have h:=pe_callB (pos:=pos) (p:=p) call_isXs hg hm bt_isinstance (pa_cons he.h (pa_cons (pe_tup h1) pa_nil hs2) hs) (by decide) (by decide) hs hpl
  rw [he.k] at h
  refine ⟨he.k,cqE h ?_⟩
  rintro σ H Q ⟨μ,M,L,hr,lr,p⟩
  refine ⟨μ,M,L,hr,lr,p.bind.imp fun μ1 H1 M1 x e1 hr1 _ p1 v rx=>⟨?_,fun t ht=>?_⟩⟩
  · have:(100:Nat)<=sizeLine:=by decide
    omega
  cases x with
  | ref i=>exact p1.elim
  | d x=>cases x with
    | exn c ff xs =>
      have x:=ext_lay (o:=.tup ys) hr1 ht
      have rx:=Rp.ext hr1.lsts x _ _ rx
      simp only [Rp] at rx
      obtain ⟨a,vs,C,LE,d,rfl,hx,F,xf,rs⟩:=rx
      exact ⟨a,C,LE,c,d,t,ys,cvs,_,rfl,hx,xfl_d xf,F,upd_same,h2,h4 c C LE F,p1 μ1 _ x (hr1.lay ht) _ (by simp [Rw,Rp])⟩
    | _=>exact p1.elim
noncomputable def pFld (ff:Str) (w:W) (M:Mm):Oc W:=match w with
  | .d (.exn _ g [d])=>if g=ff then .ok (.d d) M else .bad
  | _=>.bad
theorem rp_noty {d:D} {v:V} (h:Rp K μ H d v):∀ i,v≠.ty i:=by
  cases d <;> simp only [Rp] at h <;> first | (subst h; intro i z; cases z) | (obtain ⟨a,vs,rfl,_⟩:=h; intro i z; cases z) | (obtain ⟨a,vs,_,_,_,rfl,_⟩:=h; intro i z; cases z)
theorem ev_fld {ff:Str} {p:Pos} (he:Ev X K Z e f) (hb:attributeBase e ff X.env (eval e X.env)=eval e X.env:=by rfl):Ev X K Z (.Attribute e ff p) (e1 (pFld ff) f):=by
  have h:=pe_xget (pos:=p) he.h hb
  rw [he.k] at h
  refine ⟨he.k,cqE h ?_⟩
  rintro σ H Q ⟨μ,M,L,hr,lr,p⟩
  refine ⟨μ,M,L,hr,lr,p.bind.imp fun μ1 H1 M1 x e1 hr1 _ p1 v rx=>?_⟩
  cases x with
  | ref i=>exact p1.elim
  | d x=>cases x with
    | exn c g xs =>
      rcases xs with _ | ⟨d,_ | ⟨d2,xs⟩⟩
      · exact p1.elim
      · simp only [pFld] at p1
        split at p1
        · rename_i hg
          subst hg
          simp only [Rw,Rp] at rx
          obtain ⟨a,vs,C,LE,dd,rfl,hx,F,xf,rs⟩:=rx
          rcases xf with ⟨_,rfl⟩ | ⟨dx,u,rfl,rfl,h3,h4⟩
          · simp [Rps] at rs
          · simp only [Rps] at rs
            obtain ⟨v',r',e1',e2',e3'⟩:=rs
            cases e1'
            exact ⟨a,C,LE,c,dx,u,rfl,hx,h3,F,h4,rp_noty e2',p1 μ1 H1 .refl hr1 u e2'⟩
        · exact p1.elim
      · exact p1.elim
    | _=>exact p1.elim
noncomputable def unset (i:Nat):Out->Out
  | .nx L=>.nx (L.set i none)
  | .bk L=>.bk (L.set i none)
  | .ct L=>.ct (L.set i none)
  | .rt w=>.rt w
theorem LR.unset {L:Lc} {σ:L2.St} {i:Nat} (h:LR K μ H L σ):LR K μ H (L.set i none) (σ.set i none) where
  len:=by simp [h.len]
  ent:=fun j w q=>by
    by_cases hj:i=j
    · subst hj
      rw [List.getElem?_set_self'] at q
      cases z:L[i]? <;> rw [z] at q <;> cases q
    · rw [List.getElem?_set_ne hj] at q
      obtain ⟨v,a,b⟩:=h.ent j w q
      exact ⟨v,by rw [List.getElem?_set_ne hj]; exact a,b⟩
noncomputable def sTryAs (i:Nat) (cn:Str) (FB FH:FS):FS:=fun L M=>match FB L M with
  | .ok o M'=>.ok o M'
  | .ex x M'=>if mtD cn x=true then (noX FH (L.set i (some (.d x))) M').bind fun o M2=>.ok (unset i o) M2 else .bad
  | .bad=>.bad
theorem rp_xm {cn:Str} {Dc:Addr} {x:D} {a:Addr} (ct:CtD K cn Dc) (hm:mtD cn x=true) (r:Rp K μ H x (.ref a)):∃ C d,H a=some (XO a C d)/\XM K C Dc:=by
  cases x with
  | exn c f xs =>
    simp only [Rp] at r
    obtain ⟨a',vs,C,LE,d,e,hx,F,_⟩:=r
    cases e
    exact ⟨C,d,hx,ct c C LE F hm⟩
  | _=>cases hm
theorem es_tryAs {body suite:List Stmt} {b₀:Stmt} {cn n:Str} {Dc:Addr} {i:Nat} {np hpos:Pos} {FB FH:FS} (ct:CtD K cn Dc) (hm:X.mg cn=some (.ref Dc)) (hN:X.N.Nodup) (hb:Tb X K body FB) (hs:∀ a,Ess (X.hnd a) K Z0 (b₀::suite) FH)
    (hi:X.N[i]?=some n:=by rfl) (hl:X.env.scope.names.lookup n=some .local:=by rfl) (hg:Gl X cn:=by rfl) (hst:X.stack=X.env::X.outer:=by rfl) (hfm:X.env.frame=some X.env.locals:=by rfl) (hdb:(cn==("__debug__":Str))=false:=by decide) :
    Es X K Z (.Try body [.ExceptHandler (some (.Name cn np)) (some n) (b₀::suite) hpos] [] [] pos) (sTryAs i cn FB FH):=by
  have h:=ps_tryAs (np:=np) (pos:=pos) (hpos:=hpos) hN hb.h (fun a=>(hs a).h) hm hi hl hg hst hfm hdb
  rw [hb.k] at h
  refine ⟨hb.k,cqS h ?_⟩
  rintro E σ H ⟨μ,M,L,hr,lr,p⟩
  refine ⟨μ,M,L,hr,lr,?_⟩
  unfold sTryAs at p
  cases q:FB L M with
  | bad=>rw [q] at p; exact p
  | ok o M'=>rw [q] at p; exact p
  | ex x M' =>
    rw [q] at p
    simp only at p
    split at p
    · rename_i hmt
      intro μ1 H1 e1 hr1 a ra
      refine ⟨rp_xm ct hmt ra,μ1,M',_,hr1,LR.set (lr.ext hr.lsts e1) (w:=.d x) ra,((Pst.mono e1 p).bind.noX).imp fun μ2 H2 M2 o e2 hr2 _ p2=>?_⟩
      have p2:=p2 μ2 H2 .refl hr2
      cases o with
      | nx L'=>exact fun σ' l'=>p2 _ l'.unset
      | bk L'=>exact fun σ' l'=>p2 _ l'.unset
      | ct L'=>exact fun σ' l'=>p2 _ l'.unset
      | rt w=>exact p2
    · exact p.elim
theorem law_spX {K:PySem.W.Frag} {Fm:Fn} {H:Hp} {a:Addr} {ns:List Int} (hO:Only H) (hS:SqL K H a (ns.map V.int)) (h:∃ M',Fm [.d (.fz (ns.map D.int))] []=.ok (.d (.bl true)) M'):spX K 1 Fm [.ref a] H (fun v _=>v=.bl true) fun _ _ _=>False:=by
  obtain ⟨h1,μ,M,ws,h2,h3,h4⟩:=law_sp (K:=K) hO hS h
  exact ⟨h1,μ,M,ws,h2,h3,Pst.never h4⟩
end
end EV
namespace EV
open PySem L2
section
variable {EX:D->Mm->Prop} {L:Lc} {M:Mm} {i j:Nat} {w x y:W} {Q:W->Mm->Prop} {QA:List W->Mm->Prop} {QS:Out->Mm->Prop} {f g h:FE} {F G FB FH:FS} {fs:FA} {Fm:Fn} {ws:List W}
theorem ok_nx (h:Ok (Fm ws M) Q):Okx EX (nx Fm ws M) Q:=by
  obtain ⟨a,M',e,q⟩:=Ok_def.mp h
  unfold nx; rw [e]; exact ok_ok q
theorem ok_noX {α:Type} {f:Lc->Mm->Oc α} {Q:α->Mm->Prop} (h:Ok (f L M) Q):Okx EX (noX f L M) Q:=by
  obtain ⟨a,M',e,q⟩:=Ok_def.mp h
  unfold noX; rw [e]; exact ok_ok q
theorem ok_aDef {ds:List D} (h:Okx EX (fs L M) fun ws M1=>QA (ws++ds.map W.d) M1):Okx EX (aDef fs ds L M) QA:=ok_bind (h.mono fun _ _ z=>ok_ok z)
theorem ok_fnX {m n:Nat} (hm:ws.length=m) (h:Okx (fun x M'=>EX x (M'.take M.length)) (F (ws.map some++List.replicate (n - ws.length) none) M) fun o M'=>match o with
    | .rt w=>Ok (retc M.length w M') Q
    | .nx _=>Q (.d .non) (M'.take M.length)
    | _=>False):Okx EX (fnX m n F ws M) Q:=by
  unfold fnX fnD
  rw [if_pos hm]
  rcases Okx_def.mp h with ⟨o,M',e,q⟩ | ⟨x,M',e,q⟩
  · rw [e]
    simp only [bind_ok]
    cases o with
    | rt w =>
      obtain ⟨a,M2,e2,q2⟩:=Ok_def.mp q
      simp only [e2]
      exact ok_ok q2
    | nx L=>exact ok_ok q
    | bk L=>exact q.elim
    | ct L=>exact q.elim
  · rw [e]
    simp only [bind_ex]
    exact ok_raise q
theorem ok_sRaise {c ff:Str} (h:Okx EX (f L M) fun w M1=>∃ d,w=.d d/\EX (.exn c ff [d]) M1):Okx EX (sRaise c ff f L M) QS:=ok_bind (h.mono fun w M1 ⟨d,e,q⟩=>by subst e; exact ok_raise q)
theorem ok_sTryAs {cn:Str} (h:Okx (fun x M'=>mtD cn x=true/\Ok (FH (L.set i (some (.d x))) M') fun o M2=>QS (unset i o) M2) (FB L M) QS):Okx EX (sTryAs i cn FB FH L M) QS:=by
  unfold sTryAs
  rcases Okx_def.mp h with ⟨o,M',e,q⟩ | ⟨x,M',e,hm,q⟩
  · rw [e]; exact ok_ok q
  · rw [e]
    simp only
    rw [if_pos hm]
    exact ok_bind (ok_noX (q.mono fun _ _ z=>ok_ok z))
theorem ok_isX {cns:List Str} {c ff:Str} {xs:List D} (q:Q (.d (.bl (cns.any fun n=>mt n c))) M):Okx EX (pIsX cns (.d (.exn c ff xs)) M) Q:=ok_ok q
theorem ok_fld {c ff:Str} {d:D} (q:Q (.d d) M):Okx EX (pFld ff (.d (.exn c ff [d])) M) Q:=by
  have:pFld ff (.d (.exn c ff [d])) M=.ok (.d d) M:=if_pos rfl
  rw [this]; exact ok_ok q
end
end EV
namespace EV
open PySem PySem.Spec PySem.W PyProof.Rows L2
noncomputable def xkB (K:Frag) (c:Str) (C LE:Addr):Bool:=(match clsIn K C with
    | some cd=>cd.name==c&&cd.mro==.ref C::.ref LE::vb&&cd.hasDict
    | none=>false)&&(match clsIn K LE with
    | some cl=>cl.name==("LentError":Str)
    | none=>false)&&findIn K (.ref C) "__getattribute__"==some (some (.builtin "BaseException.__getattribute__"))&&findIn K (.ref C) "__getattr__"==some none&&findIn K (.ref C) "__class__"==some (some (.builtin "object.__class__"))
theorem xc_mk {K:Frag} {c:Str} {C LE:Addr} {ini:Option Value} (nm:nsIn K mainGlobals c=some (some (.ref C))) (leN:nsIn K mainGlobals "LentError"=some (some (.ref LE))) (q:xkB K c C LE=true) (ob:xcB K C (.ref LE::vb) ini=true) (leO:xcB K LE vb none=true) (ne:c≠"LentError"):Xc K c C LE:=by
  unfold xkB at q
  simp only [Bool.and_eq_true,beq_iff_eq] at q
  obtain ⟨⟨⟨⟨q1,q2⟩,q3⟩,q4⟩,q5⟩:=q
  cases h1:clsIn K C with
  | none=>rw [h1] at q1; cases q1
  | some cd =>
    rw [h1] at q1
    simp only [Bool.and_eq_true,beq_iff_eq] at q1
    cases h2:clsIn K LE with
    | none=>rw [h2] at q2; cases q2
    | some cl =>
      rw [h2] at q2
      simp only [beq_iff_eq] at q2
      exact ⟨nm,⟨cd,h1,q1.1.1,q1.1.2⟩,⟨cl,h2,q2⟩,leN,ne,by unfold hasDictIn; rw [h1]; exact q1.2,q3,q4,q5,⟨ini,ob⟩,leO⟩
section
variable {X:Cx} {K:Frag} {Z:Zt} {pos:Pos}
theorem xc_hd {c:Str} {C LE:Addr} {cd:ClassData} (xc:Xc K c C LE) (hc:clsIn K C=some cd):cd.hasDict=true:=by have:=xc.hd; unfold hasDictIn at this; rw [hc] at this; exact this
end
end EV
namespace LS
open PySem L2 EV
noncomputable def Cg (n a b:Int):Prop:=∃ k,a=b+n*k
theorem Cg.rfl {n a:Int}:Cg n a a:=⟨0,by simp⟩
theorem Cg.symm {n a b:Int} (h:Cg n a b):Cg n b a:=by obtain ⟨k,rfl⟩:=h; exact ⟨-k,by grind⟩
theorem Cg.trans {n a b c:Int} (h:Cg n a b) (g:Cg n b c):Cg n a c:=by obtain ⟨k,rfl⟩:=h; obtain ⟨l,rfl⟩:=g; exact ⟨k+l,by grind⟩
theorem Cg.add {n a b c d:Int} (h:Cg n a b) (g:Cg n c d):Cg n (a+c) (b+d):=by obtain ⟨k,rfl⟩:=h; obtain ⟨l,rfl⟩:=g; exact ⟨k+l,by grind⟩
theorem Cg.sub {n a b c d:Int} (h:Cg n a b) (g:Cg n c d):Cg n (a - c) (b - d):=by obtain ⟨k,rfl⟩:=h; obtain ⟨l,rfl⟩:=g; exact ⟨k - l,by grind⟩
theorem Cg.neg {n a b:Int} (h:Cg n a b):Cg n (-a) (-b):=by obtain ⟨k,rfl⟩:=h; exact ⟨-k,by grind⟩
theorem Cg.mul {n a b c d:Int} (h:Cg n a b) (g:Cg n c d):Cg n (a*c) (b*d):=by obtain ⟨k,rfl⟩:=h; obtain ⟨l,rfl⟩:=g; exact ⟨b*l+d*k+n*k*l,by grind⟩
theorem Cg.mod {n a:Int}:Cg n (a % n) a:=⟨-(a / n),by have:=Int.emod_def a n; grind⟩
theorem Cg.modT {n a b:Int} (h:Cg n a b):Cg n (a % n) b:=Cg.mod.trans h
theorem Cg.emod {n a b:Int} (h:Cg n a b):a % n=b % n:=by obtain ⟨k,rfl⟩:=h; simp [Int.add_mul_emod_self_left]
theorem Cg.of {n a b:Int} (h:a % n=b % n):Cg n a b:=Cg.mod.symm.trans (h▸Cg.mod)
theorem Cg.of_eq {n a b:Int} (h:a=b):Cg n a b:=h▸Cg.rfl
local macro_rules | `(tactic| decreasing_trivial_pre_omega) => `(tactic| with_reducible first
  | apply Cg.modT | apply Cg.add | apply Cg.sub | apply Cg.mul | apply Cg.neg | exact Cg.rfl)
inductive Dd
  | add (s:Nat) (c:Int) (gs ts:List Nat)
  | scale (s:Nat) (u:Int)
noncomputable def pr (xs:List Int) (is:List Nat):Int:=is.foldl (fun a i=>a*xs.getD i 0) 1
theorem pr_nil (xs:List Int):pr xs []=1:=rfl
noncomputable def dn (n:Int) (gs cs:List Int):Dd->List Int
  | .add s c g t=>cs.set s ((cs.getD s 0+c*pr gs g*pr cs t) % n)
  | .scale s u=>cs.set s (cs.getD s 0*u % n)
noncomputable def rn (n:Int) (gs:List Int) (ds:List Dd) (cs:List Int):List Int:=ds.foldl (fun cs d=>dn n gs cs d) cs
theorem rn_nil {n:Int} {gs cs:List Int}:rn n gs [] cs=cs:=rfl
theorem rn_cons {n:Int} {gs cs:List Int} {d:Dd} {ds:List Dd}:rn n gs (d::ds) cs=rn n gs ds (dn n gs cs d):=rfl
noncomputable def Rs (n:Int) (cs:List Int):Prop:=∀ c∈cs,0<=c/\c < n
theorem Rs.getD {n:Int} {cs:List Int} (h:Rs n cs) {i:Nat} (hi:i < cs.length):0<=cs.getD i 0/\cs.getD i 0 < n:=h _ (by simp [hi])
theorem Rs.set {n:Int} {cs:List Int} (h:Rs n cs) {i:Nat} {v:Int} (l:0<=v) (u:v < n):Rs n (cs.set i v):=by
  intro c hc
  rcases List.mem_or_eq_of_mem_set hc with hc | rfl
  · exact h c hc
  · exact ⟨l,u⟩
theorem Rs.setM {n:Int} {cs:List Int} (hn:0 < n) (h:Rs n cs) {i:Nat} {v:Int}:Rs n (cs.set i (v % n)):=h.set (Int.emod_nonneg _ (by omega)) (Int.emod_lt_of_pos _ hn)
theorem Rs.dn {n:Int} {gs cs:List Int} (hn:0 < n) (h:Rs n cs) {d:Dd}:Rs n (dn n gs cs d):=by cases d <;> exact h.setM hn
theorem Rs.rn {n:Int} {gs:List Int} (hn:0 < n) {ds:List Dd}:∀ {cs:List Int},Rs n cs->Rs n (rn n gs ds cs):=by
  induction ds with
  | nil=>intro cs h; exact h
  | cons d ds ih=>intro cs h; rw [rn_cons]; exact ih (h.dn hn)
noncomputable def IsIv (n u v:Int):Prop:=0<=v/\v < n/\(u*v) % n=1 % n
theorem IsIv.uniq {n u v w:Int} (h:IsIv n u v) (g:IsIv n u w):v=w:=by
  obtain ⟨l,k,e⟩:=h
  obtain ⟨l',k',e'⟩:=g
  have e1:Cg n (u*v) 1:=Cg.of e
  have e2:Cg n (u*w) 1:=Cg.of e'
  have:Cg n v w:=by
    have h1:Cg n v (v*(u*w)):=by simpa using Cg.mul (Cg.rfl (a:=v)) e2.symm
    have h2:Cg n ((u*v)*w) (1*w):=Cg.mul e1 Cg.rfl
    exact h1.trans ((Cg.of_eq (by grind)).trans (h2.trans (Cg.of_eq (by grind))))
  have:=this.emod
  rwa [Int.emod_eq_of_lt l k,Int.emod_eq_of_lt l' k'] at this
open Classical in
noncomputable def iv (n u:Int):Int:=if h:∃ v,IsIv n u v then Classical.choose h else 0
theorem iv_of {n u v:Int} (h:IsIv n u v):iv n u=v:=by
  have hx:∃ v,IsIv n u v:=⟨v,h⟩
  unfold iv
  rw [dif_pos hx]
  exact (Classical.choose_spec hx).uniq h
theorem iv_spec {n u:Int} (h:∃ v,IsIv n u v):IsIv n u (iv n u):=by obtain ⟨v,h⟩:=h; rw [iv_of h]; exact h
noncomputable def Un (n u:Int):Prop:=0<=u/\u < n/\∃ v,IsIv n u v
theorem Un.iv {n u:Int} (h:Un n u):Un n (iv n u):=by
  have h':=iv_spec h.2.2
  exact ⟨h'.1,h'.2.1,u,h.1,h.2.1,by rw [Int.mul_comm]; exact h'.2.2⟩
noncomputable def OkD (n:Int) (G S:Nat):Dd->Prop
  | .add s c g t=>s < S/\0<=c/\c < n/\(∀ i∈g,i < G)/\(∀ i∈t,i < S)/\s∉t/\g.length<=4/\t.length<=4
  | .scale s u=>s < S/\Un n u
noncomputable def bD (n:Int):Dd->Dd
  | .add s c g t=>.add s (-c % n) g t
  | .scale s u=>.scale s (iv n u)
theorem OkD.back {n:Int} {G S:Nat} (hn:0 < n) {d:Dd} (h:OkD n G S d):OkD n G S (bD n d):=by
  cases d with
  | add s c g t=>obtain ⟨a,b,c,r⟩:=h; exact ⟨a,Int.emod_nonneg _ (by omega),Int.emod_lt_of_pos _ hn,r⟩
  | scale s u=>exact ⟨h.1,h.2.iv⟩
inductive Wd | sum | less | times
noncomputable def Wd.str:Wd->Str
  | .sum=>"sum"
  | .less=>"less"
  | .times=>"times"
noncomputable def Wd.ev (n:Int):Wd->Int->Int->Int
  | .sum,x,y=>(x+y) % n
  | .less,x,y=>(x - y) % n
  | .times,x,y=>x*y % n
inductive E
  | num (c:Int)
  | giv (i:Nat)
  | op (w:Wd) (a b:E)
noncomputable def enc:E->D
  | .num c=>.tup [.str "num",.int c]
  | .giv i=>.tup [.str "given",.int i]
  | .op w a b=>.tup [.str w.str,enc a,enc b]
noncomputable def val (n:Int) (gs:List Int):E->Int
  | .num c=>c % n
  | .giv i=>gs.getD i 0
  | .op w a b=>w.ev n (val n gs a) (val n gs b)
noncomputable def dp:E->Nat
  | .num _=>0
  | .giv _=>0
  | .op _ a b=>max (dp a) (dp b)+1
noncomputable def wf (m:Nat):E->Prop
  | .num c=>0<=c/\c < 1000000
  | .giv i=>i < m
  | .op _ a b=>wf m a/\wf m b
theorem wf.mono {m k:Nat} (h:m<=k):∀ {e:E},wf m e->wf k e
  | .num _,w=>w
  | .giv _,w=>Nat.lt_of_lt_of_le w h
  | .op _ _ _,w=>⟨w.1.mono h,w.2.mono h⟩
noncomputable def many:E->Nat
  | .num _=>1
  | .giv _=>1
  | .op .times a b=>2*(many a+many b)
  | .op _ a b=>many a+many b
end LS
namespace LS
open PySem L2 EV
variable {EX:D->Mm->Prop}
theorem at0 (d:D) (ds:List D):atI (d::ds) 0=some d:=by
  simp only [atI,ixN,List.length_cons]
  rw [if_pos (by omega),if_pos (by omega)]
  rfl
theorem at2 {d:Int} (l:0<=d) (u:d < 2) (x y:D):∃ w,atI [x,y] d=some w/\(w=x\/w=y):=by
  have:d=0\/d=1:=by omega
  rcases this with rfl | rfl
  · exact ⟨x,rfl,by simp⟩
  · exact ⟨y,rfl,by simp⟩
theorem atInts {ns:List Int} {i:Int} (l:0<=i) (u:i < ns.length):∃ n,atI (ns.map D.int) i=some (.int n)/\n∈ns:=by
  have hi:i.toNat < ns.length:=by omega
  refine ⟨ns[i.toNat],?_,by simp⟩
  simp only [atI,ixN,List.length_map]
  rw [if_pos l,if_pos u]
  simp [hi]
theorem get_int {cs:List Int} {i:Nat} (h:i < cs.length):atI (cs.map D.int) (i:Int)=some (.int (cs.getD i 0)):=by
  simp only [atI,ixN,List.length_map]
  rw [if_pos (by omega),if_pos (by omega)]
  simp [h]
theorem cut_lo {cs:List D} {s:Nat} (h:s<=cs.length):cut cs none (some (s:Int))=cs.take s:=by
  simp only [cut,HT.sIx]
  rw [if_neg (by omega)]
  simp only [List.drop_zero,Nat.sub_zero,Int.toNat_natCast]
  rw [Nat.min_eq_left h]
theorem cut_hi {cs:List D} {s:Nat} (h:s<=cs.length):cut cs (some (s:Int)) none=cs.drop s:=by
  simp only [cut,HT.sIx]
  rw [if_neg (by omega)]
  simp only [Int.toNat_natCast]
  rw [Nat.min_eq_left h,List.take_of_length_le (by simp)]
mutual
theorem eqD_refl:∀ d:D,eqD d d=true
  | .non=>by simp [eqD]
  | .bl b=>by simp [eqD]
  | .int i=>by simp [eqD]
  | .str x=>by simp [eqD]
  | .tup xs=>by simp only [eqD]; exact eqDs_refl xs
  | .lst xs=>by simp only [eqD]; exact eqDs_refl xs
  | .fz xs=>by simp only [eqD]; exact eqDs_refl xs
  | .exn c f xs=>by simp only [eqD]; rw [eqDs_refl xs]; simp
theorem eqDs_refl:∀ ds:List D,eqDs ds ds=true
  | []=>by simp [eqDs]
  | d::ds=>by simp only [eqDs,eqD_refl d,eqDs_refl ds,Bool.and_true]
end
section
variable {M:Mm} {x y:W} {Q:W->Mm->Prop}
end
end LS
namespace LS
open PySem L2 EV
variable {EX:D->Mm->Prop}
end LS
namespace LS
open PySem L2 EV
variable {EX:D->Mm->Prop}
end LS
namespace LS
open PySem L2 EV
variable {EX:D->Mm->Prop}
noncomputable def pl (ps:List Nat) (i:Nat):Nat:=ps.getD i 0
end LS
namespace LS
open PySem L2 EV
variable {EX:D->Mm->Prop}
noncomputable def ho:Dd->Dd->Bool
  | .scale _ _,_=>false
  | .add s _ _ t,.scale s' _=>decide (s'=s) || decide (s'∈t)
  | .add _ _ _ t,.add s' _ _ _=>decide (s'∈t)
end LS
namespace LS
open PySem L2 EV
variable {EX:D->Mm->Prop}
end LS
namespace LS
open PySem L2 EV
end LS
namespace L2
open PySem PySem.Spec PyProof.Rows
open AutoSeq1 (wpAny_loadPart')
section
variable {prog:Program} {w:World} {A:Around} {E:Value->Shared->Prop} {s:Shared}
end
section
variable {X:Cx}
end
end L2
namespace EV
open PySem PySem.Spec PyProof.Rows L2
section
variable {X:Cx} {K:PySem.W.Frag} {Z:Zt} {μ:List Addr} {H:Hp} {M:Mm} {a b:Expr} {pos pos2:Pos} {f g:FE}
end
section
variable {L:Lc} {M:Mm} {EX:D->Mm->Prop}
end
end EV
namespace EV
open PySem
theorem exS {P:List Value->Prop} {k:Nat} (h:∀ a us,us.length=k->P (a::us)):∀ us:List Value,us.length=k+1->P us
  | a::us,e=>h a us (Nat.succ.inj e)
theorem ex0 {P:List Value->Prop} (h:P []) (us:List Value) (e:us.length=0):P us:=by rw [List.eq_nil_of_length_eq_zero e]; exact h
theorem ex1 {P:List Value->Prop} (h:∀ a,P [a]):∀ us:List Value,us.length=1->P us:=exS fun a=>ex0 (P:=fun us=>P (a::us)) (h a)
theorem ex2 {P:List Value->Prop} (h:∀ a b,P [a,b]):∀ us:List Value,us.length=2->P us:=exS fun a=>ex1 (P:=fun us=>P (a::us)) (h a)
theorem ex3 {P:List Value->Prop} (h:∀ a b c,P [a,b,c]):∀ us:List Value,us.length=3->P us:=exS fun a=>ex2 (P:=fun us=>P (a::us)) (h a)
end EV
set_option maxHeartbeats 400000
namespace ZP
open PySem PySem.Spec PyProof.Rows
section
variable {prog:Program} {w:World} {A:Around} {E:Value->Shared->Prop} {s:Shared}
noncomputable abbrev IsTrip (h:Heap) (T:Addr) (a b c:Value):Prop:=h.get? T=some { cls:=.type "tuple",data:=.seq #[a,b,c] }
set_option genSizeOf false in
set_option genInjectivity false in
structure Ap3 (z TI TO i1 i2 i3 l1 l2 l3:Addr):Prop where
  z_TI:z≠TI
  z_TO:z≠TO
  z_i1:z≠i1
  z_i2:z≠i2
  z_i3:z≠i3
  TI_z:TI≠z
  TI_TO:TI≠TO
  TI_i1:TI≠i1
  TI_i2:TI≠i2
  TI_i3:TI≠i3
  TO_z:TO≠z
  TO_TI:TO≠TI
  TO_i1:TO≠i1
  TO_i2:TO≠i2
  TO_i3:TO≠i3
  i1_z:i1≠z
  i1_TI:i1≠TI
  i1_TO:i1≠TO
  i1_i2:i1≠i2
  i1_i3:i1≠i3
  i2_z:i2≠z
  i2_TI:i2≠TI
  i2_TO:i2≠TO
  i2_i1:i2≠i1
  i2_i3:i2≠i3
  i3_z:i3≠z
  i3_TI:i3≠TI
  i3_TO:i3≠TO
  i3_i1:i3≠i1
  i3_i2:i3≠i2
  l1_z:l1≠z
  l1_TI:l1≠TI
  l1_TO:l1≠TO
  l1_i1:l1≠i1
  l1_i2:l1≠i2
  l1_i3:l1≠i3
  l2_z:l2≠z
  l2_TI:l2≠TI
  l2_TO:l2≠TO
  l2_i1:l2≠i1
  l2_i2:l2≠i2
  l2_i3:l2≠i3
  l3_z:l3≠z
  l3_TI:l3≠TI
  l3_TO:l3≠TO
  l3_i1:l3≠i1
  l3_i2:l3≠i2
  l3_i3:l3≠i3
structure Zs3 (h:Heap) (z TI TO i1 i2 i3 l1 l2 l3:Addr) (i:Nat) (xs ys us:Array Value):Prop where
  z:∃ f0 f1,h.get? z=some (zobj TI TO f0 f1)/\(f0=.none\/∃ T:Nat,f0=rawInt T)
  ti:IsTrip h TI (.ref i1) (.ref i2) (.ref i3)
  to:∃ a b c,IsTrip h TO a b c
  a:It1 h i1 l1 i xs
  b:It1 h i2 l2 i ys
  c:It1 h i3 l3 i us
end
end ZP
namespace L2
open PySem PySem.Spec PyProof.Rows
theorem Vals.three:∀ {x y z:V} {us:List Value},Vals [x,y,z] us->∃ u v w,us=[u,v,w]/\RelV x u/\RelV y v/\RelV z w
  | _,_,_,_,.cons r (.cons q (.cons p .nil))=>⟨_,_,_,rfl,r,q,p⟩
end L2
namespace EV
open PySem PySem.Spec PyProof.Rows L2
variable {EX:D->Mm->Prop}
section
variable {X:Cx} {K:PySem.W.Frag} {Z:Zt} {μ:List Addr} {H:Hp} {M:Mm} {a b c:Expr} {pos:Pos} {f g k:FE} {tg:Expr}
end
section
variable {L:Lc} {M:Mm} {f g k:FE}
end
end EV
namespace RT
open PySem PySem.Spec PyProof.Rows
section
variable {prog:Program} {w:World} {A:Around} {E:Value->Shared->Prop} {s:Shared}
end
end RT
namespace L2
open PySem PySem.Spec PyProof.Rows
end L2
namespace EV
open PySem PySem.Spec PyProof.Rows L2
section
variable {X:Cx} {K:PySem.W.Frag} {Z:Zt} {μ:List Addr} {H:Hp} {M:Mm} {a:Expr} {pos pos2:Pos} {f:FE}
end
section
variable {L:Lc} {M:Mm} {EX:D->Mm->Prop}
end
end EV
namespace EV
open PySem
theorem hu_hnd {k:Nat} {A:Around} {v:Option Value} (hr:L2.Room k A):(A.mark v).units+101 < cLine:=by
  have:=hr.un
  have e:(A.mark v).units<=A.units+50:=by
    first | (rw [Around.mark_units]; omega) | (show A.units<=_; omega)
  omega
end EV
namespace L2
open PySem PySem.Spec PyProof.Rows
structure CompOkC (p:Str) (N0:List Str) (sc0:Scope) (scope:Scope) (Nc:List Str) (js:List (Option Nat)):Prop where
  kind:scope.kind=.function
  one:scope.names.filter (fun y=>y.2==.cell)=[(p,.cell)]
  pc:scope.names.lookup p=some .cell
  names:∀ y∈scope.names,y.2=.local->scope.names.lookup y.1=some .local
  free:∀ y∈scope.names,y.2=.free->sc0.names.lookup y.1=some .cell
  len:js.length=Nc.length
  slots:∀ p∈Nc.zip js,∀ j∈p.2,N0[j]?=some p.1/\scope.names.lookup p.1=some .free/\sc0.names.lookup p.1=some .cell
noncomputable def compOkCB (p:Str) (N0:List Str) (sc0 scope:Scope) (Nc:List Str) (js:List (Option Nat)):Bool :=
  decide (scope.kind=.function)&&(scope.names.filter (fun y=>y.2==.cell)==[(p,.cell)])&&(scope.names.lookup p==some .cell)&&scope.names.all (fun y=>y.2 != .local || scope.names.lookup y.1==some .local)&&scope.names.all (fun y=>y.2 != .free || sc0.names.lookup y.1==some .cell) &&
    (js.length==Nc.length)&&(Nc.zip js).all (fun p=>match p.2 with | none=>true | some j=>N0[j]?==some p.1&&scope.names.lookup p.1==some .free&&sc0.names.lookup p.1==some .cell)
theorem CompOkC.of {p:Str} {N0:List Str} {sc0 scope:Scope} {Nc:List Str} {js:List (Option Nat)} (h:compOkCB p N0 sc0 scope Nc js=true):CompOkC p N0 sc0 scope Nc js:=by
  unfold compOkCB at h
  simp only [Bool.and_eq_true,List.all_eq_true,beq_iff_eq,decide_eq_true_eq] at h
  obtain ⟨⟨⟨⟨⟨⟨h1,h2⟩,h7⟩,h3⟩,h4⟩,h5⟩,h6⟩:=h
  refine ⟨h1,h2,h7,fun y hy e=>?_,fun y hy e=>?_,h5,fun p hp j hj=>?_⟩
  · have:=h3 y hy
    simpa [e] using this
  · have:=h4 y hy
    simpa [e] using this
  · have:=h6 p hp
    have hj:p.2=some j:=hj
    rw [hj] at this
    simpa [and_assoc] using this
section
variable {X:Cx} {pins:List (Addr×Obj)} {σ:St} {H₂:Hp} {s₂:Shared} {fp:List Addr} {Nc:List Str} {scope:Scope} {js:List (Option Nat)} {cl:List (Str×Addr)} {C Cc:Addr} {p:Str}
end
section
variable {X:Cx} {tg iter elt:Expr} {ifs:List Expr} {scope:Scope} {pos:Pos} {Nc:List Str} {js:List (Option Nat)} {g:TG} {ti:TT} {te:TE} {wi:TI} {pn:Str}
end
end L2
namespace EV
open PySem PySem.Spec PyProof.Rows L2
section
variable {X:Cx} {K:PySem.W.Frag} {Z:Zt} {pos:Pos} {pn:Str}
end
end EV
namespace L2
open PySem PySem.Spec PyProof.Rows
section
variable {X:Cx}
end
end L2
namespace EV
open PySem PySem.Spec PyProof.Rows L2
section
variable {X:Cx} {K:PySem.W.Frag} {Z:Zt}
end
section
variable {M:Mm} {EX:D->Mm->Prop}
end
end EV
namespace L2
open PySem PySem.Spec PySem.W PySem.Calls PyProof.Rows Builtin Builtin.ObjectAttr
section
variable {X:Cx} {C LE:Addr} {e:Expr} {pos:Pos}
end
end L2
namespace L2
open PySem PySem.Spec PyProof.Rows
section
variable {X:Cx}
end
end L2
namespace EV
open PySem PySem.Spec PyProof.Rows L2
section
variable {X:Cx} {K:PySem.W.Frag} {Z:Zt}
variable {R:Addr->Hp->Prop} {μ:List Addr} {H:Hp} {M:Mm} {a:Expr} {pos:Pos} {fa:FE}
end
section
variable {M:Mm} {EX:D->Mm->Prop}
end
end EV
namespace EV
open PySem
section
variable {EX:D->Mm->Prop} {L:Lc} {M:Mm} {f:FE} {gg:FG} {Q:W->Mm->Prop}
end
end EV
namespace L2
open PySem PySem.Spec PyProof.Rows
noncomputable def XRs (P:Addr->Prop) (H:Hp) (h:Heap) (e C:Addr) (d:Option Addr):Prop :=
  ∃ vs sl T cT dT ts sT,h.get? e=some ⟨.ref C,d,.fields vs,sl⟩/\1 < vs.size/\vs[1]?=some (.ref T)/\P T/\H T=none/\h.get? T=some ⟨cT,dT,.fields ts,sT⟩/\3 < ts.size
section
variable {M:Model} {A A':Around} {E:Value->Shared->Prop} {s:Shared} {env env':Env} {outer:List Env} {base:Heap} {L e C:Addr} {d:Option Addr} {H:Hp} {P:Addr->Prop} {Q:Unit->Shared->Prop}
theorem noted_new {vs:Array Value} {sl:Array (Option Value)} {head:Value} {hb:Bool} (hfr:A.frames=some (env::outer)) (hl:s.heap.FunFrames base (env::outer)) (hf:env.frame=some L)
    (he:s.heap.get? e=some ⟨.ref C,d,.fields vs,sl⟩) (hz:1 < vs.size) (hP:∀ T,s.heap.objs.size<=T->P T) (hN:∀ T,s.heap.objs.size<=T->H T=none)
    (hQ:∀ h',(∀ b o,b≠e->b∉frs (env::outer)->s.heap.get? b=some o->h'.get? b=some o)->(∀ b o,b∈frs (env::outer)->s.heap.get? b=some o->∃ sl,h'.get? b=some { o with slots:=sl }) ->
      XRs P H h' e C d->Q () { s with heap:=h' }) :
    wpAny M A (do let a <- frameOf env; let pl <- entryPlaceOf L hb; let t <- EntryCells.newEntry head a .none (rawInt L) .none pl; setField (.ref e) 1 t) Q E s:=by
  have nfr:e∉frs (env::outer):=fun z=>by
    obtain ⟨_,o,q,n⟩:=hl.mem z
    rw [he] at q; cases q; exact n vs rfl
  refine wpAny_bind (wpAny_frameOf_fun hfr hl hf fun h1 so=>?_)
  refine wpAny_bind (wpAny_entryPlaceOf fun pl isp=>wpAny_bind ?_)
  unfold EntryCells.newEntry newFields
  refine wpAny_newObj_type ?_ (isp.sizeOk5 _ _ _ _ _)
  generalize eT:([head,Value.ref L,.none,rawInt L,.none]++(if pl.isEmpty then List.replicate 6 Value.none else pl)).toArray=tv
  have hsz:3 < tv.size:=by rw [<- eT]; simp only [List.size_toArray,List.length_append,List.length_cons]; omega
  have e1:h1.get? e=some ⟨.ref C,d,.fields vs,sl⟩:=(so.2.1 e nfr).trans he
  have ne:e≠h1.objs.size:=Nat.ne_of_lt (Heap.lt_size e1)
  generalize eo:({ cls:=.type "traceback",dict:=none,data:=.fields tv }:Obj)=oT
  have e2:(h1.push oT).get? e=some ⟨.ref C,d,.fields vs,sl⟩:=Heap.get?_push_of_some _ e1
  have t3:((h1.push oT).update e (Obj.mapFields (·.setIfInBounds 1 (.ref h1.objs.size)))).get? h1.objs.size=some ⟨.type "traceback",none,.fields tv,#[]⟩:=by
    rw [upd_keep (Ne.symm ne),<- eo]; exact Heap.get?_push_size h1 rfl
  refine wpAny_setField e2 rfl hz (hQ _ (fun b o nb nf q=>?_) (fun b o bf q=>?_) ⟨_,sl,h1.objs.size,_,_,tv,_,upd_fields e2,by simpa using hz,by simp [hz],hP _ (by rw [so.1]; exact Nat.le_refl _),hN _ (by rw [so.1]; exact Nat.le_refl _),t3,hsz⟩)
  · rw [upd_keep nb]
    exact Heap.get?_push_of_some _ ((so.2.1 b nf).trans q)
  · obtain ⟨sl',q1⟩:=so.2.2 b o q
    have nb:b≠e:=fun z=>nfr (z▸bf)
    exact ⟨sl',by rw [upd_keep nb]; exact Heap.get?_push_of_some _ q1⟩
theorem noted (hfr:A.frames=some (env::outer)) (hl:s.heap.FunFrames base (env::outer)) (hf:env.frame=some L) (hfe:env'.frame=env.frame) (x:XRec P H s.heap e C d) (he:H e≠none)
    (hP:∀ T,s.heap.objs.size<=T->P T) (hN:∀ T,s.heap.objs.size<=T->H T=none)
    (hQ:∀ (h':Heap) (ch:List Addr),(∀ b∈ch,P b/\H b=none/\b∉frs (env::outer))->(∀ b o,b≠e->b∉frs (env::outer)->b∉ch->s.heap.get? b=some o->h'.get? b=some o)->(∀ b o,b∈frs (env::outer)->s.heap.get? b=some o->∃ sl,h'.get? b=some { o with slots:=sl }) ->
      (∀ b o,s.heap.get? b=some o->∃ o',h'.get? b=some o')->XRs P H h' e C d->Q () { s with heap:=h' }) :
    wpAny M A (noteFrame (.ref e) env') Q E s:=by
  have ef:noteFrame (.ref e) env'=noteFrame (.ref e) env:=by unfold noteFrame PySem.frameOf; rw [hfe]
  rw [ef]
  obtain ⟨vs,sl,h1,h2,h3 | ⟨T,cT,dT,ts,sT,a1,a2,a3,a4,a5⟩⟩:=x
  · unfold noteFrame
    simp only [hf]
    refine wpAny_bind (wpAny_field h1 rfl h3 ?_)
    rw [if_neg (by decide)]
    refine noted_new (P:=P) (H:=H) hfr hl hf h1 h2 hP hN fun h' k1 k2 r=>hQ h' [] (fun _ z=>nomatch z) (fun b o n nf _ q=>k1 b o n nf q) k2 (fun b o q=>?_) r
    by_cases hb:b∈frs (env::outer)
    · obtain ⟨sl,q⟩:=k2 b o hb q; exact ⟨_,q⟩
    · by_cases hbe:b=e
      · subst hbe; obtain ⟨_,_,_,_,_,_,_,r,_⟩:=r; exact ⟨_,r⟩
      · exact ⟨_,k1 b o hbe hb q⟩
  · have ne:e≠T:=fun z=>he (z▸a3)
    have nfr:T∉frs (env::outer):=fun z=>by
      obtain ⟨_,o,q,n⟩:=hl.mem z
      rw [a4] at q; cases q; exact n ts rfl
    unfold noteFrame
    simp only [hf]
    refine wpAny_bind (wpAny_field h1 rfl a1 ?_)
    rw [if_pos (show (Value.ref T != Value.none)=true by simp)]
    refine wpAny_bind (wpAny_field a4 rfl (Array.getElem?_eq_getElem a5) ?_)
    by_cases here:(ts[3]==rawInt L)=true
    · rw [if_pos here]
      exact wpAny_pure (hQ s.heap [] (fun _ z=>nomatch z) (fun _ _ _ _ _ q=>q) (fun b o _ q=>⟨o.slots,q⟩) (fun b o q=>⟨o,q⟩) ⟨vs,sl,T,cT,dT,ts,sT,h1,h2,a1,a2,a3,a4,a5⟩)
    rw [if_neg here]
    refine wpAny_bind (wpAny_setField a4 rfl a5 ?_)
    have hsz:(s.heap.update T (Obj.mapFields (·.setIfInBounds 3 Value.none))).objs.size=s.heap.objs.size:=Heap.size_after_update ..
    refine noted_new (P:=P) (H:=H) hfr (hl.of_keeps fun b o q n=>⟨o,(upd_keep fun z=>?_).trans q,rfl⟩) hf ((upd_keep ne).trans h1) h2 (fun U hU=>hP U (by rw [<- hsz]; exact hU)) (fun U hU=>hN U (by rw [<- hsz]; exact hU)) fun h' k1 k2 r=>hQ h' [T] (fun b hb=>?_) (fun b o n nf nc q=>k1 b o n nf ((upd_keep fun z=>nc (by simp [z])).trans q)) (fun b o bf q=>k2 b o bf ((upd_keep (a:=T) (fun (z:b=T)=>nfr (z▸bf))).trans q)) (fun b o q=>?_) r
    · subst z; rw [a4] at q; cases q; exact n ts rfl
    · rw [List.mem_singleton] at hb; subst hb; exact ⟨a2,a3,nfr⟩
    · have:∃ o1,(s.heap.update T (Obj.mapFields (·.setIfInBounds 3 Value.none))).get? b=some o1:=by
        by_cases z:b=T
        · subst z; exact ⟨_,upd_fields a4⟩
        · exact ⟨o,(upd_keep z).trans q⟩
      obtain ⟨o1,q⟩:=this
      by_cases hb:b∈frs (env::outer)
      · obtain ⟨sl,q⟩:=k2 b o1 hb q; exact ⟨_,q⟩
      · by_cases hbe:b=e
        · subst hbe; obtain ⟨_,_,_,_,_,_,_,r,_⟩:=r; exact ⟨_,r⟩
        · exact ⟨_,k1 b o1 hbe hb q⟩
end
section
variable {X:Cx} {pins:List (Addr×Obj)} {σ:List (Option V)} {H H':Hp} {s s':Shared} {e C:Addr} {d:Option Addr} {M:Model} {A A':Around} {E:Value->Shared->Prop}
theorem Inv.pass {α:Type} {what:String} {cenv:Env} {Q:α->Shared->Prop} (I:Inv X pins σ H s) (hst:X.stack=X.env::X.outer) (hfm:X.env.frame=some X.env.locals) (x:XRs (Free X pins) H s.heap e C d) (he:H e=some (XO e C d))
    (hE:∀ h',Inv X pins σ H { s with heap:=h' }->XRec (Free X pins) H h' e C d->E (.ref e) { s with heap:=h' }):wpAny M A (passOn what (.ref e) cenv:Sem α) Q E s:=by
  obtain ⟨vs,sl,T,cT,dT,ts,sT,h1,h2,a1,a2,a3,a4,a5⟩:=x
  have ne:e≠T:=fun z=>by subst z; rw [he] at a3; cases a3
  unfold PySem.passOn
  refine wpAny_bind (wpAny_field h1 rfl a1 ?_)
  rw [if_neg (show ¬ ((Value.ref T==Value.none)=true) by simp)]
  have fin:∀ z,wpAny M A (setField (.ref T) 3 z) (fun _ s'=>wpAny M A (throw (.ref e):Sem α) Q E s') E s:=fun z=>by
    refine wpAny_setField a4 rfl a5 (wpAny_throw (hE _ (I.moved (ch:=[T]) he hst hfm (fun b hb=>?_) (fun b o _ _ nc q=>(upd_keep fun z=>nc (by simp [z])).trans q) (fun b o hb q=>⟨o.slots,(upd_keep fun z=>?_).trans q⟩) (fun b o q=>?_) ((upd_keep ne).trans h1)) ⟨vs,sl,(upd_keep ne).trans h1,h2,.inr ⟨T,cT,dT,_,sT,a1,a2,a3,upd_fields a4,by simpa using a5⟩⟩))
    · rw [List.mem_singleton] at hb; subst hb; exact ⟨a2,a3⟩
    · subst z
      have hl:=I.stack
      rw [hst] at hl
      obtain ⟨_,o',ho',n⟩:=hl.mem hb
      rw [a4] at ho'; cases ho'; exact n ts rfl
    · by_cases z:b=T
      · subst z; exact ⟨_,upd_fields a4⟩
      · exact ⟨o,(upd_keep z).trans q⟩
  unfold setFlight
  refine wpAny_bind (wpAny_bind (wpAny_field h1 rfl a1 ?_))
  rw [if_pos (show (Value.ref T != Value.none)=true by simp)]
  exact fin _
variable {R:Addr->Hp->Prop} {Nc:List Str} {scope:Scope} {cl:List (Str×Addr)} {fp:List Addr} {H₂:Hp} {s₂:Shared}
noncomputable def compCxX (R:Addr->Hp->Prop) (X:Cx) (Nc:List Str) (scope:Scope) (cl:List (Str×Addr)) (C:Addr) (fp:List Addr) (pins:List (Addr×Obj)) (s₂:Shared) (H₂:Hp):Cx:=(compCx X Nc scope cl C fp pins s₂ H₂).wish fun ev s'=>∃ pins' σ',XE (compCx X Nc scope cl C fp pins s₂ H₂) pins' σ' R ev s'
theorem xz_comp:Xz (compCxX R X Nc scope cl C fp pins s₂ H₂) R:=⟨fun pins σ ev s' ⟨a,H',C,d,e,I,x,h,q⟩=>⟨pins,σ,a,H',C,d,e,I.unwish,x,h,q⟩⟩
theorem comp_raise {use:Option (Value->Sem Unit)} {Q:Value->Shared->Prop} {acc:Value} {ev:Value} {pins':List (Addr×Obj)} {σ':List (Option V)} (hz:Xz X R) (hst:X.stack=X.env::X.outer) (hfm:X.env.frame=some X.env.locals) (I2:Inv X pins σ H₂ s₂)
    (f2:∀ b∈fp,FpOk X pins H₂ b) (hle:s₂.heap.objs.size<=C) (x:XE (compCx X Nc scope cl C fp pins s₂ H₂) pins' σ' R ev s') :
    notedBy (model X.prog X.w) X.A (compEnvC scope cl C X.env) (fun x s''=>compPost (model X.prog X.w) X.A X.xe use Q acc C (.error x) s'') ev s':=by
  obtain ⟨a,H',Cc,d,rfl,I',x',ha,q⟩:=x
  obtain ⟨m,hm,_⟩:=I'.loc
  have IX:Inv X pins σ H' s':=I2.call' (ch:=fp) I'.os I'.base I'.hok I'.bare fun b hb=>let ⟨g0,g1,g2,g3,g4,g5⟩:=f2 b hb; ⟨g3,g1,g4,g5⟩
  have lt2:∀ b o,s₂.heap.get? b=some o->∀ T,s₂.heap.objs.size<=T->b≠T:=fun b o q T hT=>Nat.ne_of_lt (Nat.lt_of_lt_of_le (Heap.lt_size q) hT)
  have cells:∀ T,s₂.heap.objs.size<=T->∀ x c,X.env.cells.lookup x=some c->c≠T:=fun T hT x c h=>by
    obtain ⟨v,o,e,_⟩:=I2.cell x c h
    exact lt2 c o e T hT
  have pn:∀ T,s₂.heap.objs.size<=T->∀ p∈X.pn++pins,p.1≠T:=fun T hT p hp=>lt2 _ _ (I2.pin p hp).1 T hT
  have ce:CompEnd X pins σ H' C s':=⟨IX,⟨m,hm⟩,I'.free,Nat.ne_of_gt (Nat.lt_of_lt_of_le I2.lt hle),Nat.le_trans I2.sz hle,cells C hle,pn C hle⟩
  have hl:=IX.stack
  have hA:=IX.ok.frames
  rw [hst] at hl hA
  have hCs:C < s'.heap.objs.size:=by
    obtain ⟨o,es,ep,ho,_⟩:=hm
    exact Heap.lt_size ho
  unfold notedBy
  refine noted (P:=fun T=>Free X pins T/\T≠C) (env:=X.env) (outer:=X.outer) (base:=X.base) hA hl hfm rfl (x'.imp fun T ⟨g1,g2,g3,g4⟩=>⟨⟨Nat.le_trans I2.sz g1,Nat.ne_of_gt (Nat.lt_of_lt_of_le I2.lt g1),cells T g1,pn T g1⟩,g2⟩) (by rw [ha]; simp)
    (fun T hT=>⟨IX.freeNew hT,Nat.ne_of_gt (Nat.lt_of_lt_of_le hCs hT)⟩) (fun T hT=>IX.hok.fresh hT) fun h' ch hc k1 k2 k3 r=>?_
  have hCa:C≠a:=fun z=>by have:=ce.no; rw [z,ha] at this; cases this
  have hm':h'.Ns C m:=by
    obtain ⟨o,es,ep,ho,r⟩:=hm
    by_cases hb:C∈frs (X.env::X.outer)
    · obtain ⟨sl,q⟩:=k2 C o hb ho
      exact ⟨_,es,ep,q,r⟩
    · exact ⟨o,es,ep,k1 C o hCa hb (fun z=>(hc C z).1.2 rfl) ho,r⟩
  refine ⟨m,hm',fun h'' hs'' cenv _=>?_⟩
  obtain ⟨vs,sl,T,cT,dT,ts,sT,h1,h2,a1,⟨a2,a2'⟩,a3,a4,a5⟩:=r
  have IX':Inv X pins σ H' { s' with heap:=h' }:=IX.moved ha hst hfm (fun b hb=>⟨(hc b hb).1.1,(hc b hb).2.1⟩) k1 k2 k3 h1
  have IX'':=ce.go IX' hs''
  refine Inv.pass (X:=X) (pins:=pins) (σ:=σ) (H:=H') IX'' hst hfm ⟨vs,sl,T,cT,dT,ts,sT,(hs''.2 a (Ne.symm hCa)).trans h1,h2,a1,a2,a3,(hs''.2 T a2').trans a4,a5⟩ ha fun h3 I3 x3=>?_
  exact hz.go pins σ _ _ ⟨a,H',Cc,d,rfl,I3,x3,ha,q⟩
end
theorem thnX {α:Type} {t:Sem α} {Q Q':α->Shared->Prop} {M:Model} {A:Around} {E0 E:Value->Shared->Prop} {s:Shared} (hE:∀ e s,E0 e s->E e s) (h:wpAny M A t Q E0 s) (hQ:∀ a s,Q a s->Q' a s):wpAny M A t Q' E s:=wpAny_mono h hQ hE
theorem comp_loopX {Y:Cx} {tg iter elt:Expr} {ifs:List Expr} {scope:Scope} {pos:Pos} {J:It} {fp:List Addr} {it:Addr} {tn:Nat->Heap->Prop} {g:TG} {ti:TT} {te:TE} {D:Addr} {R:Result->Shared->Prop} {σ0:St} {H0:Hp} {s:Shared} {Q:Hp->Prop}
    (hc:Y.calm=true) (hx:∀ e s,Y.xe e s->notedBy (model Y.prog Y.w) Y.A Y.env (fun x s''=>R (.error x) s'') e s) (T:Turn Y.prog Y.w Y.K tg J fp it tn) (hg:PG Y tg g) (hi:PIf Y ifs ti) (he:PE Y elt te)
    (stat:∀ H',(∀ b∈fp,H' b=none)->∀ b∈fp,FpOk Y [] H' b) (I0:Inv Y [] σ0 H0 s) (st0:tn 0 s.heap) (fr0:∀ b∈fp,H0 b=none) (h:tTurns J g ti te D σ0 H0 Q)
    (hR:∀ σ' H' s',Inv Y [] σ' H' s'->Q H'->R (.ok .next) s') :
    codeAny (model Y.prog Y.w) Y.A (.compLoop (.ListComp elt [⟨tg,iter,ifs,0⟩] scope pos) 0 (.ref it) (.ref D) Y.env) R s:=by
  obtain ⟨W,⟨m0,w0⟩,turn⟩:=h
  refine codeAny_loop rfl (fun n s'=>∃ i σ' H',Inv Y [] σ' H' s'/\tn i s'.heap/\(∀ b∈fp,H' b=none)/\W i n σ' H') (fun n s' hI=>?_) m0 ⟨0,σ0,H0,I0,st0,fr0,w0⟩
  show wpAny _ Y.A ((compTurn (.ListComp elt [⟨tg,iter,ifs,0⟩] scope pos) 0 (.ref it) (.ref D) Y.env).onRaise (fun x=>do noteFrame x Y.env; theTreesLotGoes x)) _ _ s'
  refine wpAny_noted ?_
  rw [compTurn_list]
  obtain ⟨i,σ3,H3,I3,st3,fr3,w3⟩:=hI
  refine wpAny_bind (wpAny_standAt (wpAny_bind ?_))
  rcases turn i n σ3 H3 w3 with ⟨stop,qn⟩ | ⟨go,Nn,hN,step⟩
  · refine wpAny_mono (T.done Y rfl rfl rfl hc i [] s' σ3 H3 _ I3 (stat H3 fr3) st3 stop) (fun r s4 ⟨hr,I4⟩=>?_) (fun _ _ h=>h)
    subst hr
    exact wpAny_pure (hR σ3 H3 s4 I4 qn)
  · refine wpAny_mono (T.item Y rfl rfl rfl hc i [] s' σ3 H3 _ I3 (stat H3 fr3) st3 go) (fun r s4 ⟨u,hr,h4⟩=>?_) (fun _ _ h=>h)
    subst hr
    refine wpAny_bind (wpAny_mono h4 (fun _ s5 ⟨x,H5,I5,r5,y5,st5,fr5⟩=>?_) fun _ _ h=>h)
    have I5':=I5.pinned (stat H5 fr5) (T.obj _ _ st5)
    refine wpAny_bind (thnX hx (hg _ s5 σ3 H5 x u _ I5' r5 (step x H5 y5)) fun _ s6 ⟨σ6,H6,I6,q6⟩=>?_)
    refine wpAny_bind (thnX hx (hi _ s6 σ6 H6 _ I6 q6) fun ok s7 ⟨H7,I7,q7⟩=>?_)
    have again:∀ {σ7:St} {H7:Hp} {s7:Shared},Inv Y ([]++pinsAt fp s5.heap) σ7 H7 s7->Nn σ7 H7->∃ m,m < n/\∃ i σ' H',Inv Y [] σ' H' s7/\tn i s7.heap/\(∀ b∈fp,H' b=none)/\W i m σ' H':=fun {σ7 H7 s7} I7 n7=>by
      obtain ⟨m',hm,w7⟩:=hN σ7 H7 n7
      refine ⟨m',hm,i+1,σ7,H7,I7.unpinned,T.keep _ _ _ st5 fun b hb o e=>(I7.pin (b,o) (List.mem_append_right _ (List.mem_append_right _ (mem_pinsAt hb e)))).1,fun b hb=>?_,w7⟩
      obtain ⟨o,e,d⟩:=T.obj _ _ st5 b hb
      exact (I7.pin (b,o) (List.mem_append_right _ (List.mem_append_right _ (mem_pinsAt hb e)))).2.1
    cases ok with
    | false=>exact wpAny_pure ⟨rfl,again I7 q7⟩
    | true =>
      refine wpAny_bind (wpAny_bind (thnX hx (he _ s7 σ6 H7 _ I7 q7) fun y s8 ⟨yv,H8,I8,r8,ys,hD,hz,n8⟩=>wpAny_bind ?_))
      refine thnX hx (mt_append _ s8 σ6 H8 (.ref D) [yv] (.ref D) [y] (fun _ H9=>Nn σ6 H9) I8 rfl (.cons r8 .nil) ⟨D,ys,yv,rfl,rfl,hD,hz,n8⟩) fun _ s9 ⟨_,H9,I9,_,q9⟩=>?_
      exact wpAny_pure (wpAny_pure ⟨rfl,again I9 q9⟩)
section
variable {X:Cx} {tg iter elt:Expr} {ifs:List Expr} {scope:Scope} {pos:Pos} {Nc:List Str} {js:List (Option Nat)} {g:TG} {ti:TT} {te:TE} {wi:TI}
theorem comp_blockX {R:Addr->Hp->Prop} {pins:List (Addr×Obj)} {σ:St} {H₂:Hp} {s₂:Shared} {fp:List Addr} {it:Addr} {J:It} {tn:Nat->Heap->Prop} {cl:List (Str×Addr)} {E:Value->Shared->Prop} {use:Option (Value->Sem Unit)} {Qv:Value->Shared->Prop} {Q':Addr->Hp->Prop}
    (hz:Xz X R) (hst:X.stack=X.env::X.outer) (hfm:X.env.frame=some X.env.locals) (hc:X.calm=true) (T:CompOk X.N X.env.scope scope Nc js) (hcl:∀ x c,cl.lookup x=some c->X.env.cells.lookup x=some c) (hfr:∀ y∈scope.names,y.2=.free->∃ c,cl.lookup y.1=some c)
    (hg:∀ cl C fp pins s₂ H₂,PG (compCxX R X Nc scope cl C fp pins s₂ H₂) tg g) (hi:∀ cl C fp pins s₂ H₂,PIf (compCxX R X Nc scope cl C fp pins s₂ H₂) ifs ti) (he:∀ cl C fp pins s₂ H₂,PE (compCxX R X Nc scope cl C fp pins s₂ H₂) elt te)
    (I2:Inv X pins σ H₂ s₂) (Tn:Turn X.prog X.w X.K tg J fp it tn) (st2:tn 0 s₂.heap) (f2:∀ b∈fp,FpOk X pins H₂ b)
    (q:∀ D,H₂ D=none->tTurns J g ti te D (outσ js σ) (upd H₂ D (.lst [])) (Q' D))
    (hRR:∀ D C H' s',CompEnd X pins σ H' C s'->Q' D H'->compPost (model X.prog X.w) X.A X.xe use Qv (.ref D) C (.ok .next) s') :
    wpAny (model X.prog X.w) X.A (newList []) (fun acc s₃=>wpAny (model X.prog X.w) X.A (newFunctionEnv scope X.env.globals cl [] X.env.qual none .none (some X.env)) (fun cenv s₄ =>
      codeAny (model X.prog X.w) X.A (.compStart (.ListComp elt [⟨tg,iter,ifs,0⟩] scope pos) 0 (.ref it) acc { cenv with scope:=relabel scope X.env }) (compPost (model X.prog X.w) X.A X.xe use Qv acc cenv.locals) s₄) E s₃) E s₂:=by
  refine wpAny_newObj_type (wpAny_newFunctionEnv T.nocell (by intro y hy; simp at hy) (fun h₁ hns₁ hsb₁=>?_) T.kind)
  dsimp only at hns₁ hsb₁ ⊢
  generalize hH2:s₂.heap.push { cls:=.type "list",dict:=none,data:=.seq ([]:List Value).toArray }=Hx at hns₁ hsb₁ ⊢
  have hC:Hx.objs.size=s₂.heap.objs.size+1:=by rw [<- hH2,Heap.size_push]
  have below:∀ b,b < s₂.heap.objs.size->b≠Hx.objs.size:=fun b hb=>by rw [hC]; exact Nat.ne_of_lt (Nat.lt_succ_of_lt hb)
  have old:∀ b o,s₂.heap.get? b=some o->h₁.get? b=some o:=fun b o e=>hsb₁.extBut b o (below b (Heap.lt_size e)) (Heap.get?_push_of_some _ (hH2▸Heap.get?_push_of_some _ e))
  have hD:h₁.get? s₂.heap.objs.size=some { cls:=.type "list",data:=.seq #[] }:=hsb₁.extBut _ _ (by rw [hC]; exact Nat.ne_of_lt (Nat.lt_succ_self _)) (Heap.get?_push_of_some _ (hH2▸Heap.get?_push_size _ rfl))
  have ho:∀ b∈fp,∃ o,s₂.heap.get? b=some o:=fun b hb=>let ⟨o,e,_⟩:=Tn.obj _ _ st2 b hb; ⟨o,e⟩
  have hDn:H₂ s₂.heap.objs.size=none:=I2.hok.fresh (Nat.le_refl _)
  have hle:s₂.heap.objs.size<=Hx.objs.size:=by rw [hC]; exact Nat.le_succ _
  have st1:tn 0 h₁:=Tn.keep _ _ _ st2 fun b _ o e=>old b o e
  have fr1:∀ b∈fp,upd H₂ s₂.heap.objs.size (.lst []) b=none:=fun b hb=>by
    obtain ⟨o,e⟩:=ho b hb
    rw [upd_ne (Nat.ne_of_lt (Heap.lt_size e))]
    exact (f2 b hb).1
  have stat:∀ H',(∀ b∈fp,H' b=none)->∀ b∈fp,FpOk (compCxX R X Nc scope cl Hx.objs.size fp pins s₂ H₂) [] H' b:=fun H' hn b hb=>by
    obtain ⟨g0,g1,g2,g3,g4,g5⟩:=f2 b hb
    obtain ⟨o,e⟩:=ho b hb
    refine ⟨hn b hb,below b (Heap.lt_size e),fun z=>?_,.inl hb,fun x c h=>g4 x c (hcl x c h),fun p hp=>g5 p ?_⟩
    · rcases List.mem_cons.mp (I2.stkSub b z) with y | y
      · exact g1 y
      · exact g2 y
    · have hp:p∈(X.pn++pins)++[]:=hp
      rwa [List.append_nil] at hp
  have loop:∀ tk,codeAny (model X.prog X.w) X.A (.compLoop (.ListComp elt [⟨tg,iter,ifs,0⟩] scope pos) 0 (.ref it) (.ref s₂.heap.objs.size) (compEnvC scope cl Hx.objs.size X.env)) (compPost (model X.prog X.w) X.A X.xe use Qv (.ref s₂.heap.objs.size) Hx.objs.size) { s₂ with heap:=h₁,toks:=tk }:=fun tk=>by
    refine comp_loopX (Y:=compCxX R X Nc scope cl Hx.objs.size fp pins s₂ H₂) rfl (fun _ _ ⟨pins',σ',z⟩=>comp_raise hz hst hfm I2 f2 hle z) Tn (hg _ _ _ _ _ _) (hi _ _ _ _ _ _) (he _ _ _ _ _ _) stat
      ((comp_start (tk:=tk) I2 hc T hcl hfr f2 ho hC old hns₁ hD).wish _) st1 fr1 (q _ hDn) fun σ' H' s' I'0 qQ=>?_
    have I':=I'0.unwish
    obtain ⟨m,hm,_⟩:=I'.loc
    refine hRR _ _ H' s' ⟨?_,⟨m,hm⟩,I'.free,Nat.ne_of_gt (Nat.lt_of_lt_of_le I2.lt hle),Nat.le_trans I2.sz hle,fun x c h=>?_,fun p hp=>?_⟩ qQ
    · exact I2.call' (ch:=fp) I'.os I'.base I'.hok I'.bare fun b hb=>let ⟨g0,g1,g2,g3,g4,g5⟩:=f2 b hb; ⟨g3,g1,g4,g5⟩
    · obtain ⟨v,o,e,_⟩:=I2.cell x c h
      exact below c (Heap.lt_size e)
    · exact below _ (Heap.lt_size (I2.pin p hp).1)
  exact codeAny_compStart_list (loop _) (Tn.self _ _ _ _ _ st1 (loop _))
theorem pe_compX {R:Addr->Hp->Prop} (hz:Xz X R) (hst:X.stack=X.env::X.outer) (hfm:X.env.frame=some X.env.locals) (hc:X.calm=true) (T:CompOk X.N X.env.scope scope Nc js) (hit:PI X tg iter wi)
    (hg:∀ cl C fp pins s₂ H₂,PG (compCxX R X Nc scope cl C fp pins s₂ H₂) tg g) (hi:∀ cl C fp pins s₂ H₂,PIf (compCxX R X Nc scope cl C fp pins s₂ H₂) ifs ti) (he:∀ cl C fp pins s₂ H₂,PE (compCxX R X Nc scope cl C fp pins s₂ H₂) elt te)
    (hs:∀ x,foldedSetIterable iter X.env x=pure x:=by intro _; rfl):PE X (.ListComp elt [⟨tg,iter,ifs,0⟩] scope pos) (tComp js wi g ti te):=by
  intro pins s σ H Q I h
  rw [eval_ListComp]
  obtain ⟨cl,hcl0,hcl,hfr⟩:=closure_cells (scope:=scope) (env:=X.env) (fun y hy hf=>I.ok.has y.1 (.inl (T.free y hy hf)))
  refine wpAny_comprehension_free (use:=none) rfl hs hcl0 T.kind T.names (thn (hit pins s σ H _ I h) fun xv s1 h1=>thn h1 fun itv s2 h2=>?_)
  obtain ⟨it,fp,tn,J,H2,e,I2,Tn,st2,f2,q⟩:=h2
  subst e
  refine comp_blockX (use:=none) (Qv:=EP X pins σ Q) hz hst hfm hc T hcl hfr hg hi he I2 Tn st2 f2 q fun D C H' s' ce qD=>?_
  obtain ⟨m,hm⟩:=ce.ns
  exact ⟨m,hm,fun h' hs'=>⟨.ref D,H',ce.go ce.inv hs',rfl,qD⟩⟩
end
end L2
namespace EV
open PySem PySem.Spec PyProof.Rows L2
noncomputable def compTX (js:List (Option Nat)) (fi:FI) (g:FG) (c:FT) (f:FE) (L:Lc) (M:Mm):Oc (List D):=(fi L M).bind fun s M1=>match compD M1.length s g c f s.ds (outL js L) (M1++[[]]) with
  | .ok _ M2=>match M2[M1.length]? with
    | some acc=>.ok acc (M2.take M1.length)
    | none=>.bad
  | .ex x M2=>.ex x (M2.take M1.length)
  | .bad=>.bad
noncomputable def eCompX (js:List (Option Nat)) (fi:FI) (g:FG) (c:FT) (f:FE):FE:=fun L M=>(compTX js fi g c f L M).bind fun acc M1=>.ok (.d (.lst acc)) M1
section
variable {X:Cx} {K:PySem.W.Frag} {R:Addr->Hp->Prop} {pos:Pos} {μ:List Addr} {H:Hp} {M:Mm}
theorem comp_valX {js:List (Option Nat)} {fi:FI} {g:FG} {c:FT} {f:FE}:∀ σ H Q,lift K (ZR K R) (eCompX js fi g c f) σ H Q->tComp js (liftI K (ZR K R) fi) (liftG K (ZR K R) g) (liftT K (ZR K R) c) (lift K (ZR K R) f) σ H Q:=by
  rintro σ H Q ⟨μ,M,L,hr,lr,p⟩
  have p:=p.bind
  refine ⟨μ,M,L,hr,lr,p.bind.imp fun μ1 H1 M1 s e1 hr1 _ p1 J hJ Dt hDt=>?_⟩
  have x:=ext_new (vs:=[]) hr1 hDt
  have hlen:=hr1.len
  obtain ⟨S,s0,sx,step⟩:=hJ
  refine turns_ok (Zi:=ZR K R) (M:=M1++[[]]) M1.length μ1 H1 x hr1.len (by rw [<- hlen]; simp) (hr1.new hDt .nil) (LR.out ((lr.ext hr.lsts e1).ext hr1.lsts x)) ⟨S,sx _ _ _ _ hr1.lsts s0 x,sx,step⟩ ?_
  cases q:compD M1.length s g c f s.ds (outL js L) (M1++[[]]) with
  | bad=>simp only [q] at p1; exact p1.elim
  | ex z M2 =>
    simp only [q] at p1
    intro μ2 H2 e2 hr2 a ra
    have E:=x.trans e2
    have hb:=hr2.back E
    rw [hlen] at hb
    exact p1 μ1 H2 E.back hb a (Rp.sub (fun a ha=>by rw [<- E.take] at ha; exact List.mem_of_mem_take ha) _ _ ra)
  | ok u M2 =>
    simp only [q] at p1
    intro μ2 H2 e2 hr2
    cases q2:M2[M1.length]? with
    | none=>simp only [q2] at p1; exact p1.elim
    | some acc =>
      simp only [q2] at p1
      have E:=x.trans e2
      have hb:=hr2.back E
      rw [hlen] at hb
      have hD2:μ2[M1.length]?=some Dt:=e2.pre _ _ (by rw [<- hlen]; simp)
      obtain ⟨a',vs,qa',h1,r1⟩:=hr2.at q2
      rw [hD2] at qa'; cases qa'
      have h3:=Rps.sub (μ1:=μ1) (fun a ha=>by rw [<- E.take] at ha; exact List.mem_of_mem_take ha) _ _ r1
      exact p1 μ1 H2 E.back hb μ1 H2 .refl hb _ (by simp only [Rw,Rp]; exact ⟨Dt,vs,rfl,h1,hr1.out hDt,h3⟩)
theorem ev_compX {tg iter elt:Expr} {ifs:List Expr} {scope:Scope} {Nc:List Str} {js:List (Option Nat)} {fi:FI} {g:FG} {c:FT} {f:FE} (hz:Xz X R) (hc:X.calm=true) (T:CompOk X.N X.env.scope scope Nc js) (hit:Ei X K (ZR K R) tg iter fi)
    (hg:∀ cl C fp pins s₂ H₂,Eg (compCxX R X Nc scope cl C fp pins s₂ H₂) K (ZR K R) tg g) (hi:∀ cl C fp pins s₂ H₂,Eif (compCxX R X Nc scope cl C fp pins s₂ H₂) K (ZR K R) ifs c) (he:∀ cl C fp pins s₂ H₂,Ev (compCxX R X Nc scope cl C fp pins s₂ H₂) K (ZR K R) elt f)
    (hs:∀ x,foldedSetIterable iter X.env x=pure x:=by intro _; rfl) (hst:X.stack=X.env::X.outer:=by rfl) (hfm:X.env.frame=some X.env.locals:=by rfl):Ev X K (ZR K R) (.ListComp elt [⟨tg,iter,ifs,0⟩] scope pos) (eCompX js fi g c f) :=
  ⟨hit.k,cqE (pe_compX hz hst hfm hc T hit.h (fun _ _ _ _ _ _=>(hg _ _ _ _ _ _).h) (fun _ _ _ _ _ _=>(hi _ _ _ _ _ _).h) (fun _ _ _ _ _ _=>(he _ _ _ _ _ _).h) hs) comp_valX⟩
end
end EV
namespace L2
open PySem PySem.Spec PyProof.Rows
structure RoomH (k:Nat) (A:Around):Prop where
  dp:A.depth+3*k+5 < recursionLimit
  un:A.units+16*k+200 < cLine
theorem Room.mark {k:Nat} {A:Around} {v:Option Value} (r:Room k A):RoomH k (A.mark v):=⟨r.dp,r.un⟩
theorem RoomH.mono {j k:Nat} {A:Around} (r:RoomH k A) (h:j<=k):RoomH j A:=⟨by have:=r.dp; omega,by have:=r.un; omega⟩
theorem RoomH.deeper {k:Nat} {A:Around} (r:RoomH (k+1) A) (env:Env):RoomH k (A.deeper env) :=
  ⟨by have:=r.dp; show A.depth+1+3*k+5 < _; omega,by have:=r.un; show A.units+3+16*k+200 < _; omega⟩
structure FnOkH (P:Program) (w:World) (K:PySem.W.Frag) (mg:Str->Option Value) (base:Heap) (k:Nat) (f:Addr) (fd:FuncData) (ps:List Str) (sp:Sp):Prop where
  len:∀ vs H Q E,sp vs H Q E->vs.length=ps.length
  run:∀ (A:Around) (outer:List Env) (s:Shared) (H:Hp) (args:Args) (us:List Value) (vs:List V) (Q:VK) (E:XK),RoomH k A->Env0 P w K mg base A outer s H->BindsTo s fd args (ps.zip us)->Vals vs us->sp vs H Q E ->
    codeAny (model P w) A (.call (.ref f) args) (CR CX0 outer P w H s Q E) s
noncomputable def cxOfH (P:Program) (w:World) (K:PySem.W.Frag) (mg:Str->Option Value) (base:Heap) (N:List Str) (qual:Str) (scope:Scope) (f:Addr) (cd:Value) (A:Around) (outer:List Env) (s:Shared) (H:Hp):Cx :=
  { cxOf CX0 P w K mg base N qual scope f cd A outer s H E0 with calm:=false,xe:=fun _ _=>False }
theorem fn_ofH {P:Program} {w:World} {K:PySem.W.Frag} {mg:Str->Option Value} {base:Heap} {k:Nat} {x qual:Str} {st:Stmt} {f:Addr} {fd:FuncData} {N ps:List Str} {sp:Sp} (F:Fun K x qual st f fd) (S:FnScope N ps (defScope st))
    (len:∀ vs H Q E,sp vs H Q E->vs.length=ps.length)
    (hbody:∀ (cdv:Value) (A:Around) (outer:List Env) (s:Shared) (H:Hp) (vs:List V) (Q:VK) (E:XK),RoomH k (A.deeper (envOfC qual (defScope st) s.heap.objs.size f cdv))->sp vs H Q E ->
      ∃ t,PSs (cxOfH P w K mg base N qual (defScope st) f cdv A outer s H) (defBody st) t/\t { nx:=fun _ H'=>Q .non H',rt:=Q } (start N vs) H) :
    FnOkH P w K mg base (k+1) f fd ps sp:=by
  obtain ⟨oc,od,kV,doc,pm,an,cdv,ct,osl,rfl,lk,hcd⟩:=F.ex
  refine ⟨len,fun A outer s H args us vs Q E hr e0 hb r hsp=>?_⟩
  have hl:=len _ _ _ _ hsp
  have KX:K.In s.heap:=e0.mod.kin.keeps fun b o e=>(e0.bs b o e).1
  have lim:s.heap.NoLimit:=e0.mod.nolimit.keeps fun b o e=>(e0.bs b o e).1
  have hkind:∀ y∈ps.zip us,(defScope st).names.lookup y.1=some .local\/((defScope st).names.lookup y.1=some .cell/\((cellsFrom (s.heap.objs.size+1) (defScope st).names []).lookup y.1).isSome=true):=fun ⟨n,v⟩ hy=>by
    rcases S.par n (List.of_mem_zip hy).1 with q | q
    · exact .inl q
    · exact .inr ⟨q,PySem.W.cellsFrom_some _ _ _ (.inl q)⟩
  refine codeAny_call_function (by have:=hr.dp; omega) (KX _ _ lk) rfl S.co S.gen rfl (PySem.W.codeRec_of KX hcd) (hb _ _ _ _ ?_)
  refine wpAny_newFunctionEnv_cells S.kind hkind fun env he s1 x=>?_
  subst he
  refine ⟨lim.keeps x.toInCall.keep,codeAny_func ?_⟩
  obtain ⟨t,ht,hq⟩:=hbody cdv A outer s H vs Q E (hr.deeper _) hsp
  have e1:Env0 P w K mg base { A with handled:=none } outer s H:=⟨e0.frames,e0.mod,e0.bs,e0.bsz,e0.funs,e0.frf,e0.hok,e0.bare⟩
  have J0:Inv (cxOf CX0 P w K mg base N qual (defScope st) f cdv { A with handled:=none } outer s H E0) [] (start N vs) H s1:=inv_start S rfl e1 hl r x
  have I:Inv (cxOfH P w K mg base N qual (defScope st) f cdv A outer s H) [] (start N vs) H s1 :=
    ⟨⟨J0.ok.mod,J0.ok.kind,J0.ok.glob,J0.ok.blt,J0.ok.above,J0.ok.inj,J0.ok.has,J0.ok.cab,(fun z=>nomatch z),Around.frames_deeper e0.frames,J0.ok.stk,J0.ok.exf,J0.ok.bs,J0.ok.bsz,J0.ok.noex,J0.ok.exfs,J0.ok.funs,J0.ok.frf⟩,J0.os,J0.bare,J0.base,J0.loc,J0.cell,J0.free,J0.freeC,J0.pin,J0.hok,J0.len⟩
  refine wpAny_mono (ht [] s1 (start N vs) H _ I hq) (fun fl s' hs=>?_) fun e s' hs=>hs.elim
  have fin:∀ {σ':St} {H':Hp} {v:V} {u:Value},Inv (cxOfH P w K mg base N qual (defScope st) f cdv A outer s H) [] σ' H' s'->RelV v u->Q v H'->CE outer P w H s Q u s' :=
    fun {σ' H' v u} J rv q=>⟨v,H',J.os,J.bare,J.base,J.hok,rv,q⟩
  cases fl with
  | ret u =>
    obtain ⟨v,σ',H',J,rv,q⟩:=hs
    exact fin J rv q
  | next =>
    obtain ⟨σ',H',J,q⟩:=hs
    exact fin (v:=V.non) (u:=Value.none) J rfl q
  | brk =>
    obtain ⟨_,_,_,q⟩:=hs
    exact False.elim q
  | cont =>
    obtain ⟨_,_,_,q⟩:=hs
    exact False.elim q
section
variable {X:Cx} {k:Nat} {f:Addr} {fd:FuncData} {ps:List Str} {sp:Sp} {x:Str} {p pos:Pos} {e:Expr} {es:List Expr} {t:TA}
theorem pe_callH (F:FnOkH X.prog X.w X.K X.mg X.base k f fd ps sp) (hr:RoomH k X.A) (hg:Gl X x) (hm:X.mg x=some (.ref f)) (hk:PySem.W.keepIn X.K (.ref f)=true) (hb:Binds X.K fd ps [])
    (ha:PA X (e::es) t) (hdb:(x==("__debug__":Str))=false:=by decide) (he:starEach (e::es) X.env=(false,eval e X.env)::starEach es X.env:=by rfl) (hpl:(backTo pos (starEach es X.env)).any (·.1)=false:=by rfl) :
    PE X (.Call (.Name x p) (e::es) [] pos) (tCall sp [] E0 t):=by
  intro pins s σ H Q I h
  refine wpAny_Call_Name_kw (ld_glob I hg hm ?_ hdb)
  refine PySem.W.callWith_K (h₀:=X.base) I.ok.mod.kin hk (thn (ha pos pins s σ H _ I h) fun us s1 ⟨vs,H1,I1,r,q⟩=>⟨I1.kIn,?_⟩) he hpl
  have q:sp (vs++[]) H1 Q E0:=q
  rw [List.append_nil] at q
  have hl:us.length=ps.length:=by rw [<- r.length]; exact F.len _ _ _ _ q
  have hb:=hb s1 us I1.kIn (by rw [List.append_nil]; exact hl)
  rw [List.append_nil] at hb
  refine wpAny_call (codeAny_mono (F.run X.A X.stack s1 H1 ⟨us,[]⟩ us vs Q E0 hr I1.env0 hb r q) fun r s' hq=>?_)
  cases r with
  | error e=>exact hq.elim
  | ok fl =>
    cases fl with
    | ret u=>exact I1.after hq
    | next=>exact False.elim hq
    | brk=>exact False.elim hq
    | cont=>exact False.elim hq
end
end L2
namespace EV
open PySem PySem.Spec PyProof.Rows L2
theorem fn_okH {K:PySem.W.Frag} {P:Program} {w:World} {mg:Str->Option Value} {base:Heap} {x qual:Str} {st:Stmt} {fa:Addr} {fd:FuncData} {N ps:List Str} {k:Nat} {F:FS} (hf:Fun K x qual st fa fd) (S:FnScope N ps (defScope st))
    (hb:∀ (cdv:Value) (A:Around) (outer:List Env) (s:Shared) (H:Hp),RoomH k (A.deeper (envOfC qual (defScope st) s.heap.objs.size fa cdv))->Ess (cxOfH P w K mg base N qual (defScope st) fa cdv A outer s H) K Z0 (defBody st) F) :
    FnOkH P w K mg base (k+1) fa fd ps (spF K Z0 ps.length (fnD ps.length N.length F)):=by
  refine fn_ofH hf S (fun vs H Q E h=>h.1) fun cdv A outer s H vs Q E hr hsp=>⟨_,(hb cdv A outer s H hr).h,?_⟩
  obtain ⟨hv,μ,M,ws,hr,rx,p⟩:=hsp
  refine ⟨μ,M,_,hr,lr_start rx,?_⟩
  unfold fnD at p
  rw [if_pos (by rw [rx.length]; exact hv)] at p
  cases q:F (ws.map some++List.replicate (N.length - ws.length) none) M with
  | bad=>rw [q] at p; exact p
  | ex z M'=>rw [q] at p; exact p
  | ok o M' =>
    rw [q] at p
    simp only [bind_ok] at p
    intro μ1 H1 e1 hr1
    have hb:=hr1.back e1
    rw [hr.len] at hb
    cases o with
    | nx L'=>exact fun σ' lr'=>p μ H1 e1.back hb _ (by simp [Rw,Rp])
    | bk L'=>exact p.elim
    | ct L'=>exact p.elim
    | rt w =>
      intro v rv
      have hsub:∀ a,a∈μ->a∈μ1:=fun a ha=>by rw [<- e1.take] at ha; exact List.mem_of_mem_take ha
      cases w with
      | d x=>exact p μ H1 e1.back hb v (Rp.sub hsub x v rv)
      | ref i =>
        simp only [retc] at p
        split at p
        · rename_i hi
          obtain ⟨a,qa,rfl⟩:=rv
          refine p μ H1 e1.back hb _ ⟨a,?_,rfl⟩
          rw [<- hr.len] at hi
          have:=e1.pre i μ[i] (by simp [hi])
          rw [qa] at this; cases this
          simp [hi]
        · rename_i hi
          cases q2:M'[i]? with
          | none=>simp only [q2] at p; exact p.elim
          | some ds =>
            simp only [q2] at p
            obtain ⟨a,qa,rfl⟩:=rv
            obtain ⟨a',vs',qa',h1,r1⟩:=hr1.at q2
            rw [qa] at qa'; cases qa'
            refine p μ H1 e1.back hb _ ?_
            simp only [Rw,Rp]
            refine ⟨a,vs',rfl,h1,fun ha=>?_,Rps.sub hsub _ _ r1⟩
            obtain ⟨j,hj,ej⟩:=List.mem_iff_getElem.mp ha
            have h2:=e1.pre j a (by rw [<- ej]; simp [hj])
            have l1:=(List.getElem?_eq_some_iff.mp qa).1
            have l2:=(List.getElem?_eq_some_iff.mp h2).1
            have g1:=(List.getElem?_eq_some_iff.mp qa).2
            have g2:=(List.getElem?_eq_some_iff.mp h2).2
            have pw:=List.pairwise_iff_getElem.mp hr1.nd
            rw [hr.len] at hj
            exact pw j i l2 l1 (by omega) (g2.trans g1.symm)
section
variable {X:Cx} {K:PySem.W.Frag} {Z:Zt} {e:Expr} {es:List Expr} {pos:Pos} {fs:FA}
theorem ev_callH {k:Nat} {fd:FuncData} {fa:Addr} {ps:List Str} {m:Nat} {Fm:Fn} {x:Str} {p:Pos} (Gf:FnOkH X.prog X.w X.K X.mg X.base k fa fd ps (spF K Z0 m Fm)) (hr:RoomH k X.A) (hm:X.mg x=some (.ref fa)) (hk:PySem.W.keepIn X.K (.ref fa)=true) (hb:Binds X.K fd ps [])
    (ha:Ea X K Z (e::es) fs) (hg:Gl X x:=by rfl) (hdb:(x==("__debug__":Str))=false:=by decide) (he:starEach (e::es) X.env=(false,eval e X.env)::starEach es X.env:=by rfl) (hpl:(backTo pos (starEach es X.env)).any (·.1)=false:=by rfl)
    (hlen:∀ ws M,ws.length≠m->Fm ws M=.bad:=by intro ws M h; first | exact if_neg h | rfl):Ev X K Z (.Call (.Name x p) (e::es) [] pos) (eA (nx Fm) fs):=by
  refine ⟨ha.k,cqE (pe_callH Gf hr hg hm hk hb ha.h hdb he hpl) ?_⟩
  rintro σ H Q ⟨μ,M,L,hr,lr,p⟩
  refine ⟨μ,M,L,hr,lr,p.bind.imp fun μ1 H1 M1 ws e1 hr1 _ p1 vs rx=>?_⟩
  show spF K Z0 m Fm (vs++[]) H1 Q E0
  rw [List.append_nil]
  have p2:Pst K Z0 μ1 H1 (Fm ws M1) (Wk K Q):=by
    unfold nx at p1
    cases q:Fm ws M1 with
    | ok w M'=>rw [q] at p1; exact p1
    | ex z M'=>rw [q] at p1; exact p1.elim
    | bad=>rw [q] at p1; exact p1.elim
  refine ⟨?_,μ1,M1,ws,hr1,rx,p2⟩
  by_cases hw:ws.length=m
  · rw [<- rx.length]; exact hw
  · rw [hlen ws M1 hw] at p2; exact p2.elim
theorem es_parT3 {a b c:Expr} {i j k:Nat} {x y z:Str} {px py pz pt:Pos} {kt k2 pt2} (hc:X.calm=true) (hN:X.N.Nodup) (ha:Ea X K Z [a,b,c] fs) (hi:X.N[i]?=some x:=by rfl) (hj:X.N[j]?=some y:=by rfl) (hk:X.N[k]?=some z:=by rfl)
    (hx:Loc X.env.scope x:=by first | exact Or.inl rfl | exact Or.inr rfl) (hy:Loc X.env.scope y:=by first | exact Or.inl rfl | exact Or.inr rfl) (hz:Loc X.env.scope z:=by first | exact Or.inl rfl | exact Or.inr rfl)
    (fx:X.fn x=true\/X.env.scope.names.lookup x=some .local:=by first | exact .inl rfl | exact .inr rfl) (fy:X.fn y=true\/X.env.scope.names.lookup y=some .local:=by first | exact .inl rfl | exact .inr rfl) (fz:X.fn z=true\/X.env.scope.names.lookup z=some .local:=by first | exact .inl rfl | exact .inr rfl)
    (hs:swapsWithSole [.Tuple [.Name x px,.Name y py,.Name z pz] kt pt] (.Tuple [a,b,c] k2 pt2) pos.line X.env=pure false:=by rfl) (hw:swappedStores [.Tuple [.Name x px,.Name y py,.Name z pz] kt pt] (.Tuple [a,b,c] k2 pt2) X.env=pure none:=by rfl) :
    Es X K Z (.Assign [.Tuple [.Name x px,.Name y py,.Name z pz] kt pt] (.Tuple [a,b,c] k2 pt2) pos) (sPar3 i j k fs):=by
  have hT:PG X (.Tuple [.Name x px,.Name y py,.Name z pz] kt pt) (gTup X.K 3 _):=pg_tup (k:=kt) (pos:=pt) hc (pgs_cons (pg_name hN hi hx fx) (pgs_cons (pg_name hN hj hy fy) (pgs_cons (pg_name hN hk hz fz) pgs_nil))) rfl rfl
  rw [ha.k] at hT
  refine ⟨ha.k,cqS (ps_asg (pe_tup ha.h) hT hs hw rfl) ?_⟩
  rintro E σ H ⟨μ,M,L,hr,lr,p⟩
  refine ⟨μ,M,L,hr,lr,p.bind.imp fun μ1 H1 M1 ws e1 hr1 _ p1 vs rx=>?_⟩
  match ws,rx,p1 with
  | [],_,p1=>exact p1.elim
  | [_],_,p1=>exact p1.elim
  | [_,_],_,p1=>exact p1.elim
  | [u,v,w],⟨x1,r1,e1',q1,x2,r2,e2',q2,x3,r3,e3',q3,e4⟩,p1 =>
    cases e4
    subst e3' e2' e1'
    refine ⟨by show 3<=sizeLine; decide,fun p hp=>⟨p,_,rfl,SqT.of upd_same,rfl,x1,_,rfl,x2,_,rfl,x3,_,rfl,rfl,?_⟩⟩
    have x:=ext_lay (o:=.tup [x1,x2,x3]) hr1 hp
    exact p1 μ1 _ x (hr1.lay hp) _ (LR.set (LR.set (LR.set ((lr.ext hr.lsts e1).ext hr1.lsts x) (q1.ext hr1.lsts x)) (q2.ext hr1.lsts x)) (q3.ext hr1.lsts x))
  | _::_::_::_::_,_,p1=>exact p1.elim
theorem hu_roomH {k:Nat} {A:Around} (hr:RoomH k A):A.units+101 < cLine:=by have:=hr.un; omega
end
section
variable {EX:D->Mm->Prop} {L:Lc} {M:Mm} {Q:W->Mm->Prop} {f:FE} {gg:FG}
theorem compX_inv {js:List (Option Nat)} {fi:FI} (I:Nat->List D->Lc->Mm->Prop)
    (h:Okx EX (fi L M) fun s M1=>(I 0 [] (outL js L) M1/\(∀ i acc L M,i<=s.ds.length->I i acc L M->M.length=M1.length/\Chk s (M++[acc])/\acc.length<=i)/\s.ds.length<=16777216 /\
      (∀ i d acc L M,s.ds[i]?=some d->I i acc L M->Ok (gg (.d d) L (M++[acc])) fun L1 M2=>Okx (fun x M4=>∃ M5,M4=M5++[acc]/\M5.length=M1.length/\EX x M5) (f L1 M2) fun w M4=>∃ x M5,w=.d x/\M4=M5++[acc]/\I (i+1) (acc++[x]) L1 M5) /\
      (∀ acc L M,I s.ds.length acc L M->Q (.d (.lst acc)) M))):Okx EX (eCompX js fi gg tYes f L M) Q:=by
  unfold eCompX compTX
  refine ok_bind (ok_bind (h.mono fun s M1 ⟨h0,hc,hz,hs,hd⟩=>?_))
  have key:∀ k i acc L M,s.ds.length - i=k->i<=s.ds.length->I i acc L M->(∃ acc' L' M',compD M1.length s gg tYes f (s.ds.drop i) L (M++[acc])=.ok () (M'++[acc'])/\I s.ds.length acc' L' M')\/∃ x acc' M',compD M1.length s gg tYes f (s.ds.drop i) L (M++[acc])=.ex x (M'++[acc'])/\M'.length=M1.length/\EX x M':=by
    intro k
    induction k with
    | zero =>
      intro i acc L M e hi hI
      have:i=s.ds.length:=by omega
      subst this
      rw [List.drop_eq_nil_of_le (Nat.le_refl _)]
      unfold compD
      rw [if_pos (hc _ acc L M (Nat.le_refl _) hI).2.1]
      exact .inl ⟨acc,L,M,rfl,hI⟩
    | succ k ih =>
      intro i acc L M e hi hI
      have hlt:i < s.ds.length:=by omega
      rw [List.drop_eq_getElem_cons hlt]
      unfold compD
      obtain ⟨hl,hch,hal⟩:=hc _ acc L M hi hI
      rw [if_pos hch]
      obtain ⟨L1,M2,e1,hh⟩:=Ok_def.mp (hs i s.ds[i] acc L M (by simp [hlt]) hI)
      rw [e1]
      simp only [bind_ok,tYes,if_true]
      rcases Okx_def.mp hh with ⟨w,M4,e3,x,M5,rfl,rfl,hI'⟩ | ⟨x,M4,e3,M5,rfl,hl5,hx⟩
      · rw [e3]
        simp only [bind_ok]
        have hl5:=(hc _ _ _ _ (by omega) hI').1
        have g1:(M5++[acc])[M1.length]?=some acc:=by rw [<- hl5]; simp
        have g2:(M5++[acc]).set M1.length (acc++[x])=M5++[acc++[x]]:=by rw [<- hl5]; simp
        rw [g1]
        simp only
        rw [if_pos (by omega),g2]
        exact ih (i+1) (acc++[x]) L1 M5 (by omega) (by omega) hI'
      · rw [e3]
        exact .inr ⟨x,acc,M5,rfl,hl5,hx⟩
  have hm1:(M1++[([]:List D)])=M1++[[]]:=rfl
  rcases key s.ds.length 0 [] (outL js L) M1 (by omega) (Nat.zero_le _) h0 with ⟨acc',L',M',e,hI⟩ | ⟨x,acc',M',e,hl,hx⟩
  · rw [List.drop_zero] at e
    rw [e]
    have hl:=(hc _ _ _ _ (Nat.le_refl _) hI).1
    have g1:(M'++[acc'])[M1.length]?=some acc':=by rw [<- hl]; simp
    simp only [g1]
    rw [show (M'++[acc']).take M1.length=M' by rw [<- hl]; simp]
    exact ok_ok (ok_ok (hd acc' L' M' hI))
  · rw [List.drop_zero] at e
    rw [e]
    simp only
    rw [show (M'++[acc']).take M1.length=M' by rw [<- hl]; simp]
    exact ok_raise hx
end
end EV
set_option maxHeartbeats 4000000
namespace K36
open PySem L2 EV
noncomputable def top (i:Nat):Stmt:=PySem.Challenge.pw_lentshelf_k36_sayings_told_as_expression.main.body.getD i (.Pass ⟨0,0,0,0⟩)
noncomputable abbrev s_inverse:Stmt:=top 11
noncomputable abbrev s_said:Stmt:=top 13
noncomputable abbrev s_said_least:Stmt:=top 14
noncomputable abbrev s_step_numbers:Stmt:=top 15
noncomputable abbrev s_inverse_of:Stmt:=top 16
noncomputable abbrev s_l_box:Stmt:=top 18
noncomputable abbrev s_l_take:Stmt:=top 19
noncomputable abbrev s_l_n:Stmt:=top 20
noncomputable abbrev s_l_shared:Stmt:=top 21
noncomputable abbrev s_l_inverse:Stmt:=top 22
noncomputable abbrev s_l_alike:Stmt:=top 23
noncomputable abbrev s_l_saying:Stmt:=top 24
noncomputable abbrev s_l_refused_by:Stmt:=top 25
noncomputable abbrev s_l_numbers:Stmt:=top 26
noncomputable abbrev s_l_least:Stmt:=top 27
noncomputable abbrev s_l_said:Stmt:=top 28
noncomputable abbrev s_l_right:Stmt:=top 29
noncomputable abbrev s_law:Stmt:=top 30
noncomputable abbrev si_NoInverse:Stmt:=inClass (top 8) 0
noncomputable def b_inverse:FS :=
  (sSeq (sPar 2 3 (aCons (eV 0) (aCons (e2 pMod (eV 1) (eV 0)) aNil)))
    (sSeq (sAs (eA mkT (aCons (eC (.int 0)) (aCons (eC (.int 1)) aNil))) (gT 2 (gsCons (gN 4) (gsCons (gN 5) gsNil))))
    (sSeq (whileD (EV.tB (e2 pGt (eV 3) (eC (.int 0))))
    (sSeq (sAs (e2 pDiv (eV 2) (eV 3)) (gN 6))
    (sSeq (sPar 2 3 (aCons (eV 3) (aCons (e2 pSub (eV 2) (e2 pMulA (eV 6) (eV 3))) aNil)))
    (sPar 4 5 (aCons (eV 5) (aCons (e2 pSub (eV 4) (e2 pMulA (eV 6) (eV 5))) aNil))))) NW)
    (sSeq (sIf (EV.tB (e2 pNe (eV 2) (eC (.int 1))))
    (sRt (eC .non))
    sNil)
    (sRt (e2 pMod (eV 4) (eV 0)))))))
noncomputable def F_inverse:Fn:=fnD 2 7 b_inverse
theorem len_inverse {ws:List W} {M:Mm} (h:ws.length≠2):F_inverse ws M=.bad:=if_neg h
noncomputable def b_inverse_of:FS :=
  (sSeq (sAs (eA (nx F_inverse) (aCons (eV 0) (aCons (eV 1) aNil))) (gN 2))
    (sSeq (sIf (EV.tB (e2 pIs (eV 2) (eC .non)))
    (sRaise "NoInverse" "number" (eV 1))
    sNil)
    (sRt (eV 2))))
noncomputable def F_inverse_of:Fn:=fnX 2 3 b_inverse_of
theorem len_inverse_of {ws:List W} {M:Mm} (h:ws.length≠2):F_inverse_of ws M=.bad:=fnX_len h
noncomputable def b_step_numbers:FS :=
  (sSeq (sAs (eA mkR (aCons (e2 pMod (e2 pIx (eV 1) (eC (.int 0))) (eV 0)) aNil)) (gN 2))
    (sSeq (sAs (eV 1) (gN 3))
    (sSeq (sAs (eC (.int 1)) (gN 4))
    (sSeq (sFor (iR2 (eC (.int 1)) (eA cLen (aCons (eV 1) aNil))) (gN 5)
    (sSeq (sAs (eComp [none,none] (iZip (eV 3) (eSl (eV 3) (oAt (eC (.int 1))) oNo)) (gT 2 (gsCons (gN 0) (gsCons (gN 1) gsNil))) EV.tYes (e2 pSub (eV 1) (eV 0))) (gN 3))
    (sSeq (sAs (e2 pMod (e2 pMulA (eV 4) (eA F_inverse_of (aCons (eV 0) (aCons (eV 5) aNil)))) (eV 0)) (gN 4))
    (sEx (eM1 pAppend (eV 2) (e2 pMod (e2 pMulA (e2 pIx (eV 3) (eC (.int 0))) (eV 4)) (eV 0)))))))
    (sRt (eV 2))))))
noncomputable def F_step_numbers:Fn:=fnX 2 6 b_step_numbers
theorem len_step_numbers {ws:List W} {M:Mm} (h:ws.length≠2):F_step_numbers ws M=.bad:=fnX_len h
noncomputable def b_said_least:FS :=
  (sSeq (sAs (eA cLen (aCons (eV 2) aNil)) (gN 3))
    (sSeq (sAs (e2 pIx (eV 2) (eC (.int 0))) (gN 4))
    (sSeq (sFor (iE (eSl (eV 2) (oAt (eC (.int 1))) oNo)) (gN 5)
    (sAs (eA mkT (aCons (eC (.str "sum")) (aCons (eV 4) (aCons (eV 5) aNil)))) (gN 4)))
    (sSeq (sAs (eA F_step_numbers (aCons (eV 0) (aCons (eComp [none,some 1] (iR1 (e2 pAdd (eV 3) (eC (.int 1)))) (gN 0) EV.tYes (eIf (EV.tB (e2 pGe (eV 0) (eV 1))) (eC (.int 1)) (eC (.int 0)))) aNil))) (gN 6))
    (sSeq (sAs (eA mkT (aCons (eC (.str "num")) (aCons (e2 pIx (eV 6) (eV 3)) aNil))) (gN 7))
    (sSeq (sFor (iDown (eV 3)) (gN 8)
    (sAs (eA mkT (aCons (eC (.str "sum")) (aCons (eA mkT (aCons (eC (.str "num")) (aCons (e2 pIx (eV 6) (eV 8)) aNil))) (aCons (eA mkT (aCons (eC (.str "times")) (aCons (eA mkT (aCons (eC (.str "less")) (aCons (eV 4) (aCons (eA mkT (aCons (eC (.str "num")) (aCons (eV 8) aNil))) aNil)))) (aCons (eV 7) aNil)))) aNil)))) (gN 7)))
    (sRt (eV 7))))))))
noncomputable def F_said_least:Fn:=fnX 3 9 b_said_least
theorem len_said_least {ws:List W} {M:Mm} (h:ws.length≠3):F_said_least ws M=.bad:=fnX_len h
noncomputable def b_said (r_said:Fn):FS :=
  (sSeq (sAs (e2 pIx (eV 1) (eC (.int 0))) (gN 2))
    (sSeq (sIf (EV.tB (e2 pEq (eV 2) (eC (.str "yes"))))
    (sRt (eA mkT (aCons (eC (.str "given")) (aCons (e2 pIx (eV 1) (eC (.int 1))) aNil))))
    sNil)
    (sSeq (sIf (EV.tB (e2 pEq (eV 2) (eC (.str "not"))))
    (sRt (eA mkT (aCons (eC (.str "less")) (aCons (eA mkT (aCons (eC (.str "num")) (aCons (eC (.int 1)) aNil))) (aCons (eA r_said (aCons (eV 0) (aCons (e2 pIx (eV 1) (eC (.int 1))) aNil))) aNil)))))
    sNil)
    (sSeq (sIf (EV.tB (e2 pEq (eV 2) (eC (.str "least"))))
    (sRt (eA F_said_least (aCons (eV 0) (aCons (e2 pIx (eV 1) (eC (.int 1))) (aCons (eCompX [none,some 0] (iE (e2 pIx (eV 1) (eC (.int 2)))) (gN 0) EV.tYes (eA r_said (aCons (eV 1) (aCons (eV 0) aNil)))) aNil)))))
    sNil)
    (sSeq (sAs (eA r_said (aCons (eV 0) (aCons (e2 pIx (eV 1) (eC (.int 1))) aNil))) (gN 3))
    (sSeq (sAs (eA r_said (aCons (eV 0) (aCons (e2 pIx (eV 1) (eC (.int 2))) aNil))) (gN 4))
    (sSeq (sIf (EV.tB (e2 pEq (eV 2) (eC (.str "and"))))
    (sRt (eA mkT (aCons (eC (.str "times")) (aCons (eV 3) (aCons (eV 4) aNil)))))
    sNil)
    (sRt (eA mkT (aCons (eC (.str "less")) (aCons (eA mkT (aCons (eC (.str "sum")) (aCons (eV 3) (aCons (eV 4) aNil)))) (aCons (eA mkT (aCons (eC (.str "times")) (aCons (eV 3) (aCons (eV 4) aNil)))) aNil))))))))))))
noncomputable def F_said:Nat->Fn
  | 0=>fun _ _=>.bad
  | d+1=>fnX 2 5 (b_said (F_said d))
theorem len_said:∀ {d:Nat} {ws:List W} {M:Mm},ws.length≠2->F_said d ws M=.bad
  | 0,_,_,_=>by simp only [F_said]
  | d+1,_,_,h=>by simp only [F_said]; exact fnX_len h
noncomputable def b_l_box:FS :=
  (sSeq (sAs (e2 pAdd (e2 pMulA (eC (.int 7919)) (eV 1)) (eC (.int 11))) (gN 2))
    (sSeq (sIf (EV.tB (e2 pLt (eV 1) (eA cLen (aCons (eV 0) aNil))))
    (sAs (e2 pIx (eV 0) (eV 1)) (gN 2))
    (sIf (EV.tB (e2 pGt (eA cLen (aCons (eV 0) aNil)) (eC (.int 0))))
    (sAs (e2 pAdd (eV 2) (e2 pMulA (e2 pMod (e2 pIx (eV 0) (e2 pMod (eV 1) (eA cLen (aCons (eV 0) aNil)))) (eC (.int 2147483629))) (eC (.int 69623)))) (gN 2))
    sNil))
    (sSeq (sAs (e2 pAdd (e2 pMod (e2 pAdd (e2 pMulA (e2 pMod (eV 2) (eC (.int 2147483629))) (eC (.int 48271))) (e2 pMulA (eC (.int 40692)) (eV 1))) (eC (.int 2147483629))) (eC (.int 1))) (gN 3))
    (sRt (eA mkR (aCons (e2 pIx (eA mkL (aCons (eC (.int 0)) (aCons (eV 2) aNil))) (eA cInt (aCons (e2 pGe (eV 2) (e2 pPow (eC (.int 10)) (eC (.int 18)))) aNil))) (aCons (eV 3) (aCons (eC (.int 0)) aNil))))))))
noncomputable def F_l_box:Fn:=fnR 2 4 b_l_box
theorem len_l_box {ws:List W} {M:Mm} (h:ws.length≠2):F_l_box ws M=.bad:=if_neg h
noncomputable def b_l_take:FS :=
  (sSeq (sIf (EV.tB (e2 pGt (e2 pIx (eV 0) (eC (.int 0))) (eC (.int 0))))
    (sSeq (sAs (e2 pMod (e2 pIx (eV 0) (eC (.int 0))) (eV 1)) (gN 2))
    (sSeq (sAs (e2 pDiv (e2 pIx (eV 0) (eC (.int 0))) (eV 1)) (gS (eV 0) (eC (.int 0))))
    (sRt (eV 2))))
    sNil)
    (sSeq (sAs (e2 pAdd (e2 pIx (eV 0) (eC (.int 2))) (eC (.int 1))) (gS (eV 0) (eC (.int 2))))
    (sSeq (sAs (e2 pMod (e2 pMulA (e2 pAdd (e2 pIx (eV 0) (eC (.int 1))) (e2 pMulA (eC (.int 104729)) (e2 pIx (eV 0) (eC (.int 2))))) (eC (.int 69623))) (eC (.int 2147483647))) (gN 3))
    (sSeq (sAs (e2 pAdd (e2 pMod (e2 pAdd (e2 pMulA (eV 3) (eC (.int 48271))) (eC (.int 30103))) (eC (.int 2147483629))) (eC (.int 1))) (gS (eV 0) (eC (.int 1))))
    (sRt (e2 pMod (e2 pDiv (e2 pAdd (e2 pMulA (eV 3) (eC (.int 2147483647))) (e2 pIx (eV 0) (eC (.int 1)))) (eC (.int 8191))) (eV 1)))))))
noncomputable def F_l_take:Fn:=fnD 2 4 b_l_take
theorem len_l_take {ws:List W} {M:Mm} (h:ws.length≠2):F_l_take ws M=.bad:=if_neg h
noncomputable def b_l_n:FS :=
  (sSeq (sAs (eA F_l_take (aCons (eV 0) (aCons (eC (.int 6)) aNil))) (gN 1))
    (sSeq (sAs (eInts [2,3,4,5,6,7,8,9,12,16,30,36,49,64,91,97,210,1009,65536,999983,999999,1000000]) (gN 2))
    (sSeq (sAs (e2 pIx (eV 2) (eA F_l_take (aCons (eV 0) (aCons (eC (.int 22)) aNil)))) (gN 3))
    (sSeq (sIf (EV.tB (e2 pEq (eV 1) (eC (.int 0))))
    (sRt (e2 pAdd (eC (.int 2)) (eA F_l_take (aCons (eV 0) (aCons (eC (.int 999999)) aNil)))))
    sNil)
    (sSeq (sIf (EV.tB (e2 pLt (eV 1) (eC (.int 3))))
    (sRt (e2 pAdd (eC (.int 2)) (eA F_l_take (aCons (eV 0) (aCons (eC (.int 11)) aNil)))))
    sNil)
    (sRt (eV 3)))))))
noncomputable def F_l_n:Fn:=fnD 1 4 b_l_n
theorem len_l_n {ws:List W} {M:Mm} (h:ws.length≠1):F_l_n ws M=.bad:=if_neg h
noncomputable def b_l_shared:FS :=
  (sSeq (whileD (EV.tB (e2 pGt (eV 1) (eC (.int 0))))
    (sPar 0 1 (aCons (eV 1) (aCons (e2 pMod (eV 0) (eV 1)) aNil))) NW)
    (sRt (eV 0)))
noncomputable def F_l_shared:Fn:=fnD 2 2 b_l_shared
theorem len_l_shared {ws:List W} {M:Mm} (h:ws.length≠2):F_l_shared ws M=.bad:=if_neg h
noncomputable def b_l_inverse:FS :=
  (sSeq (sAs (eA mkT (aCons (eV 0) (aCons (e2 pMod (eV 1) (eV 0)) (aCons (eC (.int 0)) (aCons (eC (.int 1)) aNil))))) (gT 4 (gsCons (gN 2) (gsCons (gN 3) (gsCons (gN 4) (gsCons (gN 5) gsNil))))))
    (sSeq (whileD (EV.tB (e2 pGt (eV 3) (eC (.int 0))))
    (sSeq (sAs (e2 pDiv (eV 2) (eV 3)) (gN 6))
    (sSeq (sPar 2 3 (aCons (eV 3) (aCons (e2 pSub (eV 2) (e2 pMulA (eV 6) (eV 3))) aNil)))
    (sPar 4 5 (aCons (eV 5) (aCons (e2 pSub (eV 4) (e2 pMulA (eV 6) (eV 5))) aNil))))) NW)
    (sRt (e2 pMod (eV 4) (eV 0)))))
noncomputable def F_l_inverse:Fn:=fnD 2 7 b_l_inverse
theorem len_l_inverse {ws:List W} {M:Mm} (h:ws.length≠2):F_l_inverse ws M=.bad:=if_neg h
noncomputable def b_l_alike:FS :=
  (sSeq (sAs (eA mkR (aCons (eA mkT (aCons (eV 0) (aCons (eV 1) aNil))) aNil)) (gN 2))
    (sSeq (whileD (EV.tB (e2 pGt (eA cLen (aCons (eV 2) aNil)) (eC (.int 0))))
    (sSeq (sAs (e1 pPop (eV 2)) (gT 2 (gsCons (gN 3) (gsCons (gN 4) gsNil))))
    (sIf (tV (e1 (pIsI "tuple") (eV 4)))
    (sSeq (sIf (EV.tOr (EV.tNot (tV (e1 (pIsI "tuple") (eV 3)))) (EV.tB (e2 pNe (eA cLen (aCons (eV 3) aNil)) (eA cLen (aCons (eV 4) aNil)))))
    (sRt (eC (.bl false)))
    sNil)
    (sEx (eM1 pExtendA (eV 2) (e2 pZip (eV 3) (eV 4)))))
    (sIf (EV.tOr (EV.tB (e2 pNe (e1 (pIsI "bool") (eV 3)) (e1 (pIsI "bool") (eV 4)))) (EV.tB (e2 pNe (e1 (pIsI "int") (eV 3)) (e1 (pIsI "int") (eV 4)))))
    (sRt (eC (.bl false)))
    (sIf (EV.tOr (tV (e1 (pIsI "tuple") (eV 3))) (EV.tB (e2 pNe (eV 3) (eV 4))))
    (sRt (eC (.bl false)))
    sNil)))) NW)
    (sRt (eC (.bl true)))))
noncomputable def F_l_alike:Fn:=fnD 2 5 b_l_alike
theorem len_l_alike {ws:List W} {M:Mm} (h:ws.length≠2):F_l_alike ws M=.bad:=if_neg h
noncomputable def b_l_saying (r_l_saying:Fn):FS :=
  (sSeq (sAs (eA F_l_take (aCons (eV 0) (aCons (eC (.int 6)) aNil))) (gN 3))
    (sSeq (sIf (EV.tOr (EV.tB (e2 pLt (eV 2) (eC (.int 2)))) (EV.tB (e2 pEq (eV 3) (eC (.int 0)))))
    (sRt (eA mkT (aCons (eC (.str "yes")) (aCons (eA F_l_take (aCons (eV 0) (aCons (eV 1) aNil))) aNil))))
    sNil)
    (sSeq (sIf (EV.tB (e2 pEq (eV 3) (eC (.int 1))))
    (sRt (eA mkT (aCons (eC (.str "not")) (aCons (eA r_l_saying (aCons (eV 0) (aCons (eV 1) (aCons (e2 pSub (eV 2) (eC (.int 1))) aNil)))) aNil))))
    sNil)
    (sSeq (sIf (EV.tOr (EV.tB (e2 pLt (eV 2) (eC (.int 3)))) (EV.tB (e2 pLt (eV 3) (eC (.int 4)))))
    (sSeq (sAs (e2 pAdd (eC (.int 1)) (eA F_l_take (aCons (eV 0) (aCons (eA cMin2 (aCons (eC (.int 5)) (aCons (e2 pSub (eV 2) (eC (.int 1))) aNil))) aNil)))) (gN 4))
    (sSeq (sPar 5 6 (aCons (eA mkR aNil) (aCons (e2 pSub (eV 2) (eC (.int 1))) aNil)))
    (sSeq (sFor (iR1 (eV 4)) (gN 7)
    (sSeq (sAs (e2 pAdd (eC (.int 1)) (eA F_l_take (aCons (eV 0) (aCons (e2 pSub (eV 6) (e2 pSub (e2 pSub (eV 4) (eC (.int 1))) (eV 7))) aNil)))) (gN 8))
    (sSeq (sEx (eM1 pAppend (eV 5) (eA r_l_saying (aCons (eV 0) (aCons (eV 1) (aCons (eV 8) aNil))))))
    (sAs (e2 pSub (eV 6) (eV 8)) (gN 6)))))
    (sRt (eA mkT (aCons (eC (.str "least")) (aCons (eA F_l_take (aCons (eV 0) (aCons (eC (.int 7)) aNil))) (aCons (eA cTup (aCons (eV 5) aNil)) aNil))))))))
    sNil)
    (sSeq (sAs (e2 pAdd (eC (.int 1)) (eA F_l_take (aCons (eV 0) (aCons (e2 pSub (eV 2) (eC (.int 2))) aNil)))) (gN 8))
    (sSeq (sAs (eA r_l_saying (aCons (eV 0) (aCons (eV 1) (aCons (eV 8) aNil)))) (gN 9))
    (sRt (eA mkT (aCons (e2 pIx (eA mkL (aCons (eC (.str "and")) (aCons (eC (.str "or")) aNil))) (e2 pSub (eV 3) (eC (.int 4)))) (aCons (eV 9) (aCons (eA r_l_saying (aCons (eV 0) (aCons (eV 1) (aCons (e2 pSub (e2 pSub (eV 2) (eC (.int 1))) (eV 8)) aNil)))) aNil)))))))))))
noncomputable def F_l_saying:Nat->Fn
  | 0=>fun _ _=>.bad
  | d+1=>fnD 3 10 (b_l_saying (F_l_saying d))
theorem len_l_saying:∀ {d:Nat} {ws:List W} {M:Mm},ws.length≠3->F_l_saying d ws M=.bad
  | 0,_,_,_=>by simp only [F_l_saying]
  | d+1,_,_,h=>by simp only [F_l_saying]; exact if_neg h
noncomputable def b_l_refused_by:FS :=
  (sSeq (sAs (e1 (pIsX ["BadText","NoDeed","NoPaper","NoRest","NoRoot","NoRow","TooMany"]) (eV 0)) (gN 2))
    (sRt (eAnd (e1 (pIsX ["ValueError"]) (eV 0)) (eAnd (e1 pNot (eV 2)) (eAnd (e2 pEq (e1 (pFld "number") (eV 0)) (eV 1)) (e1 pNot (e1 (pIsI "bool") (e1 (pFld "number") (eV 0)))))))))
noncomputable def F_l_refused_by:Fn:=fnD 2 3 b_l_refused_by
theorem len_l_refused_by {ws:List W} {M:Mm} (h:ws.length≠2):F_l_refused_by ws M=.bad:=if_neg h
noncomputable def b_l_numbers:FS :=
  (sSeq (sPar3 3 4 5 (aCons (eA mkL (aCons (eC (.int 1)) aNil)) (aCons (eC (.int 1)) (aCons (eA mkR aNil) aNil))))
    (sSeq (sFor (iR1 (e2 pAdd (eV 2) (eC (.int 1)))) (gN 6)
    (sSeq (sAs (e2 pMulA (eV 4) (eA cMax2 (aCons (eC (.int 1)) (aCons (eV 6) aNil)))) (gN 4))
    (sSeq (sAs (eC (.int 0)) (gN 7))
    (sSeq (sFor (iR1 (e2 pAdd (eV 6) (eC (.int 1)))) (gN 8)
    (sAs (e2 pAdd (eV 7) (e2 pMulA (e2 pMulA (e2 pIx (eV 3) (eV 8)) (e2 pIx (eA mkL (aCons (eC (.int 1)) (aCons (e2 pSub (eC (.int 0)) (eC (.int 1))) aNil))) (e2 pMod (e2 pSub (eV 6) (eV 8)) (eC (.int 2))))) (eA cInt (aCons (e2 pGe (eV 8) (eV 1)) aNil)))) (gN 7)))
    (sSeq (sEx (eM1 pAppend (eV 5) (e2 pMod (e2 pMulA (eV 7) (eA F_l_inverse (aCons (eV 0) (aCons (eV 4) aNil)))) (eV 0))))
    (sAs (e2 pAdd (e2 pAdd (eA mkL (aCons (eC (.int 1)) aNil)) (eComp [none,some 3] (iR1 (eV 6)) (gN 0) EV.tYes (e2 pAdd (e2 pIx (eV 1) (eV 0)) (e2 pIx (eV 1) (e2 pAdd (eV 0) (eC (.int 1))))))) (eA mkL (aCons (eC (.int 1)) aNil))) (gN 3)))))))
    (sRt (eV 5))))
noncomputable def F_l_numbers:Fn:=fnR 3 9 b_l_numbers
theorem len_l_numbers {ws:List W} {M:Mm} (h:ws.length≠3):F_l_numbers ws M=.bad:=if_neg h
noncomputable def b_l_least:FS :=
  (sSeq (sAs (eComp [none,some 0] (iR2 (eC (.int 1)) (e2 pAdd (eA cLen (aCons (eV 2) aNil)) (eC (.int 1)))) (gN 0) (EV.tB (e2 pNe (eA F_l_shared (aCons (eV 1) (aCons (eV 0) aNil))) (eC (.int 1)))) (eV 0)) (gN 3))
    (sSeq (sIf (EV.tB (e2 pNe (eV 3) (eA mkL aNil)))
    (sRt (eA mkT (aCons (eC (.str "refused")) (aCons (e2 pIx (eV 3) (eC (.int 0))) aNil))))
    sNil)
    (sSeq (sAs (e2 pIx (eV 2) (eC (.int 0))) (gN 4))
    (sSeq (sFor (iE (eSl (eV 2) (oAt (eC (.int 1))) oNo)) (gN 5)
    (sAs (eA mkT (aCons (eC (.str "sum")) (aCons (eV 4) (aCons (eV 5) aNil)))) (gN 4)))
    (sSeq (sAs (eA F_l_numbers (aCons (eV 0) (aCons (eV 1) (aCons (eA cLen (aCons (eV 2) aNil)) aNil)))) (gN 6))
    (sSeq (sAs (eA mkT (aCons (eC (.str "num")) (aCons (e1 pPop (eV 6)) aNil))) (gN 7))
    (sSeq (whileD (EV.tB (e2 pGt (eA cLen (aCons (eV 6) aNil)) (eC (.int 0))))
    (sSeq (sAs (e2 pSub (eA cLen (aCons (eV 6) aNil)) (eC (.int 1))) (gN 8))
    (sAs (eA mkT (aCons (eC (.str "sum")) (aCons (eA mkT (aCons (eC (.str "num")) (aCons (e1 pPop (eV 6)) aNil))) (aCons (eA mkT (aCons (eC (.str "times")) (aCons (eA mkT (aCons (eC (.str "less")) (aCons (eV 4) (aCons (eA mkT (aCons (eC (.str "num")) (aCons (eV 8) aNil))) aNil)))) (aCons (eV 7) aNil)))) aNil)))) (gN 7))) NW)
    (sRt (eA mkT (aCons (eC (.str "told")) (aCons (eV 7) aNil)))))))))))
noncomputable def F_l_least:Fn:=fnD 3 9 b_l_least
theorem len_l_least {ws:List W} {M:Mm} (h:ws.length≠3):F_l_least ws M=.bad:=if_neg h
noncomputable def b_l_said (r_l_said:Fn):FS :=
  (sSeq (sAs (e2 pIx (eV 1) (eC (.int 0))) (gN 2))
    (sSeq (sIf (EV.tB (e2 pEq (eV 2) (eC (.str "yes"))))
    (sRt (eA mkT (aCons (eC (.str "told")) (aCons (eA mkT (aCons (eC (.str "given")) (aCons (e2 pIx (eV 1) (eC (.int 1))) aNil))) aNil))))
    sNil)
    (sSeq (sPar 3 4 (aCons (eA mkR aNil) (aCons (eSl (eV 1) (oAt (eC (.int 1))) oNo) aNil)))
    (sSeq (sIf (EV.tB (e2 pEq (eV 2) (eC (.str "least"))))
    (sAs (e2 pIx (eV 1) (eC (.int 2))) (gN 4))
    sNil)
    (sSeq (sFor (iE (eV 4)) (gN 5)
    (sSeq (sAs (eA r_l_said (aCons (eV 0) (aCons (eV 5) aNil))) (gN 6))
    (sSeq (sIf (EV.tB (e2 pEq (e2 pIx (eV 6) (eC (.int 0))) (eC (.str "refused"))))
    (sRt (eV 6))
    sNil)
    (sEx (eM1 pAppend (eV 3) (e2 pIx (eV 6) (eC (.int 1))))))))
    (sSeq (sIf (EV.tB (e2 pEq (eV 2) (eC (.str "least"))))
    (sRt (eA F_l_least (aCons (eV 0) (aCons (e2 pIx (eV 1) (eC (.int 1))) (aCons (eV 3) aNil)))))
    sNil)
    (sSeq (sIf (EV.tB (e2 pEq (eV 2) (eC (.str "not"))))
    (sRt (eA mkT (aCons (eC (.str "told")) (aCons (eA mkT (aCons (eC (.str "less")) (aCons (eA mkT (aCons (eC (.str "num")) (aCons (eC (.int 1)) aNil))) (aCons (e2 pIx (eV 3) (eC (.int 0))) aNil)))) aNil))))
    sNil)
    (sSeq (sAs (eA mkT (aCons (eC (.str "times")) (aCons (e2 pIx (eV 3) (eC (.int 0))) (aCons (e2 pIx (eV 3) (eC (.int 1))) aNil)))) (gN 7))
    (sRt (eA mkT (aCons (eC (.str "told")) (aCons (e2 pIx (eA mkL (aCons (eA mkT (aCons (eC (.str "less")) (aCons (eA mkT (aCons (eC (.str "sum")) (aCons (e2 pIx (eV 3) (eC (.int 0))) (aCons (e2 pIx (eV 3) (eC (.int 1))) aNil)))) (aCons (eV 7) aNil)))) (aCons (eV 7) aNil))) (eA cInt (aCons (e2 pEq (eV 2) (eC (.str "and"))) aNil))) aNil))))))))))))
noncomputable def F_l_said:Nat->Fn
  | 0=>fun _ _=>.bad
  | d+1=>fnD 2 8 (b_l_said (F_l_said d))
theorem len_l_said:∀ {d:Nat} {ws:List W} {M:Mm},ws.length≠2->F_l_said d ws M=.bad
  | 0,_,_,_=>by simp only [F_l_said]
  | d+1,_,_,h=>by simp only [F_l_said]; exact if_neg h
noncomputable def b_l_right:FS :=
  (sSeq (sAs (eA (nx (F_l_said 50)) (aCons (eV 0) (aCons (eV 1) aNil))) (gN 2))
    (sSeq (sTryAs 4 "NoInverse" (sAs (eA (F_said 50) (aDef (noX (aCons (eV 0) (aCons (eV 1) aNil))) [])) (gN 3))
    (sRt (eAnd (e2 pEq (e2 pIx (eV 2) (eC (.int 0))) (eC (.str "refused"))) (eAnd (e1 (pIsX ["LentError"]) (eV 4)) (eA (nx F_l_refused_by) (aCons (eV 4) (aCons (e2 pIx (eV 2) (eC (.int 1))) aNil)))))))
    (sRt (eAnd (e2 pEq (e2 pIx (eV 2) (eC (.int 0))) (eC (.str "told"))) (eA (nx F_l_alike) (aCons (eV 3) (aCons (e2 pIx (eV 2) (eC (.int 1))) aNil)))))))
noncomputable def F_l_right:Fn:=fnX 2 5 b_l_right
theorem len_l_right {ws:List W} {M:Mm} (h:ws.length≠2):F_l_right ws M=.bad:=fnX_len h
noncomputable def b_law:FS :=
  (sSeq (sAs (eA (nx F_l_box) (aCons (eV 0) (aCons (eC (.int 0)) aNil))) (gN 1))
    (sSeq (sAs (eA (nx (F_l_saying 50)) (aCons (eV 1) (aCons (eC (.int 8)) (aCons (eC (.int 10)) aNil)))) (gN 2))
    (sSeq (sAs (eA (nx (F_l_saying 50)) (aCons (eA (nx F_l_box) (aCons (eV 0) (aCons (eC (.int 1)) aNil))) (aCons (eC (.int 8)) (aCons (e2 pIx (eA mkL (aCons (eC (.int 10)) (aCons (eC (.int 6)) aNil))) (eA (nx F_l_take) (aCons (eV 1) (aCons (eC (.int 2)) aNil)))) aNil)))) (gN 3))
    (sSeq (sAs (eA cTup (aCons (eComp [none,some 0] (iR1 (eC (.int 5))) (gN 0) EV.tYes (eTrim (eA (F_l_saying 50) (aCons (eA F_l_box (aCons (eV 1) (aCons (e2 pAdd (eC (.int 2)) (eV 0)) aNil))) (aCons (eC (.int 8)) (aCons (eC (.int 1)) aNil)))))) aNil)) (gN 4))
    (sSeq (sAs (eA mkT (aCons (eC (.str "least")) (aCons (eA (nx F_l_take) (aCons (eV 1) (aCons (eC (.int 7)) aNil))) (aCons (eSl (eV 4) oNo (oAt (e2 pAdd (eC (.int 1)) (eA (nx F_l_take) (aCons (eV 1) (aCons (eC (.int 5)) aNil)))))) aNil)))) (gN 5))
    (sSeq (sAs (eA (nx (F_l_saying 50)) (aCons (eV 1) (aCons (eC (.int 8)) (aCons (eC (.int 3)) aNil)))) (gN 6))
    (sSeq (sAs (eA mkR aNil) (gN 7))
    (sSeq (sFor (iR1 (eC (.int 2))) (gN 8)
    (sSeq (sAs (eA (nx F_l_n) (aCons (eA (nx F_l_box) (aCons (eV 0) (aCons (e2 pAdd (eC (.int 7)) (eV 8)) aNil))) aNil)) (gN 9))
    (sEx (eM1 pExtendA (eV 7) (eA mkL (aCons (eA mkT (aCons (eV 9) (aCons (eV 2) aNil))) (aCons (eA mkT (aCons (eV 9) (aCons (eV 3) aNil))) (aCons (eA mkT (aCons (eV 9) (aCons (eV 5) aNil))) (aCons (eA mkT (aCons (eV 9) (aCons (eA mkT (aCons (eC (.str "or")) (aCons (eV 5) (aCons (eV 6) aNil)))) aNil))) (aCons (eA mkT (aCons (eV 9) (aCons (eA mkT (aCons (eC (.str "and")) (aCons (eV 6) (aCons (eV 5) aNil)))) aNil))) aNil))))))))))
    (sRt (eA cAllB (aCons (eComp [none,none] (iE (e2 pAdd (eV 7) (eSl (eV 7) oNo (oAt (eC (.int 2)))))) (gT 2 (gsCons (gN 0) (gsCons (gN 1) gsNil))) EV.tYes (eA F_l_right (aCons (eV 0) (aCons (eV 1) aNil)))) aNil)))))))))))
noncomputable def F_law:Fn:=fnX 1 10 b_law
set_option genInjectivity false in
set_option genSizeOf false in
structure Adr where
  a_inverse:Addr
  d_inverse:FuncData
  a_said:Addr
  d_said:FuncData
  a_said_least:Addr
  d_said_least:FuncData
  a_step_numbers:Addr
  d_step_numbers:FuncData
  a_inverse_of:Addr
  d_inverse_of:FuncData
  a_l_box:Addr
  d_l_box:FuncData
  a_l_take:Addr
  d_l_take:FuncData
  a_l_n:Addr
  d_l_n:FuncData
  a_l_shared:Addr
  d_l_shared:FuncData
  a_l_inverse:Addr
  d_l_inverse:FuncData
  a_l_alike:Addr
  d_l_alike:FuncData
  a_l_saying:Addr
  d_l_saying:FuncData
  a_l_refused_by:Addr
  d_l_refused_by:FuncData
  a_l_numbers:Addr
  d_l_numbers:FuncData
  a_l_least:Addr
  d_l_least:FuncData
  a_l_said:Addr
  d_l_said:FuncData
  a_l_right:Addr
  d_l_right:FuncData
  a_law:Addr
  d_law:FuncData
  e_LentError:Addr
  e_BadText:Addr
  e_NoDeed:Addr
  e_NoInverse:Addr
  j_NoInverse:Addr
  g_NoInverse:FuncData
  e_NoPaper:Addr
  e_NoRest:Addr
  e_NoRoot:Addr
  e_NoRow:Addr
  e_TooMany:Addr
structure Tx (K:PySem.W.Frag) (mg:Str->Option Value) (a:Adr):Prop where
  f_inverse:Fun K "inverse" "inverse" s_inverse a.a_inverse a.d_inverse
  b_inverse:Binds K a.d_inverse ["n","k"] []
  k_inverse:PySem.W.keepIn K (.ref a.a_inverse)=true
  m_inverse:mg "inverse"=some (.ref a.a_inverse)
  f_said:Fun K "said" "said" s_said a.a_said a.d_said
  b_said:Binds K a.d_said ["n","saying"] []
  k_said:PySem.W.keepIn K (.ref a.a_said)=true
  m_said:mg "said"=some (.ref a.a_said)
  f_said_least:Fun K "said_least" "said_least" s_said_least a.a_said_least a.d_said_least
  b_said_least:Binds K a.d_said_least ["n","k","parts"] []
  k_said_least:PySem.W.keepIn K (.ref a.a_said_least)=true
  m_said_least:mg "said_least"=some (.ref a.a_said_least)
  f_step_numbers:Fun K "step_numbers" "step_numbers" s_step_numbers a.a_step_numbers a.d_step_numbers
  b_step_numbers:Binds K a.d_step_numbers ["n","row"] []
  k_step_numbers:PySem.W.keepIn K (.ref a.a_step_numbers)=true
  m_step_numbers:mg "step_numbers"=some (.ref a.a_step_numbers)
  f_inverse_of:Fun K "inverse_of" "inverse_of" s_inverse_of a.a_inverse_of a.d_inverse_of
  b_inverse_of:Binds K a.d_inverse_of ["n","number"] []
  k_inverse_of:PySem.W.keepIn K (.ref a.a_inverse_of)=true
  m_inverse_of:mg "inverse_of"=some (.ref a.a_inverse_of)
  f_l_box:Fun K "_law_box" "_law_box" s_l_box a.a_l_box a.d_l_box
  b_l_box:Binds K a.d_l_box ["_law_script","_law_k"] []
  k_l_box:PySem.W.keepIn K (.ref a.a_l_box)=true
  m_l_box:mg "_law_box"=some (.ref a.a_l_box)
  f_l_take:Fun K "_law_take" "_law_take" s_l_take a.a_l_take a.d_l_take
  b_l_take:Binds K a.d_l_take ["_law_box_here","_law_many"] []
  k_l_take:PySem.W.keepIn K (.ref a.a_l_take)=true
  m_l_take:mg "_law_take"=some (.ref a.a_l_take)
  f_l_n:Fun K "_law_n" "_law_n" s_l_n a.a_l_n a.d_l_n
  b_l_n:Binds K a.d_l_n ["_law_box_here"] []
  k_l_n:PySem.W.keepIn K (.ref a.a_l_n)=true
  m_l_n:mg "_law_n"=some (.ref a.a_l_n)
  f_l_shared:Fun K "_law_shared" "_law_shared" s_l_shared a.a_l_shared a.d_l_shared
  b_l_shared:Binds K a.d_l_shared ["_law_one","_law_other"] []
  k_l_shared:PySem.W.keepIn K (.ref a.a_l_shared)=true
  m_l_shared:mg "_law_shared"=some (.ref a.a_l_shared)
  f_l_inverse:Fun K "_law_inverse" "_law_inverse" s_l_inverse a.a_l_inverse a.d_l_inverse
  b_l_inverse:Binds K a.d_l_inverse ["_law_n_here","_law_u"] []
  k_l_inverse:PySem.W.keepIn K (.ref a.a_l_inverse)=true
  m_l_inverse:mg "_law_inverse"=some (.ref a.a_l_inverse)
  f_l_alike:Fun K "_law_alike" "_law_alike" s_l_alike a.a_l_alike a.d_l_alike
  b_l_alike:Binds K a.d_l_alike ["_law_found","_law_due"] []
  k_l_alike:PySem.W.keepIn K (.ref a.a_l_alike)=true
  m_l_alike:mg "_law_alike"=some (.ref a.a_l_alike)
  f_l_saying:Fun K "_law_saying" "_law_saying" s_l_saying a.a_l_saying a.d_l_saying
  b_l_saying:Binds K a.d_l_saying ["_law_box_here","_law_givens","_law_room"] []
  k_l_saying:PySem.W.keepIn K (.ref a.a_l_saying)=true
  m_l_saying:mg "_law_saying"=some (.ref a.a_l_saying)
  f_l_refused_by:Fun K "_law_refused_by" "_law_refused_by" s_l_refused_by a.a_l_refused_by a.d_l_refused_by
  b_l_refused_by:Binds K a.d_l_refused_by ["_law_e","_law_number"] []
  k_l_refused_by:PySem.W.keepIn K (.ref a.a_l_refused_by)=true
  m_l_refused_by:mg "_law_refused_by"=some (.ref a.a_l_refused_by)
  f_l_numbers:Fun K "_law_numbers" "_law_numbers" s_l_numbers a.a_l_numbers a.d_l_numbers
  b_l_numbers:Binds K a.d_l_numbers ["_law_n_here","_law_k","_law_many"] []
  k_l_numbers:PySem.W.keepIn K (.ref a.a_l_numbers)=true
  m_l_numbers:mg "_law_numbers"=some (.ref a.a_l_numbers)
  f_l_least:Fun K "_law_least" "_law_least" s_l_least a.a_l_least a.d_l_least
  b_l_least:Binds K a.d_l_least ["_law_n_here","_law_k","_law_parts"] []
  k_l_least:PySem.W.keepIn K (.ref a.a_l_least)=true
  m_l_least:mg "_law_least"=some (.ref a.a_l_least)
  f_l_said:Fun K "_law_said" "_law_said" s_l_said a.a_l_said a.d_l_said
  b_l_said:Binds K a.d_l_said ["_law_n_here","_law_saying_here"] []
  k_l_said:PySem.W.keepIn K (.ref a.a_l_said)=true
  m_l_said:mg "_law_said"=some (.ref a.a_l_said)
  f_l_right:Fun K "_law_right" "_law_right" s_l_right a.a_l_right a.d_l_right
  b_l_right:Binds K a.d_l_right ["_law_n_here","_law_saying_here"] []
  k_l_right:PySem.W.keepIn K (.ref a.a_l_right)=true
  m_l_right:mg "_law_right"=some (.ref a.a_l_right)
  f_law:Fun K "law" "law" s_law a.a_law a.d_law
  b_law:Binds K a.d_law ["_law_script"] []
  k_law:PySem.W.keepIn K (.ref a.a_law)=true
  m_law:mg "law"=some (.ref a.a_law)
  nm_LentError:PySem.W.nsIn K mainGlobals "LentError"=some (some (.ref a.e_LentError))
  m_LentError:mg "LentError"=some (.ref a.e_LentError)
  le:LeF K a.e_LentError
  xc_BadText:Xc K "BadText" a.e_BadText a.e_LentError
  m_BadText:mg "BadText"=some (.ref a.e_BadText)
  xc_NoDeed:Xc K "NoDeed" a.e_NoDeed a.e_LentError
  m_NoDeed:mg "NoDeed"=some (.ref a.e_NoDeed)
  xc_NoInverse:Xc K "NoInverse" a.e_NoInverse a.e_LentError
  m_NoInverse:mg "NoInverse"=some (.ref a.e_NoInverse)
  fi_NoInverse:Fun K "__init__" "NoInverse.__init__" si_NoInverse a.j_NoInverse a.g_NoInverse
  bi_NoInverse:Binds K a.g_NoInverse ["self","number"] []
  ti_NoInverse:PySem.W.typeIn K (.ref a.j_NoInverse)=some (.type "function")
  nf_NoInverse:PySem.W.findIn K (.ref a.e_NoInverse) "number"=some none
  sa_NoInverse:PySem.W.findIn K (.ref a.e_NoInverse) "__setattr__"=some (some (.builtin "object.__setattr__"))
  xb_NoInverse:xcB K a.e_NoInverse (.ref a.e_LentError::vb) (some (.ref a.j_NoInverse))=true
  kc_NoInverse:PySem.W.keepIn K (.ref a.e_NoInverse)=true
  xc_NoPaper:Xc K "NoPaper" a.e_NoPaper a.e_LentError
  m_NoPaper:mg "NoPaper"=some (.ref a.e_NoPaper)
  xc_NoRest:Xc K "NoRest" a.e_NoRest a.e_LentError
  m_NoRest:mg "NoRest"=some (.ref a.e_NoRest)
  xc_NoRoot:Xc K "NoRoot" a.e_NoRoot a.e_LentError
  m_NoRoot:mg "NoRoot"=some (.ref a.e_NoRoot)
  xc_NoRow:Xc K "NoRow" a.e_NoRow a.e_LentError
  m_NoRow:mg "NoRow"=some (.ref a.e_NoRow)
  xc_TooMany:Xc K "TooMany" a.e_TooMany a.e_LentError
  m_TooMany:mg "TooMany"=some (.ref a.e_TooMany)
  z_ValueError:mg "ValueError"=none
  z_all:mg "all"=none
  z_bool:mg "bool"=none
  z_int:mg "int"=none
  z_isinstance:mg "isinstance"=none
  z_len:mg "len"=none
  z_list:mg "list"=none
  z_max:mg "max"=none
  z_min:mg "min"=none
  z_range:mg "range"=none
  z_reversed:mg "reversed"=none
  z_tuple:mg "tuple"=none
  z_zip:mg "zip"=none
theorem sci_NoInverse:FnScope ["self","number"] ["self","number"] (defScope si_NoInverse):=⟨rfl,rfl,rfl,by decide +kernel,rfl,by decide +kernel,by decide +kernel⟩
theorem sc_inverse:FnScope ["n","k","high","low","past","now","times"] ["n","k"] (defScope s_inverse):=⟨rfl,rfl,rfl,by decide +kernel,rfl,by decide +kernel,by decide +kernel⟩
theorem sc_said:FnScope ["n","saying","word","one","other"] ["n","saying"] (defScope s_said):=⟨rfl,rfl,rfl,by decide +kernel,rfl,by decide +kernel,by decide +kernel⟩
theorem sc_said_least:FnScope ["n","k","parts","many","total","part","numbers","told","i"] ["n","k","parts"] (defScope s_said_least):=⟨rfl,rfl,rfl,by decide +kernel,rfl,by decide +kernel,by decide +kernel⟩
theorem sc_step_numbers:FnScope ["n","row","told","left","over","i"] ["n","row"] (defScope s_step_numbers):=⟨rfl,rfl,rfl,by decide +kernel,rfl,by decide +kernel,by decide +kernel⟩
theorem sc_inverse_of:FnScope ["n","number","told"] ["n","number"] (defScope s_inverse_of):=⟨rfl,rfl,rfl,by decide +kernel,rfl,by decide +kernel,by decide +kernel⟩
theorem sc_l_box:FnScope ["_law_script","_law_k","_law_cell","_law_seed"] ["_law_script","_law_k"] (defScope s_l_box):=⟨rfl,rfl,rfl,by decide +kernel,rfl,by decide +kernel,by decide +kernel⟩
theorem sc_l_take:FnScope ["_law_box_here","_law_many","_law_digit","_law_one"] ["_law_box_here","_law_many"] (defScope s_l_take):=⟨rfl,rfl,rfl,by decide +kernel,rfl,by decide +kernel,by decide +kernel⟩
theorem sc_l_n:FnScope ["_law_box_here","_law_shape","_law_some","_law_number"] ["_law_box_here"] (defScope s_l_n):=⟨rfl,rfl,rfl,by decide +kernel,rfl,by decide +kernel,by decide +kernel⟩
theorem sc_l_shared:FnScope ["_law_one","_law_other"] ["_law_one","_law_other"] (defScope s_l_shared):=⟨rfl,rfl,rfl,by decide +kernel,rfl,by decide +kernel,by decide +kernel⟩
theorem sc_l_inverse:FnScope ["_law_n_here","_law_u","_law_one","_law_other","_law_before","_law_here","_law_many"] ["_law_n_here","_law_u"] (defScope s_l_inverse):=⟨rfl,rfl,rfl,by decide +kernel,rfl,by decide +kernel,by decide +kernel⟩
theorem sc_l_alike:FnScope ["_law_found","_law_due","_law_left","_law_one","_law_other"] ["_law_found","_law_due"] (defScope s_l_alike):=⟨rfl,rfl,rfl,by decide +kernel,rfl,by decide +kernel,by decide +kernel⟩
theorem sc_l_saying:FnScope ["_law_box_here","_law_givens","_law_room","_law_shape","_law_many","_law_args","_law_left","_law_j","_law_one","_law_first"] ["_law_box_here","_law_givens","_law_room"] (defScope s_l_saying):=⟨rfl,rfl,rfl,by decide +kernel,rfl,by decide +kernel,by decide +kernel⟩
theorem sc_l_refused_by:FnScope ["_law_e","_law_number","_law_others"] ["_law_e","_law_number"] (defScope s_l_refused_by):=⟨rfl,rfl,rfl,by decide +kernel,rfl,by decide +kernel,by decide +kernel⟩
theorem sc_l_numbers:FnScope ["_law_n_here","_law_k","_law_many","_law_choose","_law_factor","_law_found","_law_i","_law_number","_law_j"] ["_law_n_here","_law_k","_law_many"] (defScope s_l_numbers):=⟨rfl,rfl,rfl,by decide +kernel,rfl,by decide +kernel,by decide +kernel⟩
theorem sc_l_least:FnScope ["_law_n_here","_law_k","_law_parts","_law_bad","_law_whole","_law_part","_law_numbers_here","_law_found","_law_i"] ["_law_n_here","_law_k","_law_parts"] (defScope s_l_least):=⟨rfl,rfl,rfl,by decide +kernel,rfl,by decide +kernel,by decide +kernel⟩
theorem sc_l_said:FnScope ["_law_n_here","_law_saying_here","_law_word","_law_parts","_law_args","_law_one","_law_due","_law_both"] ["_law_n_here","_law_saying_here"] (defScope s_l_said):=⟨rfl,rfl,rfl,by decide +kernel,rfl,by decide +kernel,by decide +kernel⟩
theorem sc_l_right:FnScope ["_law_n_here","_law_saying_here","_law_due","_law_found","_law_e"] ["_law_n_here","_law_saying_here"] (defScope s_l_right):=⟨rfl,rfl,rfl,by decide +kernel,rfl,by decide +kernel,by decide +kernel⟩
theorem sc_law:FnScope ["_law_script","_law_box_here","_law_one","_law_other","_law_some","_law_few","_law_small","_law_asked","_law_k","_law_n_here"] ["_law_script"] (defScope s_law):=⟨rfl,rfl,rfl,by decide +kernel,rfl,by decide +kernel,by decide +kernel⟩
section
variable {P:Program} {w:World} {K:PySem.W.Frag} {mg:Str->Option Value} {base:Heap} {a:Adr}
theorem ok_init_NoInverse (T:Tx K mg a):FnOk P w K mg base (CX1 P w) 1 a.j_NoInverse a.g_NoInverse ["self","number"] (spXI a.e_NoInverse "number"):=by
  obtain ⟨cd,hc,_,hm⟩:=T.xc_NoInverse.cd
  exact init_fn T.fi_NoInverse sci_NoInverse fun cdv A outer s H E=>pss_cons (ps_expr (pe_binit T.le T.m_LentError T.xb_NoInverse (pa_cons (pv 0) (pa_cons pe_str pa_nil)))) (pss_one (ps_xfld hc hm (xc_hd T.xc_NoInverse hc) T.sa_NoInverse T.nf_NoInverse (pv 0) (pv 1)))
theorem ok_inverse (T:Tx K mg a):FnOk P w K mg base CX0 1 a.a_inverse a.d_inverse ["n","k"] (spF K Z0 2 F_inverse) :=
  fn_ok (k:=0) T.f_inverse sc_inverse fun cdv A outer s H E hr=>show Ess _ K Z0 (defBody s_inverse) b_inverse from
    (ess_cons (es_par (i:=2) (j:=3) rfl sc_inverse.nd (ea_cons (ev_var 0) (ea_cons (ev_op opMod (ev_var 1) (ev_var 0)) ea_nil)))
    (ess_cons (es_asg (ev_tup (ea_cons ev_int (ea_cons ev_int ea_nil))) (eg_tup rfl (egs_cons (eg_name (i:=4) sc_inverse.nd) (egs_cons (eg_name (i:=5) sc_inverse.nd) egs_nil))))
    (ess_cons (es_while NW PassesOwn.never (et_cmp opGt (ev_var 3) ev_int (nomark _))
    (ess_cons (es_set (i:=6) sc_inverse.nd (ev_op opDiv (ev_var 2) (ev_var 3)))
    (ess_cons (es_par (i:=2) (j:=3) rfl sc_inverse.nd (ea_cons (ev_var 3) (ea_cons (ev_op opSub (ev_var 2) (ev_op opMulA (ev_var 6) (ev_var 3))) ea_nil)))
    (ess_one (es_par (i:=4) (j:=5) rfl sc_inverse.nd (ea_cons (ev_var 5) (ea_cons (ev_op opSub (ev_var 4) (ev_op opMulA (ev_var 6) (ev_var 5))) ea_nil)))))))
    (ess_cons (es_if (et_cmp (opNe (hu_room hr)) (ev_var 2) ev_int (nomark _))
    (ess_one (es_ret ev_non))
    ess_nil)
    (ess_one (es_ret (ev_op opMod (ev_var 4) (ev_var 0))))))))
theorem ok_inverse_of (T:Tx K mg a):FnOk P w K mg base (CX1 P w) 3 a.a_inverse_of a.d_inverse_of ["n","number"] (spX K 2 F_inverse_of) :=
  fn_okX (k:=2) T.f_inverse_of.g sc_inverse_of fun cdv A outer s H E hr hz=>show Ess _ K (ZR K (wishR E)) (defBody s_inverse_of) b_inverse_of from
    (ess_cons (es_set (i:=2) sc_inverse_of.nd (ev_callP ((ok_inverse T).mono (by omega)) hr T.m_inverse T.k_inverse T.b_inverse (ea_cons (ev_var 0) (ea_cons (ev_var 1) ea_nil)) (hlen:=fun _ _ h=>len_inverse h)))
    (ess_cons (es_if (et_cmp opIs (ev_var 2) ev_non (nomark _))
    (ess_one (es_raise hz T.xc_NoInverse T.xb_NoInverse T.le T.ti_NoInverse (ok_init_NoInverse T) T.nf_NoInverse (hr.mono (by omega)) T.bi_NoInverse T.m_NoInverse T.kc_NoInverse rfl (ev_var 1)))
    ess_nil)
    (ess_one (es_ret (ev_var 2)))))
theorem ok_step_numbers (T:Tx K mg a):FnOk P w K mg base (CX1 P w) 4 a.a_step_numbers a.d_step_numbers ["n","row"] (spX K 2 F_step_numbers) :=
  fn_okX (k:=3) T.f_step_numbers.g sc_step_numbers fun cdv A outer s H E hr hz=>show Ess _ K (ZR K (wishR E)) (defBody s_step_numbers) b_step_numbers from
    (ess_cons (es_set (i:=2) sc_step_numbers.nd (ev_lstR (ea_cons (ev_op opMod (ev_ix (ev_var 1) ev_int) (ev_var 0)) ea_nil)))
    (ess_cons (es_set (i:=3) sc_step_numbers.nd (ev_var 1))
    (ess_cons (es_set (i:=4) sc_step_numbers.nd ev_int)
    (ess_cons (es_for PassesOwn.leaving rfl (ei_range2 T.z_range ev_int (ev_callB callLen rfl T.z_len PySem.boot_len (ea_cons (ev_var 1) ea_nil))) (eg_name (i:=5) sc_step_numbers.nd)
    (ess_cons (es_comp (i:=3) sc_step_numbers.nd rfl (CompOk.of (N0:=["n","row","told","left","over","i"]) (sc0:=defScope s_step_numbers) (Nc:=["ahead","later"]) (js:=[none,none]) (by decide +kernel)) (ei_zip T.z_zip (ev_var 3) (ev_slice (ev_var 3) (eo_at ev_int) eo_no)) (fun _ _ _ _ _ _=>(eg_tup rfl (egs_cons (eg_name (i:=0) (show (["ahead","later"]:List Str).Nodup by decide +kernel)) (egs_cons (eg_name (i:=1) (show (["ahead","later"]:List Str).Nodup by decide +kernel)) egs_nil)))) (fun _ _ _ _ _ _=>eif_nil) (fun _ _ _ _ _ _=>(ev_op opSub (ev_var 1) (ev_var 0))))
    (ess_cons (es_set (i:=4) sc_step_numbers.nd (ev_op opMod (ev_op opMulA (ev_var 4) (ev_callX hz ((ok_inverse_of T).mono (by omega)) hr T.m_inverse_of T.k_inverse_of T.b_inverse_of (ea_cons (ev_var 0) (ea_cons (ev_var 5) ea_nil)) (hlen:=fun _ _ h=>len_inverse_of h))) (ev_var 0)))
    (ess_one (es_expr (ev_append (ev_var 2) (ev_op opMod (ev_op opMulA (ev_ix (ev_var 3) ev_int) (ev_var 4)) (ev_var 0))))))))
    (ess_one (es_ret (ev_var 2)))))))
theorem ok_said_least (T:Tx K mg a):FnOk P w K mg base (CX1 P w) 5 a.a_said_least a.d_said_least ["n","k","parts"] (spX K 3 F_said_least) :=
  fn_okX (k:=4) T.f_said_least.g sc_said_least fun cdv A outer s H E hr hz=>show Ess _ K (ZR K (wishR E)) (defBody s_said_least) b_said_least from
    (ess_cons (es_set (i:=3) sc_said_least.nd (ev_callB callLen rfl T.z_len PySem.boot_len (ea_cons (ev_var 2) ea_nil)))
    (ess_cons (es_set (i:=4) sc_said_least.nd (ev_ix (ev_var 2) ev_int))
    (ess_cons (es_for PassesOwn.leaving rfl (ei_e (ev_slice (ev_var 2) (eo_at ev_int) eo_no)) (eg_name (i:=5) sc_said_least.nd)
    (ess_one (es_set (i:=4) sc_said_least.nd (ev_tup (ea_cons ev_str (ea_cons (ev_var 4) (ea_cons (ev_var 5) ea_nil)))))))
    (ess_cons (es_set (i:=6) sc_said_least.nd (ev_callX hz ((ok_step_numbers T).mono (by omega)) hr T.m_step_numbers T.k_step_numbers T.b_step_numbers (ea_cons (ev_var 0) (ea_cons (ev_comp rfl (CompOk.of (N0:=["n","k","parts","many","total","part","numbers","told","i"]) (sc0:=defScope s_said_least) (Nc:=["j","k"]) (js:=[none,some 1]) (by decide +kernel)) (ei_range1 T.z_range (ev_op opAdd (ev_var 3) ev_int)) (fun _ _ _ _ _ _=>(eg_name (i:=0) (show (["j","k"]:List Str).Nodup by decide +kernel))) (fun _ _ _ _ _ _=>eif_nil) (fun _ _ _ _ _ _=>(ev_if (et_cmp opGe (ev_var 0) (ev_var 1) (nomark _)) ev_int ev_int))) ea_nil)) (hlen:=fun _ _ h=>len_step_numbers h)))
    (ess_cons (es_set (i:=7) sc_said_least.nd (ev_tup (ea_cons ev_str (ea_cons (ev_ix (ev_var 6) (ev_var 3)) ea_nil))))
    (ess_cons (es_for PassesOwn.leaving rfl (ei_down T.z_reversed T.z_range (ev_var 3)) (eg_name (i:=8) sc_said_least.nd)
    (ess_one (es_set (i:=7) sc_said_least.nd (ev_tup (ea_cons ev_str (ea_cons (ev_tup (ea_cons ev_str (ea_cons (ev_ix (ev_var 6) (ev_var 8)) ea_nil))) (ea_cons (ev_tup (ea_cons ev_str (ea_cons (ev_tup (ea_cons ev_str (ea_cons (ev_var 4) (ea_cons (ev_tup (ea_cons ev_str (ea_cons (ev_var 8) ea_nil))) ea_nil)))) (ea_cons (ev_var 7) ea_nil)))) ea_nil)))))))
    (ess_one (es_ret (ev_var 7)))))))))
theorem ok_said_grp (T:Tx K mg a):∀ d:Nat,FnOk P w K mg base (CX1 P w) (d+5) a.a_said a.d_said ["n","saying"] (spX K 2 (F_said (d)))
  | 0=>fn_badX rfl
  | d+1=>by
    have ih:=ok_said_grp T d
    have ih_said:=ih
    rw [show d+1+5=(d+5)+1 by omega]
    exact fn_okX (k:=d+5) T.f_said.g sc_said fun cdv A outer s H E hr hz=>show Ess _ K (ZR K (wishR E)) (defBody s_said) (b_said (F_said d)) from
    (ess_cons (es_set (i:=2) sc_said.nd (ev_ix (ev_var 1) ev_int))
    (ess_cons (es_if (et_cmp (opEq (hu_room hr)) (ev_var 2) ev_str (nomark _))
    (ess_one (es_ret (ev_tup (ea_cons ev_str (ea_cons (ev_ix (ev_var 1) ev_int) ea_nil)))))
    ess_nil)
    (ess_cons (es_if (et_cmp (opEq (hu_room hr)) (ev_var 2) ev_str (nomark _))
    (ess_one (es_ret (ev_tup (ea_cons ev_str (ea_cons (ev_tup (ea_cons ev_str (ea_cons ev_int ea_nil))) (ea_cons (ev_callX hz ih_said hr T.m_said T.k_said T.b_said (ea_cons (ev_var 0) (ea_cons (ev_ix (ev_var 1) ev_int) ea_nil)) (hlen:=fun _ _ h=>len_said h)) ea_nil))))))
    ess_nil)
    (ess_cons (es_if (et_cmp (opEq (hu_room hr)) (ev_var 2) ev_str (nomark _))
    (ess_one (es_ret (ev_callX hz ((ok_said_least T).mono (by omega)) hr T.m_said_least T.k_said_least T.b_said_least (ea_cons (ev_var 0) (ea_cons (ev_ix (ev_var 1) ev_int) (ea_cons (ev_compX hz rfl (CompOk.of (N0:=["n","saying","word","one","other"]) (sc0:=defScope s_said) (Nc:=["part","n"]) (js:=[none,some 0]) (by decide +kernel)) (ei_e (ev_ix (ev_var 1) ev_int)) (fun _ _ _ _ _ _=>(eg_name (i:=0) (show (["part","n"]:List Str).Nodup by decide +kernel))) (fun _ _ _ _ _ _=>eif_nil) (fun _ _ _ _ _ _=>(ev_callX xz_comp ih_said hr T.m_said T.k_said T.b_said (ea_cons (ev_var 1) (ea_cons (ev_var 0) ea_nil)) (hlen:=fun _ _ h=>len_said h)))) ea_nil))) (hlen:=fun _ _ h=>len_said_least h))))
    ess_nil)
    (ess_cons (es_set (i:=3) sc_said.nd (ev_callX hz ih_said hr T.m_said T.k_said T.b_said (ea_cons (ev_var 0) (ea_cons (ev_ix (ev_var 1) ev_int) ea_nil)) (hlen:=fun _ _ h=>len_said h)))
    (ess_cons (es_set (i:=4) sc_said.nd (ev_callX hz ih_said hr T.m_said T.k_said T.b_said (ea_cons (ev_var 0) (ea_cons (ev_ix (ev_var 1) ev_int) ea_nil)) (hlen:=fun _ _ h=>len_said h)))
    (ess_cons (es_if (et_cmp (opEq (hu_room hr)) (ev_var 2) ev_str (nomark _))
    (ess_one (es_ret (ev_tup (ea_cons ev_str (ea_cons (ev_var 3) (ea_cons (ev_var 4) ea_nil))))))
    ess_nil)
    (ess_one (es_ret (ev_tup (ea_cons ev_str (ea_cons (ev_tup (ea_cons ev_str (ea_cons (ev_var 3) (ea_cons (ev_var 4) ea_nil)))) (ea_cons (ev_tup (ea_cons ev_str (ea_cons (ev_var 3) (ea_cons (ev_var 4) ea_nil)))) ea_nil)))))))))))))
theorem ok_said (d:Nat) (T:Tx K mg a):FnOk P w K mg base (CX1 P w) (d+5) a.a_said a.d_said ["n","saying"] (spX K 2 (F_said d)):=(ok_said_grp T d)
theorem ok_l_box (T:Tx K mg a):FnOk P w K mg base CX0 1 a.a_l_box a.d_l_box ["_law_script","_law_k"] (spF K Z0 2 F_l_box) :=
  fn_okR (k:=0) T.f_l_box sc_l_box fun cdv A outer s H E hr=>show Ess _ K Z0 (defBody s_l_box) b_l_box from
    (ess_cons (es_set (i:=2) sc_l_box.nd (ev_op opAdd (ev_op opMulA ev_int (ev_var 1)) ev_int))
    (ess_cons (es_if (et_cmp opLt (ev_var 1) (ev_callB callLen rfl T.z_len PySem.boot_len (ea_cons (ev_var 0) ea_nil)) (nomark _))
    (ess_one (es_set (i:=2) sc_l_box.nd (ev_ix (ev_var 0) (ev_var 1))))
    (ess_one (es_if (et_cmp opGt (ev_callB callLen rfl T.z_len PySem.boot_len (ea_cons (ev_var 0) ea_nil)) ev_int (nomark _))
    (ess_one (es_set (i:=2) sc_l_box.nd (ev_op opAdd (ev_var 2) (ev_op opMulA (ev_op opMod (ev_ix (ev_var 0) (ev_op opMod (ev_var 1) (ev_callB callLen rfl T.z_len PySem.boot_len (ea_cons (ev_var 0) ea_nil)))) ev_int) ev_int))))
    ess_nil)))
    (ess_cons (es_set (i:=3) sc_l_box.nd (ev_op opAdd (ev_op opMod (ev_op opAdd (ev_op opMulA (ev_op opMod (ev_var 2) ev_int) ev_int) (ev_op opMulA ev_int (ev_var 1))) ev_int) ev_int))
    (ess_one (es_ret (ev_lstR (ea_cons (ev_ix (ev_lst (ea_cons ev_int (ea_cons (ev_var 2) ea_nil))) (ev_callT callInt rfl T.z_int bt_int (ea_cons (ev_cmp opGe (ev_var 2) (ev_op opPow ev_int ev_int) (nomark _)) ea_nil))) (ea_cons (ev_var 3) (ea_cons ev_int ea_nil)))))))))
theorem ok_l_take (T:Tx K mg a):FnOk P w K mg base CX0 1 a.a_l_take a.d_l_take ["_law_box_here","_law_many"] (spF K Z0 2 F_l_take) :=
  fn_ok (k:=0) T.f_l_take sc_l_take fun cdv A outer s H E hr=>show Ess _ K Z0 (defBody s_l_take) b_l_take from
    (ess_cons (es_if (et_cmp opGt (ev_ix (ev_var 0) ev_int) ev_int (nomark _))
    (ess_cons (es_set (i:=2) sc_l_take.nd (ev_op opMod (ev_ix (ev_var 0) ev_int) (ev_var 1)))
    (ess_cons (es_asg (ev_op opDiv (ev_ix (ev_var 0) ev_int) (ev_var 1)) (eg_sub (ev_var 0) ev_int))
    (ess_one (es_ret (ev_var 2)))))
    ess_nil)
    (ess_cons (es_asg (ev_op opAdd (ev_ix (ev_var 0) ev_int) ev_int) (eg_sub (ev_var 0) ev_int))
    (ess_cons (es_set (i:=3) sc_l_take.nd (ev_op opMod (ev_op opMulA (ev_op opAdd (ev_ix (ev_var 0) ev_int) (ev_op opMulA ev_int (ev_ix (ev_var 0) ev_int))) ev_int) ev_int))
    (ess_cons (es_asg (ev_op opAdd (ev_op opMod (ev_op opAdd (ev_op opMulA (ev_var 3) ev_int) ev_int) ev_int) ev_int) (eg_sub (ev_var 0) ev_int))
    (ess_one (es_ret (ev_op opMod (ev_op opDiv (ev_op opAdd (ev_op opMulA (ev_var 3) ev_int) (ev_ix (ev_var 0) ev_int)) ev_int) (ev_var 1))))))))
theorem ok_l_n (T:Tx K mg a):FnOk P w K mg base CX0 2 a.a_l_n a.d_l_n ["_law_box_here"] (spF K Z0 1 F_l_n) :=
  fn_ok (k:=1) T.f_l_n sc_l_n fun cdv A outer s H E hr=>show Ess _ K Z0 (defBody s_l_n) b_l_n from
    (ess_cons (es_set (i:=1) sc_l_n.nd (ev_call ((ok_l_take T).mono (by omega)) hr T.m_l_take T.k_l_take T.b_l_take (ea_cons (ev_var 0) (ea_cons ev_int ea_nil)) (hlen:=fun _ _ h=>len_l_take h)))
    (ess_cons (es_set (i:=2) sc_l_n.nd (ev_ints (ns:=[2,3,4,5,6,7,8,9,12,16,30,36,49,64,91,97,210,1009,65536,999983,999999,1000000]) (by repeat constructor)))
    (ess_cons (es_set (i:=3) sc_l_n.nd (ev_ix (ev_var 2) (ev_call ((ok_l_take T).mono (by omega)) hr T.m_l_take T.k_l_take T.b_l_take (ea_cons (ev_var 0) (ea_cons ev_int ea_nil)) (hlen:=fun _ _ h=>len_l_take h))))
    (ess_cons (es_if (et_cmp (opEq (hu_room hr)) (ev_var 1) ev_int (nomark _))
    (ess_one (es_ret (ev_op opAdd ev_int (ev_call ((ok_l_take T).mono (by omega)) hr T.m_l_take T.k_l_take T.b_l_take (ea_cons (ev_var 0) (ea_cons ev_int ea_nil)) (hlen:=fun _ _ h=>len_l_take h)))))
    ess_nil)
    (ess_cons (es_if (et_cmp opLt (ev_var 1) ev_int (nomark _))
    (ess_one (es_ret (ev_op opAdd ev_int (ev_call ((ok_l_take T).mono (by omega)) hr T.m_l_take T.k_l_take T.b_l_take (ea_cons (ev_var 0) (ea_cons ev_int ea_nil)) (hlen:=fun _ _ h=>len_l_take h)))))
    ess_nil)
    (ess_one (es_ret (ev_var 3))))))))
theorem ok_l_shared (T:Tx K mg a):FnOk P w K mg base CX0 1 a.a_l_shared a.d_l_shared ["_law_one","_law_other"] (spF K Z0 2 F_l_shared) :=
  fn_ok (k:=0) T.f_l_shared sc_l_shared fun cdv A outer s H E hr=>show Ess _ K Z0 (defBody s_l_shared) b_l_shared from
    (ess_cons (es_while NW PassesOwn.never (et_cmp opGt (ev_var 1) ev_int (nomark _))
    (ess_one (es_par (i:=0) (j:=1) rfl sc_l_shared.nd (ea_cons (ev_var 1) (ea_cons (ev_op opMod (ev_var 0) (ev_var 1)) ea_nil)))))
    (ess_one (es_ret (ev_var 0))))
theorem ok_l_inverse (T:Tx K mg a):FnOk P w K mg base CX0 1 a.a_l_inverse a.d_l_inverse ["_law_n_here","_law_u"] (spF K Z0 2 F_l_inverse) :=
  fn_ok (k:=0) T.f_l_inverse sc_l_inverse fun cdv A outer s H E hr=>show Ess _ K Z0 (defBody s_l_inverse) b_l_inverse from
    (ess_cons (es_asg (ev_tup (ea_cons (ev_var 0) (ea_cons (ev_op opMod (ev_var 1) (ev_var 0)) (ea_cons ev_int (ea_cons ev_int ea_nil))))) (eg_tup rfl (egs_cons (eg_name (i:=2) sc_l_inverse.nd) (egs_cons (eg_name (i:=3) sc_l_inverse.nd) (egs_cons (eg_name (i:=4) sc_l_inverse.nd) (egs_cons (eg_name (i:=5) sc_l_inverse.nd) egs_nil))))))
    (ess_cons (es_while NW PassesOwn.never (et_cmp opGt (ev_var 3) ev_int (nomark _))
    (ess_cons (es_set (i:=6) sc_l_inverse.nd (ev_op opDiv (ev_var 2) (ev_var 3)))
    (ess_cons (es_par (i:=2) (j:=3) rfl sc_l_inverse.nd (ea_cons (ev_var 3) (ea_cons (ev_op opSub (ev_var 2) (ev_op opMulA (ev_var 6) (ev_var 3))) ea_nil)))
    (ess_one (es_par (i:=4) (j:=5) rfl sc_l_inverse.nd (ea_cons (ev_var 5) (ea_cons (ev_op opSub (ev_var 4) (ev_op opMulA (ev_var 6) (ev_var 5))) ea_nil)))))))
    (ess_one (es_ret (ev_op opMod (ev_var 4) (ev_var 0))))))
theorem ok_l_alike (T:Tx K mg a):FnOk P w K mg base CX0 1 a.a_l_alike a.d_l_alike ["_law_found","_law_due"] (spF K Z0 2 F_l_alike) :=
  fn_ok (k:=0) T.f_l_alike sc_l_alike fun cdv A outer s H E hr=>show Ess _ K Z0 (defBody s_l_alike) b_l_alike from
    (ess_cons (es_set (i:=2) sc_l_alike.nd (ev_lstR (ea_cons (ev_tup (ea_cons (ev_var 0) (ea_cons (ev_var 1) ea_nil))) ea_nil)))
    (ess_cons (es_while NW PassesOwn.never (et_cmp opGt (ev_callB callLen rfl T.z_len PySem.boot_len (ea_cons (ev_var 2) ea_nil)) ev_int (nomark _))
    (ess_cons (es_asg (ev_pop (ev_var 2)) (eg_tup rfl (egs_cons (eg_name (i:=3) sc_l_alike.nd) (egs_cons (eg_name (i:=4) sc_l_alike.nd) egs_nil))))
    (ess_one (es_if (et_val (ev_isi kT_tuple T.z_isinstance T.z_tuple bt_tuple (ev_var 4)))
    (ess_cons (es_if (et_w (ew_or (et_not (et_val (ev_isi kT_tuple T.z_isinstance T.z_tuple bt_tuple (ev_var 3)))) (ew_or1 (et_cmp (opNe (hu_room hr)) (ev_callB callLen rfl T.z_len PySem.boot_len (ea_cons (ev_var 3) ea_nil)) (ev_callB callLen rfl T.z_len PySem.boot_len (ea_cons (ev_var 4) ea_nil)) (nomark _)))))
    (ess_one (es_ret ev_bl))
    ess_nil)
    (ess_one (es_expr (ev_extendA (ev_var 2) (ev_listzip rfl T.z_list T.z_zip (ev_var 3) (ev_var 4))))))
    (ess_one (es_if (et_w (ew_or (et_cmp (opNe (hu_room hr)) (ev_isi kT_bool T.z_isinstance T.z_bool bt_bool (ev_var 3)) (ev_isi kT_bool T.z_isinstance T.z_bool bt_bool (ev_var 4)) (nomark _)) (ew_or1 (et_cmp (opNe (hu_room hr)) (ev_isi kT_int T.z_isinstance T.z_int bt_int (ev_var 3)) (ev_isi kT_int T.z_isinstance T.z_int bt_int (ev_var 4)) (nomark _)))))
    (ess_one (es_ret ev_bl))
    (ess_one (es_if (et_w (ew_or (et_val (ev_isi kT_tuple T.z_isinstance T.z_tuple bt_tuple (ev_var 3))) (ew_or1 (et_cmp (opNe (hu_room hr)) (ev_var 3) (ev_var 4) (nomark _)))))
    (ess_one (es_ret ev_bl))
    ess_nil))))))))
    (ess_one (es_ret ev_bl))))
theorem ok_l_saying_grp (T:Tx K mg a):∀ d:Nat,FnOk P w K mg base CX0 (d+1) a.a_l_saying a.d_l_saying ["_law_box_here","_law_givens","_law_room"] (spF K Z0 3 (F_l_saying (d)))
  | 0=>fn_bad rfl
  | d+1=>by
    have ih:=ok_l_saying_grp T d
    have ih_l_saying:=ih
    rw [show d+1+1=(d+1)+1 by omega]
    exact fn_ok (k:=d+1) T.f_l_saying sc_l_saying fun cdv A outer s H E hr=>show Ess _ K Z0 (defBody s_l_saying) (b_l_saying (F_l_saying d)) from
    (ess_cons (es_set (i:=3) sc_l_saying.nd (ev_call ((ok_l_take T).mono (by omega)) hr T.m_l_take T.k_l_take T.b_l_take (ea_cons (ev_var 0) (ea_cons ev_int ea_nil)) (hlen:=fun _ _ h=>len_l_take h)))
    (ess_cons (es_if (et_w (ew_or (et_cmp opLt (ev_var 2) ev_int (nomark _)) (ew_or1 (et_cmp (opEq (hu_room hr)) (ev_var 3) ev_int (nomark _)))))
    (ess_one (es_ret (ev_tup (ea_cons ev_str (ea_cons (ev_call ((ok_l_take T).mono (by omega)) hr T.m_l_take T.k_l_take T.b_l_take (ea_cons (ev_var 0) (ea_cons (ev_var 1) ea_nil)) (hlen:=fun _ _ h=>len_l_take h)) ea_nil)))))
    ess_nil)
    (ess_cons (es_if (et_cmp (opEq (hu_room hr)) (ev_var 3) ev_int (nomark _))
    (ess_one (es_ret (ev_tup (ea_cons ev_str (ea_cons (ev_call ih_l_saying hr T.m_l_saying T.k_l_saying T.b_l_saying (ea_cons (ev_var 0) (ea_cons (ev_var 1) (ea_cons (ev_op opSub (ev_var 2) ev_int) ea_nil))) (hlen:=fun _ _ h=>len_l_saying h)) ea_nil)))))
    ess_nil)
    (ess_cons (es_if (et_w (ew_or (et_cmp opLt (ev_var 2) ev_int (nomark _)) (ew_or1 (et_cmp opLt (ev_var 3) ev_int (nomark _)))))
    (ess_cons (es_set (i:=4) sc_l_saying.nd (ev_op opAdd ev_int (ev_call ((ok_l_take T).mono (by omega)) hr T.m_l_take T.k_l_take T.b_l_take (ea_cons (ev_var 0) (ea_cons (ev_callB (callMin2 rfl) rfl T.z_min bt_min (ea_cons ev_int (ea_cons (ev_op opSub (ev_var 2) ev_int) ea_nil))) ea_nil)) (hlen:=fun _ _ h=>len_l_take h))))
    (ess_cons (es_par (i:=5) (j:=6) rfl sc_l_saying.nd (ea_cons (ev_lstR ea_nil) (ea_cons (ev_op opSub (ev_var 2) ev_int) ea_nil)))
    (ess_cons (es_for PassesOwn.never rfl (ei_range1 T.z_range (ev_var 4)) (eg_name (i:=7) sc_l_saying.nd)
    (ess_cons (es_set (i:=8) sc_l_saying.nd (ev_op opAdd ev_int (ev_call ((ok_l_take T).mono (by omega)) hr T.m_l_take T.k_l_take T.b_l_take (ea_cons (ev_var 0) (ea_cons (ev_op opSub (ev_var 6) (ev_op opSub (ev_op opSub (ev_var 4) ev_int) (ev_var 7))) ea_nil)) (hlen:=fun _ _ h=>len_l_take h))))
    (ess_cons (es_expr (ev_append (ev_var 5) (ev_call ih_l_saying hr T.m_l_saying T.k_l_saying T.b_l_saying (ea_cons (ev_var 0) (ea_cons (ev_var 1) (ea_cons (ev_var 8) ea_nil))) (hlen:=fun _ _ h=>len_l_saying h))))
    (ess_one (es_set (i:=6) sc_l_saying.nd (ev_op opSub (ev_var 6) (ev_var 8)))))))
    (ess_one (es_ret (ev_tup (ea_cons ev_str (ea_cons (ev_call ((ok_l_take T).mono (by omega)) hr T.m_l_take T.k_l_take T.b_l_take (ea_cons (ev_var 0) (ea_cons ev_int ea_nil)) (hlen:=fun _ _ h=>len_l_take h)) (ea_cons (ev_callT callTup rfl T.z_tuple bt_tuple (ea_cons (ev_var 5) ea_nil)) ea_nil)))))))))
    ess_nil)
    (ess_cons (es_set (i:=8) sc_l_saying.nd (ev_op opAdd ev_int (ev_call ((ok_l_take T).mono (by omega)) hr T.m_l_take T.k_l_take T.b_l_take (ea_cons (ev_var 0) (ea_cons (ev_op opSub (ev_var 2) ev_int) ea_nil)) (hlen:=fun _ _ h=>len_l_take h))))
    (ess_cons (es_set (i:=9) sc_l_saying.nd (ev_call ih_l_saying hr T.m_l_saying T.k_l_saying T.b_l_saying (ea_cons (ev_var 0) (ea_cons (ev_var 1) (ea_cons (ev_var 8) ea_nil))) (hlen:=fun _ _ h=>len_l_saying h)))
    (ess_one (es_ret (ev_tup (ea_cons (ev_ix (ev_lst (ea_cons ev_str (ea_cons ev_str ea_nil))) (ev_op opSub (ev_var 3) ev_int)) (ea_cons (ev_var 9) (ea_cons (ev_call ih_l_saying hr T.m_l_saying T.k_l_saying T.b_l_saying (ea_cons (ev_var 0) (ea_cons (ev_var 1) (ea_cons (ev_op opSub (ev_op opSub (ev_var 2) ev_int) (ev_var 8)) ea_nil))) (hlen:=fun _ _ h=>len_l_saying h)) ea_nil))))))))))))
theorem ok_l_saying (d:Nat) (T:Tx K mg a):FnOk P w K mg base CX0 (d+1) a.a_l_saying a.d_l_saying ["_law_box_here","_law_givens","_law_room"] (spF K Z0 3 (F_l_saying d)):=(ok_l_saying_grp T d)
theorem ok_l_refused_by (T:Tx K mg a):FnOkH P w K mg base 1 a.a_l_refused_by a.d_l_refused_by ["_law_e","_law_number"] (spF K Z0 2 F_l_refused_by) :=
  fn_okH (k:=0) T.f_l_refused_by sc_l_refused_by fun cdv A outer s H hr=>show Ess _ K Z0 (defBody s_l_refused_by) b_l_refused_by from
    (ess_cons (es_set (i:=2) sc_l_refused_by.nd (ev_isXs (ecs_cons (ct_own T.xc_BadText) T.m_BadText (ecs_cons (ct_own T.xc_NoDeed) T.m_NoDeed (ecs_cons (ct_own T.xc_NoPaper) T.m_NoPaper (ecs_cons (ct_own T.xc_NoRest) T.m_NoRest (ecs_cons (ct_own T.xc_NoRoot) T.m_NoRoot (ecs_cons (ct_own T.xc_NoRow) T.m_NoRow (ecs_cons (ct_own T.xc_TooMany) T.m_TooMany ecs_nil))))))) T.z_isinstance (ev_var 0)))
    (ess_one (es_ret (ev_and (ev_isXV T.z_ValueError T.z_isinstance (ev_var 0)) (ev_and (ev_not (ev_var 2)) (ev_and (ev_cmp (opEq (hu_roomH hr)) (ev_fld (ev_var 0)) (ev_var 1) (nomark _)) (ev_one (ev_not (ev_isi kT_bool T.z_isinstance T.z_bool bt_bool (ev_fld (ev_var 0)))))))))))
theorem ok_l_numbers (T:Tx K mg a):FnOk P w K mg base CX0 2 a.a_l_numbers a.d_l_numbers ["_law_n_here","_law_k","_law_many"] (spF K Z0 3 F_l_numbers) :=
  fn_okR (k:=1) T.f_l_numbers sc_l_numbers fun cdv A outer s H E hr=>show Ess _ K Z0 (defBody s_l_numbers) b_l_numbers from
    (ess_cons (es_parT3 (i:=3) (j:=4) (k:=5) rfl sc_l_numbers.nd (ea_cons (ev_lst (ea_cons ev_int ea_nil)) (ea_cons ev_int (ea_cons (ev_lstR ea_nil) ea_nil))))
    (ess_cons (es_for PassesOwn.never rfl (ei_range1 T.z_range (ev_op opAdd (ev_var 2) ev_int)) (eg_name (i:=6) sc_l_numbers.nd)
    (ess_cons (es_set (i:=4) sc_l_numbers.nd (ev_op opMulA (ev_var 4) (ev_callB (callMax2 rfl) rfl T.z_max bt_max (ea_cons ev_int (ea_cons (ev_var 6) ea_nil)))))
    (ess_cons (es_set (i:=7) sc_l_numbers.nd ev_int)
    (ess_cons (es_for PassesOwn.never rfl (ei_range1 T.z_range (ev_op opAdd (ev_var 6) ev_int)) (eg_name (i:=8) sc_l_numbers.nd)
    (ess_one (es_set (i:=7) sc_l_numbers.nd (ev_op opAdd (ev_var 7) (ev_op opMulA (ev_op opMulA (ev_ix (ev_var 3) (ev_var 8)) (ev_ix (ev_lst (ea_cons ev_int (ea_cons (ev_op opSub ev_int ev_int) ea_nil))) (ev_op opMod (ev_op opSub (ev_var 6) (ev_var 8)) ev_int))) (ev_callT callInt rfl T.z_int bt_int (ea_cons (ev_cmp opGe (ev_var 8) (ev_var 1) (nomark _)) ea_nil)))))))
    (ess_cons (es_expr (ev_append (ev_var 5) (ev_op opMod (ev_op opMulA (ev_var 7) (ev_call ((ok_l_inverse T).mono (by omega)) hr T.m_l_inverse T.k_l_inverse T.b_l_inverse (ea_cons (ev_var 0) (ea_cons (ev_var 4) ea_nil)) (hlen:=fun _ _ h=>len_l_inverse h))) (ev_var 0))))
    (ess_one (es_set (i:=3) sc_l_numbers.nd (ev_op opAdd (ev_op opAdd (ev_lst (ea_cons ev_int ea_nil)) (ev_comp rfl (CompOk.of (N0:=["_law_n_here","_law_k","_law_many","_law_choose","_law_factor","_law_found","_law_i","_law_number","_law_j"]) (sc0:=defScope s_l_numbers) (Nc:=["_law_j","_law_choose"]) (js:=[none,some 3]) (by decide +kernel)) (ei_range1 T.z_range (ev_var 6)) (fun _ _ _ _ _ _=>(eg_name (i:=0) (show (["_law_j","_law_choose"]:List Str).Nodup by decide +kernel))) (fun _ _ _ _ _ _=>eif_nil) (fun _ _ _ _ _ _=>(ev_op opAdd (ev_ix (ev_var 1) (ev_var 0)) (ev_ix (ev_var 1) (ev_op opAdd (ev_var 0) ev_int)))))) (ev_lst (ea_cons ev_int ea_nil))))))))))
    (ess_one (es_ret (ev_var 5)))))
theorem ok_l_least (T:Tx K mg a):FnOk P w K mg base CX0 3 a.a_l_least a.d_l_least ["_law_n_here","_law_k","_law_parts"] (spF K Z0 3 F_l_least) :=
  fn_ok (k:=2) T.f_l_least sc_l_least fun cdv A outer s H E hr=>show Ess _ K Z0 (defBody s_l_least) b_l_least from
    (ess_cons (es_comp (i:=3) sc_l_least.nd rfl (CompOk.of (N0:=["_law_n_here","_law_k","_law_parts","_law_bad","_law_whole","_law_part","_law_numbers_here","_law_found","_law_i"]) (sc0:=defScope s_l_least) (Nc:=["_law_number","_law_n_here"]) (js:=[none,some 0]) (by decide +kernel)) (ei_range2 T.z_range ev_int (ev_op opAdd (ev_callB callLen rfl T.z_len PySem.boot_len (ea_cons (ev_var 2) ea_nil)) ev_int)) (fun _ _ _ _ _ _=>(eg_name (i:=0) (show (["_law_number","_law_n_here"]:List Str).Nodup by decide +kernel))) (fun _ _ _ _ _ _=>(eif_one (et_cmp (opNe (hu_room hr)) (ev_call ((ok_l_shared T).mono (by omega)) hr T.m_l_shared T.k_l_shared T.b_l_shared (ea_cons (ev_var 1) (ea_cons (ev_var 0) ea_nil)) (hlen:=fun _ _ h=>len_l_shared h)) ev_int (nomark _)))) (fun _ _ _ _ _ _=>(ev_var 0)))
    (ess_cons (es_if (et_cmp (opNe (hu_room hr)) (ev_var 3) (ev_lst ea_nil) (nomark _))
    (ess_one (es_ret (ev_tup (ea_cons ev_str (ea_cons (ev_ix (ev_var 3) ev_int) ea_nil)))))
    ess_nil)
    (ess_cons (es_set (i:=4) sc_l_least.nd (ev_ix (ev_var 2) ev_int))
    (ess_cons (es_for PassesOwn.never rfl (ei_e (ev_slice (ev_var 2) (eo_at ev_int) eo_no)) (eg_name (i:=5) sc_l_least.nd)
    (ess_one (es_set (i:=4) sc_l_least.nd (ev_tup (ea_cons ev_str (ea_cons (ev_var 4) (ea_cons (ev_var 5) ea_nil)))))))
    (ess_cons (es_set (i:=6) sc_l_least.nd (ev_call ((ok_l_numbers T).mono (by omega)) hr T.m_l_numbers T.k_l_numbers T.b_l_numbers (ea_cons (ev_var 0) (ea_cons (ev_var 1) (ea_cons (ev_callB callLen rfl T.z_len PySem.boot_len (ea_cons (ev_var 2) ea_nil)) ea_nil))) (hlen:=fun _ _ h=>len_l_numbers h)))
    (ess_cons (es_set (i:=7) sc_l_least.nd (ev_tup (ea_cons ev_str (ea_cons (ev_pop (ev_var 6)) ea_nil))))
    (ess_cons (es_while NW PassesOwn.never (et_cmp opGt (ev_callB callLen rfl T.z_len PySem.boot_len (ea_cons (ev_var 6) ea_nil)) ev_int (nomark _))
    (ess_cons (es_set (i:=8) sc_l_least.nd (ev_op opSub (ev_callB callLen rfl T.z_len PySem.boot_len (ea_cons (ev_var 6) ea_nil)) ev_int))
    (ess_one (es_set (i:=7) sc_l_least.nd (ev_tup (ea_cons ev_str (ea_cons (ev_tup (ea_cons ev_str (ea_cons (ev_pop (ev_var 6)) ea_nil))) (ea_cons (ev_tup (ea_cons ev_str (ea_cons (ev_tup (ea_cons ev_str (ea_cons (ev_var 4) (ea_cons (ev_tup (ea_cons ev_str (ea_cons (ev_var 8) ea_nil))) ea_nil)))) (ea_cons (ev_var 7) ea_nil)))) ea_nil))))))))
    (ess_one (es_ret (ev_tup (ea_cons ev_str (ea_cons (ev_var 7) ea_nil))))))))))))
theorem ok_l_said_grp (T:Tx K mg a):∀ d:Nat,FnOk P w K mg base CX0 (d+3) a.a_l_said a.d_l_said ["_law_n_here","_law_saying_here"] (spF K Z0 2 (F_l_said (d)))
  | 0=>fn_bad rfl
  | d+1=>by
    have ih:=ok_l_said_grp T d
    have ih_l_said:=ih
    rw [show d+1+3=(d+3)+1 by omega]
    exact fn_ok (k:=d+3) T.f_l_said sc_l_said fun cdv A outer s H E hr=>show Ess _ K Z0 (defBody s_l_said) (b_l_said (F_l_said d)) from
    (ess_cons (es_set (i:=2) sc_l_said.nd (ev_ix (ev_var 1) ev_int))
    (ess_cons (es_if (et_cmp (opEq (hu_room hr)) (ev_var 2) ev_str (nomark _))
    (ess_one (es_ret (ev_tup (ea_cons ev_str (ea_cons (ev_tup (ea_cons ev_str (ea_cons (ev_ix (ev_var 1) ev_int) ea_nil))) ea_nil)))))
    ess_nil)
    (ess_cons (es_par (i:=3) (j:=4) rfl sc_l_said.nd (ea_cons (ev_lstR ea_nil) (ea_cons (ev_slice (ev_var 1) (eo_at ev_int) eo_no) ea_nil)))
    (ess_cons (es_if (et_cmp (opEq (hu_room hr)) (ev_var 2) ev_str (nomark _))
    (ess_one (es_set (i:=4) sc_l_said.nd (ev_ix (ev_var 1) ev_int)))
    ess_nil)
    (ess_cons (es_for PassesOwn.never rfl (ei_e (ev_var 4)) (eg_name (i:=5) sc_l_said.nd)
    (ess_cons (es_set (i:=6) sc_l_said.nd (ev_call ih_l_said hr T.m_l_said T.k_l_said T.b_l_said (ea_cons (ev_var 0) (ea_cons (ev_var 5) ea_nil)) (hlen:=fun _ _ h=>len_l_said h)))
    (ess_cons (es_if (et_cmp (opEq (hu_room hr)) (ev_ix (ev_var 6) ev_int) ev_str (nomark _))
    (ess_one (es_ret (ev_var 6)))
    ess_nil)
    (ess_one (es_expr (ev_append (ev_var 3) (ev_ix (ev_var 6) ev_int)))))))
    (ess_cons (es_if (et_cmp (opEq (hu_room hr)) (ev_var 2) ev_str (nomark _))
    (ess_one (es_ret (ev_call ((ok_l_least T).mono (by omega)) hr T.m_l_least T.k_l_least T.b_l_least (ea_cons (ev_var 0) (ea_cons (ev_ix (ev_var 1) ev_int) (ea_cons (ev_var 3) ea_nil))) (hlen:=fun _ _ h=>len_l_least h))))
    ess_nil)
    (ess_cons (es_if (et_cmp (opEq (hu_room hr)) (ev_var 2) ev_str (nomark _))
    (ess_one (es_ret (ev_tup (ea_cons ev_str (ea_cons (ev_tup (ea_cons ev_str (ea_cons (ev_tup (ea_cons ev_str (ea_cons ev_int ea_nil))) (ea_cons (ev_ix (ev_var 3) ev_int) ea_nil)))) ea_nil)))))
    ess_nil)
    (ess_cons (es_set (i:=7) sc_l_said.nd (ev_tup (ea_cons ev_str (ea_cons (ev_ix (ev_var 3) ev_int) (ea_cons (ev_ix (ev_var 3) ev_int) ea_nil)))))
    (ess_one (es_ret (ev_tup (ea_cons ev_str (ea_cons (ev_ix (ev_lst (ea_cons (ev_tup (ea_cons ev_str (ea_cons (ev_tup (ea_cons ev_str (ea_cons (ev_ix (ev_var 3) ev_int) (ea_cons (ev_ix (ev_var 3) ev_int) ea_nil)))) (ea_cons (ev_var 7) ea_nil)))) (ea_cons (ev_var 7) ea_nil))) (ev_callT callInt rfl T.z_int bt_int (ea_cons (ev_cmp (opEq (hu_room hr)) (ev_var 2) ev_str (nomark _)) ea_nil))) ea_nil)))))))))))))
theorem ok_l_said (d:Nat) (T:Tx K mg a):FnOk P w K mg base CX0 (d+3) a.a_l_said a.d_l_said ["_law_n_here","_law_saying_here"] (spF K Z0 2 (F_l_said d)):=(ok_l_said_grp T d)
theorem ok_l_right (T:Tx K mg a):FnOk P w K mg base (CX1 P w) 56 a.a_l_right a.d_l_right ["_law_n_here","_law_saying_here"] (spX K 2 F_l_right) :=
  fn_okX (k:=55) T.f_l_right.g sc_l_right fun cdv A outer s H E hr hz=>show Ess _ K (ZR K (wishR E)) (defBody s_l_right) b_l_right from
    (ess_cons (es_set (i:=2) sc_l_right.nd (ev_callP ((ok_l_said 50 T).mono (by omega)) hr T.m_l_said T.k_l_said T.b_l_said (ea_cons (ev_var 0) (ea_cons (ev_var 1) ea_nil)) (hlen:=fun _ _ h=>len_l_said h)))
    (ess_cons (es_tryAs (i:=4) (ctd_own T.xc_NoInverse) T.m_NoInverse sc_l_right.nd
    (tb_set (i:=3) sc_l_right.nd (ex_call ((ok_said 50 T).mono (by omega)) hr T.m_said T.k_said T.b_said (ea_cons (ev_var 0) (ea_cons (ev_var 1) ea_nil)) (hlen:=fun _ _ h=>len_said h)))
    (fun _=>(ess_one (es_ret (ev_and (ev_cmp (opEq (hu_hnd hr)) (ev_ix (ev_var 2) ev_int) ev_str (nomark _)) (ev_and (ev_isX (ct_le T.nm_LentError) T.m_LentError T.z_isinstance (ev_var 4)) (ev_one (ev_callH (ok_l_refused_by T) (L2.Room.mark (hr.mono (by omega))) T.m_l_refused_by T.k_l_refused_by T.b_l_refused_by (ea_cons (ev_var 4) (ea_cons (ev_ix (ev_var 2) ev_int) ea_nil)) (hlen:=fun _ _ h=>len_l_refused_by h)))))))))
    (ess_one (es_ret (ev_and (ev_cmp (opEq (hu_room hr)) (ev_ix (ev_var 2) ev_int) ev_str (nomark _)) (ev_one (ev_callP ((ok_l_alike T).mono (by omega)) hr T.m_l_alike T.k_l_alike T.b_l_alike (ea_cons (ev_var 3) (ea_cons (ev_ix (ev_var 2) ev_int) ea_nil)) (hlen:=fun _ _ h=>len_l_alike h))))))))
theorem ok_law (T:Tx K mg a):FnOk P w K mg base (CX1 P w) 57 a.a_law a.d_law ["_law_script"] (spX K 1 F_law) :=
  fn_okX (k:=56) T.f_law.g sc_law fun cdv A outer s H E hr hz=>show Ess _ K (ZR K (wishR E)) (defBody s_law) b_law from
    (ess_cons (es_set (i:=1) sc_law.nd (ev_callP ((ok_l_box T).mono (by omega)) hr T.m_l_box T.k_l_box T.b_l_box (ea_cons (ev_var 0) (ea_cons ev_int ea_nil)) (hlen:=fun _ _ h=>len_l_box h)))
    (ess_cons (es_set (i:=2) sc_law.nd (ev_callP ((ok_l_saying 50 T).mono (by omega)) hr T.m_l_saying T.k_l_saying T.b_l_saying (ea_cons (ev_var 1) (ea_cons ev_int (ea_cons ev_int ea_nil))) (hlen:=fun _ _ h=>len_l_saying h)))
    (ess_cons (es_set (i:=3) sc_law.nd (ev_callP ((ok_l_saying 50 T).mono (by omega)) hr T.m_l_saying T.k_l_saying T.b_l_saying (ea_cons (ev_callP ((ok_l_box T).mono (by omega)) hr T.m_l_box T.k_l_box T.b_l_box (ea_cons (ev_var 0) (ea_cons ev_int ea_nil)) (hlen:=fun _ _ h=>len_l_box h)) (ea_cons ev_int (ea_cons (ev_ix (ev_lst (ea_cons ev_int (ea_cons ev_int ea_nil))) (ev_callP ((ok_l_take T).mono (by omega)) hr T.m_l_take T.k_l_take T.b_l_take (ea_cons (ev_var 1) (ea_cons ev_int ea_nil)) (hlen:=fun _ _ h=>len_l_take h))) ea_nil))) (hlen:=fun _ _ h=>len_l_saying h)))
    (ess_cons (es_set (i:=4) sc_law.nd (ev_callT callTup rfl T.z_tuple bt_tuple (ea_cons (ev_comp rfl (CompOk.of (N0:=["_law_script","_law_box_here","_law_one","_law_other","_law_some","_law_few","_law_small","_law_asked","_law_k","_law_n_here"]) (sc0:=defScope s_law) (Nc:=["_law_k","_law_script"]) (js:=[none,some 0]) (by decide +kernel)) (ei_range1 T.z_range ev_int) (fun _ _ _ _ _ _=>(eg_name (i:=0) (show (["_law_k","_law_script"]:List Str).Nodup by decide +kernel))) (fun _ _ _ _ _ _=>eif_nil) (fun _ _ _ _ _ _=>(ev_trim (ev_call ((ok_l_saying 50 T).mono (by omega)) hr T.m_l_saying T.k_l_saying T.b_l_saying (ea_cons (ev_call ((ok_l_box T).mono (by omega)) hr T.m_l_box T.k_l_box T.b_l_box (ea_cons (ev_var 1) (ea_cons (ev_op opAdd ev_int (ev_var 0)) ea_nil)) (hlen:=fun _ _ h=>len_l_box h)) (ea_cons ev_int (ea_cons ev_int ea_nil))) (hlen:=fun _ _ h=>len_l_saying h))))) ea_nil)))
    (ess_cons (es_set (i:=5) sc_law.nd (ev_tup (ea_cons ev_str (ea_cons (ev_callP ((ok_l_take T).mono (by omega)) hr T.m_l_take T.k_l_take T.b_l_take (ea_cons (ev_var 1) (ea_cons ev_int ea_nil)) (hlen:=fun _ _ h=>len_l_take h)) (ea_cons (ev_slice (ev_var 4) eo_no (eo_at (ev_op opAdd ev_int (ev_callP ((ok_l_take T).mono (by omega)) hr T.m_l_take T.k_l_take T.b_l_take (ea_cons (ev_var 1) (ea_cons ev_int ea_nil)) (hlen:=fun _ _ h=>len_l_take h))))) ea_nil)))))
    (ess_cons (es_set (i:=6) sc_law.nd (ev_callP ((ok_l_saying 50 T).mono (by omega)) hr T.m_l_saying T.k_l_saying T.b_l_saying (ea_cons (ev_var 1) (ea_cons ev_int (ea_cons ev_int ea_nil))) (hlen:=fun _ _ h=>len_l_saying h)))
    (ess_cons (es_set (i:=7) sc_law.nd (ev_lstR ea_nil))
    (ess_cons (es_for PassesOwn.leaving rfl (ei_range1 T.z_range ev_int) (eg_name (i:=8) sc_law.nd)
    (ess_cons (es_set (i:=9) sc_law.nd (ev_callP ((ok_l_n T).mono (by omega)) hr T.m_l_n T.k_l_n T.b_l_n (ea_cons (ev_callP ((ok_l_box T).mono (by omega)) hr T.m_l_box T.k_l_box T.b_l_box (ea_cons (ev_var 0) (ea_cons (ev_op opAdd ev_int (ev_var 8)) ea_nil)) (hlen:=fun _ _ h=>len_l_box h)) ea_nil) (hlen:=fun _ _ h=>len_l_n h)))
    (ess_one (es_expr (ev_extendA (ev_var 7) (ev_lst (ea_cons (ev_tup (ea_cons (ev_var 9) (ea_cons (ev_var 2) ea_nil))) (ea_cons (ev_tup (ea_cons (ev_var 9) (ea_cons (ev_var 3) ea_nil))) (ea_cons (ev_tup (ea_cons (ev_var 9) (ea_cons (ev_var 5) ea_nil))) (ea_cons (ev_tup (ea_cons (ev_var 9) (ea_cons (ev_tup (ea_cons ev_str (ea_cons (ev_var 5) (ea_cons (ev_var 6) ea_nil)))) ea_nil))) (ea_cons (ev_tup (ea_cons (ev_var 9) (ea_cons (ev_tup (ea_cons ev_str (ea_cons (ev_var 6) (ea_cons (ev_var 5) ea_nil)))) ea_nil))) ea_nil)))))))))))
    (ess_one (es_ret (ev_callB (callAllB rfl) rfl T.z_all bt_all (ea_cons (ev_comp rfl (CompOk.of (N0:=["_law_script","_law_box_here","_law_one","_law_other","_law_some","_law_few","_law_small","_law_asked","_law_k","_law_n_here"]) (sc0:=defScope s_law) (Nc:=["_law_n_here","_law_saying_here"]) (js:=[none,none]) (by decide +kernel)) (ei_e (ev_op opAdd (ev_var 7) (ev_slice (ev_var 7) eo_no (eo_at ev_int)))) (fun _ _ _ _ _ _=>(eg_tup rfl (egs_cons (eg_name (i:=0) (show (["_law_n_here","_law_saying_here"]:List Str).Nodup by decide +kernel)) (egs_cons (eg_name (i:=1) (show (["_law_n_here","_law_saying_here"]:List Str).Nodup by decide +kernel)) egs_nil)))) (fun _ _ _ _ _ _=>eif_nil) (fun _ _ _ _ _ _=>(ev_callN ((ok_l_right T).mono (by omega)) hr T.m_l_right T.k_l_right T.b_l_right (ea_cons (ev_var 0) (ea_cons (ev_var 1) ea_nil)) (hlen:=fun _ _ h=>len_l_right h)))) ea_nil))))))))))))
end
open PySem L2 EV LS
local macro_rules | `(tactic| decreasing_trivial_pre_omega) => `(tactic| with_reducible first
  | apply ok_seq
  | apply ok_sAs
  | apply ok_gN
  | apply ok_e2
  | refine ok_V (by with_unfolding_all exact rfl) ?_
  | apply ok_C
  | apply ok_A
  | apply ok_aC
  | apply ok_aN
  | apply ok_tB
  | apply ok_sIf
  | apply ok_rt
  | apply ok_nil
  | apply ok_ex
  | apply ok_e1
  | apply ok_nx
  | apply ok_noX
  | apply ok_aDef
  | apply ok_isX
  | apply ok_fld
  | apply ok_sRaise
  | apply ok_add
  | apply ok_eqI
  | apply ok_neI
  | (refine ok_pI ?hz ?_; case hz=>(with_unfolding_all first | exact rfl | decide | ((try simp only [decide_eq_true_eq,true_and,and_true,List.length_map,List.length_cons,List.length_nil,List.length_append,List.length_replicate]) <;> omega)))
  | (refine ok_mul ?hz ?_; case hz=>(with_unfolding_all first | decide | ((try simp only [mulOk,decide_eq_true_eq,List.length_map,List.length_cons,List.length_nil,List.length_append,List.length_replicate]) <;> omega)))
  | apply ok_eqS
  | apply ok_neS
  | apply ok_neB
  | apply ok_is
  | apply ok_not
  | refine ok_ixT (by with_unfolding_all exact rfl) ?_
  | refine ok_ixL (by with_unfolding_all exact rfl) ?_
  | refine ok_ixF (by with_unfolding_all exact rfl) ?_
  | refine ok_ixR (by assumption) (by with_unfolding_all exact rfl) ?_
  | refine ok_ixR (List.getElem?_set_self (by simpa only [List.length_set])) (by with_unfolding_all exact rfl) ?_
  | apply ok_tNot
  | apply ok_tOr
  | apply ok_tV
  | apply ok_tYes
  | apply ok_If
  | apply ok_And
  | refine ok_mkT (by with_unfolding_all exact rfl) (by with_unfolding_all simp) ?_
  | refine ok_mkL (by with_unfolding_all exact rfl) (by with_unfolding_all simp) ?_
  | refine ok_mkR (by with_unfolding_all exact rfl) (by with_unfolding_all simp) ?_
  | apply ok_ints
  | apply ok_lenT
  | apply ok_lenL
  | apply ok_lenF
  | refine ok_lenR (by assumption) ?_
  | apply ok_intB
  | apply ok_max
  | apply ok_min
  | apply ok_M1
  | apply ok_Sl
  | apply ok_oNo
  | apply ok_oAt
  | apply ok_slT
  | apply ok_for
  | apply ok_iR1
  | apply ok_iR2
  | refine ok_iE (s:=⟨[],none⟩) ?_
  | apply ok_iZip
  | apply ok_iDown
  | apply ok_trim
  | apply ok_sPar
  | apply ok_par3
  | apply ok_gS
  | apply ok_gsC
  | apply ok_gsN
  | refine ok_isi (by with_unfolding_all exact rfl) ?_
  | apply ok_retD
  | refine ok_gT (by with_unfolding_all exact rfl) ?_
  | refine ⟨_,rfl,?_⟩
  | refine ⟨_,_,_,_,rfl,rfl,by assumption,by with_unfolding_all exact rfl,?_⟩
  | refine ⟨_,_,_,_,rfl,rfl,List.getElem?_set_self (by simpa only [List.length_set]),by with_unfolding_all exact rfl,?_⟩
  | refine ok_ifT (by with_unfolding_all decide) ?_
  | refine ok_ifF (by with_unfolding_all decide) ?_
  | refine ⟨fun h=>absurd h (by with_unfolding_all decide),fun _=>?_⟩
  | refine ⟨fun _=>?_,fun h=>absurd h (by with_unfolding_all decide)⟩
  | refine ⟨_,_,rfl,?_⟩
  | refine ⟨_,_,_,rfl,?_⟩)
theorem take_spec {M:Mm} {b:Nat} {m:Int} (h:Bx M b) (h0:0 < m) (h1:m < 18446744073709551616):Ok (F_l_take [.ref b,.d (.int m)] M) fun w M'=>∃ d:Int,w=.d (.int d)/\0<=d/\d < m/\Nx b M M':=by
  have hb:=h.lt
  obtain ⟨x,y,z,e⟩:=h
  refine ok_fn rfl ?_
  unfold b_l_take
  repeat decreasing_trivial_pre_omega
  refine ok_ifd (fun hx=>?_) (fun hx=>?_)
  · repeat decreasing_trivial_pre_omega
    refine ⟨Int.emod_nonneg _ (by omega),Int.emod_lt_of_pos _ h0,x / m,y,z,?_⟩
    rw [List.take_of_length_le (by simp)]; rfl
  · repeat decreasing_trivial_pre_omega
    refine ⟨Int.emod_nonneg _ (by omega),Int.emod_lt_of_pos _ h0,?_⟩
    rw [List.take_of_length_le (by simp)]
    exact ⟨_,_,_,by rw [List.set_set]; rfl⟩
theorem box_spec {M:Mm} {ns:List Int} {k:Int} (h0:0<=k) (hl:ns.length<=63):Ok (F_l_box [.d (.fz (ns.map D.int)),.d (.int k)] M) fun w M'=>∃ x y z,w=.ref M.length/\M'=M++[[.int x,.int y,.int z]]:=by
  refine ok_fnR rfl ?_
  have at_:∀ i:Int,0<=i->i < (ns.length:Int)->∃ n,atI (ns.map D.int) i=some (.int n):=fun i a b=>by
    have hi:i.toNat < ns.length:=by omega
    refine ⟨ns[i.toNat],?_⟩
    simp only [atI,ixN,List.length_map]
    rw [if_pos a,if_pos b]
    simp [hi]
  unfold b_l_box
  repeat decreasing_trivial_pre_omega
  refine ok_ifd (fun hx=>?_) (fun hx=>?_)
  · rw [List.length_map] at hx
    obtain ⟨n,e⟩:=at_ k h0 hx
    repeat decreasing_trivial_pre_omega
    refine ok_ixF e ?_
    repeat decreasing_trivial_pre_omega
    refine ok_ixL (atBox _) ?_
    repeat decreasing_trivial_pre_omega
    exact ⟨M.length,[.int _,.int _,.int _],rfl,Nat.le_refl _,List.getElem?_concat_length,_,_,_,rfl,by rw [List.take_left]⟩
  · repeat decreasing_trivial_pre_omega
    refine ok_ifd (fun hy=>?_) (fun hy=>?_)
    · rw [List.length_map] at hy
      obtain ⟨n,e⟩:=at_ (k % ns.length) (Int.emod_nonneg _ (by omega)) (Int.emod_lt_of_pos _ hy)
      repeat decreasing_trivial_pre_omega
      rw [List.length_map]
      refine ok_ixF e ?_
      repeat decreasing_trivial_pre_omega
      refine ok_ixL (atBox _) ?_
      repeat decreasing_trivial_pre_omega
      exact ⟨M.length,[.int _,.int _,.int _],rfl,Nat.le_refl _,List.getElem?_concat_length,_,_,_,rfl,by rw [List.take_left]⟩
    · repeat decreasing_trivial_pre_omega
      refine ok_ixL (atBox _) ?_
      repeat decreasing_trivial_pre_omega
      exact ⟨M.length,[.int _,.int _,.int _],rfl,Nat.le_refl _,List.getElem?_concat_length,_,_,_,rfl,by rw [List.take_left]⟩
theorem n_spec {M:Mm} {b:Nat} (hb:Bx M b):Ok (F_l_n [.ref b] M) fun w M'=>∃ n:Int,w=.d (.int n)/\2<=n/\n<=1000000/\Nx b M M':=by
  have n:=Nx.refl hb
  unfold F_l_n
  refine ok_fn rfl ?_
  unfold b_l_n
  repeat decreasing_trivial_pre_omega
  (refine (take_spec hb (by omega) (by omega)).mono ?_; rintro _ _ ⟨d1,rfl,l_d1,u_d1,n'⟩; replace n:=n.trans n'; replace hb:=n'.bx hb; clear n')
  repeat decreasing_trivial_pre_omega
  (refine (take_spec hb (by omega) (by omega)).mono ?_; rintro _ _ ⟨d2,rfl,l_d2,u_d2,n'⟩; replace n:=n.trans n'; replace hb:=n'.bx hb; clear n')
  obtain ⟨v,ev,mv⟩:=atInts (ns:=[2,3,4,5,6,7,8,9,12,16,30,36,49,64,91,97,210,1009,65536,999983,999999,1000000]) l_d2 (by simpa using u_d2)
  have hv:∀ x∈[2,3,4,5,6,7,8,9,12,16,30,36,49,64,91,97,210,1009,65536,999983,999999,(1000000:Int)],2<=x/\x<=1000000:=by decide
  refine ok_ixL ev ?_
  repeat decreasing_trivial_pre_omega
  refine ok_ifd (fun _=>?_) (fun _=>?_)
  · repeat decreasing_trivial_pre_omega
    (refine (take_spec hb (by omega) (by omega)).mono ?_; rintro _ _ ⟨d3,rfl,l_d3,u_d3,n'⟩; replace n:=n.trans n'; replace hb:=n'.bx hb; clear n')
    repeat decreasing_trivial_pre_omega
    rw [n.take]
    exact ⟨by omega,by omega,n⟩
  · repeat decreasing_trivial_pre_omega
    refine ok_ifd (fun _=>?_) (fun _=>?_)
    · repeat decreasing_trivial_pre_omega
      (refine (take_spec hb (by omega) (by omega)).mono ?_; rintro _ _ ⟨d3,rfl,l_d3,u_d3,n'⟩; replace n:=n.trans n'; replace hb:=n'.bx hb; clear n')
      repeat decreasing_trivial_pre_omega
      rw [n.take]
      exact ⟨by omega,by omega,n⟩
    · repeat decreasing_trivial_pre_omega
      rw [n.take]
      exact ⟨(hv v mv).1,(hv v mv).2,n⟩
theorem shared_spec {a b:Int} {M:Mm} (ha:0<=a) (hb:0<=b) (hb2:b<=1000000):Ok (F_l_shared [.d (.int a),.d (.int b)] M) fun w M'=>M'=M/\∃ g:Int,w=.d (.int g)/\0<=g/\g ∣ a/\g ∣ b/\∃ x y,a*x+b*y=g:=by
  unfold F_l_shared
  refine ok_fn rfl ?_
  unfold b_l_shared
  repeat decreasing_trivial_pre_omega
  refine (while_inv (QS:=fun o M'=>M'=M/\∃ g t,o=.nx [some (.d (.int g)),t]/\0<=g/\g ∣ a/\g ∣ b/\∃ x y,a*x+b*y=g)
    (I:=fun m L M'=>M'=M/\∃ (h l:Int),L=[some (.d (.int h)),some (.d (.int l))]/\m=l.toNat/\0<=h/\0<=l/\l<=1000000/\(∃ x y,a*x+b*y=h)/\(∃ x y,a*x+b*y=l)/\∀ c:Int,c ∣ h->c ∣ l->c ∣ a/\c ∣ b) ?_ NW b.toNat _ _
    ⟨rfl,a,b,rfl,rfl,ha,hb,hb2,⟨1,0,by omega⟩,⟨0,1,by omega⟩,fun c h1 h2=>⟨h1,h2⟩⟩ (by rw [NW_eq]; omega)).mono ?_
  · rintro m L _ ⟨rfl,h,l,rfl,rfl,h0,l0,l1,⟨x1,y1,e1⟩,⟨x2,y2,e2⟩,hd⟩
    repeat decreasing_trivial_pre_omega
    refine ⟨fun hl=>?_,fun hl=>?_⟩
    · have hl:0 < l:=by simpa using hl
      have em1:=Int.emod_nonneg h (by omega:l≠0)
      have em2:=Int.emod_lt_of_pos h hl
      have e:h - l*(h / l)=h % l:=by rw [Int.emod_def]
      repeat decreasing_trivial_pre_omega
      refine ⟨(h % l).toNat,by omega,rfl,l,h % l,rfl,rfl,by omega,em1,by omega,⟨x2,y2,e2⟩,⟨x1 - x2*(h / l),y1 - y2*(h / l),?_⟩,?_⟩
      · rw [<- e,<- e1,<- e2]; grind
      · intro c g1 g2
        refine hd c ?_ g1
        have:=Int.dvd_add g2 (Int.dvd_trans g1 (Int.dvd_mul_right l (h / l)))
        rwa [<- e,show h - l*(h / l)+l*(h / l)=h by omega] at this
    · have hl:l=0:=by simp at hl; omega
      subst hl
      have:=hd h (Int.dvd_refl h) (Int.dvd_zero h)
      exact ⟨rfl,h,_,rfl,h0,this.1,this.2,x1,y1,e1⟩
  · rintro _ _ ⟨rfl,g,t,rfl,h0,d1,d2,x,y,e⟩
    repeat decreasing_trivial_pre_omega
    exact ⟨by simp,_,rfl,h0,d1,d2,x,y,e⟩
theorem inverse_spec {n k:Int} {M:Mm} (hn:2<=n) (hn2:n<=1000000):Ok (F_inverse [.d (.int n),.d (.int k)] M) fun w M'=>M'=M/\((∃ v,IsIv n k v/\w=.d (.int v))\/((¬ ∃ v,IsIv n k v)/\w=.d .non)):=by
  unfold F_inverse
  refine ok_fn rfl ?_
  unfold b_inverse
  repeat decreasing_trivial_pre_omega
  refine (while_inv (QS:=fun o M'=>M'=M/\∃ h p q t,o=.nx [some (.d (.int n)),some (.d (.int k)),some (.d (.int h)),some (.d (.int 0)),some (.d (.int p)),some (.d (.int q)),t]/\0 < h/\h<=n/\Cg n (p*k) h/\h ∣ n/\h ∣ k)
    (I:=fun m L M'=>M'=M/\∃ (h l p q:Int) (t:Option W),L=[some (.d (.int n)),some (.d (.int k)),some (.d (.int h)),some (.d (.int l)),some (.d (.int p)),some (.d (.int q)),t]/\m=l.toNat/\0 < h/\h<=n/\0<=l/\l<=n/\Cg n (p*k) h/\Cg n (q*k) l/\∀ c:Int,c ∣ h->c ∣ l->c ∣ n/\c ∣ k) ?_ NW (k % n).toNat _ _
    ⟨rfl,n,k % n,0,1,none,rfl,rfl,by omega,by omega,Int.emod_nonneg _ (by omega),Int.le_of_lt (Int.emod_lt_of_pos _ (by omega)),⟨-1,by grind⟩,?_,?_⟩ ?_).mono ?_
  · rintro m L _ ⟨rfl,h,l,p,q,t,rfl,rfl,h0,h1,l0,l1,c1,c2,hd⟩
    repeat decreasing_trivial_pre_omega
    refine ⟨fun hl=>?_,fun hl=>?_⟩
    · have hl:0 < l:=by simpa using hl
      have e:h - h / l*l=h % l:=by rw [Int.emod_def,Int.mul_comm]
      have ht0:0<=h / l:=Int.ediv_nonneg (by omega) (by omega)
      have ht1:h / l<=h:=Int.ediv_le_self _ (by omega)
      repeat decreasing_trivial_pre_omega
      rw [e]
      have em1:=Int.emod_nonneg h (by omega:l≠0)
      have em2:=Int.emod_lt_of_pos h hl
      refine ⟨(h % l).toNat,by omega,rfl,l,h % l,q,p - h / l*q,_,rfl,rfl,hl,by omega,em1,by omega,c2,?_,?_⟩
      · rw [<- e]
        exact (Cg.of_eq (by grind)).trans (Cg.sub c1 (Cg.mul (Cg.rfl (a:=h / l)) c2))
      · intro c g1 g2
        refine hd c ?_ g1
        have:=Int.dvd_add g2 (Int.dvd_trans g1 (Int.dvd_mul_left (h / l) l))
        rwa [<- e,show h - h / l*l+h / l*l=h by omega] at this
    · have hl:l=0:=by simp at hl; omega
      subst hl
      have:=hd h (Int.dvd_refl h) (Int.dvd_zero h)
      exact ⟨rfl,h,p,q,t,rfl,h0,h1,c1,this.1,this.2⟩
  · exact (Cg.of_eq (by grind)).trans (Cg.mod (a:=k)).symm
  · intro c g1 g2
    refine ⟨g1,?_⟩
    have:=Int.dvd_add g2 (Int.dvd_trans g1 (Int.dvd_mul_right n (k / n)))
    rwa [Int.emod_add_mul_ediv] at this
  · rw [NW_eq]; have:=Int.emod_lt_of_pos k (by omega:0 < n); omega
  · rintro _ _ ⟨rfl,h,p,q,t,rfl,h0,h1,c1,d1,d2⟩
    have pn:=Int.emod_nonneg p (by omega:n≠0)
    have pl:=Int.emod_lt_of_pos p (by omega:0 < n)
    repeat decreasing_trivial_pre_omega
    refine ok_ifn (fun hh=>?_) (fun hh=>?_)
    · subst hh
      repeat decreasing_trivial_pre_omega
      refine ⟨by simp,.inl ⟨p % n,⟨pn,pl,?_⟩,rfl⟩⟩
      exact Cg.emod ((Cg.mul Cg.rfl Cg.mod).trans ((Cg.of_eq (Int.mul_comm _ _)).trans c1))
    · repeat decreasing_trivial_pre_omega
      refine ⟨by simp,.inr ⟨?_,rfl⟩⟩
      rintro ⟨v,v0,v1,e⟩
      obtain ⟨z,hz⟩:=Cg.of e
      have:h ∣ 1:=by
        have g1:h ∣ k*v:=Int.dvd_mul_of_dvd_left d2
        rw [hz] at g1
        exact (Int.dvd_add_left (Int.dvd_mul_of_dvd_left d1)).mp g1
      have:=Int.le_of_dvd (by omega) this
      omega
theorem l_inverse_spec {n k:Int} {M:Mm} (hn:2<=n) (hn2:n<=1000000) (hu:∃ v,IsIv n k v):Ok (F_l_inverse [.d (.int n),.d (.int k)] M) fun w M'=>w=.d (.int (iv n k))/\M'=M:=by
  unfold F_l_inverse
  refine ok_fn rfl ?_
  unfold b_l_inverse
  repeat decreasing_trivial_pre_omega
  refine (while_inv (QS:=fun o M'=>M'=M/\∃ h p q t,o=.nx [some (.d (.int n)),some (.d (.int k)),some (.d (.int h)),some (.d (.int 0)),some (.d (.int p)),some (.d (.int q)),t]/\0 < h/\h<=n/\Cg n (p*k) h/\h ∣ n/\h ∣ k)
    (I:=fun m L M'=>M'=M/\∃ (h l p q:Int) (t:Option W),L=[some (.d (.int n)),some (.d (.int k)),some (.d (.int h)),some (.d (.int l)),some (.d (.int p)),some (.d (.int q)),t]/\m=l.toNat/\0 < h/\h<=n/\0<=l/\l<=n/\Cg n (p*k) h/\Cg n (q*k) l/\∀ c:Int,c ∣ h->c ∣ l->c ∣ n/\c ∣ k) ?_ NW (k % n).toNat _ _
    ⟨rfl,n,k % n,0,1,none,rfl,rfl,by omega,by omega,Int.emod_nonneg _ (by omega),Int.le_of_lt (Int.emod_lt_of_pos _ (by omega)),⟨-1,by grind⟩,?_,?_⟩ ?_).mono ?_
  · rintro m L _ ⟨rfl,h,l,p,q,t,rfl,rfl,h0,h1,l0,l1,c1,c2,hd⟩
    repeat decreasing_trivial_pre_omega
    refine ⟨fun hl=>?_,fun hl=>?_⟩
    · have hl:0 < l:=by simpa using hl
      have e:h - h / l*l=h % l:=by rw [Int.emod_def,Int.mul_comm]
      have ht0:0<=h / l:=Int.ediv_nonneg (by omega) (by omega)
      have ht1:h / l<=h:=Int.ediv_le_self _ (by omega)
      repeat decreasing_trivial_pre_omega
      rw [e]
      have em1:=Int.emod_nonneg h (by omega:l≠0)
      have em2:=Int.emod_lt_of_pos h hl
      refine ⟨(h % l).toNat,by omega,rfl,l,h % l,q,p - h / l*q,_,rfl,rfl,hl,by omega,em1,by omega,c2,?_,?_⟩
      · rw [<- e]
        exact (Cg.of_eq (by grind)).trans (Cg.sub c1 (Cg.mul (Cg.rfl (a:=h / l)) c2))
      · intro c g1 g2
        refine hd c ?_ g1
        have:=Int.dvd_add g2 (Int.dvd_trans g1 (Int.dvd_mul_left (h / l) l))
        rwa [<- e,show h - h / l*l+h / l*l=h by omega] at this
    · have hl:l=0:=by simp at hl; omega
      subst hl
      have:=hd h (Int.dvd_refl h) (Int.dvd_zero h)
      exact ⟨rfl,h,p,q,t,rfl,h0,h1,c1,this.1,this.2⟩
  · exact (Cg.of_eq (by grind)).trans (Cg.mod (a:=k)).symm
  · intro c g1 g2
    refine ⟨g1,?_⟩
    have:=Int.dvd_add g2 (Int.dvd_trans g1 (Int.dvd_mul_right n (k / n)))
    rwa [Int.emod_add_mul_ediv] at this
  · rw [NW_eq]; have:=Int.emod_lt_of_pos k (by omega:0 < n); omega
  · rintro _ _ ⟨rfl,h,p,q,t,rfl,h0,h1,c1,d1,d2⟩
    have pn:=Int.emod_nonneg p (by omega:n≠0)
    have pl:=Int.emod_lt_of_pos p (by omega:0 < n)
    have h1:h=1:=by
      obtain ⟨v,v0,v1,e⟩:=hu
      obtain ⟨z,hz⟩:=Cg.of e
      have:h ∣ 1:=by
        have g1:h ∣ k*v:=Int.dvd_mul_of_dvd_left d2
        rw [hz] at g1
        exact (Int.dvd_add_left (Int.dvd_mul_of_dvd_left d1)).mp g1
      have:=Int.le_of_dvd (by omega) this
      omega
    subst h1
    repeat decreasing_trivial_pre_omega
    rw [iv_of (n:=n) (u:=k) (v:=p % n) ⟨pn,pl,Cg.emod ((Cg.mul Cg.rfl Cg.mod).trans ((Cg.of_eq (Int.mul_comm _ _)).trans c1))⟩]
    exact ⟨rfl,by simp⟩
theorem alike_spec {M:Mm} {d:D} (hl:noL d=true) (hs:sz d<=16777216):Ok (F_l_alike [.d d,.d d] M) fun w M'=>w=.d (.bl true)/\M'=M:=by
  refine ok_fn rfl ?_
  unfold b_l_alike
  repeat decreasing_trivial_pre_omega
  refine (while_inv (QS:=fun o M'=>∃ a b,o=.nx [some (.d d),some (.d d),some (.ref M.length),a,b]/\∃ s,M'=M++[s]) (I:=fun m L M'=>∃ (ds:List D) (a b:Option W),m=szs ds/\(∀ x∈ds,noL x=true)/\m<=16777216/\M'=M++[ds.map fun x=>.tup [x,x]]/\L=[some (.d d),some (.d d),some (.ref M.length),a,b]) ?_ NW (sz d) _ _ ⟨[d],none,none,by simp [szs],by simpa using hl,hs,rfl,rfl⟩ (by rw [NW_eq]; omega)).mono ?_
  · rintro m L M' ⟨ds,a,b,rfl,hn,hm,rfl,rfl⟩
    have g:(M++[ds.map fun x=>D.tup [x,x]])[M.length]?=some (ds.map fun x=>.tup [x,x]):=by simp
    repeat decreasing_trivial_pre_omega
    refine ⟨fun h=>?_,fun h=>⟨a,b,rfl,_,rfl⟩⟩
    have hne:ds≠[]:=by rintro rfl; simp at h
    obtain ⟨ds',x,rfl⟩:∃ ds' x,ds=ds'++[x]:=⟨ds.dropLast,ds.getLast hne,(List.dropLast_concat_getLast hne).symm⟩
    have hx:noL x=true:=hn x (by simp)
    have hn':∀ y∈ds',noL y=true:=fun y hy=>hn y (by simp [hy])
    rw [szs_append] at hm ⊢
    have se:szs [x]=sz x:=by simp [szs]
    rw [se] at hm ⊢
    have hp:=sz_pos x
    repeat decreasing_trivial_pre_omega
    refine ok_pop (xs:=ds'.map fun x=>.tup [x,x]) (d:=.tup [x,x]) (by simp) ?_
    rw [show (M++[(ds'++[x]).map fun x=>D.tup [x,x]]).set M.length (ds'.map fun x=>.tup [x,x])=M++[ds'.map fun x=>.tup [x,x]] by simp]
    have g':(M++[ds'.map fun x=>D.tup [x,x]])[M.length]?=some (ds'.map fun x=>.tup [x,x]):=by simp
    repeat decreasing_trivial_pre_omega
    cases x with
    | tup xs =>
      repeat decreasing_trivial_pre_omega
      refine ok_ifF (by simp) ?_
      repeat decreasing_trivial_pre_omega
      have hz:szs xs+1=sz (.tup xs):=by simp [sz]
      refine ok_zip rfl rfl ?_
      have hle:=len_szs xs
      have hle':=len_szs ds'
      refine ok_extend (xs:=ds'.map fun x=>.tup [x,x]) (ys:=zipT xs xs) g' rfl (by simp [zipT]; omega) ?_
      rw [show zipT xs xs=xs.map (fun x=>.tup [x,x]) by unfold zipT; clear hz hle hle' hx hn hm g h hne se hp; induction xs with | nil=>rfl | cons a t ih=>rw [List.zip_cons_cons,List.map_cons,List.map_cons,ih]]
      refine ⟨szs ds'+szs xs,by omega,ds'++xs,_,_,by rw [szs_append],?_,by omega,by simp,rfl⟩
      intro y hy
      rcases List.mem_append.mp hy with hy | hy
      · exact hn' y hy
      · exact noL_mem hx hy
    | non =>
      repeat decreasing_trivial_pre_omega
      refine ok_ne (a:=.non) (b:=.non) rfl rfl (by simp [dep,deps]) ?_
      repeat decreasing_trivial_pre_omega
      exact ⟨szs ds',by omega,ds',_,_,rfl,hn',by omega,rfl,rfl⟩
    | bl b =>
      repeat decreasing_trivial_pre_omega
      refine ok_ifF (by simp) ?_
      repeat decreasing_trivial_pre_omega
      exact ⟨szs ds',by omega,ds',_,_,rfl,hn',by omega,rfl,rfl⟩
    | int b =>
      repeat decreasing_trivial_pre_omega
      refine ok_ifF (by simp) ?_
      repeat decreasing_trivial_pre_omega
      exact ⟨szs ds',by omega,ds',_,_,rfl,hn',by omega,rfl,rfl⟩
    | str b =>
      repeat decreasing_trivial_pre_omega
      refine ok_ifF (by simp) ?_
      repeat decreasing_trivial_pre_omega
      exact ⟨szs ds',by omega,ds',_,_,rfl,hn',by omega,rfl,rfl⟩
    | lst b=>simp [noL] at hx
    | fz b=>simp [noL] at hx
    | exn c f b=>simp [noL] at hx
  · rintro o M' ⟨a,b,rfl,s,rfl⟩
    repeat decreasing_trivial_pre_omega
    exact by simp
inductive IsS (g:Int):Nat->D->Prop
  | yes (k:Nat) (i:Int) (l:0<=i) (u:i < g):IsS g k (.tup [.str "yes",.int i])
  | nt (k:Nat) (a:D) (ha:IsS g k a):IsS g (k+1) (.tup [.str "not",a])
  | two (k:Nat) (w:Str) (a b:D) (h:w="and"\/w="or") (ha:IsS g k a) (hb:IsS g k b):IsS g (k+1) (.tup [.str w,a,b])
  | least (k:Nat) (m:Int) (xs:List D) (h0:0<=m) (h6:m<=6) (h1:1<=xs.length) (hl:xs.length<=5) (hx:∀ x∈xs,IsS g k x):IsS g (k+xs.length) (.tup [.str "least",.int m,.tup xs])
theorem IsS.up {g:Int} {k:Nat} {d:D} (h:IsS g k d):∀ {n:Nat},k<=n->IsS g n d:=by
  induction h with
  | yes k i l u=>intro n _; exact .yes _ _ l u
  | nt k a ha ih =>
    intro n hn
    obtain ⟨m,rfl⟩:∃ m,n=m+1:=⟨n - 1,by omega⟩
    exact .nt _ _ (ih (by omega))
  | two k w a b h ha hb iha ihb =>
    intro n hn
    obtain ⟨m,rfl⟩:∃ m,n=m+1:=⟨n - 1,by omega⟩
    exact .two _ _ _ _ h (iha (by omega)) (ihb (by omega))
  | least k m xs h0 h6 h1 hl hx ih =>
    intro n hn
    obtain ⟨m,rfl⟩:∃ m,n=m+xs.length:=⟨n - xs.length,by omega⟩
    exact .least _ _ _ h0 h6 h1 hl fun x h=>ih x h (by omega)
theorem saying_spec:∀ (k:Nat) (fuel:Nat) (M:Mm) (b:Nat) (g r:Int),Bx M b->0 < g->g < 1000->0 < r->r=k->k < 100->k < fuel->Ok (F_l_saying fuel [.ref b,.d (.int g),.d (.int r)] M) fun w M'=>∃ d,w=.d d/\IsS g k d/\Nx b M M':=by
  intro k
  induction k using Nat.strongRecOn with
  | ind k ih =>
  intro fuel M b g r hb g0 g1 r0 he hk hf
  obtain ⟨f,rfl⟩:∃ f,fuel=f+1:=⟨fuel - 1,by omega⟩
  subst he
  have n:=Nx.refl hb
  unfold F_l_saying
  refine ok_fn rfl ?_
  unfold b_l_saying
  repeat decreasing_trivial_pre_omega
  (refine (take_spec hb (by omega) (by omega)).mono ?_; rintro _ _ ⟨d1,rfl,l_d1,u_d1,n'⟩; replace n:=n.trans n'; replace hb:=n'.bx hb; clear n')
  rename_i M1
  refine ok_gN (ok_seq (ok_sIf (Ok.mono (Q:=fun c M2=>M2=M1/\(c=false->2<=k/\d1≠0)) ?_ ?_)))
  · repeat decreasing_trivial_pre_omega
    refine ⟨fun h=>⟨rfl,fun h=>by simp at h⟩,fun h=>?_⟩
    repeat decreasing_trivial_pre_omega
    refine ⟨rfl,fun h'=>⟨by have:¬ (k:Int) < 2:=by simpa using h
                            omega,by simpa using h'⟩⟩
  rintro c M1' ⟨rfl,hc⟩
  refine ok_if (fun h=>?_) (fun h=>?_)
  · repeat decreasing_trivial_pre_omega
    (refine (take_spec hb (by omega) (by omega)).mono ?_; rintro _ _ ⟨d2,rfl,l_d2,u_d2,n'⟩; replace n:=n.trans n'; replace hb:=n'.bx hb; clear n')
    repeat decreasing_trivial_pre_omega
    rw [n.take]
    exact ⟨.yes _ _ l_d2 u_d2,n⟩
  obtain ⟨h2,h1⟩:=hc h
  obtain ⟨k',rfl⟩:∃ k',k=k'+1:=⟨k - 1,by omega⟩
  clear hc h
  repeat decreasing_trivial_pre_omega
  refine ok_ifd (fun h=>?_) (fun h=>?_)
  · repeat decreasing_trivial_pre_omega
    refine (ih k' (by omega) f _ b g _ hb g0 g1 (by omega) (by omega) (by omega) (by omega)).mono ?_
    rintro _ _ ⟨a1,rfl,i1,n'⟩
    replace n:=n.trans n'
    repeat decreasing_trivial_pre_omega
    rw [n.take]
    exact ⟨.nt _ _ i1,n⟩
  refine ok_nil (ok_seq (ok_sIf (Ok.mono (Q:=fun c M2=>M2=M1'/\(c=false->3<=k'+1/\4<=d1)) ?_ ?_)))
  · repeat decreasing_trivial_pre_omega
    refine ⟨fun h=>⟨rfl,fun h=>by simp at h⟩,fun h=>?_⟩
    repeat decreasing_trivial_pre_omega
    refine ⟨rfl,fun h'=>⟨by have:¬ ((k'+1:Nat):Int) < 3:=by simpa using h
                            omega,by simpa using h'⟩⟩
  rintro c _ ⟨rfl,hc⟩
  refine ok_if (fun h=>?_) (fun h=>?_)
  · repeat decreasing_trivial_pre_omega
    have hmin:0 < (if ((k'+1:Nat):Int) - 1 < 5 then ((k'+1:Nat):Int) - 1 else 5):=by split <;> omega
    refine (take_spec hb hmin (by split <;> omega)).mono ?_
    rintro _ M2 ⟨d2,rfl,l2,u2,n'⟩
    replace n:=n.trans n'
    replace hb:=n'.bx hb
    clear n'
    have u2':d2 < 5/\d2 < k':=by revert u2; split <;> intro u2 <;> omega
    repeat decreasing_trivial_pre_omega
    refine ⟨by simp only [in62,decide_eq_true_eq]; omega,?_⟩
    refine forD_inv (fun i L M'=>∃ (Mi:Mm) (acc:List D) (left:Int) (a c e:Option W),L=[some (.ref b),some (.d (.int g)),some (.d (.int ((k'+1:Nat):Int))),some (.d (.int d1)),some (.d (.int (1+d2))),some (.ref M2.length),some (.d (.int left)),a,c,e]/\M'=Mi++[acc]/\Nx b M Mi/\Bx Mi b/\Mi.length=M2.length/\acc.length=i/\(∀ x∈acc,IsS g (k' - d2.toNat) x)/\(1+d2) - i<=left/\left<=(k':Int) - i) ⟨M2,[],_,none,none,none,rfl,rfl,n,hb,rfl,rfl,by simp,by omega,by omega⟩ (fun i L M _ _ t e=>by cases e) ?_ ?_
    · clear n hb
      rintro i d _ _ hd ⟨Mi,acc,left,a,c,e,rfl,rfl,n,hb,hlen,ha,hacc,hl1,hl2⟩
      obtain ⟨hi,rfl⟩:=rngD_get hd
      have bl:=hb.lt
      repeat decreasing_trivial_pre_omega
      refine (take_spec (hb.app (J:=[acc])) (by omega) (by omega)).mono ?_
      rintro _ _ ⟨d3,rfl,l3,u3,n'⟩
      obtain ⟨M3,rfl,n3⟩:=n'.unapp bl
      have hb3:=n3.bx hb
      repeat decreasing_trivial_pre_omega
      refine (ih (1+d3).toNat (by omega) f _ b g _ (hb3.app (J:=[acc])) g0 g1 (by omega) (Int.toNat_of_nonneg (by omega)).symm (by omega) (by omega)).mono ?_
      rintro _ _ ⟨a1,rfl,i1,n''⟩
      obtain ⟨M4,rfl,n4⟩:=n''.unapp hb3.lt
      have e4:M2.length=M4.length:=by rw [n4.len,n3.len,hlen]
      repeat decreasing_trivial_pre_omega
      refine ok_append (xs:=acc) (by rw [e4]; simp) (by omega) ?_
      rw [show (M4++[acc]).set M2.length (acc++[a1])=M4++[acc++[a1]] by rw [e4]; simp]
      repeat decreasing_trivial_pre_omega
      refine ⟨M4,_,_,_,_,_,rfl,rfl,(n.trans n3).trans n4,n4.bx hb3,e4.symm,by simp [ha],?_,by simp only [Int.natCast_add]; omega,by omega⟩
      intro x hx
      rcases List.mem_append.mp hx with hx | hx
      · exact hacc x hx
      · rw [List.mem_singleton.mp hx]; exact i1.up (by omega)
    · clear n hb
      rintro _ _ ⟨Mi,acc,left,a,c,e,rfl,rfl,n,hb,hlen,ha,hacc,hl1,hl2⟩
      have hal1:1<=acc.length:=by rw [ha]; simp only [rngD,List.length_map,List.length_range]; omega
      have hal:acc.length<=5:=by rw [ha]; simp only [rngD,List.length_map,List.length_range]; omega
      repeat decreasing_trivial_pre_omega
      refine (take_spec (hb.app (J:=[acc])) (by omega) (by omega)).mono ?_
      rintro _ _ ⟨d3,rfl,l3,u3,n'⟩
      obtain ⟨M3,rfl,n3⟩:=n'.unapp hb.lt
      have e3:M2.length=M3.length:=by rw [n3.len,hlen]
      repeat decreasing_trivial_pre_omega
      refine ok_tup (xs:=acc) (by simp only [sv,lr,lv]; rw [e3]; simp) ?_
      repeat decreasing_trivial_pre_omega
      have n5:=n.trans n3
      rw [show List.take M.length (M3++[acc])=M3 by rw [<- n5.len]; simp]
      have il:=IsS.least (k' - d2.toNat) d3 acc l3 (by omega) hal1 hal hacc
      have hal2:acc.length=(1+d2).toNat:=by rw [ha]; simp only [rngD,List.length_map,List.length_range]
      rw [show k' - d2.toNat+acc.length=k'+1 by omega] at il
      exact ⟨il,n5⟩
  · obtain ⟨h3,h4⟩:=hc h
    repeat decreasing_trivial_pre_omega
    (refine (take_spec hb (by omega) (by omega)).mono ?_; rintro _ _ ⟨d2,rfl,l_d2,u_d2,n'⟩; replace n:=n.trans n'; replace hb:=n'.bx hb; clear n')
    repeat decreasing_trivial_pre_omega
    refine (ih _ (by omega) f _ b g _ hb g0 g1 (by omega) (Int.toNat_of_nonneg (by omega)).symm (by omega) (by omega)).mono ?_
    rintro _ _ ⟨a1,rfl,i1,n'⟩
    replace n:=n.trans n'
    replace hb:=n'.bx hb
    clear n'
    repeat decreasing_trivial_pre_omega
    obtain ⟨w,ew,hw⟩:=at2 (d:=d1 - 4) (by omega) (by omega) (.str "and") (.str "or")
    refine ok_ixL ew ?_
    repeat decreasing_trivial_pre_omega
    refine (ih _ (by omega) f _ b g _ hb g0 g1 (by omega) (Int.toNat_of_nonneg (by omega)).symm (by omega) (by omega)).mono ?_
    rintro _ _ ⟨a2,rfl,i2,n'⟩
    replace n:=n.trans n'
    repeat decreasing_trivial_pre_omega
    rw [n.take]
    have hw':∃ s,w=.str s/\(s="and"\/s="or"):=by
      rcases hw with rfl | rfl
      · exact ⟨_,rfl,by simp⟩
      · exact ⟨_,rfl,by simp⟩
    obtain ⟨s,rfl,hs⟩:=hw'
    exact ⟨.two _ _ _ _ hs (i1.up (by omega)) (i2.up (by omega)),n⟩
noncomputable def diff:List Int->List Int
  | a::b::r=>(b - a)::diff (b::r)
  | _=>[]
noncomputable def bin:Nat->Nat->Nat
  | _,0=>1
  | 0,_+1=>0
  | t+1,i+1=>bin t i+bin t (i+1)
noncomputable def fac:Nat->Nat
  | 0=>1
  | i+1=>(i+1)*fac i
noncomputable def dN:Nat->List Int->List Int
  | 0,r=>r
  | i+1,r=>diff (dN i r)
theorem diff_length:∀ r:List Int,(diff r).length=r.length - 1
  | []=>rfl
  | [_]=>rfl
  | a::b::r=>by simp only [diff,List.length_cons,diff_length (b::r)]; omega
theorem dN_length (i:Nat) (r:List Int):(dN i r).length=r.length - i:=by
  induction i with
  | zero=>rfl
  | succ i ih=>simp only [dN,diff_length,ih]; omega
theorem diff_get:∀ {l:List Int} {i:Nat} {a b:Int},l[i]?=some a->l[i+1]?=some b->(diff l)[i]?=some (b - a)
  | [],i,a,b,h,_=>by simp at h
  | [_],i,a,b,_,h=>by simp at h
  | x::y::r,0,a,b,h1,h2=>by simp at h1 h2; subst h1 h2; rfl
  | x::y::r,i+1,a,b,h1,h2=>by
    have:=diff_get (l:=y::r) (i:=i) (by simpa using h1) (by simpa using h2)
    simpa [diff] using this
theorem diff_bd {B:Int}:∀ {l:List Int},(∀ x∈l,-B<=x/\x<=B)->∀ x∈diff l,-(2*B)<=x/\x<=2*B
  | [],_,x,h=>by simp [diff] at h
  | [_],_,x,h=>by simp [diff] at h
  | a::b::r,hb,x,h=>by
    simp only [diff,List.mem_cons] at h
    rcases h with rfl | h
    · have h1:=hb a (by simp); have h2:=hb b (by simp); omega
    · exact diff_bd (l:=b::r) (fun y hy=>hb y (by simp only [List.mem_cons] at hy ⊢; exact .inr hy)) x h
theorem dN_bd {l:List Int} (h:∀ x∈l,0<=x/\x<=1):∀ i:Nat,∀ x∈dN i l,-(2 ^ i:Int)<=x/\x<=2 ^ i
  | 0,x,hx=>by have:=h x hx; simp only [Int.pow_zero]; omega
  | i+1,x,hx=>by
    have:=diff_bd (dN_bd h i) x hx
    rw [Int.pow_succ]
    omega
noncomputable def NoI (j:Int):D:=.exn "NoInverse" "number" [.int j]
theorem inverse_of_spec {n j:Int} {M:Mm} (hn:2<=n) (hn2:n<=1000000):Okx (fun x M'=>x=NoI j/\(¬ ∃ v,IsIv n j v)/\M'=M) (F_inverse_of [.d (.int n),.d (.int j)] M) fun w M'=>(∃ v,w=.d (.int v)/\IsIv n j v)/\M'=M:=by
  unfold F_inverse_of
  refine ok_fnX rfl ?_
  unfold b_inverse_of
  repeat decreasing_trivial_pre_omega
  refine (inverse_spec hn hn2).mono ?_
  rintro _ M ⟨rfl,h' | h'⟩
  · obtain ⟨v,hv,rfl⟩:=h'
    repeat decreasing_trivial_pre_omega
    refine ok_ifF (by simp [isN]) ?_
    repeat decreasing_trivial_pre_omega
    exact ⟨⟨v,rfl,hv⟩,by simp⟩
  · obtain ⟨h',rfl⟩:=h'
    repeat decreasing_trivial_pre_omega
    exact ⟨rfl,h',by simp⟩
noncomputable def ovf (n:Int):Nat->Int
  | 0=>1
  | t+1=>ovf n t*iv n (1+(t:Nat)) % n
noncomputable def uN (n:Int) (row:List Int):Nat->Int
  | 0=>row.getD 0 0 % n
  | t+1=>(dN (t+1) row).getD 0 0*ovf n (t+1) % n
theorem step_spec {n:Int} {row:List Int} {M:Mm} (hn:2<=n) (hn2:n<=1000000) (h1:1<=row.length) (h6:row.length<=6) (hr:∀ x∈row,0<=x/\x<=1) :
    Okx (fun x M'=>(∃ j:Nat,1<=j/\j < row.length/\(∀ i:Nat,1<=i->i < j->∃ v,IsIv n i v)/\(¬ ∃ v,IsIv n j v)/\x=NoI j)/\M'=M) (F_step_numbers [.d (.int n),.d (.lst (row.map D.int))] M) fun w M'=>(∃ us:List Int,w=.d (.lst (us.map D.int))/\us=(List.range row.length).map (uN n row)/\us.length=row.length/\(∀ x∈us,0<=x/\x < n)/\∀ j:Nat,1<=j->j < row.length->∃ v,IsIv n j v)/\M'=M:=by
  unfold F_step_numbers
  refine ok_fnX rfl ?_
  unfold b_step_numbers
  have g0:atI (row.map D.int) 0=some (.int (row.getD 0 0)):=get_int (i:=0) (by omega)
  have b0:=hr (row.getD 0 0) (by simp [List.getD,List.getElem?_eq_getElem (show 0 < row.length by omega)])
  repeat decreasing_trivial_pre_omega
  refine ok_ixL g0 ?_
  repeat decreasing_trivial_pre_omega
  refine ⟨1,_,rfl,rfl,⟨by decide,by simp only [in62,decide_eq_true_eq,List.length_map]; omega⟩,?_⟩
  refine forD_inv (fun t L M'=>∃ (us:List Int) (ov:Int) (o5:Option W),M'=M++[us.map D.int]/\us=(List.range (1+t)).map (uN n row)/\ov=ovf n t/\us.length=1+t/\(∀ x∈us,0<=x/\x < n)/\(∀ j:Nat,1<=j->j < 1+t->∃ v,IsIv n j v)/\0<=ov/\ov < n/\L=[some (.d (.int n)),some (.d (.lst (row.map D.int))),some (.ref M.length),some (.d (.lst ((dN t row).map D.int))),some (.d (.int ov)),o5])
    ⟨[row.getD 0 0 % n],1,_,rfl,rfl,rfl,rfl,?_,fun j h1 h2=>by omega,by omega,by omega,rfl⟩ (fun i L M _ _ t e=>by cases e) ?_ ?_
  · intro x hx
    rw [List.mem_singleton.mp hx]
    exact ⟨Int.emod_nonneg _ (by omega),Int.emod_lt_of_pos _ (by omega)⟩
  · rintro t d _ _ hd ⟨us,ov,o5,rfl,eus,eov,ul,ur,uc,ov0,ov1,rfl⟩
    obtain ⟨ht,rfl⟩:=rngD_get hd
    have ht:t+1 < row.length:=by simp only [List.length_map] at ht; omega
    have dl:(dN t row).length=row.length - t:=dN_length t row
    have dl1:(dN (t+1) row).length=row.length - (t+1):=dN_length (t+1) row
    have c1:cut ((dN t row).map D.int) (some ((1:Nat):Int)) none=((dN t row).map D.int).drop 1:=cut_hi (by simp; omega)
    repeat decreasing_trivial_pre_omega
    refine comp_inv (fun i acc L' M'=>acc=((dN (t+1) row).take i).map D.int/\M'=M++[us.map D.int]/\∃ a b,L'=[a,b]) ?_
    repeat decreasing_trivial_pre_omega
    refine ok_slL (xs:=(dN t row).map D.int) (fun z h=>by cases h) rfl ?_
    rw [show (some (1:Int))=some ((1:Nat):Int) from rfl,c1]
    refine ⟨_,_,rfl,rfl,⟨rfl,rfl,none,none,rfl⟩,?_,by simp [zipT_length]; omega,?_,?_⟩
    · rintro i acc L' M' hi ⟨rfl,rfl,_⟩
      exact ⟨rfl,(fun t e=>by cases e),by simp; omega⟩
    · rintro i d acc _ _ hx ⟨rfl,rfl,a,b,rfl⟩
      obtain ⟨x,y,hx1,hx2,rfl⟩:=zipT_get hx
      simp only [List.getElem?_map,List.getElem?_drop,Option.map_eq_some_iff] at hx1 hx2
      obtain ⟨x,ex,rfl⟩:=hx1
      obtain ⟨y,ey,rfl⟩:=hx2
      rw [Nat.add_comm] at ey
      repeat decreasing_trivial_pre_omega
      refine ⟨_,_,rfl,rfl,?_,rfl,_,_,rfl⟩
      have:(dN (t+1) row)[i]?=some (y - x):=diff_get ex ey
      rw [List.take_add_one,this]
      simp
    rintro acc _ _ ⟨rfl,rfl,a,b,rfl⟩
    rw [List.take_of_length_le (by simp [zipT_length]; omega)]
    repeat decreasing_trivial_pre_omega
    refine (inverse_of_spec hn hn2).monoX ?_ ?_
    rotate_left
    · rintro _ _ ⟨rfl,nv,rfl⟩
      exact ⟨⟨1+t,by omega,by omega,uc,by simpa using nv,by simp⟩,by simp⟩
    rintro _ _ ⟨⟨v,rfl,v0,v1,vv⟩,rfl⟩
    have gd:atI ((dN (t+1) row).map D.int) 0=some (.int ((dN (t+1) row).getD 0 0)):=get_int (i:=0) (by omega)
    have bd:=dN_bd hr (t+1) ((dN (t+1) row).getD 0 0) (by simp [List.getD,List.getElem?_eq_getElem (show 0 < (dN (t+1) row).length by omega)])
    have p64:(2 ^ (t+1):Int)<=64:=by
      have:t=0\/t=1\/t=2\/t=3\/t=4:=by omega
      rcases this with rfl | rfl | rfl | rfl | rfl <;> decide
    have m0:=Int.emod_nonneg (ov*v) (by omega:n≠0)
    have m1:=Int.emod_lt_of_pos (ov*v) (by omega:0 < n)
    repeat decreasing_trivial_pre_omega
    refine ok_ixL gd ?_
    repeat decreasing_trivial_pre_omega
    refine ok_append (xs:=us.map D.int) (by simp) (by simp; omega) ?_
    repeat decreasing_trivial_pre_omega
    have ev:iv n (1+(t:Int))=v:=iv_of ⟨v0,v1,vv⟩
    have eo:ov*v % n=ovf n (t+1):=by simp only [ovf]; rw [<- eov,ev]
    refine ⟨us++[(dN (t+1) row).getD 0 0*(ov*v % n) % n],ov*v % n,_,by simp,?_,eo,by simp [ul]; omega,?_,?_,m0,m1,rfl⟩
    · rw [show 1+(t+1)=(1+t)+1 by omega,List.range_succ,List.map_append,<- eus,eo,Nat.add_comm 1 t]; rfl
    · intro x hx
      rcases List.mem_append.mp hx with hx | hx
      · exact ur x hx
      · rw [List.mem_singleton.mp hx]
        exact ⟨Int.emod_nonneg _ (by omega),Int.emod_lt_of_pos _ (by omega)⟩
    · intro j h1 h2
      by_cases h:j < 1+t
      · exact uc j h1 h
      · have:j=1+t:=by omega
        subst this
        exact ⟨v,v0,v1,by simpa using vv⟩
  · rintro _ _ ⟨us,ov,o5,rfl,eus,eov,ul,ur,uc,ov0,ov1,rfl⟩
    simp only [rngD,List.length_map,List.length_range] at ul uc
    have e:1+((row.length:Int) - 1).toNat=row.length:=by omega
    rw [show (rngD 1 (((row.map D.int).length:Int) - 1).toNat).length=row.length - 1 by simp [rngD]] at eus
    rw [show 1+(row.length - 1)=row.length by omega] at eus
    rw [e] at ul uc
    repeat decreasing_trivial_pre_omega
    show Ok (retc M.length (.ref M.length) (M++[us.map D.int])) _
    unfold retc
    simp only [Nat.lt_irrefl,if_false,List.getElem?_append_right (Nat.le_refl _),Nat.sub_self,List.getElem?_cons_zero]
    exact ok_ok ⟨⟨us,rfl,eus,ul,ur,uc⟩,by simp⟩
theorem iv_is {n u:Int} (h:∃ v,IsIv n u v):IsIv n u (iv n u):=by obtain ⟨v,h⟩:=h; rw [iv_of h]; exact h
theorem ovf_iv {n:Int} (hn:2<=n):∀ t:Nat,(∀ j:Nat,1<=j->j < 1+t->∃ v,IsIv n j v)->IsIv n (fac t) (ovf n t)
  | 0,_=>⟨by simp [ovf],by simp [ovf]; omega,by simp only [ovf,fac]; exact Cg.rfl.emod⟩
  | t+1,h=>by
    obtain ⟨o0,o1,oo⟩:=ovf_iv hn t fun j h1 h2=>h j h1 (by omega)
    obtain ⟨v0,v1,vv⟩:=iv_is (h (1+t) (by omega) (by omega))
    have e:((1+t:Nat):Int)=1+(t:Int):=by omega
    rw [e] at v0 v1 vv
    refine ⟨by simp only [ovf]; exact Int.emod_nonneg _ (by omega),by simp only [ovf]; exact Int.emod_lt_of_pos _ (by omega),?_⟩
    have c1:Cg n ((fac t:Int)*ovf n t) 1:=Cg.of oo
    have c2:Cg n ((1+(t:Int))*iv n (1+(t:Int))) 1:=Cg.of vv
    have:Cg n (((fac (t+1):Nat):Int)*ovf n (t+1)) 1:=by
      simp only [ovf]
      refine (Cg.rfl.mul Cg.mod).trans ((Cg.of_eq ?_).trans ((c1.mul c2).trans (Cg.of_eq (by simp))))
      simp only [fac,Int.natCast_mul,Int.natCast_add,Int.natCast_one]
      grind
    exact this.emod
noncomputable def tot (e:E) (r:List E):E:=r.foldl (fun t p=>.op .sum t p) e
noncomputable def tld (t:E) (us:Nat->Int) (m:Nat):Nat->E
  | 0=>.num (us m)
  | j+1=>.op .sum (.num (us (m - 1 - j))) (.op .times (.op .less t (.num ((m - 1 - j:Nat):Int))) (tld t us m j))
noncomputable def rowK (k:Int) (m:Nat):List Int:=(List.range (m+1)).map fun (j:Nat)=>if (j:Int)>=k then (1:Int) else 0
noncomputable def lst_e (n k:Int) (e:E) (r:List E):E:=tld (tot e r) (uN n (rowK k (r.length+1))) (r.length+1) (r.length+1)
theorem least_spec {n k:Int} {e0:E} {r:List E} (hn:2<=n) (hn2:n<=1000000) (h5:r.length<=4) (k0:0<=k) (k6:k<=6) {M:Mm} :
    Okx (fun x M'=>(∃ j:Nat,1<=j/\j<=r.length+1/\(∀ i:Nat,1<=i->i < j->∃ v,IsIv n i v)/\(¬ ∃ v,IsIv n j v)/\x=NoI j)/\M'=M) (F_said_least [.d (.int n),.d (.int k),.d (.lst ((e0::r).map enc))] M) fun w M'=>(w=.d (enc (lst_e n k e0 r))/\∀ j:Nat,1<=j->j<=r.length+1->∃ v,IsIv n j v)/\M'=M:=by
  have rl:(rowK k (r.length+1)).length=r.length+2:=by simp [rowK]
  unfold F_said_least
  refine ok_fnX rfl ?_
  unfold b_said_least
  repeat decreasing_trivial_pre_omega
  refine ok_ixL (at0 _ _) ?_
  repeat decreasing_trivial_pre_omega
  refine ok_slL (xs:=(e0::r).map enc) (x:=.d (.lst ((e0::r).map enc))) (fun z h=>by cases h) rfl ?_
  have c1:cut ((e0::r).map enc) (some ((1:Nat):Int)) none=r.map enc:=by rw [cut_hi (by simp)]; rfl
  rw [show (some (1:Int))=some ((1:Nat):Int) from rfl,c1]
  repeat decreasing_trivial_pre_omega
  refine forD_inv (fun t L M'=>M'=M/\∃ o5,L=[some (.d (.int n)),some (.d (.int k)),some (.d (.lst ((e0::r).map enc))),some (.d (.int ((e0::r).map enc).length)),some (.d (enc (tot e0 (r.take t)))),o5,none,none,none]) ⟨rfl,_,rfl⟩ (fun i L M _ _ t e=>by cases e) ?_ ?_
  · rintro t d _ M hd ⟨rfl,o5,rfl⟩
    simp only [List.getElem?_map,Option.map_eq_some_iff] at hd
    obtain ⟨x,ex,rfl⟩:=hd
    repeat decreasing_trivial_pre_omega
    have:tot e0 (r.take (t+1))=.op .sum (tot e0 (r.take t)) x:=by rw [List.take_add_one,ex]; simp [tot]
    rw [this]
    exact ⟨rfl,_,rfl⟩
  rintro _ M ⟨rfl,o5,rfl⟩
  rw [show r.take { ds:=r.map enc,k:=none:Src }.ds.length=r by simp]
  repeat decreasing_trivial_pre_omega
  refine comp_inv (fun i acc L' M'=>acc=(((List.range i).map fun (j:Nat)=>if (j:Int)>=k then (1:Int) else 0)).map D.int/\M'=M/\∃ a,L'=[a,some (.d (.int k))]) ?_
  repeat decreasing_trivial_pre_omega
  refine ⟨by simp only [in62,decide_eq_true_eq,List.length_map,List.length_cons]; omega,⟨rfl,rfl,none,rfl⟩,?_,by simp only [rngD,List.length_map,List.length_range,List.length_cons]; omega,?_,?_⟩
  · rintro i acc L' M' hi ⟨rfl,rfl,_⟩
    exact ⟨rfl,(fun t e=>by cases e),by simp⟩
  · rintro i d acc _ M hx ⟨rfl,rfl,a,rfl⟩
    obtain ⟨_,rfl⟩:=rngD_get hx
    repeat decreasing_trivial_pre_omega
    rw [show (0+(i:Int))=((i:Nat):Int) by omega]
    refine ok_ifd (fun h=>?_) (fun h=>?_)
    · repeat decreasing_trivial_pre_omega
      exact ⟨_,_,rfl,rfl,by rw [List.range_succ]; simp [h],rfl,_,rfl⟩
    · repeat decreasing_trivial_pre_omega
      exact ⟨_,_,rfl,rfl,by rw [List.range_succ]; simp [h],rfl,_,rfl⟩
  rintro acc _ M ⟨rfl,rfl,a,rfl⟩
  rw [show (rngD 0 ((((e0::r).map enc).length:Int)+1).toNat).length=r.length+2 by simp [rngD]; omega]
  repeat decreasing_trivial_pre_omega
  refine (step_spec (row:=rowK k (r.length+1)) hn hn2 (by omega) (by omega) ?_).monoX ?_ ?_
  rotate_left 2
  · rintro _ _ ⟨⟨j,j1,j2,j3,j4,rfl⟩,rfl⟩
    exact ⟨⟨j,j1,by omega,j3,j4,rfl⟩,by simp⟩
  · intro x hx
    obtain ⟨j,_,rfl⟩:=List.mem_map.mp hx
    split <;> omega
  rintro _ M ⟨⟨us,rfl,eus,ul,ur,uc⟩,rfl⟩
  have ug:∀ i,i<=r.length+1->us.getD i 0=uN n (rowK k (r.length+1)) i:=by
    intro i hi
    rw [eus,rl]
    simp [List.getD,List.getElem?_range (show i < r.length+2 by omega)]
  have um:∀ i,i<=r.length+1->us.getD i 0∈us:=by
    intro i hi
    simp [List.getD,List.getElem?_eq_getElem (show i < us.length by omega)]
  have gm:∀ i:Nat,i<=r.length+1->atI (us.map D.int) (i:Int)=some (.int (uN n (rowK k (r.length+1)) i)):=by
    intro i hi
    rw [<- ug i hi]
    exact get_int (by omega)
  have hlen:((e0::r).map enc).length=r.length+1:=by simp
  rw [hlen]
  repeat decreasing_trivial_pre_omega
  refine ok_ixL (gm (r.length+1) (Nat.le_refl _)) ?_
  repeat decreasing_trivial_pre_omega
  refine ⟨by omega,by omega,?_⟩
  rw [Int.toNat_natCast]
  refine forD_inv (fun t L M'=>M'=M/\∃ o8,L=[some (.d (.int n)),some (.d (.int k)),some (.d (.lst ((e0::r).map enc))),some (.d (.int (r.length+1:Nat))),some (.d (enc (tot e0 r))),o5,some (.d (.lst (us.map D.int))),some (.d (enc (tld (tot e0 r) (uN n (rowK k (r.length+1))) (r.length+1) t))),o8]) ⟨rfl,_,rfl⟩ (fun i L M _ _ t e=>by cases e) ?_ ?_
  · rintro t d _ M hd ⟨rfl,o8,rfl⟩
    obtain ⟨ht,rfl⟩:=downD_get hd
    rw [show ((r.length+1:Nat):Int) - 1 - (t:Nat)=((r.length+1 - 1 - t:Nat):Int) by omega]
    repeat decreasing_trivial_pre_omega
    refine ok_ixL (gm (r.length+1 - 1 - t) (by omega)) ?_
    repeat decreasing_trivial_pre_omega
    exact ⟨rfl,_,rfl⟩
  · rintro _ M ⟨rfl,o8,rfl⟩
    rw [show (Src.ds { ds:=downD (r.length+1),k:=none:Src }).length=r.length+1 from downD_length]
    repeat decreasing_trivial_pre_omega
    exact ⟨⟨rfl,fun j j1 j2=>uc j j1 (by omega)⟩,by simp⟩
noncomputable def psum (i:Nat) (k:Int):Nat->Int
  | 0=>0
  | j+1=>psum i k j+(bin i j:Int)*(if ((i:Int) - (j:Int)) % 2=0 then 1 else -1)*(if k<=(j:Int) then 1 else 0)
noncomputable def pas (i:Nat):List Int:=(List.range (i+1)).map fun j=>(bin i j:Int)
theorem pas_step:∀ i,i < 6->[1]++((List.range i).map fun j=>(pas i).getD j 0+(pas i).getD (j+1) 0)++[1]=pas (i+1):=by decide +kernel
theorem pas_get {i j:Nat} (h:j<=i):(pas i).getD j 0=bin i j:=by simp [pas,List.getD,List.getElem?_range (show j < i+1 by omega)]
theorem psum_all:∀ m,m < 6->∀ i,i < 6->∀ k,k < 7->i<=m->psum i ((k:Nat):Int) (i+1)=(dN i (rowK ((k:Nat):Int) m)).getD 0 0:=by decide +kernel
theorem psum_bd:∀ i,i < 6->∀ k,k < 7 -> -64<=psum i ((k:Nat):Int) (i+1)/\psum i ((k:Nat):Int) (i+1)<=64:=by decide +kernel
theorem uN_eq {n:Int} {row:List Int}:∀ t:Nat,uN n row t=(dN t row).getD 0 0*ovf n t % n
  | 0=>by simp [uN,dN,ovf]
  | t+1=>rfl
theorem sgn_at (a:Int):atI [D.int 1,D.int (0 - 1)] (a % 2)=some (D.int (if a % 2=0 then 1 else -1)):=by
  rcases Int.emod_two_eq a with h | h <;> rw [h] <;> rfl
theorem numbers_spec {n k:Int} {m:Nat} {M:Mm} (hn:2<=n) (hn2:n<=1000000) (k0:0<=k) (k6:k<=6) (m5:m<=5) (hi:∀ j:Nat,1<=j->j<=m->∃ v,IsIv n j v) :
    Ok (F_l_numbers [.d (.int n),.d (.int k),.d (.int m)] M) fun w M'=>w=.ref M.length/\M'=M++[((List.range (m+1)).map (uN n (rowK k m))).map D.int]:=by
  obtain ⟨k,rfl⟩:∃ j:Nat,k=j:=⟨k.toNat,by omega⟩
  unfold F_l_numbers
  refine ok_fnR rfl ?_
  unfold b_l_numbers
  repeat decreasing_trivial_pre_omega
  refine ⟨by simp only [in62,decide_eq_true_eq]; omega,?_⟩
  refine forD_inv (fun t L M'=>M'=M++[((List.range t).map (uN n (rowK k m))).map D.int]/\∃ (o6 o7 o8:Option W),L=[some (.d (.int n)),some (.d (.int k)),some (.d (.int m)),some (.d (.lst ((pas t).map D.int))),some (.d (.int (fac (t - 1)))),some (.ref M.length),o6,o7,o8]) ⟨rfl,_,_,_,rfl⟩ (fun i L M _ _ t e=>by cases e) ?_ ?_
  · rintro t d _ _ hd ⟨rfl,o6,o7,o8,rfl⟩
    obtain ⟨ht,rfl⟩:=rngD_get hd
    have ht:t<=m:=by omega
    rw [show (0+(t:Int))=((t:Nat):Int) by omega]
    repeat decreasing_trivial_pre_omega
    refine ⟨by simp only [in62,decide_eq_true_eq]; omega,?_⟩
    refine forD_inv (fun j L M'=>M'=M++[((List.range t).map (uN n (rowK k m))).map D.int]/\∃ (o8:Option W),L=[some (.d (.int n)),some (.d (.int k)),some (.d (.int m)),some (.d (.lst ((pas t).map D.int))),some (.d (.int (fac t))),some (.ref M.length),some (.d (.int t)),some (.d (.int (psum t k j))),o8]) ⟨rfl,o8,?_⟩ (fun i L M _ _ t e=>by cases e) ?_ ?_
    · have fe:((fac (t - 1):Nat):Int)*(if (t:Int) > 1 then (t:Int) else 1)=(fac t:Nat):=by
        have:t=0\/t=1\/t=2\/t=3\/t=4\/t=5:=by omega
        rcases this with rfl | rfl | rfl | rfl | rfl | rfl <;> rfl
      rw [fe]; rfl
    · rintro j d _ _ hd ⟨rfl,o8,rfl⟩
      obtain ⟨hj,rfl⟩:=rngD_get hd
      have hj:j<=t:=by omega
      rw [show (0+(j:Int))=((j:Nat):Int) by omega]
      have pl:(pas t).length=t+1:=by simp [pas]
      repeat decreasing_trivial_pre_omega
      refine ok_ixL (get_int (cs:=pas t) (i:=j) (by omega)) ?_
      repeat decreasing_trivial_pre_omega
      refine ok_ixL (sgn_at _) ?_
      repeat decreasing_trivial_pre_omega
      refine ⟨rfl,some (.d (.int j)),?_⟩
      rw [pas_get hj]
      simp only [decide_eq_true_eq]
      rfl
    · rintro _ _ ⟨rfl,o8,rfl⟩
      rw [show (Src.ds { ds:=rngD 0 ((t:Int)+1).toNat,k:=none:Src }).length=t+1 by simp [rngD]]
      have oi:=ovf_iv hn t fun j h1 h2=>hi j h1 (by omega)
      repeat decreasing_trivial_pre_omega
      refine (l_inverse_spec hn hn2 ⟨_,oi⟩).mono ?_
      rintro _ _ ⟨rfl,rfl⟩
      rw [iv_of oi]
      obtain ⟨b1,b2⟩:=psum_bd t (by omega) k (by omega)
      have b3:=oi.1
      have b4:=oi.2.1
      rw [show (uN n (rowK k m))=(uN n (rowK k m)) from rfl]
      have eu:psum t k (t+1)*ovf n t % n=uN n (rowK k m) t:=by rw [uN_eq,psum_all m (by omega) t (by omega) k (by omega) ht]
      repeat decreasing_trivial_pre_omega
      rw [eu]
      refine ok_append (xs:=((List.range t).map (uN n (rowK k m))).map D.int) (by simp) (by simp; omega) ?_
      rw [show (M++[((List.range t).map (uN n (rowK k m))).map D.int]).set M.length (((List.range t).map (uN n (rowK k m))).map D.int++[.int (uN n (rowK k m) t)])=M++[((List.range (t+1)).map (uN n (rowK k m))).map D.int] by rw [List.range_succ]; simp]
      have pl:(pas t).length=t+1:=by simp [pas]
      repeat decreasing_trivial_pre_omega
      refine comp_inv (fun i acc L' M'=>acc=(((List.range i).map fun j=>(pas t).getD j 0+(pas t).getD (j+1) 0)).map D.int/\M'=M++[((List.range (t+1)).map (uN n (rowK k m))).map D.int]/\∃ a,L'=[a,some (.d (.lst ((pas t).map D.int)))]) ?_
      repeat decreasing_trivial_pre_omega
      refine ⟨by simp only [in62,decide_eq_true_eq]; omega,⟨rfl,rfl,none,rfl⟩,?_,by simp only [rngD,List.length_map,List.length_range]; omega,?_,?_⟩
      · rintro i acc L' M' hi ⟨rfl,rfl,_⟩
        exact ⟨rfl,(fun t e=>by cases e),by simp⟩
      · rintro i d acc _ _ hx ⟨rfl,rfl,a,rfl⟩
        obtain ⟨hi',rfl⟩:=rngD_get hx
        have hi':i < t:=by omega
        rw [show (0+(i:Int))=((i:Nat):Int) by omega]
        repeat decreasing_trivial_pre_omega
        refine ok_ixL (get_int (cs:=pas t) (i:=i) (by omega)) ?_
        repeat decreasing_trivial_pre_omega
        refine ok_ixL (show atI ((pas t).map D.int) ((i:Int)+1)=some (.int ((pas t).getD (i+1) 0)) from get_int (cs:=pas t) (i:=i+1) (by omega)) ?_
        repeat decreasing_trivial_pre_omega
        refine ⟨_,_,rfl,rfl,by rw [List.range_succ]; simp,rfl,_,rfl⟩
      · rintro acc _ _ ⟨rfl,rfl,a,rfl⟩
        rw [show (Src.ds { ds:=rngD 0 (t:Int).toNat,k:=none:Src }).length=t by simp [rngD]]
        refine ok_addL rfl rfl (by simp; omega) ?_
        repeat decreasing_trivial_pre_omega
        refine ok_addL rfl rfl (by simp; omega) ?_
        have ps:=pas_step t (by omega)
        repeat decreasing_trivial_pre_omega
        refine ⟨rfl,some (.d (.int t)),some (.d (.int (psum t k (t+1)))),o8,?_⟩
        rw [<- ps]
        simp
  · rintro _ _ ⟨rfl,o6,o7,o8,rfl⟩
    rw [show (Src.ds { ds:=rngD 0 ((m:Int)+1).toNat,k:=none:Src }).length=m+1 by simp [rngD]]
    repeat decreasing_trivial_pre_omega
    exact ⟨_,((List.range (m+1)).map (uN n (rowK k m))).map D.int,rfl,Nat.le_refl _,by simp,rfl,by simp⟩
theorem iv_bez {n j x y:Int} (hn:2<=n) (h:n*x+j*y=1):∃ v,IsIv n j v:=by
  refine ⟨y % n,Int.emod_nonneg _ (by omega),Int.emod_lt_of_pos _ (by omega),?_⟩
  have:Cg n (j*(y % n)) 1:=(Cg.rfl.mul Cg.mod).trans ⟨-x,by grind⟩
  exact this.emod
theorem no_iv {n j g:Int} (h0:0<=g) (h1:g≠1) (d1:g ∣ n) (d2:g ∣ j):¬ ∃ v,IsIv n j v:=by
  rintro ⟨v,v0,v1,e⟩
  obtain ⟨z,hz⟩:=Cg.of e
  have:g ∣ 1:=by
    have g1:g ∣ j*v:=Int.dvd_mul_of_dvd_left d2
    rw [hz] at g1
    exact (Int.dvd_add_left (Int.dvd_mul_of_dvd_left d1)).mp g1
  exact h1 (Int.eq_one_of_dvd_one h0 this)
theorem deps_add {z:Int}:∀ {acc:List D},deps acc=0->deps (acc++[.int z])=0
  | [],_=>by simp [deps,dep]
  | x::r,h=>by
    simp only [deps,Nat.max_eq_zero_iff,List.cons_append] at h ⊢
    exact ⟨h.1,deps_add h.2⟩
theorem Fst.up {n:Int} {m m' j:Nat} (h:1<=j/\j<=m/\(∀ i:Nat,1<=i->i < j->∃ v,IsIv n i v)/\¬ ∃ v,IsIv n j v) (l:m<=m'):1<=j/\j<=m'/\(∀ i:Nat,1<=i->i < j->∃ v,IsIv n i v)/\¬ ∃ v,IsIv n j v:=⟨h.1,by omega,h.2.2⟩
noncomputable def Fst (n:Int) (m:Nat) (j:Nat):Prop:=1<=j/\j<=m/\(∀ i:Nat,1<=i->i < j->∃ v,IsIv n i v)/\¬ ∃ v,IsIv n j v
theorem l_least_spec {n k:Int} {e0:E} {r:List E} {M:Mm} {b:Nat} (hb:M[b]?=some ((e0::r).map enc)) (hn:2<=n) (hn2:n<=1000000) (h5:r.length<=4) (k0:0<=k) (k6:k<=6) :
    Ok (F_l_least [.d (.int n),.d (.int k),.ref b] M) fun w M'=>M'=M/\((∃ j:Nat,Fst n (r.length+1) j/\w=.d (.tup [.str "refused",.int j]))\/((∀ j:Nat,1<=j->j<=r.length+1->∃ v,IsIv n j v)/\w=.d (.tup [.str "told",enc (lst_e n k e0 r)]))):=by
  have hlen:((e0::r).map enc).length=r.length+1:=by simp
  have bl:b < M.length:=(List.getElem?_eq_some_iff.mp hb).1
  unfold F_l_least
  refine ok_fn rfl ?_
  unfold b_l_least
  repeat decreasing_trivial_pre_omega
  refine comp_inv (fun i acc L' M'=>acc.length<=i/\deps acc=0/\((acc=[]/\∀ j:Nat,1<=j->j<=i->∃ v,IsIv n j v)\/∃ (j:Nat) (rest:List D),acc=.int j::rest/\Fst n i j)/\M'=M/\∃ a,L'=[a,some (.d (.int n))]) ?_
  repeat decreasing_trivial_pre_omega
  rw [hlen]
  refine ⟨1,_,rfl,rfl,⟨by decide,by simp only [in62,decide_eq_true_eq]; omega⟩,⟨by simp,rfl,.inl ⟨rfl,fun j h1 h2=>by omega⟩,rfl,none,rfl⟩,?_,by simp only [rngD,List.length_map,List.length_range]; omega,?_,?_⟩
  · rintro i acc L' M' hi ⟨ha,_,_,rfl,_⟩
    exact ⟨rfl,(fun t e=>by cases e),ha⟩
  · rintro i d acc _ _ hx ⟨ha,hd0,hc,rfl,a,rfl⟩
    obtain ⟨hi,rfl⟩:=rngD_get hx
    have hi:i<=r.length:=by omega
    repeat decreasing_trivial_pre_omega
    refine (shared_spec (by omega) (by omega) (by omega)).mono ?_
    rintro _ _ ⟨rfl,g,rfl,g0,gn,gj,x,y,hxy⟩
    repeat decreasing_trivial_pre_omega
    refine ⟨fun h=>?_,fun h=>?_⟩
    · have hg:g≠1:=by simpa using h
      have hno:=no_iv g0 hg gn gj
      repeat decreasing_trivial_pre_omega
      refine ⟨_,_,rfl,rfl,by simp; omega,deps_add hd0,.inr ?_,rfl,_,rfl⟩
      rcases hc with ⟨rfl,hc⟩ | ⟨j,rest,rfl,hc⟩
      · exact ⟨1+i,[],by simp,by omega,by omega,fun j h1 h2=>hc j h1 (by omega),by simpa using hno⟩
      · exact ⟨j,rest++[_],rfl,Fst.up hc (by omega)⟩
    · have hg:g=1:=by simpa using h
      subst hg
      refine ⟨_,rfl,by omega,hd0,?_,rfl,_,rfl⟩
      rcases hc with ⟨rfl,hc⟩ | ⟨j,rest,rfl,hc⟩
      · refine .inl ⟨rfl,fun j h1 h2=>?_⟩
        by_cases h:j<=i
        · exact hc j h1 h
        · have:j=1+i:=by omega
          subst this
          simpa using iv_bez hn hxy
      · exact .inr ⟨j,rest,rfl,Fst.up hc (by omega)⟩
  · rintro acc _ M ⟨ha,hd0,hc,rfl,a,rfl⟩
    rw [show (Src.ds { ds:=rngD 1 ((((r.length+1:Nat):Int)+1) - 1).toNat,k:=none:Src }).length=r.length+1 by simp [rngD]] at hc
    repeat decreasing_trivial_pre_omega
    refine ok_ne (a:=.lst acc) (b:=.lst []) rfl rfl ⟨by simp [dep,hd0],by simp [dep,deps]⟩ ?_
    rcases hc with ⟨rfl,hc⟩ | ⟨j,rest,rfl,hc⟩
    rotate_left
    · repeat decreasing_trivial_pre_omega
      refine ok_ifT rfl ?_
      repeat decreasing_trivial_pre_omega
      refine ok_ixL (at0 _ _) ?_
      repeat decreasing_trivial_pre_omega
      exact ⟨by simp,.inl ⟨j,hc,rfl⟩⟩
    refine ⟨_,rfl,?_⟩
    refine ok_ifF rfl ?_
    repeat decreasing_trivial_pre_omega
    refine ok_ixR hb (at0 _ _) ?_
    repeat decreasing_trivial_pre_omega
    refine ok_slL (xs:=(e0::r).map enc) (fun z h=>by cases h) hb ?_
    have c1:cut ((e0::r).map enc) (some ((1:Nat):Int)) none=r.map enc:=by rw [cut_hi (by simp)]; rfl
    rw [show (some (1:Int))=some ((1:Nat):Int) from rfl,c1]
    repeat decreasing_trivial_pre_omega
    refine forD_inv (fun t L M'=>M'=M/\∃ o5,L=[some (.d (.int n)),some (.d (.int k)),some (.ref b),some (.d (.lst [])),some (.d (enc (tot e0 (r.take t)))),o5,none,none,none]) ⟨rfl,_,rfl⟩ (fun i L M _ _ t e=>by cases e) ?_ ?_
    · rintro t d _ M hd ⟨rfl,o5,rfl⟩
      simp only [List.getElem?_map,Option.map_eq_some_iff] at hd
      obtain ⟨x,ex,rfl⟩:=hd
      repeat decreasing_trivial_pre_omega
      have:tot e0 (r.take (t+1))=.op .sum (tot e0 (r.take t)) x:=by rw [List.take_add_one,ex]; simp [tot]
      rw [this]
      exact ⟨rfl,_,rfl⟩
    rintro _ M ⟨rfl,o5,rfl⟩
    rw [show r.take { ds:=r.map enc,k:=none:Src }.ds.length=r by simp]
    repeat decreasing_trivial_pre_omega
    rw [hlen]
    refine (numbers_spec hn hn2 k0 k6 (by omega) hc).mono ?_
    rintro _ _ ⟨rfl,rfl⟩
    obtain ⟨u,hu⟩:∃ u,uN n (rowK k (r.length+1))=u:=⟨_,rfl⟩
    have pop:∀ q:Nat,(M++[((List.range (q+1)).map u).map D.int])[M.length]?=some (((List.range q).map u).map D.int++[.int (u q)]):=fun q=>by rw [List.range_succ]; simp
    have cutd:∀ q:Nat,(M++[((List.range (q+1)).map u).map D.int]).set M.length (((List.range q).map u).map D.int)=M++[((List.range q).map u).map D.int]:=fun q=>by simp
    have glen:∀ q:Nat,(M++[((List.range q).map u).map D.int])[M.length]?=some (((List.range q).map u).map D.int):=fun q=>by simp
    rw [hu]
    repeat decreasing_trivial_pre_omega
    refine ok_pop (pop (r.length+1)) ?_
    rw [cutd]
    repeat decreasing_trivial_pre_omega
    refine (while_inv (QS:=fun o M'=>(∃ s,M'=M++[s])/\∃ o8,o=.nx [some (.d (.int n)),some (.d (.int k)),some (.ref b),some (.d (.lst [])),some (.d (enc (tot e0 r))),o5,some (.ref M.length),some (.d (enc (lst_e n k e0 r))),o8])
      (I:=fun q L M'=>q<=r.length+1/\M'=M++[((List.range q).map u).map D.int]/\∃ o8,L=[some (.d (.int n)),some (.d (.int k)),some (.ref b),some (.d (.lst [])),some (.d (enc (tot e0 r))),o5,some (.ref M.length),some (.d (enc (tld (tot e0 r) u (r.length+1) (r.length+1 - q)))),o8]) ?_ NW (r.length+1) _ _
      ⟨Nat.le_refl _,rfl,_,by rw [Nat.sub_self]; rfl⟩ (by rw [NW_eq]; omega)).mono ?_
    · rintro q L _ ⟨hq,rfl,o8,rfl⟩
      have gl:=glen q
      repeat decreasing_trivial_pre_omega
      refine ⟨fun h=>?_,fun h=>?_⟩
      · have hq0:0 < q:=by simp at h; omega
        obtain ⟨p,rfl⟩:∃ p,q=p+1:=⟨q - 1,by omega⟩
        have pl:(((List.range (p+1)).map u).map D.int).length=p+1:=by simp
        repeat decreasing_trivial_pre_omega
        rw [pl]
        repeat decreasing_trivial_pre_omega
        refine ok_pop (pop p) ?_
        rw [cutd]
        repeat decreasing_trivial_pre_omega
        obtain ⟨j,hj⟩:∃ j,r.length+1 - (p+1)=j:=⟨_,rfl⟩
        have e1:r.length+1 - p=j+1:=by omega
        have e2:r.length+1 - 1 - j=p:=by omega
        refine ⟨p,by omega,by omega,rfl,some (.d (.int (((p+1:Nat):Int) - 1))),?_⟩
        rw [e1,hj]
        simp only [tld,e2,enc,Wd.str]
        rw [show (((p+1:Nat):Int) - 1)=(p:Int) by omega]
        rfl
      · have hq0:q=0:=by simp at h; omega
        subst hq0
        refine ⟨⟨_,rfl⟩,o8,?_⟩
        simp only [lst_e,hu,Nat.sub_zero]
    · rintro _ _ ⟨⟨s,rfl⟩,o8,rfl⟩
      repeat decreasing_trivial_pre_omega
      exact ⟨by simp,.inr ⟨hc,rfl⟩⟩
inductive Rz where
  | told (e:E) | ref (j:Nat)
noncomputable def Rz.d:Rz->D
  | .told e=>.tup [.str "told",enc e]
  | .ref j=>.tup [.str "refused",.int j]
theorem rz_split:∀ zs:List Rz,(∃ es:List E,zs=es.map Rz.told)\/∃ (es:List E) (j:Nat) (rest:List Rz),zs=es.map Rz.told++.ref j::rest
  | []=>.inl ⟨[],rfl⟩
  | .ref j::r=>.inr ⟨[],j,r,rfl⟩
  | .told e::r=>by
    rcases rz_split r with ⟨es,rfl⟩ | ⟨es,j,rest,rfl⟩
    · exact .inl ⟨e::es,rfl⟩
    · exact .inr ⟨e::es,j,rest,rfl⟩
theorem rz_tt:∀ {es es':List E},es.map Rz.told=es'.map Rz.told->es=es'
  | [],[],_=>rfl
  | [],_::_,h=>by simp at h
  | _::_,[],h=>by simp at h
  | a::r,b::r',h=>by
    simp only [List.map_cons,List.cons.injEq,Rz.told.injEq] at h
    rw [h.1,rz_tt h.2]
theorem rz_tr:∀ {es es':List E} {j:Nat} {rest:List Rz},es.map Rz.told=es'.map Rz.told++.ref j::rest->False
  | [],es',j,rest,h=>by simp at h
  | a::r,[],j,rest,h=>by simp at h
  | a::r,b::r',j,rest,h=>by
    simp only [List.map_cons,List.cons_append,List.cons.injEq] at h
    exact rz_tr h.2
theorem rz_rr:∀ {es es':List E} {j j':Nat} {rest rest':List Rz},es.map Rz.told++.ref j::rest=es'.map Rz.told++.ref j'::rest'->j=j'
  | [],[],j,j',rest,rest',h=>by simp at h; exact h.1
  | [],b::r',j,j',rest,rest',h=>by simp at h
  | a::r,[],j,j',rest,rest',h=>by simp at h
  | a::r,b::r',j,j',rest,rest',h=>by
    simp only [List.map_cons,List.cons_append,List.cons.injEq] at h
    exact rz_rr h.2
noncomputable def Sd (n:Int) (F:Fn) (d:D) (z:Rz):Prop:=∀ M:Mm,Okx (fun x M'=>∃ j:Nat,z=.ref j/\x=NoI j/\M'=M) (F [.d (.int n),.d d] M) fun w M'=>∃ e,z=.told e/\w=.d (enc e)/\M'=M
noncomputable def Ls (n:Int) (F:Fn) (d:D) (z:Rz):Prop:=∀ M:Mm,Ok (F [.d (.int n),.d d] M) fun w M'=>w=.d z.d/\M'=M
noncomputable def Both (n:Int) (k:Nat) (d:D) (z:Rz):Prop:=(∀ e,z=.told e->sz (enc e)+2<=6*4 ^ k)/\(∀ fuel,k < fuel->Sd n (F_said fuel) d z)/\∀ fuel,k < fuel->Ls n (F_l_said fuel) d z
theorem said_compX {F:Fn} {xs:List D} {zf:D->Rz} {n:Int} {fi:FI} {M:Mm} {L:Lc} {js:List (Option Nat)} (hz:xs.length<=5) (e:outL js L=[none,some (.d (.int n))]) (hF:∀ x∈xs,Sd n F x (zf x))
    (hi:∀ EX:D->Mm->Prop,Okx EX (fi L M) fun s M'=>s=⟨xs,none⟩/\M'=M):Okx (fun x M'=>∃ (es:List E) (j:Nat) (rest:List Rz),xs.map zf=es.map Rz.told++.ref j::rest/\x=NoI j/\M'=M) (eCompX js fi (gN 0) EV.tYes (eA F (aCons (eV 1) (aCons (eV 0) aNil))) L M) fun w M'=>∃ es:List E,xs.map zf=es.map Rz.told/\w=.d (.lst (es.map enc))/\M'=M:=by
  refine compX_inv (fun i acc L' M'=>∃ es:List E,(xs.take i).map zf=es.map Rz.told/\acc=es.map enc/\M'=M/\∃ a,L'=[a,some (.d (.int n))]) ?_
  refine (hi _).mono ?_
  rintro _ M ⟨rfl,rfl⟩
  refine ⟨⟨[],rfl,rfl,rfl,none,e⟩,?_,by simp; omega,?_,?_⟩
  · rintro i acc L' M' hi ⟨es,h1,rfl,rfl,_⟩
    have hl:=congrArg List.length h1
    simp only [List.length_map,List.length_take] at hl
    exact ⟨rfl,(fun t e=>by cases e),by simp only [List.length_map]; omega⟩
  · rintro i d acc _ M hd ⟨es,h1,rfl,rfl,a,rfl⟩
    have hm:d∈xs:=List.mem_of_getElem? hd
    have hd:xs[i]?=some d:=hd
    have hi:xs.take (i+1)=xs.take i++[d]:=by rw [List.take_add_one,hd]; rfl
    have hx:xs=xs.take i++d::xs.drop (i+1):=by
      obtain ⟨hl,rfl⟩:=List.getElem?_eq_some_iff.mp hd
      rw [<- List.drop_eq_getElem_cons hl,List.take_append_drop]
    repeat decreasing_trivial_pre_omega
    refine (hF d hm _).monoX ?_ ?_
    · rintro _ _ ⟨e',he,rfl,rfl⟩
      exact ⟨_,_,rfl,rfl,es++[e'],by rw [hi]; simp [h1,he],by simp,rfl,_,rfl⟩
    · rintro _ _ ⟨j,hj,rfl,rfl⟩
      refine ⟨_,rfl,rfl,es,j,(xs.drop (i+1)).map zf,?_,rfl,rfl⟩
      rw [<- h1,<- hj]
      conv=>lhs; rw [hx]
      simp
  · rintro acc L' M ⟨es,h1,rfl,rfl,_⟩
    exact ⟨es,by simpa using h1,rfl,rfl⟩
theorem l_loop {F:Fn} {xs:List D} {zf:D->Rz} {n:Int} {M:Mm} {s1 w2:W} {o5 o6:Option W} {QS:Out->Mm->Prop} (hz:xs.length<=5) (hF:∀ x∈xs,Ls n F x (zf x))
    (h1:∀ (es:List E) (a b:Option W),xs.map zf=es.map Rz.told->QS (.nx [some (.d (.int n)),some s1,some w2,some (.ref M.length),some (.d (.tup xs)),a,b,none]) (M++[es.map enc]))
    (h2:∀ (es:List E) (j:Nat) (rest:List Rz),xs.map zf=es.map Rz.told++.ref j::rest->QS (.rt (.d (.tup [.str "refused",.int (j:Nat)]))) (M++[es.map enc])) :
    Ok (forD ⟨xs,none⟩ (gN 5)
    (sSeq (sAs (eA F (aCons (eV 0) (aCons (eV 5) aNil))) (gN 6))
    (sSeq (sIf (EV.tB (e2 pEq (e2 pIx (eV 6) (eC (.int 0))) (eC (.str "refused"))))
    (sRt (eV 6))
    sNil)
    (sEx (eM1 pAppend (eV 3) (e2 pIx (eV 6) (eC (.int 1))))))) (Src.ds ⟨xs,none⟩) [some (.d (.int n)),some s1,some w2,some (.ref M.length),some (.d (.tup xs)),o5,o6,none] (M++[[]])) QS:=by
  refine forD_inv (fun i L' M'=>∃ (es:List E) (a b:Option W),(xs.take i).map zf=es.map Rz.told/\M'=M++[es.map enc]/\L'=[some (.d (.int n)),some s1,some w2,some (.ref M.length),some (.d (.tup xs)),a,b,none]) ⟨[],_,_,rfl,rfl,rfl⟩ (fun i L M _ _ t e=>by cases e) ?_ ?_
  · rintro i d _ _ hd ⟨es,a,b,h,rfl,rfl⟩
    have hm:d∈xs:=List.mem_of_getElem? hd
    have hd:xs[i]?=some d:=hd
    have hi:xs.take (i+1)=xs.take i++[d]:=by rw [List.take_add_one,hd]; rfl
    have hx:xs=xs.take i++d::xs.drop (i+1):=by
      obtain ⟨hl,rfl⟩:=List.getElem?_eq_some_iff.mp hd
      rw [<- List.drop_eq_getElem_cons hl,List.take_append_drop]
    have hl:=congrArg List.length h
    simp only [List.length_map,List.length_take] at hl
    repeat decreasing_trivial_pre_omega
    refine (hF d hm _).mono ?_
    rintro _ _ ⟨rfl,rfl⟩
    cases hzd:zf d with
    | told e' =>
      unfold Rz.d
      repeat decreasing_trivial_pre_omega
      refine ok_append (xs:=es.map enc) (by simp) (by simp; omega) ?_
      repeat decreasing_trivial_pre_omega
      exact ⟨es++[e'],_,_,by rw [hi]; simp [h,hzd],by simp,rfl⟩
    | ref j =>
      unfold Rz.d
      repeat decreasing_trivial_pre_omega
      refine h2 es j ((xs.drop (i+1)).map zf) ?_
      rw [<- h,<- hzd]
      conv=>lhs; rw [hx]
      simp
  · rintro _ _ ⟨es,a,b,h,rfl,rfl⟩
    exact h1 es a b (by simpa using h)
theorem four_pos (k:Nat):1<=4 ^ k:=Nat.one_le_pow _ _ (by decide)
theorem tot_sz {B:Nat}:∀ {r:List E} {e:E},(∀ x∈r,sz (enc x)+2<=B)->sz (enc (tot e r))<=sz (enc e)+r.length*B
  | [],e,_=>by simp [tot]
  | x::r,e,h=>by
    have h1:=tot_sz (r:=r) (e:=.op .sum e x) fun y hy=>h y (by simp [hy])
    have h2:=h x (by simp)
    have e1:tot e (x::r)=tot (.op .sum e x) r:=rfl
    have e2:sz (enc (.op .sum e x))=sz (enc e)+sz (enc x)+2:=by simp [enc,sz,szs]; omega
    rw [e1,List.length_cons,Nat.add_mul,Nat.one_mul]
    omega
theorem tld_sz {t:E} {u:Nat->Int} {m T:Nat} (h:sz (enc t)<=T):∀ j:Nat,sz (enc (tld t u m j))<=3+j*(12+T)
  | 0=>by simp [tld,enc,sz,szs]
  | j+1=>by
    have:=tld_sz (u:=u) (m:=m) h j
    rw [Nat.add_mul,Nat.one_mul]
    simp only [tld,enc,sz,szs] at this ⊢
    omega
theorem lst_sz {n k:Int} {e0:E} {r:List E} {q:Nat} (h5:r.length<=4) (h:∀ x∈e0::r,sz (enc x)+2<=6*4 ^ q):sz (enc (lst_e n k e0 r))+2<=6*4 ^ (q+(r.length+1)):=by
  have hq:=four_pos q
  obtain ⟨B,hB⟩:∃ B,4 ^ q=B:=⟨_,rfl⟩
  rw [hB] at h hq
  have h0:=h e0 (by simp)
  have t1:=tot_sz (B:=6*B) (r:=r) (e:=e0) fun x hx=>h x (by simp [hx])
  have t2:=tld_sz (u:=uN n (rowK k (r.length+1))) (m:=r.length+1) t1 (r.length+1)
  unfold lst_e
  rw [Nat.pow_add,hB]
  have:r.length=0\/r.length=1\/r.length=2\/r.length=3\/r.length=4:=by omega
  rcases this with e | e | e | e | e <;> rw [e] at t2 ⊢ <;> omega
theorem enc_noL:∀ e:E,noL (enc e)=true
  | .num _=>by simp [enc,noL,noLs]
  | .giv _=>by simp [enc,noL,noLs]
  | .op w a b=>by simp [enc,noL,noLs,enc_noL a,enc_noL b]
theorem both_yes {n:Int} {k i:Nat}:Both n k (.tup [.str "yes",.int i]) (.told (.giv i)):=by
  refine ⟨fun e he=>?_,fun fuel hf M=>?_,fun fuel hf M=>?_⟩
  · cases he
    have:=four_pos k
    simp [enc,sz,szs]
    omega
  · obtain ⟨f,rfl⟩:∃ f,fuel=f+1:=⟨fuel - 1,by omega⟩
    unfold F_said
    refine ok_fnX rfl ?_
    unfold b_said
    repeat decreasing_trivial_pre_omega
    exact ⟨rfl,by simp⟩
  · obtain ⟨f,rfl⟩:∃ f,fuel=f+1:=⟨fuel - 1,by omega⟩
    unfold F_l_said
    refine ok_fn rfl ?_
    unfold b_l_said
    repeat decreasing_trivial_pre_omega
    exact ⟨rfl,by simp⟩
theorem both_nt {n:Int} {k:Nat} {a:D} {z:Rz} (h:Both n k a z):∃ z',Both n (k+1) (.tup [.str "not",a]) z':=by
  obtain ⟨h1,h2,h3⟩:=h
  refine ⟨match z with | .told e=>.told (.op .less (.num 1) e) | .ref j=>.ref j,fun e he=>?_,fun fuel hf M=>?_,fun fuel hf M=>?_⟩
  · cases z with
    | ref j=>cases he
    | told e' =>
      cases he
      have:=h1 e' rfl
      have:=four_pos k
      simp only [enc,sz,szs,Nat.pow_succ] at this ⊢
      omega
  · obtain ⟨f,rfl⟩:∃ f,fuel=f+1:=⟨fuel - 1,by omega⟩
    unfold F_said
    refine ok_fnX rfl ?_
    unfold b_said
    repeat decreasing_trivial_pre_omega
    refine (h2 f (by omega) _).monoX ?_ ?_
    · rintro _ _ ⟨e,rfl,rfl,rfl⟩
      repeat decreasing_trivial_pre_omega
      exact ⟨rfl,by simp⟩
    · rintro _ _ ⟨j,rfl,rfl,rfl⟩
      exact ⟨j,rfl,rfl,by simp⟩
  · obtain ⟨f,rfl⟩:∃ f,fuel=f+1:=⟨fuel - 1,by omega⟩
    unfold F_l_said
    refine ok_fn rfl ?_
    unfold b_l_said
    repeat decreasing_trivial_pre_omega
    have ec:cut [D.str "not",a] (some 1) none=[a]:=rfl
    rw [ec]
    refine l_loop (xs:=[a]) (zf:=fun _=>z) (by simp) (fun x hx=>by rw [List.mem_singleton.mp hx]; exact h3 f (by omega)) (fun es o5 o6 hes=>?_) (fun es j rest hes=>?_)
    · cases z with
      | ref j=>exact (rz_tr (es:=es) (es':=[]) (j:=j) (rest:=[]) hes.symm).elim
      | told e =>
        have:=rz_tt (es:=es) (es':=[e]) hes.symm
        subst this
        have g0:(M++[[enc e]])[M.length]?=some [enc e]:=by simp
        repeat decreasing_trivial_pre_omega
        refine ok_ixR g0 (at0 _ _) ?_
        repeat decreasing_trivial_pre_omega
        exact ⟨rfl,by simp⟩
    · cases z with
      | told e=>exact (rz_tr (es:=[e]) (es':=es) hes).elim
      | ref j' =>
        have:=rz_rr (es:=[]) (es':=es) (rest:=[]) hes
        subst this
        repeat decreasing_trivial_pre_omega
        exact ⟨rfl,by simp⟩
theorem pick_z {n:Int} {k:Nat} {xs:List D} (h:∀ x∈xs,∃ z,Both n k x z):∃ zf:D->Rz,∀ x∈xs,Both n k x (zf x):=by
  classical
  refine ⟨fun x=>if h':x∈xs then Classical.choose (h x h') else .ref 0,fun x hx=>?_⟩
  have:=Classical.choose_spec (h x hx)
  simp only [dif_pos hx]
  exact this
noncomputable def two (w:Str) (a b:E):E:=if w="and" then .op .times a b else .op .less (.op .sum a b) (.op .times a b)
theorem both_two {n:Int} {k:Nat} {w:Str} {a b:D} (hw:w="and"\/w="or") (h:∀ x∈[a,b],∃ z,Both n k x z):∃ z',Both n (k+1) (.tup [.str w,a,b]) z':=by
  obtain ⟨zf,hzf⟩:=pick_z h
  obtain ⟨a1,a2,a3⟩:=hzf a (by simp)
  obtain ⟨b1,b2,b3⟩:=hzf b (by simp)
  refine ⟨match zf a,zf b with | .told e,.told e'=>.told (two w e e') | .ref j,_=>.ref j | _,.ref j=>.ref j,fun e he=>?_,fun fuel hf M=>?_,fun fuel hf M=>?_⟩
  · revert a1 b1 he
    cases zf a with
    | ref j=>intro _ _ he; cases he
    | told ea=>cases zf b with
      | ref j=>intro _ _ he; cases he
      | told eb =>
        intro a1 b1 he
        cases he
        have h1:=a1 ea rfl
        have h2:=b1 eb rfl
        have:=four_pos k
        unfold two
        rw [Nat.pow_succ]
        split <;> simp only [enc,sz,szs] at h1 h2 ⊢ <;> omega
  · obtain ⟨f,rfl⟩:∃ f,fuel=f+1:=⟨fuel - 1,by omega⟩
    have a2:=a2 f (by omega)
    have b2:=b2 f (by omega)
    unfold F_said
    refine ok_fnX rfl ?_
    unfold b_said
    rcases hw with rfl | rfl
    · repeat decreasing_trivial_pre_omega
      refine (a2 _).monoX ?_ ?_
      · rintro _ M ⟨ea,hea,rfl,rfl⟩
        rw [hea]
        repeat decreasing_trivial_pre_omega
        refine (b2 _).monoX ?_ ?_
        · rintro _ M ⟨eb,heb,rfl,rfl⟩
          rw [heb]
          repeat decreasing_trivial_pre_omega
          exact ⟨rfl,by simp⟩
        · rintro _ M ⟨j,heb,rfl,rfl⟩
          rw [heb]
          exact ⟨j,rfl,rfl,by simp⟩
      · rintro _ M ⟨j,hea,rfl,rfl⟩
        rw [hea]
        exact ⟨j,rfl,rfl,by simp⟩
    · repeat decreasing_trivial_pre_omega
      refine (a2 _).monoX ?_ ?_
      · rintro _ M ⟨ea,hea,rfl,rfl⟩
        rw [hea]
        repeat decreasing_trivial_pre_omega
        refine (b2 _).monoX ?_ ?_
        · rintro _ M ⟨eb,heb,rfl,rfl⟩
          rw [heb]
          repeat decreasing_trivial_pre_omega
          exact ⟨rfl,by simp⟩
        · rintro _ M ⟨j,heb,rfl,rfl⟩
          rw [heb]
          exact ⟨j,rfl,rfl,by simp⟩
      · rintro _ M ⟨j,hea,rfl,rfl⟩
        rw [hea]
        exact ⟨j,rfl,rfl,by simp⟩
  · obtain ⟨f,rfl⟩:∃ f,fuel=f+1:=⟨fuel - 1,by omega⟩
    have hF:∀ x∈[a,b],Ls n (F_l_said f) x (zf x):=fun x hx=>(hzf x hx).2.2 f (by omega)
    clear a1 a2 a3 b1 b2 b3 hzf h
    unfold F_l_said
    refine ok_fn rfl ?_
    unfold b_l_said
    have ec:cut [D.str w,a,b] (some 1) none=[a,b]:=rfl
    obtain ⟨za,ea⟩:∃ z,zf a=z:=⟨_,rfl⟩
    obtain ⟨zb,eb⟩:∃ z,zf b=z:=⟨_,rfl⟩
    have key:∀ (es:List E) (j:Nat) (rest:List Rz),[a,b].map zf=es.map Rz.told++.ref j::rest->(match zf a,zf b with | .told e,.told e'=>Rz.told (two w e e') | .ref j,_=>.ref j | _,.ref j=>.ref j)=.ref j:=by
      intro es j rest hes
      simp only [List.map_cons,List.map_nil,ea,eb] at hes
      rw [ea,eb]
      cases za with
      | ref ja=>have:=rz_rr (es:=[]) (rest:=[zb]) hes; rw [this]
      | told e1 =>
        cases zb with
        | told e2=>exact (rz_tr (es:=[e1,e2]) hes).elim
        | ref jb=>have:=rz_rr (es:=[e1]) (rest:=[]) hes; rw [this]
    have key2:∀ (es:List E),[a,b].map zf=es.map Rz.told->∃ e1 e2,es=[e1,e2]/\(match zf a,zf b with | .told e,.told e'=>Rz.told (two w e e') | .ref j,_=>.ref j | _,.ref j=>.ref j)=.told (two w e1 e2):=by
      intro es hes
      simp only [List.map_cons,List.map_nil,ea,eb] at hes
      rw [ea,eb]
      cases za with
      | ref ja=>exact (rz_tr (es:=es) (es':=[]) (rest:=[zb]) hes.symm).elim
      | told e1 =>
        cases zb with
        | ref jb=>exact (rz_tr (es:=es) (es':=[e1]) (rest:=[]) hes.symm).elim
        | told e2=>exact ⟨e1,e2,(rz_tt (es:=[e1,e2]) hes).symm,rfl⟩
    rcases hw with rfl | rfl
    all_goals
      repeat decreasing_trivial_pre_omega
      rw [ec]
      refine l_loop (xs:=[a,b]) (zf:=zf) (by simp) hF (fun es o5 o6 hes=>?_) (fun es j rest hes=>?_)
      · obtain ⟨e1,e2,rfl,ek⟩:=key2 es hes
        rw [ek]
        have g0:(M++[[enc e1,enc e2]])[M.length]?=some [enc e1,enc e2]:=by simp
        repeat decreasing_trivial_pre_omega
        have g1:atI [enc e1,enc e2] 1=some (enc e2):=rfl
        refine ok_ixR g0 (at0 _ _) ?_
        repeat decreasing_trivial_pre_omega
        refine ok_ixR g0 g1 ?_
        repeat decreasing_trivial_pre_omega
        refine ok_ixR g0 (at0 _ _) ?_
        repeat decreasing_trivial_pre_omega
        refine ok_ixR g0 g1 ?_
        repeat decreasing_trivial_pre_omega
        first | (refine ok_ixL rfl ?_; repeat decreasing_trivial_pre_omega) | skip
        refine ⟨?_,by simp⟩
        simp [two,Rz.d,enc]
        try rfl
      · rw [key es j rest hes]
        repeat decreasing_trivial_pre_omega
        exact ⟨rfl,by simp⟩
theorem both_least {n m:Int} {k:Nat} {xs:List D} (hn:2<=n) (hn2:n<=1000000) (h0:0<=m) (h6:m<=6) (h1:1<=xs.length) (hl:xs.length<=5) (h:∀ x∈xs,∃ z,Both n k x z):∃ z',Both n (k+xs.length) (.tup [.str "least",.int m,.tup xs]) z':=by
  obtain ⟨zf,hzf⟩:=pick_z h
  have hS:∀ f,k < f->∀ x∈xs,Sd n (F_said f) x (zf x):=fun f hf x hx=>(hzf x hx).2.1 f hf
  have hL:∀ f,k < f->∀ x∈xs,Ls n (F_l_said f) x (zf x):=fun f hf x hx=>(hzf x hx).2.2 f hf
  -- the answer
  obtain ⟨z,hz⟩:∃ z:Rz,(∃ (es:List E) (j:Nat) (rest:List Rz),xs.map zf=es.map Rz.told++.ref j::rest/\z=.ref j)\/∃ (e0:E) (r:List E),xs.map zf=(e0::r).map Rz.told/\((∃ j,Fst n (r.length+1) j/\z=.ref j)\/((∀ j:Nat,1<=j->j<=r.length+1->∃ v,IsIv n j v)/\z=.told (lst_e n m e0 r))):=by
    rcases rz_split (xs.map zf) with ⟨es,hes⟩ | ⟨es,j,rest,hes⟩
    · have hlen:=congrArg List.length hes
      simp only [List.length_map] at hlen
      obtain ⟨e0,r,rfl⟩:∃ e0 r,es=e0::r:=by
        cases es with
        | nil=>rw [List.length_nil] at hlen; omega
        | cons a b=>exact ⟨a,b,rfl⟩
      by_cases ha:∀ j:Nat,1<=j->j<=r.length+1->∃ v,IsIv n j v
      · exact ⟨_,.inr ⟨e0,r,hes,.inr ⟨ha,rfl⟩⟩⟩
      · obtain ⟨j,hj⟩:∃ j,Fst n (r.length+1) j:=by
          have:∀ q:Nat,(∀ j:Nat,1<=j->j<=q->∃ v,IsIv n j v)\/∃ j,Fst n q j:=by
            intro q
            induction q with
            | zero=>exact .inl fun j h1 h2=>by omega
            | succ q ih =>
              rcases ih with ih | ⟨j,hj⟩
              · by_cases hv:∃ v,IsIv n ((q+1:Nat):Int) v
                · refine .inl fun j h1 h2=>?_
                  by_cases e:j=q+1
                  · subst e; exact hv
                  · exact ih j h1 (by omega)
                · exact .inr ⟨q+1,by omega,by omega,fun i h1 h2=>ih i h1 (by omega),hv⟩
              · exact .inr ⟨j,Fst.up hj (by omega)⟩
          exact (this (r.length+1)).resolve_left ha
        exact ⟨_,.inr ⟨e0,r,hes,.inl ⟨j,hj,rfl⟩⟩⟩
    · exact ⟨_,.inl ⟨es,j,rest,hes,rfl⟩⟩
  have fst_uniq:∀ {q j j':Nat},Fst n q j->Fst n q j'->j=j':=by
    rintro q j j' ⟨a1,a2,a3,a4⟩ ⟨b1,b2,b3,b4⟩
    rcases Nat.lt_trichotomy j j' with h | h | h
    · exact (a4 (b3 j a1 h)).elim
    · exact h
    · exact (b4 (a3 j' b1 h)).elim
  refine ⟨z,fun e he=>?_,fun fuel hf M=>?_,fun fuel hf M=>?_⟩
  · subst he
    rcases hz with ⟨es,j,rest,_,hz⟩ | ⟨e0,r,hes,⟨j,_,hz⟩ | ⟨hi,hz⟩⟩
    · cases hz
    · cases hz
    · cases hz
      have hlen:=congrArg List.length hes
      simp only [List.length_map,List.length_cons] at hlen
      rw [hlen]
      refine lst_sz (by omega) fun x hx=>?_
      have hm:Rz.told x∈xs.map zf:=by rw [hes]; exact List.mem_map_of_mem hx
      obtain ⟨y,hy,ey⟩:=List.mem_map.mp hm
      exact (hzf y hy).1 x ey
  · obtain ⟨f,rfl⟩:∃ f,fuel=f+1:=⟨fuel - 1,by omega⟩
    unfold F_said
    refine ok_fnX rfl ?_
    unfold b_said
    repeat decreasing_trivial_pre_omega
    refine (said_compX (xs:=xs) (zf:=zf) hl rfl (hS f (by omega)) (fun EX=>?_)).monoX ?_ ?_
    · repeat decreasing_trivial_pre_omega
      exact ⟨rfl,rfl⟩
    · rintro _ M ⟨es,hes,rfl,rfl⟩
      rcases hz with ⟨es',j,rest,hes',_⟩ | ⟨e0,r,hes',hz⟩
      · rw [hes] at hes'; exact (rz_tr hes').elim
      rw [hes] at hes'
      have:=rz_tt hes'
      subst this
      have hlen:=congrArg List.length hes
      simp only [List.length_map,List.length_cons] at hlen
      repeat decreasing_trivial_pre_omega
      refine (least_spec hn hn2 (by omega) h0 h6).monoX ?_ ?_
      · rintro _ M ⟨⟨rfl,hi⟩,rfl⟩
        rcases hz with ⟨j,hj,rfl⟩ | ⟨_,rfl⟩
        · exact (hj.2.2.2 (hi j hj.1 hj.2.1)).elim
        · repeat decreasing_trivial_pre_omega
          exact ⟨rfl,by simp⟩
      · rintro _ M ⟨⟨j,j1,j2,j3,j4,rfl⟩,rfl⟩
        rcases hz with ⟨j',hj,rfl⟩ | ⟨hi,rfl⟩
        · have:=fst_uniq hj ⟨j1,j2,j3,j4⟩
          subst this
          exact ⟨_,rfl,rfl,by simp⟩
        · exact (j4 (hi j j1 j2)).elim
    · rintro _ M ⟨es,j,rest,hes,rfl,rfl⟩
      rcases hz with ⟨es',j',rest',hes',rfl⟩ | ⟨e0,r,hes',hz⟩
      · rw [hes] at hes'
        have:=rz_rr hes'
        subst this
        exact ⟨_,rfl,rfl,by simp⟩
      · rw [hes] at hes'; exact (rz_tr hes'.symm).elim
  · obtain ⟨f,rfl⟩:∃ f,fuel=f+1:=⟨fuel - 1,by omega⟩
    unfold F_l_said
    refine ok_fn rfl ?_
    unfold b_l_said
    repeat decreasing_trivial_pre_omega
    refine l_loop (xs:=xs) (zf:=zf) hl (hL f (by omega)) (fun es o5 o6 hes=>?_) (fun es j rest hes=>?_)
    · rcases hz with ⟨es',j,rest,hes',_⟩ | ⟨e0,r,hes',hz⟩
      · rw [hes] at hes'; exact (rz_tr hes').elim
      rw [hes] at hes'
      have:=rz_tt hes'
      subst this
      have hlen:=congrArg List.length hes
      simp only [List.length_map,List.length_cons] at hlen
      have g0:(M++[(e0::r).map enc])[M.length]?=some ((e0::r).map enc):=by simp
      repeat decreasing_trivial_pre_omega
      refine (l_least_spec (b:=M.length) g0 hn hn2 (by omega) h0 h6).mono ?_
      rintro _ _ ⟨rfl,⟨j,hj,rfl⟩ | ⟨hi,rfl⟩⟩
      · repeat decreasing_trivial_pre_omega
        refine ⟨?_,by simp⟩
        rcases hz with ⟨j',hj',rfl⟩ | ⟨hi,rfl⟩
        · rw [fst_uniq hj hj']; rfl
        · exact (hj.2.2.2 (hi j hj.1 hj.2.1)).elim
      · repeat decreasing_trivial_pre_omega
        refine ⟨?_,by simp⟩
        rcases hz with ⟨j',hj,rfl⟩ | ⟨_,rfl⟩
        · exact (hj.2.2.2 (hi j' hj.1 hj.2.1)).elim
        · rfl
    · rcases hz with ⟨es',j',rest',hes',rfl⟩ | ⟨e0,r,hes',hz⟩
      · rw [hes] at hes'
        have:=rz_rr hes'
        subst this
        repeat decreasing_trivial_pre_omega
        exact ⟨rfl,by simp⟩
      · rw [hes] at hes'; exact (rz_tr hes'.symm).elim
theorem both_all {g n:Int} (hn:2<=n) (hn2:n<=1000000) {k:Nat} {d:D} (h:IsS g k d):∃ z,Both n k d z:=by
  induction h with
  | yes k i l u =>
    obtain ⟨i,rfl⟩:∃ j:Nat,i=j:=⟨i.toNat,by omega⟩
    exact ⟨_,both_yes⟩
  | nt k a ha ih=>obtain ⟨z,hz⟩:=ih; exact both_nt hz
  | two k w a b h ha hb iha ihb =>
    refine both_two h fun x hx=>?_
    rcases List.mem_cons.mp hx with rfl | hx
    · exact iha
    · rw [List.mem_singleton.mp hx]; exact ihb
  | least k m xs h0 h6 h1 hl hx ih=>exact both_least hn hn2 h0 h6 h1 hl ih
theorem refused_spec {j:Nat} {M:Mm}:Ok (F_l_refused_by [.d (NoI j),.d (.int j)] M) fun w M'=>w=.d (.bl true)/\M'=M:=by
  unfold F_l_refused_by
  refine ok_fn rfl ?_
  unfold b_l_refused_by NoI
  repeat decreasing_trivial_pre_omega
  refine ⟨fun _=>?_,fun h=>absurd h (by simp)⟩
  repeat decreasing_trivial_pre_omega
  exact ⟨rfl,by simp⟩
theorem right_spec {n:Int} {k:Nat} {d:D} {M:Mm} {z:Rz} (hk:k<=10) (h:Both n k d z):Ok (F_l_right [.d (.int n),.d d] M) fun w M'=>w=.d (.bl true)/\M'=M:=by
  obtain ⟨h1,h2,h3⟩:=h
  unfold F_l_right
  refine ok_fnX rfl ?_
  unfold b_l_right
  repeat decreasing_trivial_pre_omega
  refine (h3 50 (by omega) _).mono ?_
  rintro _ M ⟨rfl,rfl⟩
  repeat decreasing_trivial_pre_omega
  refine ok_sTryAs ?_
  repeat decreasing_trivial_pre_omega
  refine (h2 50 (by omega) _).monoX ?_ ?_
  · rintro _ M ⟨e,rfl,rfl,rfl⟩
    unfold Rz.d
    repeat decreasing_trivial_pre_omega
    refine (alike_spec (enc_noL e) ?_).mono ?_
    · have b1:=h1 e rfl
      have b2:4 ^ k<=4 ^ 10:=Nat.pow_le_pow_right (by omega) hk
      omega
    rintro _ _ ⟨rfl,rfl⟩
    repeat decreasing_trivial_pre_omega
    exact ⟨rfl,by simp⟩
  · rintro _ M ⟨j,rfl,rfl,rfl⟩
    refine ⟨rfl,?_⟩
    unfold Rz.d
    repeat decreasing_trivial_pre_omega
    refine ok_isX (c:="NoInverse") (ff:="number") (xs:=[.int j]) ?_
    refine ⟨_,rfl,fun _=>?_,fun h=>absurd h (by decide)⟩
    repeat decreasing_trivial_pre_omega
    refine refused_spec.mono ?_
    rintro _ _ ⟨rfl,rfl⟩
    exact ok_retD ⟨rfl,by simp⟩
theorem trim_last {A M':Mm} {x:List D} (n:Nx A.length (A++[x]) M'):M'.take A.length=A:=by
  obtain ⟨a,b,c,rfl⟩:=n
  simp
noncomputable def Askd (x:D):Prop:=∃ (n:Int) (s:D),x=.tup [.int n,s]/\∀ M:Mm,Ok (F_l_right [.d (.int n),.d s] M) fun w M'=>w=.d (.bl true)/\M'=M
theorem askd {n:Int} {k:Nat} {s:D} (hn:2<=n) (hn2:n<=1000000) (hk:k<=10) (h:IsS 8 k s):Askd (.tup [.int n,s]):=by
  obtain ⟨z,hz⟩:=both_all hn hn2 h
  exact ⟨n,s,rfl,fun M=>right_spec hk hz⟩
theorem law_ok (ns:List Int) (hn:ns.length<=63):Ok (F_law [.d (.fz (ns.map D.int))] []) fun w _=>w=.d (.bl true):=by
  unfold F_law
  refine ok_fnX rfl ?_
  unfold b_law
  repeat decreasing_trivial_pre_omega
  refine (box_spec (by omega) hn).mono ?_
  rintro _ _ ⟨x0,y0,z0,rfl,rfl⟩
  have hb:Bx ([]++[[D.int x0,D.int y0,D.int z0]]) 0:=⟨x0,y0,z0,rfl⟩
  rw [show ([]:Mm).length=0 from rfl]
  have n:=Nx.refl hb
  repeat decreasing_trivial_pre_omega
  refine (saying_spec 10 50 _ 0 8 10 hb (by omega) (by omega) (by omega) rfl (by omega) (by omega)).mono ?_
  rintro _ M1 ⟨d1,rfl,s1,n'⟩
  replace n:=n.trans n'
  replace hb:=n'.bx hb
  clear n'
  clear n
  repeat decreasing_trivial_pre_omega
  refine (box_spec (by omega) hn).mono ?_
  rintro _ _ ⟨x,y,z,rfl,rfl⟩
  repeat decreasing_trivial_pre_omega
  refine (take_spec (hb.app (J:=[[.int x,.int y,.int z]])) (by omega) (by omega)).mono ?_
  rintro _ _ ⟨t1,rfl,l1,u1,n'⟩
  obtain ⟨M2,rfl,n2⟩:=n'.unapp hb.lt
  have hb2:=n2.bx hb
  have el:=n2.len
  clear n' n2 hb
  repeat decreasing_trivial_pre_omega
  obtain ⟨w3,e3,h3⟩:=at2 l1 u1 (.int 10) (.int 6)
  obtain ⟨k,rfl,k1,k2⟩:∃ k:Nat,w3=.int k/\1<=k/\k<=10:=by
    rcases h3 with rfl | rfl
    · exact ⟨10,rfl,by omega,by omega⟩
    · exact ⟨6,rfl,by omega,by omega⟩
  refine ok_ixL e3 ?_
  repeat decreasing_trivial_pre_omega
  refine (saying_spec k 50 _ M1.length 8 k (⟨x,y,z,by rw [<- el]; simp⟩) (by omega) (by omega) (by omega) rfl (by omega) (by omega)).mono ?_
  rintro _ M4 ⟨d2,rfl,s2,n'⟩
  have hb4:Bx M4 0:=by
    obtain ⟨a',b',c',rfl⟩:=n'
    have hlt:=hb2.lt
    obtain ⟨p,q,r,h⟩:=hb2
    exact ⟨p,q,r,by rw [List.getElem?_set_ne (by omega),List.getElem?_append_left hlt]; exact h⟩
  clear n' hb2
  repeat decreasing_trivial_pre_omega
  refine comp_inv (fun i acc L' M'=>(∀ x∈acc,IsS 8 1 x)/\acc.length=i/\M'=M4/\∃ a,L'=[a,some (.d (.fz (ns.map D.int)))]) ?_
  repeat decreasing_trivial_pre_omega
  refine ⟨by decide,⟨by simp,rfl,rfl,none,rfl⟩,?_,by simp [rngD],?_,?_⟩
  · rintro i acc L' M' hi ⟨_,hl,rfl,_⟩
    exact ⟨rfl,(fun t e=>by cases e),by omega⟩
  · rintro i d acc _ M1 hx ⟨ha,hl,rfl,a,rfl⟩
    obtain ⟨hi,rfl⟩:=rngD_get hx
    repeat decreasing_trivial_pre_omega
    refine (box_spec (by omega) hn).mono ?_
    rintro _ _ ⟨x,y,z,rfl,rfl⟩
    have hb2:Bx (M1++[acc]++[[.int x,.int y,.int z]]) (M1++[acc]).length:=⟨x,y,z,by simp⟩
    repeat decreasing_trivial_pre_omega
    refine (saying_spec 1 50 _ _ 8 1 hb2 (by omega) (by omega) (by omega) rfl (by omega) (by omega)).mono ?_
    rintro _ M' ⟨d',rfl,hS',n'⟩
    refine ⟨_,rfl,?_⟩
    rw [trim_last n']
    refine ⟨_,_,rfl,rfl,?_,by simp [hl],rfl,_,rfl⟩
    intro x hx
    rcases List.mem_append.mp hx with hx | hx
    · exact ha x hx
    · rw [List.mem_singleton.mp hx]; exact hS'
  rintro acc _ M5 ⟨ha,hl,rfl,a,rfl⟩
  have hl5:acc.length=5:=by simpa [rngD] using hl
  have hb:=hb4
  have n:=Nx.refl hb
  repeat decreasing_trivial_pre_omega
  refine ok_tup (xs:=acc) rfl ?_
  repeat decreasing_trivial_pre_omega
  (refine (take_spec hb (by omega) (by omega)).mono ?_; rintro _ _ ⟨d3,rfl,l_d3,u_d3,n'⟩; replace n:=n.trans n'; replace hb:=n'.bx hb; clear n')
  repeat decreasing_trivial_pre_omega
  (refine (take_spec hb (by omega) (by omega)).mono ?_; rintro _ _ ⟨d4,rfl,l_d4,u_d4,n'⟩; replace n:=n.trans n'; replace hb:=n'.bx hb; clear n')
  have ec:cut acc none (some (1+d4))=acc.take (1+d4).toNat:=by
    rw [show (1+d4)=(((1+d4).toNat:Nat):Int) by omega]
    exact cut_lo (by omega)
  have hcl:(cut acc none (some (1+d4))).length=(1+d4).toNat:=by rw [ec]; simp; omega
  have sF:IsS 8 6 (.tup [.str "least",.int d3,.tup (cut acc none (some (1+d4)))]) :=
    (IsS.least 1 d3 (cut acc none (some (1+d4))) l_d3 (by omega) (by omega) (by omega) fun x hx=>ha x (List.mem_of_mem_take (by rw [ec] at hx; exact hx))).up (by omega)
  obtain ⟨few,efew⟩:∃ few,D.tup [.str "least",.int d3,.tup (cut acc none (some (1+d4)))]=few:=⟨_,rfl⟩
  rw [efew] at sF
  repeat decreasing_trivial_pre_omega
  refine (saying_spec 3 50 _ 0 8 3 hb (by omega) (by omega) (by omega) rfl (by omega) (by omega)).mono ?_
  rintro _ M6 ⟨d5,rfl,s5,_⟩
  have s7:=IsS.two 6 "or" few d5 (.inr rfl) sF (s5.up (by omega))
  have s8:=IsS.two 6 "and" d5 few (.inl rfl) (s5.up (by omega)) sF
  repeat decreasing_trivial_pre_omega
  refine ⟨by decide,?_⟩
  refine forD_inv (fun i L M'=>∃ (asked:List D) (rest:Mm) (o8 o9:Option W),M'=M6++[asked]++rest/\asked.length=5*i/\(∀ x∈asked,Askd x)/\L=[some (.d (.fz (ns.map D.int))),some (.ref 0),some (.d d1),some (.d d2),some (.d (.tup acc)),some (.d few),some (.d d5),some (.ref M6.length),o8,o9]) ⟨[],[],none,none,by simp,rfl,by simp,?_⟩ (fun i L M _ _ t e=>by cases e) ?_ ?_
  · rw [<- efew]; rfl
  · rintro i d _ _ hd ⟨asked,rest,o8,o9,rfl,hlen,hall,rfl⟩
    obtain ⟨hi,rfl⟩:=rngD_get hd
    have hi:i < 2:=by simpa using hi
    repeat decreasing_trivial_pre_omega
    refine (box_spec (by omega) hn).mono ?_
    rintro _ _ ⟨x,y,z,rfl,rfl⟩
    have hb7:Bx (M6++[asked]++rest++[[.int x,.int y,.int z]]) (M6++[asked]++rest).length:=⟨x,y,z,by simp⟩
    repeat decreasing_trivial_pre_omega
    refine (n_spec hb7).mono ?_
    rintro _ M7 ⟨m,rfl,m2,m1,n7⟩
    obtain ⟨a',b',c',rfl⟩:=n7
    have eM:((M6++[asked]++rest++[[D.int x,D.int y,D.int z]]).set (M6++[asked]++rest).length [D.int a',D.int b',D.int c'])=M6++[asked]++(rest++[[D.int a',D.int b',D.int c']]):=by simp
    rw [eM]
    repeat decreasing_trivial_pre_omega
    have g7:(M6++[asked]++(rest++[[D.int a',D.int b',D.int c']]))[M6.length]?=some asked:=by simp
    obtain ⟨ys,ey⟩:∃ ys,ys=[D.tup [.int m,d1],D.tup [.int m,d2],D.tup [.int m,few],D.tup [.int m,.tup [.str "or",few,d5]],D.tup [.int m,.tup [.str "and",d5,few]]]:=⟨_,rfl⟩
    have yl:ys.length=5:=by rw [ey]; rfl
    have ya:∀ x∈ys,Askd x:=by
      intro x hx
      rw [ey] at hx
      simp only [List.mem_cons,List.not_mem_nil,or_false] at hx
      rcases hx with rfl | rfl | rfl | rfl | rfl
      · exact askd m2 m1 (by omega) s1
      · exact askd m2 m1 k2 s2
      · exact askd m2 m1 (by omega) sF
      · exact askd m2 m1 (by omega) s7
      · exact askd m2 m1 (by omega) s8
    refine ok_extendL (xs:=asked) (ys:=ys) (fun z h=>by cases h) g7 (by rw [ey]; rfl) (by omega) ?_
    refine ⟨asked++ys,rest++[[D.int a',D.int b',D.int c']],_,_,by simp,by simp [hlen,yl]; omega,fun x hx=>?_,rfl⟩
    rcases List.mem_append.mp hx with hx | hx
    · exact hall x hx
    · exact ya x hx
  · rintro _ _ ⟨asked,rest,o8,o9,rfl,hlen,hall,rfl⟩
    have hl10:asked.length=10:=by rw [hlen]; rfl
    have g7:(M6++[asked]++rest)[M6.length]?=some asked:=by simp
    have ec2:cut asked none (some ((2:Nat):Int))=asked.take 2:=cut_lo (by omega)
    repeat decreasing_trivial_pre_omega
    refine comp_inv (fun i acc L' M'=>(∀ x∈acc,x=D.bl true)/\acc.length=i/\M'=M6++[asked]++rest/\∃ a b,L'=[a,b]) ?_
    repeat decreasing_trivial_pre_omega
    refine ok_slL (xs:=asked) (fun z h=>by cases h) g7 ?_
    rw [show (some (2:Int))=some ((2:Nat):Int) from rfl,ec2]
    repeat decreasing_trivial_pre_omega
    refine ok_addL (xs:=asked) (ys:=asked.take 2) g7 rfl (by simp; omega) ?_
    refine ⟨_,rfl,⟨by simp,rfl,rfl,none,none,rfl⟩,?_,by simp; omega,?_,?_⟩
    · rintro i acc L' M' hi ⟨_,hl,rfl,_⟩
      exact ⟨rfl,(fun t e=>by cases e),by omega⟩
    · rintro i d acc _ _ hx ⟨ha,hl,rfl,a,b,rfl⟩
      have hm:d∈asked++asked.take 2:=List.mem_of_getElem? hx
      have hd:Askd d:=by
        rcases List.mem_append.mp hm with h | h
        · exact hall d h
        · exact hall d (List.mem_of_mem_take h)
      obtain ⟨n,s,rfl,hr⟩:=hd
      repeat decreasing_trivial_pre_omega
      refine (hr _).mono ?_
      rintro _ _ ⟨rfl,rfl⟩
      refine ⟨_,_,rfl,rfl,fun x hx=>?_,by simp [hl],rfl,_,_,rfl⟩
      rcases List.mem_append.mp hx with h | h
      · exact ha x h
      · exact List.mem_singleton.mp h
    · rintro acc _ _ ⟨ha,hl,rfl,a,b,rfl⟩
      repeat decreasing_trivial_pre_omega
      have er:acc=(List.replicate acc.length true).map D.bl:=by
        rw [List.map_replicate]
        exact List.eq_replicate_iff.mpr ⟨rfl,ha⟩
      refine ok_bls (bs:=List.replicate acc.length true) rfl er ?_
      repeat decreasing_trivial_pre_omega
      simp
theorem law_math (ns:List Int) (hn:ns.length<=63):∃ M',F_law [.d (.fz (ns.map D.int))] []=.ok (.d (.bl true)) M':=by
  obtain ⟨_,M,e,rfl⟩:=Ok_def.mp (law_ok ns hn)
  exact ⟨M,e⟩
theorem all_mk {l:PySem.W.OpenLaw} {w:World} {K:PySem.W.Frag} {h:Heap} {mg:Str->Option Value} {fa:Addr} {f1 f2 f3 f4 f5 f6 f7 f8 f9 f10 f11 f12 f13 f14 f15 f16 f17 f18 eL eBadText jBadText eNoDeed jNoDeed eNoInverse jNoInverse eNoPaper jNoPaper eNoRest eNoRoot jNoRoot eNoRow eTooMany jTooMany:Addr} {od1 an1 od2 an2 od3 an3 od4 an4 od5 an5 od6 an6 od7 an7 od8 an8 od9 an9 od10 an10 od11 an11 od12 an12 od13 an13 od14 an14 od15 an15 od16 an16 od17 an17 od18 an18 odNoInverse anNoInverse:Option Addr} {sl1 sl2 sl3 sl4 sl5 sl6 sl7 sl8 sl9 sl10 sl11 sl12 sl13 sl14 sl15 sl16 sl17 sl18 slNoInverse:Array (Option Value)} {oc1 kV1 dc1 pm1 cd1 ct1 oc2 kV2 dc2 pm2 cd2 ct2 oc3 kV3 dc3 pm3 cd3 ct3 oc4 kV4 dc4 pm4 cd4 ct4 oc5 kV5 dc5 pm5 cd5 ct5 oc6 kV6 dc6 pm6 cd6 ct6 oc7 kV7 dc7 pm7 cd7 ct7 oc8 kV8 dc8 pm8 cd8 ct8 oc9 kV9 dc9 pm9 cd9 ct9 oc10 kV10 dc10 pm10 cd10 ct10 oc11 kV11 dc11 pm11 cd11 ct11 oc12 kV12 dc12 pm12 cd12 ct12 oc13 kV13 dc13 pm13 cd13 ct13 oc14 kV14 dc14 pm14 cd14 ct14 oc15 kV15 dc15 pm15 cd15 ct15 oc16 kV16 dc16 pm16 cd16 ct16 oc17 kV17 dc17 pm17 cd17 ct17 oc18 kV18 dc18 pm18 cd18 ct18 ocNoInverse kVNoInverse dcNoInverse pmNoInverse cdNoInverse ctNoInverse:Value} (X:K.In h) (G:h.Ns mainGlobals mg) (hfa:mg "law"=some (.ref fa))
    (a1:PySem.W.nsIn K mainGlobals "inverse"=some (some (.ref f1)))
    (l1:K.lookup f1=some ⟨oc1,od1,.func (PySem.W.fnOf "inverse" "inverse" (defArgs s_inverse) (defBody s_inverse) (defScope s_inverse) .none kV1 dc1 pm1 an1 cd1 ct1),sl1⟩)
    (c1:PySem.W.codeIn K cd1 "inverse"=true)
    (k1:PySem.W.keepIn K (.ref f1)=true)
    (a2:PySem.W.nsIn K mainGlobals "said"=some (some (.ref f2)))
    (l2:K.lookup f2=some ⟨oc2,od2,.func (PySem.W.fnOf "said" "said" (defArgs s_said) (defBody s_said) (defScope s_said) .none kV2 dc2 pm2 an2 cd2 ct2),sl2⟩)
    (c2:PySem.W.codeIn K cd2 "said"=true)
    (k2:PySem.W.keepIn K (.ref f2)=true)
    (a3:PySem.W.nsIn K mainGlobals "said_least"=some (some (.ref f3)))
    (l3:K.lookup f3=some ⟨oc3,od3,.func (PySem.W.fnOf "said_least" "said_least" (defArgs s_said_least) (defBody s_said_least) (defScope s_said_least) .none kV3 dc3 pm3 an3 cd3 ct3),sl3⟩)
    (c3:PySem.W.codeIn K cd3 "said_least"=true)
    (k3:PySem.W.keepIn K (.ref f3)=true)
    (a4:PySem.W.nsIn K mainGlobals "step_numbers"=some (some (.ref f4)))
    (l4:K.lookup f4=some ⟨oc4,od4,.func (PySem.W.fnOf "step_numbers" "step_numbers" (defArgs s_step_numbers) (defBody s_step_numbers) (defScope s_step_numbers) .none kV4 dc4 pm4 an4 cd4 ct4),sl4⟩)
    (c4:PySem.W.codeIn K cd4 "step_numbers"=true)
    (k4:PySem.W.keepIn K (.ref f4)=true)
    (a5:PySem.W.nsIn K mainGlobals "inverse_of"=some (some (.ref f5)))
    (l5:K.lookup f5=some ⟨oc5,od5,.func (PySem.W.fnOf "inverse_of" "inverse_of" (defArgs s_inverse_of) (defBody s_inverse_of) (defScope s_inverse_of) .none kV5 dc5 pm5 an5 cd5 ct5),sl5⟩)
    (c5:PySem.W.codeIn K cd5 "inverse_of"=true)
    (k5:PySem.W.keepIn K (.ref f5)=true)
    (a6:PySem.W.nsIn K mainGlobals "_law_box"=some (some (.ref f6)))
    (l6:K.lookup f6=some ⟨oc6,od6,.func (PySem.W.fnOf "_law_box" "_law_box" (defArgs s_l_box) (defBody s_l_box) (defScope s_l_box) .none kV6 dc6 pm6 an6 cd6 ct6),sl6⟩)
    (c6:PySem.W.codeIn K cd6 "_law_box"=true)
    (k6:PySem.W.keepIn K (.ref f6)=true)
    (a7:PySem.W.nsIn K mainGlobals "_law_take"=some (some (.ref f7)))
    (l7:K.lookup f7=some ⟨oc7,od7,.func (PySem.W.fnOf "_law_take" "_law_take" (defArgs s_l_take) (defBody s_l_take) (defScope s_l_take) .none kV7 dc7 pm7 an7 cd7 ct7),sl7⟩)
    (c7:PySem.W.codeIn K cd7 "_law_take"=true)
    (k7:PySem.W.keepIn K (.ref f7)=true)
    (a8:PySem.W.nsIn K mainGlobals "_law_n"=some (some (.ref f8)))
    (l8:K.lookup f8=some ⟨oc8,od8,.func (PySem.W.fnOf "_law_n" "_law_n" (defArgs s_l_n) (defBody s_l_n) (defScope s_l_n) .none kV8 dc8 pm8 an8 cd8 ct8),sl8⟩)
    (c8:PySem.W.codeIn K cd8 "_law_n"=true)
    (k8:PySem.W.keepIn K (.ref f8)=true)
    (a9:PySem.W.nsIn K mainGlobals "_law_shared"=some (some (.ref f9)))
    (l9:K.lookup f9=some ⟨oc9,od9,.func (PySem.W.fnOf "_law_shared" "_law_shared" (defArgs s_l_shared) (defBody s_l_shared) (defScope s_l_shared) .none kV9 dc9 pm9 an9 cd9 ct9),sl9⟩)
    (c9:PySem.W.codeIn K cd9 "_law_shared"=true)
    (k9:PySem.W.keepIn K (.ref f9)=true)
    (a10:PySem.W.nsIn K mainGlobals "_law_inverse"=some (some (.ref f10)))
    (l10:K.lookup f10=some ⟨oc10,od10,.func (PySem.W.fnOf "_law_inverse" "_law_inverse" (defArgs s_l_inverse) (defBody s_l_inverse) (defScope s_l_inverse) .none kV10 dc10 pm10 an10 cd10 ct10),sl10⟩)
    (c10:PySem.W.codeIn K cd10 "_law_inverse"=true)
    (k10:PySem.W.keepIn K (.ref f10)=true)
    (a11:PySem.W.nsIn K mainGlobals "_law_alike"=some (some (.ref f11)))
    (l11:K.lookup f11=some ⟨oc11,od11,.func (PySem.W.fnOf "_law_alike" "_law_alike" (defArgs s_l_alike) (defBody s_l_alike) (defScope s_l_alike) .none kV11 dc11 pm11 an11 cd11 ct11),sl11⟩)
    (c11:PySem.W.codeIn K cd11 "_law_alike"=true)
    (k11:PySem.W.keepIn K (.ref f11)=true)
    (a12:PySem.W.nsIn K mainGlobals "_law_saying"=some (some (.ref f12)))
    (l12:K.lookup f12=some ⟨oc12,od12,.func (PySem.W.fnOf "_law_saying" "_law_saying" (defArgs s_l_saying) (defBody s_l_saying) (defScope s_l_saying) .none kV12 dc12 pm12 an12 cd12 ct12),sl12⟩)
    (c12:PySem.W.codeIn K cd12 "_law_saying"=true)
    (k12:PySem.W.keepIn K (.ref f12)=true)
    (a13:PySem.W.nsIn K mainGlobals "_law_refused_by"=some (some (.ref f13)))
    (l13:K.lookup f13=some ⟨oc13,od13,.func (PySem.W.fnOf "_law_refused_by" "_law_refused_by" (defArgs s_l_refused_by) (defBody s_l_refused_by) (defScope s_l_refused_by) .none kV13 dc13 pm13 an13 cd13 ct13),sl13⟩)
    (c13:PySem.W.codeIn K cd13 "_law_refused_by"=true)
    (k13:PySem.W.keepIn K (.ref f13)=true)
    (a14:PySem.W.nsIn K mainGlobals "_law_numbers"=some (some (.ref f14)))
    (l14:K.lookup f14=some ⟨oc14,od14,.func (PySem.W.fnOf "_law_numbers" "_law_numbers" (defArgs s_l_numbers) (defBody s_l_numbers) (defScope s_l_numbers) .none kV14 dc14 pm14 an14 cd14 ct14),sl14⟩)
    (c14:PySem.W.codeIn K cd14 "_law_numbers"=true)
    (k14:PySem.W.keepIn K (.ref f14)=true)
    (a15:PySem.W.nsIn K mainGlobals "_law_least"=some (some (.ref f15)))
    (l15:K.lookup f15=some ⟨oc15,od15,.func (PySem.W.fnOf "_law_least" "_law_least" (defArgs s_l_least) (defBody s_l_least) (defScope s_l_least) .none kV15 dc15 pm15 an15 cd15 ct15),sl15⟩)
    (c15:PySem.W.codeIn K cd15 "_law_least"=true)
    (k15:PySem.W.keepIn K (.ref f15)=true)
    (a16:PySem.W.nsIn K mainGlobals "_law_said"=some (some (.ref f16)))
    (l16:K.lookup f16=some ⟨oc16,od16,.func (PySem.W.fnOf "_law_said" "_law_said" (defArgs s_l_said) (defBody s_l_said) (defScope s_l_said) .none kV16 dc16 pm16 an16 cd16 ct16),sl16⟩)
    (c16:PySem.W.codeIn K cd16 "_law_said"=true)
    (k16:PySem.W.keepIn K (.ref f16)=true)
    (a17:PySem.W.nsIn K mainGlobals "_law_right"=some (some (.ref f17)))
    (l17:K.lookup f17=some ⟨oc17,od17,.func (PySem.W.fnOf "_law_right" "_law_right" (defArgs s_l_right) (defBody s_l_right) (defScope s_l_right) .none kV17 dc17 pm17 an17 cd17 ct17),sl17⟩)
    (c17:PySem.W.codeIn K cd17 "_law_right"=true)
    (k17:PySem.W.keepIn K (.ref f17)=true)
    (a18:PySem.W.nsIn K mainGlobals "law"=some (some (.ref f18)))
    (l18:K.lookup f18=some ⟨oc18,od18,.func (PySem.W.fnOf "law" "law" (defArgs s_law) (defBody s_law) (defScope s_law) .none kV18 dc18 pm18 an18 cd18 ct18),sl18⟩)
    (c18:PySem.W.codeIn K cd18 "law"=true)
    (k18:PySem.W.keepIn K (.ref f18)=true)
    (aL:PySem.W.nsIn K mainGlobals "LentError"=some (some (.ref eL)))
    (oL:xcB K eL vb none=true)
    (rL:PySem.W.readsIn K eL (.type "type")=true)
    (gL:PySem.W.specialIn K (.ref eL) "__getattribute__"=some (some (.builtin "type.__getattribute__")))
    (iL:PySem.W.findCls K (.ref eL) (.type "type") "__init__"=some (.val (.builtin "ValueError.__init__")))
    (tL:PySem.W.tailIn K vb (.ref eL::vb)=true)
    (aBadText:PySem.W.nsIn K mainGlobals "BadText"=some (some (.ref eBadText)))
    (xBadText:xkB K "BadText" eBadText eL=true)
    (jBadText_:PySem.W.findIn K (.ref eBadText) "__init__"=some (some (.ref jBadText)))
    (bBadText:xcB K eBadText (.ref eL::vb) (some (.ref jBadText))=true)
    (aNoDeed:PySem.W.nsIn K mainGlobals "NoDeed"=some (some (.ref eNoDeed)))
    (xNoDeed:xkB K "NoDeed" eNoDeed eL=true)
    (jNoDeed_:PySem.W.findIn K (.ref eNoDeed) "__init__"=some (some (.ref jNoDeed)))
    (bNoDeed:xcB K eNoDeed (.ref eL::vb) (some (.ref jNoDeed))=true)
    (aNoInverse:PySem.W.nsIn K mainGlobals "NoInverse"=some (some (.ref eNoInverse)))
    (xNoInverse:xkB K "NoInverse" eNoInverse eL=true)
    (jNoInverse_:PySem.W.findIn K (.ref eNoInverse) "__init__"=some (some (.ref jNoInverse)))
    (bNoInverse:xcB K eNoInverse (.ref eL::vb) (some (.ref jNoInverse))=true)
    (lNoInverse:K.lookup jNoInverse=some ⟨ocNoInverse,odNoInverse,.func (PySem.W.fnOf "__init__" "NoInverse.__init__" (defArgs si_NoInverse) (defBody si_NoInverse) (defScope si_NoInverse) .none kVNoInverse dcNoInverse pmNoInverse anNoInverse cdNoInverse ctNoInverse),slNoInverse⟩)
    (cNoInverse:PySem.W.codeIn K cdNoInverse "NoInverse.__init__"=true)
    (kNoInverse:PySem.W.keepIn K (.ref jNoInverse)=true)
    (tNoInverse:PySem.W.typeIn K (.ref jNoInverse)=some (.type "function"))
    (nNoInverse:PySem.W.findIn K (.ref eNoInverse) "number"=some none)
    (sNoInverse:PySem.W.findIn K (.ref eNoInverse) "__setattr__"=some (some (.builtin "object.__setattr__")))
    (qNoInverse:PySem.W.keepIn K (.ref eNoInverse)=true)
    (aNoPaper:PySem.W.nsIn K mainGlobals "NoPaper"=some (some (.ref eNoPaper)))
    (xNoPaper:xkB K "NoPaper" eNoPaper eL=true)
    (jNoPaper_:PySem.W.findIn K (.ref eNoPaper) "__init__"=some (some (.ref jNoPaper)))
    (bNoPaper:xcB K eNoPaper (.ref eL::vb) (some (.ref jNoPaper))=true)
    (aNoRest:PySem.W.nsIn K mainGlobals "NoRest"=some (some (.ref eNoRest)))
    (xNoRest:xkB K "NoRest" eNoRest eL=true)
    (bNoRest:xcB K eNoRest (.ref eL::vb) none=true)
    (aNoRoot:PySem.W.nsIn K mainGlobals "NoRoot"=some (some (.ref eNoRoot)))
    (xNoRoot:xkB K "NoRoot" eNoRoot eL=true)
    (jNoRoot_:PySem.W.findIn K (.ref eNoRoot) "__init__"=some (some (.ref jNoRoot)))
    (bNoRoot:xcB K eNoRoot (.ref eL::vb) (some (.ref jNoRoot))=true)
    (aNoRow:PySem.W.nsIn K mainGlobals "NoRow"=some (some (.ref eNoRow)))
    (xNoRow:xkB K "NoRow" eNoRow eL=true)
    (bNoRow:xcB K eNoRow (.ref eL::vb) none=true)
    (aTooMany:PySem.W.nsIn K mainGlobals "TooMany"=some (some (.ref eTooMany)))
    (xTooMany:xkB K "TooMany" eTooMany eL=true)
    (jTooMany_:PySem.W.findIn K (.ref eTooMany) "__init__"=some (some (.ref jTooMany)))
    (bTooMany:xcB K eTooMany (.ref eL::vb) (some (.ref jTooMany))=true)
    (z_ValueError:PySem.W.nsIn K mainGlobals "ValueError"=some none)
    (z_all:PySem.W.nsIn K mainGlobals "all"=some none)
    (z_bool:PySem.W.nsIn K mainGlobals "bool"=some none)
    (z_int:PySem.W.nsIn K mainGlobals "int"=some none)
    (z_isinstance:PySem.W.nsIn K mainGlobals "isinstance"=some none)
    (z_len:PySem.W.nsIn K mainGlobals "len"=some none)
    (z_list:PySem.W.nsIn K mainGlobals "list"=some none)
    (z_max:PySem.W.nsIn K mainGlobals "max"=some none)
    (z_min:PySem.W.nsIn K mainGlobals "min"=some none)
    (z_range:PySem.W.nsIn K mainGlobals "range"=some none)
    (z_reversed:PySem.W.nsIn K mainGlobals "reversed"=some none)
    (z_tuple:PySem.W.nsIn K mainGlobals "tuple"=some none)
    (z_zip:PySem.W.nsIn K mainGlobals "zip"=some none)
    : ∃ fd:FuncData,(∀ (s:Shared) (v:Value),BindsTo s fd ⟨[v],[]⟩ [("_law_script",v)])/\∀ base:Heap,K.In base->base.Ns mainGlobals mg->FnOk l.prog w K mg base (CX1 l.prog w) 57 fa fd ["_law_script"] (spX K 1 F_law):=by
  have e:=hfa.symm.trans (PySem.W.mg_of X G a18)
  cases e
  have T:Tx K mg ⟨f1,(PySem.W.fnOf "inverse" "inverse" (defArgs s_inverse) (defBody s_inverse) (defScope s_inverse) .none kV1 dc1 pm1 an1 cd1 ct1),f2,(PySem.W.fnOf "said" "said" (defArgs s_said) (defBody s_said) (defScope s_said) .none kV2 dc2 pm2 an2 cd2 ct2),f3,(PySem.W.fnOf "said_least" "said_least" (defArgs s_said_least) (defBody s_said_least) (defScope s_said_least) .none kV3 dc3 pm3 an3 cd3 ct3),f4,(PySem.W.fnOf "step_numbers" "step_numbers" (defArgs s_step_numbers) (defBody s_step_numbers) (defScope s_step_numbers) .none kV4 dc4 pm4 an4 cd4 ct4),f5,(PySem.W.fnOf "inverse_of" "inverse_of" (defArgs s_inverse_of) (defBody s_inverse_of) (defScope s_inverse_of) .none kV5 dc5 pm5 an5 cd5 ct5),f6,(PySem.W.fnOf "_law_box" "_law_box" (defArgs s_l_box) (defBody s_l_box) (defScope s_l_box) .none kV6 dc6 pm6 an6 cd6 ct6),f7,(PySem.W.fnOf "_law_take" "_law_take" (defArgs s_l_take) (defBody s_l_take) (defScope s_l_take) .none kV7 dc7 pm7 an7 cd7 ct7),f8,(PySem.W.fnOf "_law_n" "_law_n" (defArgs s_l_n) (defBody s_l_n) (defScope s_l_n) .none kV8 dc8 pm8 an8 cd8 ct8),f9,(PySem.W.fnOf "_law_shared" "_law_shared" (defArgs s_l_shared) (defBody s_l_shared) (defScope s_l_shared) .none kV9 dc9 pm9 an9 cd9 ct9),f10,(PySem.W.fnOf "_law_inverse" "_law_inverse" (defArgs s_l_inverse) (defBody s_l_inverse) (defScope s_l_inverse) .none kV10 dc10 pm10 an10 cd10 ct10),f11,(PySem.W.fnOf "_law_alike" "_law_alike" (defArgs s_l_alike) (defBody s_l_alike) (defScope s_l_alike) .none kV11 dc11 pm11 an11 cd11 ct11),f12,(PySem.W.fnOf "_law_saying" "_law_saying" (defArgs s_l_saying) (defBody s_l_saying) (defScope s_l_saying) .none kV12 dc12 pm12 an12 cd12 ct12),f13,(PySem.W.fnOf "_law_refused_by" "_law_refused_by" (defArgs s_l_refused_by) (defBody s_l_refused_by) (defScope s_l_refused_by) .none kV13 dc13 pm13 an13 cd13 ct13),f14,(PySem.W.fnOf "_law_numbers" "_law_numbers" (defArgs s_l_numbers) (defBody s_l_numbers) (defScope s_l_numbers) .none kV14 dc14 pm14 an14 cd14 ct14),f15,(PySem.W.fnOf "_law_least" "_law_least" (defArgs s_l_least) (defBody s_l_least) (defScope s_l_least) .none kV15 dc15 pm15 an15 cd15 ct15),f16,(PySem.W.fnOf "_law_said" "_law_said" (defArgs s_l_said) (defBody s_l_said) (defScope s_l_said) .none kV16 dc16 pm16 an16 cd16 ct16),f17,(PySem.W.fnOf "_law_right" "_law_right" (defArgs s_l_right) (defBody s_l_right) (defScope s_l_right) .none kV17 dc17 pm17 an17 cd17 ct17),fa,(PySem.W.fnOf "law" "law" (defArgs s_law) (defBody s_law) (defScope s_law) .none kV18 dc18 pm18 an18 cd18 ct18),eL,eBadText,eNoDeed,eNoInverse,jNoInverse,(PySem.W.fnOf "__init__" "NoInverse.__init__" (defArgs si_NoInverse) (defBody si_NoInverse) (defScope si_NoInverse) .none kVNoInverse dcNoInverse pmNoInverse anNoInverse cdNoInverse ctNoInverse),eNoPaper,eNoRest,eNoRoot,eNoRow,eTooMany⟩ :=
    ⟨fun_mk l1 c1 k1,
     (fun_mk (st:=s_inverse) l1 c1 k1).binds (ps:=["n","k"]) (fun _ _ _ _ _ _=>ex2 fun _ _=>rfl),
     k1,
     PySem.W.mg_of X G a1,
     fun_mk l2 c2 k2,
     (fun_mk (st:=s_said) l2 c2 k2).binds (ps:=["n","saying"]) (fun _ _ _ _ _ _=>ex2 fun _ _=>rfl),
     k2,
     PySem.W.mg_of X G a2,
     fun_mk l3 c3 k3,
     (fun_mk (st:=s_said_least) l3 c3 k3).binds (ps:=["n","k","parts"]) (fun _ _ _ _ _ _=>ex3 fun _ _ _=>rfl),
     k3,
     PySem.W.mg_of X G a3,
     fun_mk l4 c4 k4,
     (fun_mk (st:=s_step_numbers) l4 c4 k4).binds (ps:=["n","row"]) (fun _ _ _ _ _ _=>ex2 fun _ _=>rfl),
     k4,
     PySem.W.mg_of X G a4,
     fun_mk l5 c5 k5,
     (fun_mk (st:=s_inverse_of) l5 c5 k5).binds (ps:=["n","number"]) (fun _ _ _ _ _ _=>ex2 fun _ _=>rfl),
     k5,
     PySem.W.mg_of X G a5,
     fun_mk l6 c6 k6,
     (fun_mk (st:=s_l_box) l6 c6 k6).binds (ps:=["_law_script","_law_k"]) (fun _ _ _ _ _ _=>ex2 fun _ _=>rfl),
     k6,
     PySem.W.mg_of X G a6,
     fun_mk l7 c7 k7,
     (fun_mk (st:=s_l_take) l7 c7 k7).binds (ps:=["_law_box_here","_law_many"]) (fun _ _ _ _ _ _=>ex2 fun _ _=>rfl),
     k7,
     PySem.W.mg_of X G a7,
     fun_mk l8 c8 k8,
     (fun_mk (st:=s_l_n) l8 c8 k8).binds (ps:=["_law_box_here"]) (fun _ _ _ _ _ _=>ex1 fun _=>rfl),
     k8,
     PySem.W.mg_of X G a8,
     fun_mk l9 c9 k9,
     (fun_mk (st:=s_l_shared) l9 c9 k9).binds (ps:=["_law_one","_law_other"]) (fun _ _ _ _ _ _=>ex2 fun _ _=>rfl),
     k9,
     PySem.W.mg_of X G a9,
     fun_mk l10 c10 k10,
     (fun_mk (st:=s_l_inverse) l10 c10 k10).binds (ps:=["_law_n_here","_law_u"]) (fun _ _ _ _ _ _=>ex2 fun _ _=>rfl),
     k10,
     PySem.W.mg_of X G a10,
     fun_mk l11 c11 k11,
     (fun_mk (st:=s_l_alike) l11 c11 k11).binds (ps:=["_law_found","_law_due"]) (fun _ _ _ _ _ _=>ex2 fun _ _=>rfl),
     k11,
     PySem.W.mg_of X G a11,
     fun_mk l12 c12 k12,
     (fun_mk (st:=s_l_saying) l12 c12 k12).binds (ps:=["_law_box_here","_law_givens","_law_room"]) (fun _ _ _ _ _ _=>ex3 fun _ _ _=>rfl),
     k12,
     PySem.W.mg_of X G a12,
     fun_mk l13 c13 k13,
     (fun_mk (st:=s_l_refused_by) l13 c13 k13).binds (ps:=["_law_e","_law_number"]) (fun _ _ _ _ _ _=>ex2 fun _ _=>rfl),
     k13,
     PySem.W.mg_of X G a13,
     fun_mk l14 c14 k14,
     (fun_mk (st:=s_l_numbers) l14 c14 k14).binds (ps:=["_law_n_here","_law_k","_law_many"]) (fun _ _ _ _ _ _=>ex3 fun _ _ _=>rfl),
     k14,
     PySem.W.mg_of X G a14,
     fun_mk l15 c15 k15,
     (fun_mk (st:=s_l_least) l15 c15 k15).binds (ps:=["_law_n_here","_law_k","_law_parts"]) (fun _ _ _ _ _ _=>ex3 fun _ _ _=>rfl),
     k15,
     PySem.W.mg_of X G a15,
     fun_mk l16 c16 k16,
     (fun_mk (st:=s_l_said) l16 c16 k16).binds (ps:=["_law_n_here","_law_saying_here"]) (fun _ _ _ _ _ _=>ex2 fun _ _=>rfl),
     k16,
     PySem.W.mg_of X G a16,
     fun_mk l17 c17 k17,
     (fun_mk (st:=s_l_right) l17 c17 k17).binds (ps:=["_law_n_here","_law_saying_here"]) (fun _ _ _ _ _ _=>ex2 fun _ _=>rfl),
     k17,
     PySem.W.mg_of X G a17,
     fun_mk l18 c18 k18,
     (fun_mk (st:=s_law) l18 c18 k18).binds (ps:=["_law_script"]) (fun _ _ _ _ _ _=>ex1 fun _=>rfl),
     k18,
     PySem.W.mg_of X G a18,
     aL,
     PySem.W.mg_of X G aL,
     ⟨rL,gL,iL,tL⟩,
     xc_mk aBadText aL xBadText bBadText oL (by decide),
     PySem.W.mg_of X G aBadText,
     xc_mk aNoDeed aL xNoDeed bNoDeed oL (by decide),
     PySem.W.mg_of X G aNoDeed,
     xc_mk aNoInverse aL xNoInverse bNoInverse oL (by decide),
     PySem.W.mg_of X G aNoInverse,
     fun_mk lNoInverse cNoInverse kNoInverse,
     (fun_mk (st:=si_NoInverse) lNoInverse cNoInverse kNoInverse).binds (ps:=["self","number"]) (fun _ _ _ _ _ _=>ex2 fun _ _=>rfl),
     tNoInverse,
     nNoInverse,
     sNoInverse,
     bNoInverse,
     qNoInverse,
     xc_mk aNoPaper aL xNoPaper bNoPaper oL (by decide),
     PySem.W.mg_of X G aNoPaper,
     xc_mk aNoRest aL xNoRest bNoRest oL (by decide),
     PySem.W.mg_of X G aNoRest,
     xc_mk aNoRoot aL xNoRoot bNoRoot oL (by decide),
     PySem.W.mg_of X G aNoRoot,
     xc_mk aNoRow aL xNoRow bNoRow oL (by decide),
     PySem.W.mg_of X G aNoRow,
     xc_mk aTooMany aL xTooMany bTooMany oL (by decide),
     PySem.W.mg_of X G aTooMany,
     PySem.W.mg_none_of X G z_ValueError,
     PySem.W.mg_none_of X G z_all,
     PySem.W.mg_none_of X G z_bool,
     PySem.W.mg_none_of X G z_int,
     PySem.W.mg_none_of X G z_isinstance,
     PySem.W.mg_none_of X G z_len,
     PySem.W.mg_none_of X G z_list,
     PySem.W.mg_none_of X G z_max,
     PySem.W.mg_none_of X G z_min,
     PySem.W.mg_none_of X G z_range,
     PySem.W.mg_none_of X G z_reversed,
     PySem.W.mg_none_of X G z_tuple,
     PySem.W.mg_none_of X G z_zip⟩
  exact ⟨_,fun s v=>.of_eq rfl,fun base _ _=>(ok_law T).mono (by omega)⟩
theorem the_walk {l:PySem.W.OpenLaw} {q:Program} {loose:List Str} {XP:(Str->Option Value)->Heap->Prop} {YP:World->Heap->Prop} {d:DefRec} {K:Params->PySem.W.Frag} (hn:l.most=some 63) (hdf:d.params.defaults=[])
    (hY:∀ (w:World) (h:Heap),YP w h->(K w.params).In h)
    (F:∀ (w:World) (mg:Str->Option Value) (fa:Addr) (h:Heap),(K w.params).In h->h.Ns mainGlobals mg->mg d.name=some (.ref fa) ->
      ∃ fd:FuncData,(∀ (s:Shared) (u:Value),BindsTo s fd ⟨[u],[]⟩ [("_law_script",u)])/\∀ base:Heap,(K w.params).In base->base.Ns mainGlobals mg->FnOk l.prog w (K w.params) mg base (CX1 l.prog w) 57 fa fd ["_law_script"] (spX (K w.params) 1 F_law)) :
    PySem.W.WalkO q loose XP YP l.row.toRowW d [] (fun f vs=>PySem.call f vs) :=
  L2.walk_of (n:=63) (k:=57) (x:="_law_script") (CX:=fun w=>(CX1 l.prog w)) (sp:=fun w=>(spX (K w.params) 1 F_law)) hn (by decide) hdf ⟨rfl,by decide,by decide⟩ hY F (fun _ _ a ns hl hO hS=>law_spX hO hS (law_math ns hl)) fun _ _ _ _ _ ⟨_,_,_,_,_,_,_,_,_,_,_,z⟩=>z
end K36
open PySem PySem.W PyProof.Rows
namespace PySem.W.Fast
noncomputable def tw13704301461855231894:Params->Heap:=fun _=>⟨#[],default⟩
theorem te13704301461855231894:tw13704301461855231894=tw13704301461855231894:=rfl
noncomputable def tw7885646672269137093:Params->Heap:=fun _=>⟨#[],default⟩
theorem te7885646672269137093:tw7885646672269137093=tw7885646672269137093:=rfl
noncomputable def tw5221886737245436720:Params->BT:=fun _=>BT.nil
theorem te5221886737245436720:tw5221886737245436720=tw5221886737245436720:=rfl
noncomputable def tw6979915462297325825:Params->BT:=fun _=>BT.nil
theorem te6979915462297325825:tw6979915462297325825=tw6979915462297325825:=rfl
noncomputable def tw2651490722948972096:Program:=Challenge.pw_lentshelf_k36_sayings_told_as_expression
theorem te2651490722948972096:tw2651490722948972096=tw2651490722948972096:=rfl
noncomputable def tw15653219014550935491:Program:=Challenge.pw_lentshelf_k36_sayings_told_as_expression
theorem te15653219014550935491:Challenge.pw_lentshelf_k36_sayings_told_as_expression=tw15653219014550935491:=rfl
noncomputable def tw10250427928277623975:Params->BT:=fun _=>BT.nil
theorem te10250427928277623975:tw10250427928277623975=tw10250427928277623975:=rfl
noncomputable def tw7043137329052744569:List Stmt:=[]
theorem te7043137329052744569:tw7043137329052744569=tw7043137329052744569:=rfl
noncomputable def tw10474227094061163145:Params->BT:=fun _=>BT.nil
theorem te10474227094061163145:tw10474227094061163145=tw10474227094061163145:=rfl
noncomputable def tw5482822323538870175:Params->BT:=fun _=>BT.nil
theorem te5482822323538870175:tw5482822323538870175=tw5482822323538870175:=rfl
noncomputable def tw13131612615927328845:Params->BT:=fun _=>BT.nil
theorem te13131612615927328845:tw13131612615927328845=tw13131612615927328845:=rfl
noncomputable def tw9608347097819649559:List Stmt:=[]
theorem te9608347097819649559:tw9608347097819649559=tw9608347097819649559:=rfl
noncomputable def tw4965408546171078182:Params->BT:=fun _=>BT.nil
theorem te4965408546171078182:tw4965408546171078182=tw4965408546171078182:=rfl
noncomputable def tw5242500116389510520:Params->BT:=fun _=>BT.nil
theorem te5242500116389510520:tw5242500116389510520=tw5242500116389510520:=rfl
noncomputable def tw5482427062230180531:Params->Obj:=fun _=>default
theorem te5482427062230180531:tw5482427062230180531=tw5482427062230180531:=rfl
noncomputable def tw3435509415703575249:Params->Obj:=fun _=>default
theorem te3435509415703575249:tw3435509415703575249=tw3435509415703575249:=rfl
noncomputable def tw16706743465468745532:Params->Obj:=fun _=>default
theorem te16706743465468745532:tw16706743465468745532=tw16706743465468745532:=rfl
noncomputable def tw4702320256557067920:Params->Obj:=fun _=>default
theorem te4702320256557067920:tw4702320256557067920=tw4702320256557067920:=rfl
noncomputable def tw3367853990697431449:List Stmt:=[]
theorem te3367853990697431449:tw3367853990697431449=tw3367853990697431449:=rfl
noncomputable def tw10730560085112035123:Params->Obj:=fun _=>default
theorem te10730560085112035123:tw10730560085112035123=tw10730560085112035123:=rfl
noncomputable def tw15901242581653507140:Params->Obj:=fun _=>default
theorem te15901242581653507140:tw15901242581653507140=tw15901242581653507140:=rfl
noncomputable def tw9802205836806959967:Params->BT:=fun _=>BT.nil
theorem te9802205836806959967:tw9802205836806959967=tw9802205836806959967:=rfl
noncomputable def tw14970416965324944414:Params->Obj:=fun _=>default
theorem te14970416965324944414:tw14970416965324944414=tw14970416965324944414:=rfl
noncomputable def tw12397200561946292729:Params->Obj:=fun _=>default
theorem te12397200561946292729:tw12397200561946292729=tw12397200561946292729:=rfl
noncomputable def tw819188666931259675:Params->Obj:=fun _=>default
theorem te819188666931259675:tw819188666931259675=tw819188666931259675:=rfl
noncomputable def tw11580958871918717863:Params->Obj:=fun _=>default
theorem te11580958871918717863:tw11580958871918717863=tw11580958871918717863:=rfl
noncomputable def tw5028892712912902898:Params->Obj:=fun _=>default
theorem te5028892712912902898:tw5028892712912902898=tw5028892712912902898:=rfl
noncomputable def tw675562921504150951:Params->Obj:=fun _=>default
theorem te675562921504150951:tw675562921504150951=tw675562921504150951:=rfl
noncomputable def tw15368734269541017125:Params->Obj:=fun _=>default
theorem te15368734269541017125:tw15368734269541017125=tw15368734269541017125:=rfl
noncomputable def tw17316768183890211380:Params->Obj:=fun _=>default
theorem te17316768183890211380:tw17316768183890211380=tw17316768183890211380:=rfl
noncomputable def tw10137914461334845957:Params->Obj:=fun _=>default
theorem te10137914461334845957:tw10137914461334845957=tw10137914461334845957:=rfl
noncomputable def tw9561144324906427050:Params->Obj:=fun _=>default
theorem te9561144324906427050:tw9561144324906427050=tw9561144324906427050:=rfl
noncomputable def tw8376881508765081820:Params->Obj:=fun _=>default
theorem te8376881508765081820:tw8376881508765081820=tw8376881508765081820:=rfl
end PySem.W.Fast
set_option maxRecDepth 100000 in
set_option maxHeartbeats 0 in
theorem PySem.Challenge.cw_lentshelf_k36_sayings_told_as_expression_holds : PySem.Challenge.rw_lentshelf_k36_sayings_told_as_expression.Holds := by
  w_on; o_law; k_head; (case hw=>w_witness2)
  k_fill
  refine K36.the_walk (l:=PySem.Challenge.rw_lentshelf_k36_sayings_told_as_expression) rfl rfl (fun w h Y=>PySem.W.kIn_of Y) ?F
  case F =>
    intro w mg fa h KX G hmg
    refine' K36.all_mk KX G hmg ?a1 ?l1 ?c1 ?k1 ?a2 ?l2 ?c2 ?k2 ?a3 ?l3 ?c3 ?k3 ?a4 ?l4 ?c4 ?k4 ?a5 ?l5 ?c5 ?k5 ?a6 ?l6 ?c6 ?k6 ?a7 ?l7 ?c7 ?k7 ?a8 ?l8 ?c8 ?k8 ?a9 ?l9 ?c9 ?k9 ?a10 ?l10 ?c10 ?k10 ?a11 ?l11 ?c11 ?k11 ?a12 ?l12 ?c12 ?k12 ?a13 ?l13 ?c13 ?k13 ?a14 ?l14 ?c14 ?k14 ?a15 ?l15 ?c15 ?k15 ?a16 ?l16 ?c16 ?k16 ?a17 ?l17 ?c17 ?k17 ?a18 ?l18 ?c18 ?k18 ?aL ?oL ?rL ?gL ?iL ?tL ?aBadText ?xBadText ?jBadText_ ?bBadText ?aNoDeed ?xNoDeed ?jNoDeed_ ?bNoDeed ?aNoInverse ?xNoInverse ?jNoInverse_ ?bNoInverse ?lNoInverse ?cNoInverse ?kNoInverse ?tNoInverse ?nNoInverse ?sNoInverse ?qNoInverse ?aNoPaper ?xNoPaper ?jNoPaper_ ?bNoPaper ?aNoRest ?xNoRest ?bNoRest ?aNoRoot ?xNoRoot ?jNoRoot_ ?bNoRoot ?aNoRow ?xNoRow ?bNoRow ?aTooMany ?xTooMany ?jTooMany_ ?bTooMany ?z_ValueError ?z_all ?z_bool ?z_int ?z_isinstance ?z_len ?z_list ?z_max ?z_min ?z_range ?z_reversed ?z_tuple ?z_zip
    (case a1=>k_is)
    (case l1=>k_is)
    (case c1=>k_is)
    (case k1=>k_is)
    (case a2=>k_is)
    (case l2=>k_is)
    (case c2=>k_is)
    (case k2=>k_is)
    (case a3=>k_is)
    (case l3=>k_is)
    (case c3=>k_is)
    (case k3=>k_is)
    (case a4=>k_is)
    (case l4=>k_is)
    (case c4=>k_is)
    (case k4=>k_is)
    (case a5=>k_is)
    (case l5=>k_is)
    (case c5=>k_is)
    (case k5=>k_is)
    (case a6=>k_is)
    (case l6=>k_is)
    (case c6=>k_is)
    (case k6=>k_is)
    (case a7=>k_is)
    (case l7=>k_is)
    (case c7=>k_is)
    (case k7=>k_is)
    (case a8=>k_is)
    (case l8=>k_is)
    (case c8=>k_is)
    (case k8=>k_is)
    (case a9=>k_is)
    (case l9=>k_is)
    (case c9=>k_is)
    (case k9=>k_is)
    (case a10=>k_is)
    (case l10=>k_is)
    (case c10=>k_is)
    (case k10=>k_is)
    (case a11=>k_is)
    (case l11=>k_is)
    (case c11=>k_is)
    (case k11=>k_is)
    (case a12=>k_is)
    (case l12=>k_is)
    (case c12=>k_is)
    (case k12=>k_is)
    (case a13=>k_is)
    (case l13=>k_is)
    (case c13=>k_is)
    (case k13=>k_is)
    (case a14=>k_is)
    (case l14=>k_is)
    (case c14=>k_is)
    (case k14=>k_is)
    (case a15=>k_is)
    (case l15=>k_is)
    (case c15=>k_is)
    (case k15=>k_is)
    (case a16=>k_is)
    (case l16=>k_is)
    (case c16=>k_is)
    (case k16=>k_is)
    (case a17=>k_is)
    (case l17=>k_is)
    (case c17=>k_is)
    (case k17=>k_is)
    (case a18=>k_is)
    (case l18=>k_is)
    (case c18=>k_is)
    (case k18=>k_is)
    (case aL=>k_is)
    (case oL=>kernel_rfl)
    (case rL=>k_is)
    (case gL=>k_is)
    (case iL=>k_is)
    (case tL=>kernel_rfl)
    (case aBadText=>k_is)
    (case xBadText=>kernel_rfl)
    (case jBadText_=>k_is)
    (case bBadText=>kernel_rfl)
    (case aNoDeed=>k_is)
    (case xNoDeed=>kernel_rfl)
    (case jNoDeed_=>k_is)
    (case bNoDeed=>kernel_rfl)
    (case aNoInverse=>k_is)
    (case xNoInverse=>kernel_rfl)
    (case jNoInverse_=>k_is)
    (case bNoInverse=>kernel_rfl)
    (case lNoInverse=>k_is)
    (case cNoInverse=>k_is)
    (case kNoInverse=>k_is)
    (case tNoInverse=>k_is)
    (case nNoInverse=>k_is)
    (case sNoInverse=>k_is)
    (case qNoInverse=>k_is)
    (case aNoPaper=>k_is)
    (case xNoPaper=>kernel_rfl)
    (case jNoPaper_=>k_is)
    (case bNoPaper=>kernel_rfl)
    (case aNoRest=>k_is)
    (case xNoRest=>kernel_rfl)
    (case bNoRest=>kernel_rfl)
    (case aNoRoot=>k_is)
    (case xNoRoot=>kernel_rfl)
    (case jNoRoot_=>k_is)
    (case bNoRoot=>kernel_rfl)
    (case aNoRow=>k_is)
    (case xNoRow=>kernel_rfl)
    (case bNoRow=>kernel_rfl)
    (case aTooMany=>k_is)
    (case xTooMany=>kernel_rfl)
    (case jTooMany_=>k_is)
    (case bTooMany=>kernel_rfl)
    (case z_ValueError=>k_is)
    (case z_all=>k_is)
    (case z_bool=>k_is)
    (case z_int=>k_is)
    (case z_isinstance=>k_is)
    (case z_len=>k_is)
    (case z_list=>k_is)
    (case z_max=>k_is)
    (case z_min=>k_is)
    (case z_range=>k_is)
    (case z_reversed=>k_is)
    (case z_tuple=>k_is)
    (case z_zip=>k_is)

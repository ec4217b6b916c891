import PyProof.Rows.All
import Wide.All
import OpenK.AllK
import Wide.FinOn
import Lean
import PyProof.EqAt
import PyProof.EqKinds
import PyProof.TupleCall
import PySem.Challenge.RW_lentshelf_k07_texts_of_no_expression
set_option Elab.async false
set_option linter.all false
set_option bootstrap.genMatcherCode false
set_option maxRecDepth 100000
section
open PySem.W (Frag fnOf keepIn nsIn codeIn)
section
open PySem PySem.Spec PyProof.Rows
def aAA:=@Heap.get?_push_of_some
def aAB:=@wpAny_bind
def aAC:=@List.getElem?_eq_some_iff
def aAD:=@wpAny_pure
def aAE:=@List.take_length
def aAF:=@Heap.lt_size
def aAG:=@if_pos
def aAH:=@Nat.le_refl
def aAI:=@Heap.get?_push_size
def aAJ:=@Option.some.injEq
def aAK:=@List.size_toArray
def aAL:=@if_neg
def aAM:=@PySem.W.mg_of
def aAN:=@Nat.lt_of_lt_of_le
def aAO:=@Nat.ne_of_lt
def aAP:=@Nat.add_sub_cancel_left
def aAQ:=@List.take_of_length_le
def aAR:=@Heap.size_push
def aAS:=@decide_eq_false
def aAT:=@sizeLine_eq
def aAU:=@decide_eq_true_eq
def aAV:=@List.length_append
def aAW:=@List.getElem?_append_left
def aAX:=@Nat.le_trans
def aAY:=@PySem.boot_len
def aAZ:=@wpAny_field
def aBA:=@List.length_cons
def aBB:=@List.length_map
def aBC:=@List.mem_of_mem_take
def aBD:=@wpAny_loadPart'
def aBE:=@List.all_eq_true
def aBF:=@Bool.false_ne_true
def aBG:=@Nat.ne_of_gt
def aBH:=@List.mem_cons
def aBI:=@Bool.false_eq_true
def aBJ:=@PySem.W.mg_none_of
def aBK:=@List.mem_append_right
def aBL:=@wpAny_holding
def aBM:=@List.map_cons
def aBN:=@List.getElem?_set_self
def aBO:=@PyProof.Rows.slot_tuple_getitem
def aBP:=@wpAny_callSpecial?_slot
def aBQ:=@List.getElem?_set_ne
def aBR:=@Bool.and_eq_true
def aBS:=@Option.map_eq_some_iff
def aBT:=@Array.getElem?_eq_getElem
def aBU:=@List.take_succ_cons
def aBV:=@List.drop_zero
def aBW:=@Heap.get?_update_self
def aBX:=@PySem.W.kia_one
def aBY:=@List.mem_cons_of_mem
def aBZ:=@List.getElem?_append_right
def aCA:=@Heap.get?_update_other
def aCB:=@List.getElem?_map
def aCC:=@wpAny_newObj_type
def aCD:=@List.replicate_succ
def aCE:=@List.mem_append
def aCF:=@wpAny_mono
def aCG:=@List.mem_singleton
def aCH:=@List.lookup_cons
def aCI:=@wpAny_Call_Name_kw
def aCJ:=@List.drop_suffix
def aCK:=@wpAny_call_entry
def aCL:=@F.slot_zip_next
def aCM:=@List.drop_eq_nil_of_le
def aCN:=@Prod.mk.injEq
def aCO:=@if_false
def aCP:=@wpAny_seqItems
def aCQ:=@wpAny_setField_rec
def aCR:=@List.pairwise_iff_getElem
def aCS:=@List.takeWhile_append_dropWhile
def aCT:=@wpAny_loadPart_at
def aCU:=@List.eq_nil_of_length_eq_zero
def aCV:=@decide_eq_false_iff_not
def aCW:=@List.length_drop
def aCX:=@List.length_take
def aCY:=@wpAny_setField
def aCZ:=@Calls.callWith_builtin
def aDA:=@wpAny_pyIter_tuple
def aDB:=@PyProof.Rows.callWith_type1
def aDC:=@List.mem_cons_self
def aDD:=@List.getElem?_eq_none
def aDE:=@if_true
def aDF:=@wpAny_passesOwn
def aDG:=@List.find?_cons
def aDH:=@List.append_nil
def aDI:=@F.slot_tuple_iterator_next
def aDJ:=@wpAny_pyIter_list
def aDK:=@Int.toNat_natCast
def aDL:=@beq_iff_eq
def aDM:=@List.mem_iff_getElem
def aDN:=@List.drop_eq_getElem_cons
def aDO:=@List.mem_of_getElem?
def aDP:=@call_meets
def aDQ:=@List.not_mem_nil
def aDR:=@List.cons_append
def aDS:=@PySem.mem_of_lookup
def aDT:=@List.filterMap_cons
def aDU:=@List.drop_succ_cons
def aDV:=@wpAny_attempt
def aDW:=@List.length_nil
def aDX:=@List.forIn_cons
def aDY:=@wpAny_execs_nil
def aDZ:=@wpAny_truthy_bool
def aEA:=@List.flatten_cons
def aEB:=@of_decide_eq_true
def aEC:=@Bool.and_false
def aED:=@PySem.F.slot_dict_get
def aEE:=@List.length_replicate
def aEF:=@List.take_append_drop
def aEG:=@List.drop_drop
def aEH:=@List.getElem?_concat_length
def aEI:=@F.args_object_init_3
def aEJ:=@wpAny_call
def aEK:=@Calls.evalArgs_plain
def aEL:=@Heap.get?_none_of_le
def aEM:=@wpAny_rule
def aEN:=@codeAny_call_builtin
def aEO:=@List.take_append
def aEP:=@Nat.min_eq_right
def aEQ:=@F.slot_tuple_mul
def aER:=@Nat.lt_succ_self
def aES:=@Array.getElem?_eq_some_iff
def aET:=@Nat.lt_irrefl
def aEU:=@Array.length_toList
def aEV:=@F.plain_extend_loop
def aEW:=@wpAny_isSubtype_exc
def aEX:=@Nat.min_eq_left
def aEY:=@wpAny_updateSeq
def aEZ:=@PySem.F.args_tuple_add_2
def aFA:=@Calls.spliced_cons
def aFB:=@PySem.F.entry_tuple_add
def aFC:=@F.args_zip_next_1
def aFD:=@Calls.spliced_nil
def aFE:=@List.take_add_one
def aFF:=@Nat.zero_le
def aFG:=@PySem.F.slot_tuple_add
def aFH:=@List.all_cons
def aFI:=@wpAny_standAt
def aFJ:=@AutoSeq1.idx_int
def aFK:=@F.entry_zip_next
def aFL:=@Option.bind_some
def aFM:=@F.typeCall_zip_2
def aFN:=@Array.getElem?_toList
def aFO:=@List.takeWhile_prefix
def aFP:=@F.entry_zip_new
def aFQ:=@Nat.pow_le_pow_right
def aFR:=@wpAny_typeOf
def aFS:=@F.newCall_zip_2
def aFT:=@Bool.or_eq_false_iff
def aFU:=@F.slot_int_rmul
def aFV:=@wpAny_updateSeq_pair
def aFW:=@List.nodup_cons
def aFX:=@codeAny_mono
def aFY:=@wpAny_ite_false
def aFZ:=@List.dropWhile_cons
def aGA:=@List.takeWhile_cons
def aGB:=@Array.getElem?_push
def aGC:=@List.take_left
def aGD:=@List.forIn_nil
def aGE:=@Int.emod_lt_of_pos
def aGF:=@assignInOrder_cons
def aGG:=@List.getElem?_take
def aGH:=@of_decide_eq_false
def aGI:=@F.args_tuple_mul_2
def aGJ:=@PySem.W.callWith_K
def aGK:=@wpAny_onRaise
def aGL:=@Bool.or_false
def aGM:=@F.entry_tuple_mul
def aGN:=@Nat.lt_succ_of_lt
def aGO:=@typeIs_int
abbrev aGP:List Str:=["text","at"]
abbrev aGQ:List Str:=["text","most"]
abbrev aGR:List Str:=["text","at","brackets"]
abbrev aGS:List Str:=["_law_script","_law_k"]
abbrev aGT:List Str:=["_law_box_here","_law_many"]
abbrev aGU:List Str:=["_law_box_here","_law_givens","_law_room","_law_deep_here"]
abbrev aGV:List Str:=["_law_found","_law_due_here"]
abbrev aGW:List Str:=["_law_expr_here"]
abbrev aGX:List Str:=["_law_text_here","_law_at"]
abbrev aGY:List Str:=["_law_text_here"]
abbrev aGZ:List Str:=["_law_box_here"]
abbrev aHA:List Str:=["_law_box_here","_law_text_here"]
abbrev aHB:List Str:=["_law_script"]
abbrev aHC:List Str:=["self","row"]
abbrev aHD:List Str:=["_law_script","_law_box_here","_law_good","_law_texts","_law_k","_law_text_here","_law_turn"]
end
variable{xs ys items:Array PySem.Value}{us its ds bm:List PySem.Value}{x name qual cn ff:PySem.Str}{u u2:PySem.Value}{a it C dx fI LE Dc src z l1 l2:PySem.Addr}{P prog:PySem.Program}{w:PySem.World}{h h' base:PySem.Heap}{α β:Type}{pins:List (PySem.Addr×PySem.Obj)}{s s' s₂:PySem.Shared}{t' i j n m:Nat}{ch fp μ μ1:List PySem.Addr}{N ps loose Nc cns:List PySem.Str}{A A':PySem.Around}{Q:PySem.Value->PySem.Shared->Prop}{K:Frag}{st:PySem.Stmt}{pos' p tpos apos p2 cpos q pos2:PySem.Pos}{op:PySem.Operator}{body:List PySem.Stmt}{lo hi:Option Int}{mA mg mN:PySem.Str->Option PySem.Value}{env:PySem.Env}{kw:List (PySem.Str×PySem.Value)}{fd:PySem.FuncData}{outer:List PySem.Env}{kindOf:PySem.Str->Option PySem.NameKind}{cd:PySem.ClassData}{od:Option PySem.Obj}{osl sl:Array (Option PySem.Value)}{l:List Nat}{XP:(PySem.Str->Option PySem.Value)->PySem.Heap->Prop}{YP:PySem.World->PySem.Heap->Prop}{d:Option PySem.Addr}{ns:List Int}{js:List (Option Nat)}{cl:List (PySem.Str×PySem.Addr)}{tn:Nat->PySem.Heap->Prop}{ini:Option PySem.Value}
section
open PySem PySem.Spec PyProof.Rows
namespace L2
noncomputable section
abbrev Key:=Sum Int Str
def keyIs:Key->Value->Bool
 |.inl k,v=>Value.isInt k v
 |.inr x,v=>Value.isStrOf x v
def keyH(w:World):Key->Int
 |.inl k=>hashInt k
 |.inr x=>hashStr w x
theorem bX:∀{k:Key} {v:Value},keyIs k v=true->(∃i t,k=Sum.inl i/\v=Value.int i t)\/(∃x t,k=Sum.inr x/\v=Value.str x t)
 |.inl i,v,h=>by
  obtain⟨t,e⟩:=Value.isInt_shape (k:=i) (v:=v) h
  exact .inl ⟨i,t,rfl,e⟩
 |.inr x,v,h=>by
  obtain⟨t,e⟩:=Value.isStrOf_shape (x:=x) (v:=v) h
  exact .inr ⟨x,t,rfl,e⟩
theorem vZ(i:Int)(t:Tok):keyIs (.inl i) (.int i t)=true:=by simp[keyIs,Value.isInt]
theorem wR(x:Str)(t:Tok):keyIs (.inr x) (.str x t)=true:=by simp[keyIs,Value.isStrOf]
theorem aFr(a b:Int):decide ((Sum.inl a:Key)=Sum.inl b)=(a==b):=by
 by_cases e:a=b
 ·subst e;simp
 ·have h:¬(Sum.inl a:Key)=Sum.inl b:=λq=>e (Sum.inl.inj q)
  rw[aAS h]
  exact(beq_eq_false_iff_ne.mpr e).symm
theorem aDr(a b:Str):decide ((Sum.inr a:Key)=Sum.inr b)=decide (a=b):=by
 by_cases e:a=b
 ·subst e;simp
 ·have h:¬(Sum.inr a:Key)=Sum.inr b:=λq=>e (Sum.inr.inj q)
  rw[aAS h,aAS e]
theorem aEw(a:Int)(b:Str):decide ((Sum.inl a:Key)=Sum.inr b)=false:=aAS (λq=>nomatch q)
theorem aHg(a:Str)(b:Int):decide ((Sum.inr a:Key)=Sum.inl b)=false:=aAS (λq=>nomatch q)
def mixKind(prog:Program)(w:World):PySem.KeyKind prog w Key where
 is:=keyIs
 hash:=keyH w
 inj:=λv a b ha hb=>by
  rcases bX ha with⟨i,t,rfl,rfl⟩|⟨x,t,rfl,rfl⟩
  ·rcases bX hb with⟨j,u,rfl,e⟩|⟨y,u,rfl,e⟩
   ·injection e with e1 _;rw[e1]
   ·exact nomatch e
  ·rcases bX hb with⟨j,u,rfl,e⟩|⟨y,u,rfl,e⟩
   ·exact nomatch e
   ·injection e with e1 _;rw[e1]
 byValue:=λk v h=>by
  rcases bX h with⟨i,t,rfl,rfl⟩|⟨x,t,rfl,rfl⟩ <;> rfl
 pyHash:=λhv h=>by
  rcases bX hv with⟨i,t,rfl,rfl⟩|⟨x,t,rfl,rfl⟩
  ·exact wpAny_pyHash_int h
  ·exact wpAny_pyHash_str h
 eqBool:=λhu hv h=>by
  rcases bX hu with⟨i,t,rfl,rfl⟩|⟨x,t,rfl,rfl⟩
  ·rcases bX hv with⟨j,u,rfl,rfl⟩|⟨y,u,rfl,rfl⟩
   ·rw[aFr]at h;exact wpAny_eqBool_int h
   ·rw[aEw]at h;exact SeqAt.EqAt.int_str i t y u _ _ _ _ h
  ·rcases bX hv with⟨j,u,rfl,rfl⟩|⟨y,u,rfl,rfl⟩
   ·rw[aHg]at h;exact SeqAt.EqAt.str_int x t j u _ _ _ _ h
   ·rw[aDr]at h;exact wpAny_eqBool_str h
 «strs»:=λk x t v h=>by
  rcases bX h with⟨i,u,rfl,e⟩|⟨y,u,rfl,e⟩
  ·exact nomatch e
  ·injection e with e1 _
   subst e1
   cases v <;> rfl
end
theorem qR(prog:Program)(w:World)(i:Int)(t:Tok):(mixKind prog w).is (.inl i) (.int i t)=true:=vZ i t
theorem qE(prog:Program)(w:World)(x:Str)(t:Tok):(mixKind prog w).is (.inr x) (.str x t)=true:=wR x t
inductive V where
 |non|bl (b:Bool)|int (i:Int)|str (x:Str)|byt (b:Array UInt8)|flt (b:UInt64)|ref (a:Addr)|ty (n:String)
 deriving DecidableEq
noncomputable section
def RelV:V->Value->Prop
 |.non,u=>u=Value.none
 |.bl b,u=>u=Value.bool b
 |.int i,u=>∃t,u=Value.int i t
 |.str x,u=>∃t,u=Value.str x t
 |.byt b,u=>∃t,u=Value.bytes b t
 |.flt b,u=>∃t,u=Value.float b t
 |.ref a,u=>u=Value.ref a
 |.ty n,u=>u=Value.type n
abbrev Vals:List V->List Value->Prop:=Paired RelV
theorem Vals.length{xs:List V}{us:List Value}(r:Vals xs us):xs.length=us.length:=Paired.length r
theorem Vals.get:∀{xs:List V} {us:List Value} {i:Nat} {x:V},Vals xs us->xs[i]?=some x->∃u,us[i]?=some u/\RelV x u
 |_,_,_,_,.nil,e=>by simp at e
 |_,_,0,_,.cons r _,e=>by simp at e;subst e;exact⟨_,rfl,r⟩
 |_,_,i+1,x,.cons _ t,e=>by
  obtain⟨u,h1,h2⟩:=Vals.get (i:=i) (x:=x) t (by simpa using e)
  exact⟨u,by simpa using h1,h2⟩
theorem Vals.set{x:V}{u:Value}(r:RelV x u):∀{xs:List V} {us:List Value} (i:Nat),Vals xs us->Vals (xs.set i x) (us.set i u)
 |_,_,_,.nil=>.nil
 |_,_,0,.cons _ t=>.cons r t
 |_,_,i+1,.cons q t=>.cons q (Vals.set r i t)
theorem Vals.append:∀{xs ys:List V} {us ws:List Value},Vals xs us->Vals ys ws->Vals (xs++ys) (us++ws)
 |_,_,_,_,.nil,s=>s
 |_,_,_,_,.cons r t,s=>.cons r (Vals.append t s)
theorem Vals.take:∀{xs:List V} {us:List Value} (n:Nat),Vals xs us->Vals (xs.take n) (us.take n)
 |_,_,0,_=>.nil
 |_,_,_+1,.nil=>.nil
 |_,_,n+1,.cons r t=>.cons r (Vals.take n t)
theorem Vals.drop:∀{xs:List V} {us:List Value} (n:Nat),Vals xs us->Vals (xs.drop n) (us.drop n)
 |_,_,0,r=>r
 |_,_,_+1,.nil=>.nil
 |_,_,n+1,.cons _ t=>Vals.drop n t
def RelO:Option V->Option Value->Prop
 |some v,some u=>RelV v u
 |none,none=>True
 |_,_=>False
def KV{κ:Type}:List (κ×V)->List (κ×Value)->Prop:=Paired λ(p:κ×V) (q:κ×Value)=>p.1=q.1/\RelV p.2 q.2
def kV:Key->V
 |.inl i=>.int i
 |.inr x=>.str x
end
inductive HO where
 |lst (xs:List V)
 |tup (xs:List V)
 |dK (kvs:List (Key×V))|dT (kvs:List (List Key×V))
 |set (S:Int->Bool) (n:Nat)
 |ins (C dx:Addr) (fs:List (Str×V))
 |own (x:Addr)
 |xd (fs:List (Str×V))
 |met (f x:Addr)
 |rng (lo hi:Int)
 |frz (o:Obj) (u:HO)
 |tbl (ps:Array Value)
 |ext (φ:Heap->Prop)
noncomputable abbrev Hp:=Addr->Option HO
noncomputable def upd(H:Hp)(a:Addr)(o:HO):Hp:=λb=>if b=a then some o else H b
variable{H:Hp}{o:HO}
theorem aW :upd H a o a=some o:=by unfold upd;rw[aAG rfl]
variable{b:Addr}
theorem aP(h:b≠a):upd H a o b=H b:=by unfold upd;rw[aAL h]
variable{u:HO}
theorem aAs :upd (upd H a o) a u=upd H a u:=by
 funext b;unfold upd;split <;> rfl
theorem bA(h:H a=some o)(h':H b=none):a≠b:=by
 intro e;subst e;rw[h]at h';cases h'
section
variable(P:Program)(w:World)
noncomputable def ObjOk(H:Hp)(h:Heap)(a:Addr):HO->Prop
 |.lst xs=>xs.length<=sizeLine/\∃(its:List Value) (n:Nat),Vals xs its/\h.get? a=some {cls:=.type "list",data:=.seq its.toArray n}
 |.tup xs=>xs.length<=sizeLine/\∃its:List Value,Vals xs its/\IsTup h a its.toArray
 |.dK kvs=>kvs.length<=sizeLine/\(a==sysModules)=false/\∃vs,KV kvs vs/\h.DictOf (mixKind P w) a vs
 |.dT kvs=>kvs.length<=sizeLine/\(a==sysModules)=false/\∃xs:List (List Key×Addr×Value),
   Paired (λ(p:List Key×V) (q:List Key×Addr×Value)=>p.1=q.1/\H q.2.1=some (.tup (p.1.map kV))/\RelV p.2 q.2.2) kvs xs /\
   ∃o es ep,h.get? a=some o/\o.ExactDict/\o.data=.dict es ep/\es.toList=xs.map (entryOfKey (tupleKind (mixKind P w)))/\(xs.map (·.1)).Nodup
 |.set S n=>h.SetOf (intKind P w) a S n
 |.ins C dx fs=>H dx=some (.own a)/\fs.length<=1000/\dx≠a/\h.get? a=some (PySem.W.instObj C dx) /\
   ∃mA,h.Ns1 dx mA/\(∀f,RelO (fs.lookup f) (mA f))/\PySem.Within mA (fs.map (·.1))
 |.own _=>∃o,h.get? a=some o
 |.xd fs=>∃mA,h.Ns1 a mA/\∀f,RelO (fs.lookup f) (mA f)
 |.rng lo hi=>∃t u v,h.get? a=some {cls:=.type "range",data:=.fields #[.int lo t,.int hi u,.int 1 v]}
 |.frz o u=>h.get? a=some o/\ObjOk H h a u
 |.tbl ps=>h.get? a=some {cls:=.none,data:=.fields ps}
 |.met f x=>h.get? a=some (PySem.W.methodObj (.ref f) (.ref x))
 |.ext φ=>φ h/\(∃o,h.get? a=some o)/\∀h1 h2:Heap,φ h1->(∀o,h1.get? a=some o->h2.get? a=some o)->φ h2
noncomputable def HOk(H:Hp)(h:Heap):Prop:=∀a o,H a=some o->ObjOk P w H h a o
end
variable{H':Hp}
theorem ObjOk.lt(x:ObjOk P w H h a o):a < h.objs.size:=by
 cases o with
 |lst xs=>obtain⟨_,_,_,_,e⟩:=x;exact aAF e
 |tup xs=>obtain⟨_,_,_,p⟩:=x;exact p.lt
 |dK kvs=>obtain⟨_,_,_,_,o,_,_,e,_⟩:=x;exact aAF e
 |dT kvs=>obtain⟨_,_,_,_,o,_,_,e,_⟩:=x;exact aAF e
 |set S n=>obtain⟨o,_,_,_,e,_⟩:=x;exact aAF e
 |ins C dx fs=>obtain⟨_,_,_,e,_⟩:=x;exact aAF e
 |own y=>obtain⟨_,e⟩:=x;exact aAF e
 |xd fs=>obtain⟨_,⟨_,_,_,e,_⟩,_⟩:=x;exact aAF e
 |rng lo hi=>obtain⟨_,_,_,e⟩:=x;exact aAF e
 |frz ob u=>obtain⟨e,_⟩:=x;exact aAF e
 |tbl ps=>exact aAF (show h.get? a=some _ from x)
 |met f y=>exact aAF (show h.get? a=some _ from x)
 |ext φ=>obtain⟨_,⟨_,e⟩,_⟩:=x;exact aAF e
theorem Paired.mapP{α β:Type}{F G:α->β->Prop}:∀{l₁:List α} {l₂:List β},Paired F l₁ l₂->(∀a b,F a b->G a b)->Paired G l₁ l₂
 |_,_,.nil,_=>.nil
 |_,_,.cons r t,f=>.cons (f _ _ r) (Paired.mapP t f)
theorem ObjOk.stay(x:ObjOk P w H h a o)(k:∀b u,(b=a\/H b=some (.own a))->h.get? b=some u->h'.get? b=some u)
  (ho:∀b,H b=some (.own a)->H' b=some (.own a))(ht:∀b xs,H b=some (.tup xs)->H' b=some (.tup xs)):ObjOk P w H' h' a o:=by
 induction o with
 |lst xs=>obtain⟨z,its,n,r,e⟩:=x;exact⟨z,its,n,r,k _ _ (.inl rfl) e⟩
 |tup xs=>obtain⟨z,its,r,ob,e,c⟩:=x;exact⟨z,its,r,ob,k _ _ (.inl rfl) e,c⟩
 |dK kvs=>obtain⟨z,y,vs,r,ob,es,ep,e,c⟩:=x;exact⟨z,y,vs,r,ob,es,ep,k _ _ (.inl rfl) e,c⟩
 |dT kvs =>
  obtain⟨z,y,xs,r,ob,es,ep,e,c⟩:=x
  exact⟨z,y,xs,Paired.mapP r λp q z=>⟨z.1,ht _ _ z.2.1,z.2.2⟩,ob,es,ep,k _ _ (.inl rfl) e,c⟩
 |set S n=>obtain⟨ob,es,ep,t,e,c⟩:=x;exact⟨ob,es,ep,t,k _ _ (.inl rfl) e,c⟩
 |ins C dx fs =>
  obtain⟨d,z,ne,e,mA,⟨od,es,ep,e2,c⟩,r⟩:=x
  exact⟨ho _ d,z,ne,k _ _ (.inl rfl) e,mA,⟨od,es,ep,k _ _ (.inr d) e2,c⟩,r⟩
 |own y=>obtain⟨ob,e⟩:=x;exact⟨ob,k _ _ (.inl rfl) e⟩
 |xd fs=>obtain⟨mA,⟨od,es,ep,e,c⟩,r⟩:=x;exact⟨mA,⟨od,es,ep,k _ _ (.inl rfl) e,c⟩,r⟩
 |rng lo hi=>obtain⟨t,u,v,e⟩:=x;exact⟨t,u,v,k _ _ (.inl rfl) e⟩
 |frz ob u ih=>obtain⟨e,q⟩:=x;exact⟨k _ _ (.inl rfl) e,ih q⟩
 |tbl ps =>
  have e:h.get? a=some {cls:=.none,data:=.fields ps}:=x
  show h'.get? a=some {cls:=.none,data:=.fields ps}
  exact k a _ (.inl rfl) e
 |met f y =>
  have e:h.get? a=some (PySem.W.methodObj (.ref f) (.ref y)):=x
  show h'.get? a=some (PySem.W.methodObj (.ref f) (.ref y))
  exact k a _ (.inl rfl) e
 |ext φ=>obtain⟨p,⟨o,e⟩,st⟩:=x;exact⟨st _ _ p λo q=>k _ _ (.inl rfl) q,⟨o,k _ _ (.inl rfl) e⟩,st⟩
theorem HOk.lt(x:HOk P w H h)(e:H a=some o):a < h.objs.size:=(x a o e).lt
theorem HOk.fresh(x:HOk P w H h)(e:h.objs.size<=a):H a=none:=by
 cases q:H a with
 |none=>rfl
 |some u=>exact absurd (aAN (x.lt q) e) (aET _)
theorem HOk.kept(x:HOk P w H h)(k:∀b u,h.get? b=some u->h'.get? b=some u):HOk P w H h':=λa o e =>
 (x a o e).stay (λb u _ q=>k b u q) (λ_ q=>q) λ_ _ q=>q
theorem HOk.laid(x:HOk P w H h)(k:∀b u,h.get? b=some u->h'.get? b=some u)(hp:h.objs.size<=a)(new:ObjOk P w (upd H a o) h' a o):HOk P w (upd H a o) h':=λb u e=>by
 have hn:=x.fresh hp
 by_cases hb:b=a
 ·subst hb;rw[aW]at e;cases e;exact new
 ·rw[aP hb]at e
  exact(x b u e).stay (λc v _ q=>k c v q) (λc q=>by rw[aP (bA q hn)];exact q) λc xs q=>by rw[aP (bA q hn)];exact q
noncomputable def Rd(H:Hp)(a:Addr)(u:HO):Prop:=H a=some u\/∃o,H a=some (.frz o u)
theorem Rd.of(h:H a=some u):Rd H a u:=.inl h
theorem Rd.ok(r:Rd H a u)(x:HOk P w H h):ObjOk P w H h a u:=by
 rcases r with r|⟨o,r⟩
 ·exact x a u r
 ·obtain⟨_,q⟩:=x a _ r
  exact q
noncomputable def Mut:Option HO->Prop
 |some (.lst _)=>True
 |some (.dK _)=>True
 |some (.dT _)=>True
 |some (.set _ _)=>True
 |some (.ins _ _ _)=>True
 |some (.ext _)=>True
 |_=>False
variable{x e:Addr}{o':HO}
theorem HOk.write(ok:HOk P w H h)(mu:Mut (H x))(he:e=x\/H e=some (.own x))(k:∀b u,b≠e->h.get? b=some u->h'.get? b=some u)(heo:∃u,h'.get? e=some u)
  (new:ObjOk P w (upd H x o') h' x o'):HOk P w (upd H x o') h':=λb u q=>by
 have nown:∀c y,H c=some (.own y)->c≠x:=λc y r z=>by subst z;rw[r]at mu;exact mu
 have ntup:∀c xs,H c=some (.tup xs)->c≠x:=λc xs r z=>by subst z;rw[r]at mu;exact mu
 by_cases hb:b=x
 ·subst hb;rw[aW]at q;cases q;exact new
 ·rw[aP hb]at q
  by_cases hbe:b=e
  ·have q':H b=some (.own x):=by
    rcases he with z|z
    ·exact absurd (hbe.trans z) hb
    ·rw[hbe];exact z
   rw[q]at q';cases q'
   obtain⟨v,hv⟩:=heo
   exact⟨v,by rw[hbe];exact hv⟩
  ·refine(ok b u q).stay (λc v hc r=>k c v ?_ r) (λc r=>by rw[aP (nown c b r)];exact r) λc xs r=>by rw[aP (ntup c xs r)];exact r
   rcases hc with rfl|hc
   ·exact hbe
   ·rintro rfl
    rcases he with z|z
    ·exact nown c b hc z
    ·rw[hc]at z;cases z;exact hb rfl
structure Un(fs ex:List Addr)(H H':Hp)(h h':Heap):Prop where
 keep:∀b o,h.get? b=some o->H b=none->b∉fs->b∉ex->h'.get? b=some o
 slot:∀b o,h.get? b=some o->H b=none->b∈fs->b∉ex->∃sl,h'.get? b=some {o with slots:=sl}
 free:∀b o,h.get? b=some o->H b=none->b∉ex->H' b=none
 there:∀b o,h.get? b=some o->b∉ex->∃o',h'.get? b=some o'
 tups:∀b xs,H b=some (.tup xs)->H' b=some (.tup xs)
 frzs:∀b o u,H b=some (.frz o u)->H' b=some (.frz o u)
 tbls:∀b ps,H b=some (.tbl ps)->∃more,H' b=some (.tbl (ps++more))
section
variable{fs fs' ex ex':List Addr}{H1 H2:Hp}{h1 h2:Heap}
theorem Un.any(u:Un fs ex H H1 h h1){ob:Obj}(q:h.get? b=some ob)(n:H b=none)(hx:b∉ex):∃sl,h1.get? b=some {ob with slots:=sl}:=by
 by_cases hb:b∈fs
 ·exact u.slot b ob q n hb hx
 ·exact⟨ob.slots,u.keep b ob q n hb hx⟩
theorem Un.trans(a:Un fs ex H H1 h h1)(b:Un fs ex H1 H2 h1 h2):Un fs ex H H2 h h2 where
 keep:=λc ob q n hc hx=>b.keep c ob (a.keep c ob q n hc hx) (a.free c ob q n hx) hc hx
 slot:=λc ob q n hc hx=>by
  obtain⟨sl,e1⟩:=a.slot c ob q n hc hx
  obtain⟨sl',e2⟩:=b.slot c _ e1 (a.free c ob q n hx) hc hx
  exact⟨sl',e2⟩
 free:=λc ob q n hx=>by
  obtain⟨o',e1⟩:=a.there c ob q hx
  exact b.free c o' e1 (a.free c ob q n hx) hx
 there:=λc ob q hx=>by
  obtain⟨o',e1⟩:=a.there c ob q hx
  exact b.there c o' e1 hx
 tups:=λc xs q=>b.tups c xs (a.tups c xs q)
 frzs:=λc ob xs q=>b.frzs c ob xs (a.frzs c ob xs q)
 tbls:=λc ps q=>by
  obtain⟨m1,e1⟩:=a.tbls c ps q
  obtain⟨m2,e2⟩:=b.tbls c _ e1
  exact⟨m1++m2,by rw[e2,Array.append_assoc]⟩
theorem Un.kept(k:∀b u,h.get? b=some u->h'.get? b=some u):Un fs ex H H h h' :=
 ⟨λb ob q _ _ _=>k b ob q,λb ob q _ _ _=>⟨ob.slots,k b ob q⟩,λ_ _ _ n _=>n,λb ob q _=>⟨ob,k b ob q⟩,λ_ _ q=>q,λ_ _ _ q=>q,λ_ ps q=>⟨#[],by rw[q];simp⟩⟩
theorem Un.refl:Un fs ex H H h h:=Un.kept λ_ _ q=>q
theorem Un.laid(k:∀b u,h.get? b=some u->h'.get? b=some u)(hp:h.objs.size<=a)(hn:H a=none):Un fs ex H (upd H a o) h h' where
 keep:=λb u q _ _ _=>k b u q
 slot:=λb u q _ _ _=>⟨u.slots,k b u q⟩
 free:=λb u q n _=>by rw[aP (aAO (aAN (aAF q) hp))];exact n
 there:=λb u q _=>⟨u,k b u q⟩
 tups:=λb xs q=>by rw[aP (bA q hn)];exact q
 frzs:=λb u xs q=>by rw[aP (bA q hn)];exact q
 tbls:=λb ps q=>⟨#[],by rw[aP (bA q hn),q];simp⟩
theorem Un.write(mu:Mut (H x))(he:e=x\/H e=some (.own x))(k:∀b u,b≠e->h.get? b=some u->h'.get? b=some u)(heo:∃u,h'.get? e=some u):Un fs ex H (upd H x o) h h':=by
 have hx:∀b,H b=none->b≠x:=λb n z=>by subst z;rw[n]at mu;exact mu
 have hb:∀b,H b=none->b≠e:=λb n z=>by
  subst z
  rcases he with r|r
  ·exact hx b n r
  ·rw[n]at r;cases r
 have hm:∀b u,H b=some u->¬Mut (some u)->b≠x:=λb u q nm z=>by subst z;rw[q]at mu;exact nm mu
 refine⟨λb u q n _ _=>k b u (hb b n) q,λb u q n _ _=>⟨u.slots,k b u (hb b n) q⟩,λb u q n _=>by rw[aP (hx b n)];exact n,λb u q _=>?_,
  λb xs q=>by rw[aP (hm b _ q λz=>z)];exact q,λb u xs q=>by rw[aP (hm b _ q λz=>z)];exact q,λb ps q=>⟨#[],by rw[aP (hm b _ q λz=>z),q];simp⟩⟩
 by_cases hbe:b=e
 ·subst hbe;exact heo
 ·exact⟨u,k b u hbe q⟩
end
noncomputable def trk(h:Heap)(H:Hp):List Addr:=(List.range h.objs.size).filter λa=>(H a).isSome
noncomputable def hidT(h:Heap)(H:Hp):Heap:=PySem.W.hideAll h (trk h H)
theorem wI(h:Heap)(H:Hp):(hidT h H).objs.size=h.objs.size:=PySem.W.hideAll_size _ _
variable{o:Obj}
theorem zM(e:h.get? b=some o)(n:H b=none):(hidT h H).get? b=some o :=
 PySem.W.hideAll_get _ e λhm=>by
  have q:(H b).isSome=true:=(List.mem_filter.mp hm).2
  rw[n]at q;simp at q
theorem aBl(e:(hidT h H).get? b=some o):h.get? b=some o/\H b=none:=by
 have e':h.get? b=some o:=PySem.W.of_hideAll (trk h H) e
 refine⟨e',?_⟩
 cases q:H b with
 |none=>rfl
 |some x =>
  have hm:b∈trk h H:=List.mem_filter.mpr ⟨List.mem_range.mpr (aAF e'),by simp[q]⟩
  have z:(hidT h H).get? b=none:=PySem.W.hideAll_none (trk h H) hm
  rw[z]at e;cases e
noncomputable def allNews(g h:Heap)(L:Addr):List (Addr×Obj):=(List.range h.objs.size).filterMap λa=>if a=L\/(g.get? a).isSome=true then none else(h.get? a).map λo=>(a,o)
noncomputable def rest(g h:Heap)(L d:Addr):List (Addr×Obj):=(allNews g h L).filter λp=>decide (p.1≠d)
structure Mod(K:Frag)(mg:Str->Option Value)(base:Heap):Prop where
 kin:K.In base
 glob:base.Ns mainGlobals mg
 blt:∃mb,base.Ns builtinsNs mb/\∀x:Str,x≠"__name__"->mb x=bootBuiltins x
 nolimit:base.NoLimit
structure Cx where
 prog:Program
 w:World
 K:Frag
 mg:Str->Option Value
 base:Heap
 A:Around
 N:List Str
 s₀:Shared
 H₀:Hp
 env:Env
 outer:List Env
 stack:List Env
 ex:List Addr
 fn:Str->Bool
 calm:Bool
 pn:List (Addr×Obj)
 xe:Value->Shared->Prop
noncomputable section
def frs(l:List Env):List Addr:=l.filterMap (·.frame)
abbrev Cx.fs(X:Cx):List Addr:=frs X.outer
def Vis(sc:Scope)(x:Str):Prop:=sc.names.lookup x=some .local\/sc.names.lookup x=some .cell\/sc.names.lookup x=some .free
def Loc(sc:Scope)(x:Str):Prop:=sc.names.lookup x=some .local\/sc.names.lookup x=some .cell
def Look(env:Env)(h:Heap)(m:Str->Option Value)(x:Str)(u:Value):Prop :=
 (env.kindOf x=some .local/\m x=some u)\/((env.kindOf x=some .cell\/env.kindOf x=some .free)/\∃c,env.cells.lookup x=some c/\h.IsCell c (some u))
end
structure Cx.Ok(X:Cx):Prop where
 mod:Mod X.K X.mg X.base
 kind:X.env.scope.kind=.function
 glob:X.env.globals=mainGlobals
 blt:X.env.builtins=builtinsNs
 above:X.s₀.heap.objs.size<=X.env.locals
 inj:∀x y c,X.env.cells.lookup x=some c->X.env.cells.lookup y=some c->x=y
 has:∀x,(X.env.kindOf x=some .cell\/X.env.kindOf x=some .free)->∃c,X.env.cells.lookup x=some c
 cab:∀x c,X.fn x=true->X.env.cells.lookup x=some c->X.s₀.heap.objs.size<=c
 hd:X.calm=true->X.A.handled=none
 frames:X.A.frames=some X.stack
 stk:X.stack=X.outer\/(X.stack=X.env::X.outer/\X.env.frame=some X.env.locals)
 exf:∀b∈X.ex,b≠X.env.locals/\∀x c,X.env.cells.lookup x=some c->c≠b
 bs:∀b o,X.base.get? b=some o->X.s₀.heap.get? b=some o/\X.H₀ b=none
 bsz:X.base.objs.size<=X.s₀.heap.objs.size
 noex:∀b o,X.base.get? b=some o->b∉X.ex
 exfs:∀b∈X.ex,b∉X.fs
 funs:X.s₀.heap.FunFrames X.base X.outer
 frf:∀b∈X.fs,X.H₀ b=none
structure Inv(X:Cx)(pins:List (Addr×Obj))(σ:List (Option V))(H:Hp)(s:Shared):Prop where
 ok:X.Ok
 os:s.os=X.s₀.os
 bare:AllBare s.gens
 base:Un X.fs X.ex X.H₀ H X.s₀.heap s.heap
 loc:∃m,s.heap.Ns X.env.locals m/\∀(i:Nat) (x:Str) (v:V),X.N[i]?=some x->σ[i]?=some (some v)->Vis X.env.scope x->∃u,RelV v u/\Look X.env s.heap m x u
 cell:∀x c,X.env.cells.lookup x=some c->∃v,s.heap.IsCell c v
 free:H X.env.locals=none
 freeC:∀x c,X.env.cells.lookup x=some c->H c=none
 pin:∀p∈X.pn++pins,s.heap.get? p.1=some p.2/\H p.1=none/\p.1≠X.env.locals/\p.1∉X.fs/\∀v,p.2.data≠.cell v
 hok:HOk X.prog X.w H s.heap
 len:σ.length=X.N.length
variable{X:Cx}{σ:List (Option V)}
theorem Cx.Ok.nofr(ok:X.Ok)(e:X.base.get? b=some o):b∉X.fs:=λhb=>by
 have:=(ok.funs.mem hb).1
 rw[e]at this;cases this
theorem Inv.bs(I:Inv X pins σ H s):∀b o,X.base.get? b=some o->s.heap.get? b=some o/\H b=none:=λb o e =>
 ⟨I.base.keep b o (I.ok.bs b o e).1 (I.ok.bs b o e).2 (I.ok.nofr e) (I.ok.noex b o e),I.base.free b o (I.ok.bs b o e).1 (I.ok.bs b o e).2 (I.ok.noex b o e)⟩
theorem Inv.bk(I:Inv X pins σ H s):∀b o,X.base.get? b=some o->s.heap.get? b=some o:=λb o e=>(I.bs b o e).1
theorem Inv.mod(I:Inv X pins σ H s):Mod X.K X.mg X.base:=I.ok.mod
theorem Inv.kIn(I:Inv X pins σ H s):X.K.In s.heap:=I.ok.mod.kin.keeps I.bk
theorem Inv.lt(I:Inv X pins σ H s):X.env.locals < s.heap.objs.size:=let⟨_,hn,_⟩:=I.loc;hn.lt
theorem Inv.sz(I:Inv X pins σ H s):X.s₀.heap.objs.size<=s.heap.objs.size:=aAX I.ok.above (Nat.le_of_lt I.lt)
theorem Inv.nofs(I:Inv X pins σ H s)(h:s.heap.objs.size<=a):a∉X.fs:=λhb=>by
 obtain⟨_,o,ho,_⟩:=I.ok.funs.mem hb
 exact absurd (aAN (aAF ho) (aAX I.sz h)) (aET _)
theorem Inv.cne(I:Inv X pins σ H s):∀x c,X.env.cells.lookup x=some c->c≠X.env.locals:=λx c e z=>by
 obtain⟨v,o,ho,hd⟩:=I.cell x c e
 obtain⟨m,⟨o',es,ep,ho',hd',_⟩,_⟩:=I.loc
 rw[z,ho']at ho;cases ho;rw[hd']at hd;cases hd
theorem Inv.funs(I:Inv X pins σ H s):s.heap.FunFrames X.base X.outer:=by
 have all:∀(l:List Env),(∀b∈frs l,b∈X.fs)->X.s₀.heap.FunFrames X.base l->s.heap.FunFrames X.base l:=by
  intro l
  induction l with
  |nil=>intro _ _;trivial
  |cons env r ih =>
   intro hs hl
   obtain⟨hk,⟨L,o,hf,hn,ho,hd⟩,hr⟩:=hl
   have hL:L∈X.fs:=hs L (by unfold frs;rw[aDT,hf];exact aDC)
   obtain⟨sl,e⟩:=I.base.slot L o ho (I.ok.frf L hL) hL λz=>I.ok.exfs L z hL
   exact⟨hk,⟨L,_,hf,hn,e,hd⟩,ih (λb hb=>hs b (by unfold frs;rw[aDT,hf];exact aBY _ hb)) hr⟩
 exact all X.outer (λ_ hb=>hb) I.ok.funs
theorem Inv.stack(I:Inv X pins σ H s):s.heap.FunFrames X.base X.stack:=by
 rcases I.ok.stk with e|⟨e,hf⟩
 ·rw[e];exact I.funs
 ·rw[e]
  obtain⟨m,hn,_⟩:=I.loc
  refine .cons (by rw[I.ok.kind];decide) hf hn ?_ I.funs
  exact aEL (aAX I.ok.bsz I.ok.above)
theorem Inv.stkSub(I:Inv X pins σ H s):∀b∈frs X.stack,b∈X.env.locals::X.fs:=λb hb=>by
 rcases I.ok.stk with e|⟨e,hf⟩
 ·rw[e]at hb;exact aBY _ hb
 ·rw[e]at hb
  unfold frs at hb
  rw[aDT,hf]at hb
  exact hb
theorem Inv.stkFree(I:Inv X pins σ H s):∀b∈frs X.stack,H b=none:=λb hb=>by
 rcases aBH.mp (I.stkSub b hb)with e|hb
 ·rw[e];exact I.free
 ·obtain⟨_,o,ho,_⟩:=I.ok.funs.mem hb
  exact I.base.free b o ho (I.ok.frf b hb) λz=>I.ok.exfs b z hb
variable{g':Array GenState}{d':Drawn}
theorem Inv.step{ch:List Addr}(I:Inv X pins σ H s)
  (hch:∀b∈ch,(b∈X.ex\/X.s₀.heap.objs.size<=b)/\b≠X.env.locals/\(∀x c,X.env.cells.lookup x=some c->c≠b)/\∀p∈X.pn++pins,p.1≠b)
  (keep:∀b o,b≠X.env.locals->b∉X.fs->b∉ch->s.heap.get? b=some o->H b=none->h'.get? b=some o)
  (slot:∀b o,b≠X.env.locals->b∈X.fs->b∉ch->s.heap.get? b=some o->H b=none->∃sl,h'.get? b=some {o with slots:=sl})(free:∀b o,b∉ch->s.heap.get? b=some o->H b=none->H' b=none)
  (there:∀b o,b∉ch->s.heap.get? b=some o->∃o',h'.get? b=some o')
  (tups:∀b xs,H b=some (.tup xs)->H' b=some (.tup xs))(frzs:∀b o u,H b=some (.frz o u)->H' b=some (.frz o u))(tbls:∀b ps,H b=some (.tbl ps)->∃more,H' b=some (.tbl (ps++more)))
  (ns:∀m,s.heap.Ns X.env.locals m->h'.Ns X.env.locals m)(hok:HOk X.prog X.w H' h')(hg:AllBare g') :
  Inv X pins σ H' {s with heap:=h',gens:=g',drawn:=d',toks:=t'}:=by
 have neL:∀b o,X.s₀.heap.get? b=some o->b≠X.env.locals:=λb o e=>aAO (aAN (aAF e) I.ok.above)
 have neC:∀b o,X.s₀.heap.get? b=some o->b∉X.ex->b∉ch:=λb o e hx hb=>by
  rcases(hch b hb).1 with z|z
  ·exact hx z
  ·exact absurd (aAN (aAF e) z) (aET _)
 have cellK:∀x c,X.env.cells.lookup x=some c->∀v,s.heap.IsCell c v->h'.IsCell c v:=λx c e v ⟨o,ho,hd⟩=>by
  have nch:c∉ch:=λz=>(hch c z).2.2.1 x c e rfl
  by_cases hc:c∈X.fs
  ·obtain⟨sl,q⟩:=slot c o (I.cne x c e) hc nch ho (I.freeC x c e)
   exact⟨_,q,hd⟩
  ·exact⟨o,keep c o (I.cne x c e) hc nch ho (I.freeC x c e),hd⟩
 refine⟨I.ok,I.os,hg,⟨λb o e n hb hx=>?_,λb o e n hb hx=>?_,λb o e n hx=>?_,λb o e hx=>?_,λb xs e=>tups b xs (I.base.tups b xs e),λb o xs e=>frzs b o xs (I.base.frzs b o xs e),λb ps e=>?_⟩,?_,λx c e=>?_,?_,λx c e=>?_,λp hp=>?_,hok,I.len⟩
 ·exact keep b o (neL b o e) hb (neC b o e hx) (I.base.keep b o e n hb hx) (I.base.free b o e n hx)
 ·obtain⟨sl,e1⟩:=I.base.slot b o e n hb hx
  obtain⟨sl',e2⟩:=slot b _ (neL b o e) hb (neC b o e hx) e1 (I.base.free b o e n hx)
  exact⟨sl',e2⟩
 ·obtain⟨o',e1⟩:=I.base.there b o e hx
  exact free b o' (neC b o e hx) e1 (I.base.free b o e n hx)
 ·obtain⟨o',e1⟩:=I.base.there b o e hx
  exact there b o' (neC b o e hx) e1
 ·obtain⟨m1,e1⟩:=I.base.tbls b ps e
  obtain⟨m2,e2⟩:=tbls b _ e1
  exact⟨m1++m2,by rw[e2,Array.append_assoc]⟩
 ·obtain⟨m,hn,hl⟩:=I.loc
  refine⟨m,ns m hn,λi x v e1 e2 e3=>?_⟩
  obtain⟨u,r,l⟩:=hl i x v e1 e2 e3
  refine⟨u,r,?_⟩
  rcases l with l|⟨k,c,e,z⟩
  ·exact .inl l
  ·exact .inr ⟨k,c,e,cellK x c e _ z⟩
 ·obtain⟨v,z⟩:=I.cell x c e
  exact⟨v,cellK x c e v z⟩
 ·obtain⟨m,⟨o,_,_,ho,_⟩,_⟩:=I.loc
  exact free _ o (λz=>(hch _ z).2.1 rfl) ho I.free
 ·obtain⟨v,o,ho,hd⟩:=I.cell x c e
  exact free c o (λz=>(hch c z).2.2.1 x c e rfl) ho (I.freeC x c e)
 ·obtain⟨e,n,ne,nf,d⟩:=I.pin p hp
  have nch:p.1∉ch:=λz=>(hch p.1 z).2.2.2 p hp rfl
  exact⟨keep p.1 p.2 ne nf nch e n,free p.1 p.2 nch e n,ne,nf,d⟩
theorem Inv.un(I:Inv X pins σ H s)(u:Un X.fs [] H H' s.heap h')(hok:HOk X.prog X.w H' h'):Inv X pins σ H' {s with heap:=h',toks:=t'}:=by
 obtain⟨m,⟨o,es,ep,ho,r⟩,_⟩:=id I.loc
 obtain⟨sl,hL⟩:=u.any ho I.free (by simp)
 exact I.step (g':=s.gens) (d':=s.drawn) (ch:=[]) (λ_ z=>nomatch z) (λb o _ hb _ e n=>u.keep b o e n hb (by simp)) (λb o _ hb _ e n=>u.slot b o e n hb (by simp)) (λb o _ e n=>u.free b o e n (by simp)) (λb o _ e=>u.there b o e (by simp)) u.tups u.frzs u.tbls (λm' hm=>by
  obtain⟨o',es',ep',ho',r'⟩:=hm
  rw[ho]at ho';cases ho'
  exact⟨_,es',ep',hL,r'⟩) hok I.bare
theorem Inv.call{ch:List Addr}(I:Inv X pins σ H s)(u:Un (frs X.stack) ch H H' s.heap h')(hok:HOk X.prog X.w H' h')(hg:AllBare g')
  (hch:∀b∈ch,(b∈X.ex\/X.s₀.heap.objs.size<=b)/\b≠X.env.locals/\(∀x c,X.env.cells.lookup x=some c->c≠b)/\∀p∈X.pn++pins,p.1≠b) :
  Inv X pins σ H' {s with heap:=h',gens:=g',drawn:=d',toks:=t'}:=by
 obtain⟨m,⟨o,es,ep,ho,r⟩,_⟩:=id I.loc
 obtain⟨sl,hL⟩:=u.any ho I.free λz=>(hch _ z).2.1 rfl
 exact I.step (ch:=ch) hch (λb o hL hb hc e n=>u.keep b o e n (λz=>(aBH.mp (I.stkSub b z)).elim hL hb) hc) (λb o _ _ hc e n=>u.any e n hc) (λb o hc e n=>u.free b o e n hc) (λb o hc e=>u.there b o e hc) u.tups u.frzs u.tbls (λm' hm=>by
  obtain⟨o',es',ep',ho',r'⟩:=hm
  rw[ho]at ho';cases ho'
  exact⟨_,es',ep',hL,r'⟩) hok hg
theorem Inv.turned(I:Inv X pins σ H s)(k:∀b o,b≠it->s.heap.get? b=some o->h'.get? b=some o)(hn:H it=none)(hL:it≠X.env.locals)
  (h1:it∈X.ex\/X.s₀.heap.objs.size<=it)(h2:∀x c,X.env.cells.lookup x=some c->c≠it)(h3:∀p∈X.pn++pins,p.1≠it):Inv X pins σ H {s with heap:=h',toks:=t'}:=by
 have nit:∀b u,H b=some u->b≠it:=λb u e z=>by rw[z,hn]at e;cases e
 refine I.step (g':=s.gens) (d':=s.drawn) (ch:=[it]) (λb hb=>?_) (λb o _ _ hc e _=>k b o (λz=>hc (by simp[z])) e) (λb o _ _ hc e _=>⟨o.slots,k b o (λz=>hc (by simp[z])) e⟩) (λ_ _ _ _ n=>n)
  (λb o hc e=>⟨o,k b o (λz=>hc (by simp[z])) e⟩) (λ_ _ e=>e) (λ_ _ _ e=>e) (λb ps e=>⟨#[],by rw[e];simp⟩) (λm hm=>?_) (λb u e=>?_) I.bare
 ·have e:b=it:=by simpa using hb
  subst e
  exact⟨h1,hL,h2,h3⟩
 ·obtain⟨o,es,ep,ho,r⟩:=hm
  exact⟨o,es,ep,k _ o (Ne.symm hL) ho,r⟩
 ·refine(I.hok b u e).stay (λc v hc q=>k c v ?_ q) (λ_ q=>q) λ_ _ q=>q
  rcases hc with z|z
  ·rw[z];exact nit b u e
  ·exact nit c _ z
theorem Inv.tok(I:Inv X pins σ H s)(t:Nat):Inv X pins σ H {s with toks:=t}:=I.un (h':=s.heap) (t':=t) Un.refl I.hok
theorem Inv.kept{t':Nat}(I:Inv X pins σ H s)(k:∀b u,s.heap.get? b=some u->h'.get? b=some u):Inv X pins σ H {s with heap:=h',toks:=t'}:=I.un (Un.kept k) (I.hok.kept k)
theorem Inv.laid{a:Addr}{o:HO}{t':Nat}(I:Inv X pins σ H s)(k:∀b u,s.heap.get? b=some u->h'.get? b=some u)(hp:s.heap.objs.size<=a)(new:ObjOk X.prog X.w (upd H a o) h' a o) :
  Inv X pins σ (upd H a o) {s with heap:=h',toks:=t'}:=I.un (Un.laid k hp (I.hok.fresh hp)) (I.hok.laid k hp new)
theorem Inv.write{x e:Addr}{o:HO}{t':Nat}(I:Inv X pins σ H s)(mu:Mut (H x))(he:e=x\/H e=some (.own x))(k:∀b u,b≠e->s.heap.get? b=some u->h'.get? b=some u)(heo:∃u,h'.get? e=some u)
  (new:ObjOk X.prog X.w (upd H x o) h' x o):Inv X pins σ (upd H x o) {s with heap:=h',toks:=t'}:=I.un (Un.write mu he k heo) (I.hok.write mu he k heo new)
theorem Inv.pins_of{pins':List (Addr×Obj)}(I:Inv X pins σ H s)(h:∀p∈pins',s.heap.get? p.1=some p.2/\H p.1=none/\p.1≠X.env.locals/\p.1∉X.fs/\∀v,p.2.data≠.cell v):Inv X pins' σ H s :=
 ⟨I.ok,I.os,I.bare,I.base,I.loc,I.cell,I.free,I.freeC,λp hp=>(aCE.mp hp).elim (λz=>I.pin p (List.mem_append_left _ z)) (h p),I.hok,I.len⟩
variable{x:Str}
theorem lZ(hN:N.Nodup)(a:N[i]?=some x)(b:N[j]?=some x):i=j:=by
 obtain⟨h1,e1⟩:=aAC.mp a
 obtain⟨h2,e2⟩:=aAC.mp b
 exact(List.getElem_inj hN).mp (e1.trans e2.symm)
variable{M:Model}{E:Value->Shared->Prop}{v:V}{u:Value}{Q:Unit->Shared->Prop}
theorem vJ(I:Inv X pins σ H s)(hN:X.N.Nodup)(hi:X.N[i]?=some x)(hx:Loc X.env.scope x)(r:RelV v u)
  (h:∀s',Inv X pins (σ.set i (some v)) H s'->(∃a,Heap.SameBut a s.heap s'.heap/\(a=X.env.locals\/X.env.cells.lookup x=some a))->Q () s')(hf:X.fn x=true\/X.env.scope.names.lookup x=some .local:=by first|exact .inl rfl|exact .inr rfl|assumption):wpAny M A (storeName X.env x u) Q E s:=by
 obtain⟨m,hn,hl⟩:=id I.loc
 have hcls:(X.env.scope.kind==.class || (X.env.scope.kind==.module&&X.env.locals != X.env.globals))=false:=by rw[I.ok.kind];rfl
 have hiσ:i < σ.length:=by rw[I.len];exact(aAC.mp hi).1
 have cne:=I.cne
 have tracked:∀{a:Addr} {h':Heap},(∃o,s.heap.get? a=some o/\H a=none)->Heap.SameBut a s.heap h'->HOk X.prog X.w H h':=λ{a h'} ha hs b ob e=>by
  obtain⟨_,_,hfree⟩:=ha
  refine(I.hok b ob e).stay (λc w' hc q=>(hs.2 c ?_).trans q) (λ_ q=>q) λ_ _ q=>q
  rintro rfl
  rcases hc with rfl|hc
  ·rw[hfree]at e;cases e
  ·rw[hfree]at hc;cases hc
 rcases hx with hk|hk
 ·refine wpAny_storeName_local hk hn (λh' hn' hs=>?_) hcls
  obtain⟨oL,_,_,hoL,_⟩:=id hn
  refine h _ ⟨I.ok,I.os,I.bare,⟨λb o e n hb hx=>?_,λb o e n hb hx=>?_,I.base.free,λb o e hx=>?_,I.base.tups,I.base.frzs,I.base.tbls⟩,⟨_,hn',λj y v' e1 e2 e3=>?_⟩,λy c e=>?_,I.free,I.freeC,λp hp=>?_,tracked ⟨oL,hoL,I.free⟩ hs,by simpa using I.len⟩ ⟨_,hs,.inl rfl⟩
  ·exact(hs.2 b (aAO (aAN (aAF e) I.ok.above))).trans (I.base.keep b o e n hb hx)
  ·obtain⟨sl,e1⟩:=I.base.slot b o e n hb hx
   exact⟨sl,(hs.2 b (aAO (aAN (aAF e) I.ok.above))).trans e1⟩
  ·obtain⟨o',e1⟩:=I.base.there b o e hx
   exact⟨o',(hs.2 b (aAO (aAN (aAF e) I.ok.above))).trans e1⟩
  ·by_cases hj:j=i
   ·subst hj
    rw[hi]at e1;cases e1
    rw[aBN hiσ]at e2
    cases e2
    exact⟨u,r,.inl ⟨hk,by simp⟩⟩
   ·rw[aBQ (Ne.symm hj)]at e2
    obtain⟨u',r',q⟩:=hl j y v' e1 e2 e3
    refine⟨u',r',?_⟩
    rcases q with⟨k,e⟩|⟨k,c,e,z⟩
    ·refine .inl ⟨k,?_⟩
     have:y≠x:=λe=>hj (lZ hN e1 (e▸hi))
     simp[this,e]
    ·exact .inr ⟨k,c,e,z.sameBut hs (cne y c e)⟩
  ·obtain⟨w',z⟩:=I.cell y c e
   exact⟨w',z.sameBut hs (cne y c e)⟩
  ·obtain⟨e,n,ne,nf,d⟩:=I.pin p hp
   exact⟨(hs.2 p.1 ne).trans e,n,ne,nf,d⟩
 ·have hfn:X.fn x=true:=by
   rcases hf with z|z
   ·exact z
   ·rw[z]at hk;cases hk
  obtain⟨c,hc⟩:=I.ok.has x (.inl hk)
  obtain⟨w',z⟩:=I.cell x c hc
  refine wpAny_storeName_cell I.ok.kind hk hc z (λh' hc' hs=>?_)
  obtain⟨oc,hoc,hocd⟩:=id z
  refine h {s with heap:=h'} ⟨I.ok,I.os,I.bare,⟨λb o e n hb hx=>?_,λb o e n hb hx=>?_,I.base.free,λb o e hx=>?_,I.base.tups,I.base.frzs,I.base.tbls⟩,⟨m,hn.sameBut hs (Ne.symm (cne x c hc)),λj y v' e1 e2 e3=>?_⟩,λy c' e=>?_,I.free,I.freeC,λp hp=>?_,tracked ⟨oc,hoc,I.freeC x c hc⟩ hs,by simpa using I.len⟩ ⟨c,hs,.inr hc⟩
  ·exact(hs.2 b (aAO (aAN (aAF e) (I.ok.cab x c hfn hc)))).trans (I.base.keep b o e n hb hx)
  ·obtain⟨sl,e1⟩:=I.base.slot b o e n hb hx
   exact⟨sl,(hs.2 b (aAO (aAN (aAF e) (I.ok.cab x c hfn hc)))).trans e1⟩
  ·obtain⟨o',e1⟩:=I.base.there b o e hx
   exact⟨o',(hs.2 b (aAO (aAN (aAF e) (I.ok.cab x c hfn hc)))).trans e1⟩
  ·by_cases hj:j=i
   ·subst hj
    rw[hi]at e1;cases e1
    rw[aBN hiσ]at e2
    cases e2
    exact⟨u,r,.inr ⟨.inl hk,c,hc,hc'⟩⟩
   ·rw[aBQ (Ne.symm hj)]at e2
    obtain⟨u',r',q⟩:=hl j y v' e1 e2 e3
    refine⟨u',r',?_⟩
    rcases q with q|⟨k,c',e,z'⟩
    ·exact .inl q
    ·refine .inr ⟨k,c',e,z'.sameBut hs ?_⟩
     rintro rfl
     exact hj (lZ hN e1 (I.ok.inj _ _ _ e hc▸hi))
  ·by_cases hcc:c'=c
   ·subst hcc;exact⟨_,hc'⟩
   ·obtain⟨w2,z2⟩:=I.cell y c' e
    exact⟨w2,z2.sameBut hs hcc⟩
  ·obtain⟨e,n,ne,nf,d⟩:=I.pin p hp
   refine⟨(hs.2 p.1 ?_).trans e,n,ne,nf,d⟩
   intro q
   rw[q,hoc]at e
   have q':oc=p.2:=Option.some.inj e
   exact d w' (by rw[<- q'];exact hocd)
theorem fR(I:Inv X pins σ H s)(hN:X.N.Nodup)(hi:X.N[i]?=some x)(hx:Loc X.env.scope x)(r:RelV v u)
  (h:∀s',Inv X pins (σ.set i (some v)) H s'->Q () s')(hf:X.fn x=true\/X.env.scope.names.lookup x=some .local:=by first|exact .inl rfl|exact .inr rfl|assumption):wpAny M A (storeName X.env x u) Q E s :=
 vJ I hN hi hx r (λs' I' _=>h s' I') hf
theorem Inv.call'{ch:List Addr}(I:Inv X pins σ H s)(ho:s'.os=s.os)(u:Un (frs X.stack) ch H H' s.heap s'.heap)(hok:HOk X.prog X.w H' s'.heap)(hg:AllBare s'.gens)
  (hch:∀b∈ch,(b∈X.ex\/X.s₀.heap.objs.size<=b)/\b≠X.env.locals/\(∀x c,X.env.cells.lookup x=some c->c≠b)/\∀p∈X.pn++pins,p.1≠b):Inv X pins σ H' s':=by
 obtain⟨h',g',d',t',o'⟩:=s'
 have e:o'=s.os:=ho
 subst e
 exact I.call (g':=g') (t':=t') (d':=d') u hok hg hch
noncomputable section
abbrev XK:=Value->Option Addr->Hp->Prop
abbrev St:=List (Option V)
abbrev VK:=V->Hp->Prop
abbrev TE:=St->Hp->VK->Prop
abbrev TT:=St->Hp->(Bool->Hp->Prop)->Prop
abbrev TA:=St->Hp->(List V->Hp->Prop)->Prop
end
structure Ends where
 nx:St->Hp->Prop
 rt:VK
 bk:St->Hp->Prop:=λ_ _=>False
 ct:St->Hp->Prop:=λ_ _=>False
noncomputable section
abbrev TS:=Ends->St->Hp->Prop
def EP(X:Cx)(pins:List (Addr×Obj))(σ:St)(Q:VK)(u:Value)(s':Shared):Prop:=∃v H',Inv X pins σ H' s'/\RelV v u/\Q v H'
def TP(X:Cx)(pins:List (Addr×Obj))(σ:St)(Q:Bool->Hp->Prop)(b:Bool)(s':Shared):Prop:=∃H',Inv X pins σ H' s'/\Q b H'
def AP(X:Cx)(pins:List (Addr×Obj))(σ:St)(Q:List V->Hp->Prop)(us:List Value)(s':Shared):Prop:=∃vs H',Inv X pins σ H' s'/\Vals vs us/\Q vs H'
def SP(X:Cx)(pins:List (Addr×Obj))(D:Ends)(f:Flow)(s':Shared):Prop :=
 match f with
 |.next=>∃σ' H',Inv X pins σ' H' s'/\D.nx σ' H'
 |.brk=>∃σ' H',Inv X pins σ' H' s'/\D.bk σ' H'
 |.cont=>∃σ' H',Inv X pins σ' H' s'/\D.ct σ' H'
 |.ret u=>∃v σ' H',Inv X pins σ' H' s'/\RelV v u/\D.rt v H'
def PE(X:Cx)(e:Expr)(t:TE):Prop :=
 ∀(pins:List (Addr×Obj)) (s:Shared) (σ:St) (H:Hp) (Q:VK),Inv X pins σ H s->t σ H Q->wpAny (model X.prog X.w) X.A (eval e X.env) (EP X pins σ Q) X.xe s
def PT(X:Cx)(e:Expr)(t:TT):Prop :=
 ∀(pins:List (Addr×Obj)) (s:Shared) (σ:St) (H:Hp) (Q:Bool->Hp->Prop),Inv X pins σ H s->t σ H Q->wpAny (model X.prog X.w) X.A (isTrue e X.env (eval e X.env)) (TP X pins σ Q) X.xe s
def PW(X:Cx)(e:Expr)(t:TT):Prop :=
 ∀(whole:Sem Value) (pins:List (Addr×Obj)) (s:Shared) (σ:St) (H:Hp) (Q:Bool->Hp->Prop),Inv X pins σ H s->t σ H Q->wpAny (model X.prog X.w) X.A (isTrue e X.env whole) (TP X pins σ Q) X.xe s
end
variable{e:Expr}
theorem PW.pt{t:TT}(h:PW X e t):PT X e t:=h _
noncomputable section
def PA(X:Cx)(es:List Expr)(t:TA):Prop :=
 ∀(pos:Pos) (pins:List (Addr×Obj)) (s:Shared) (σ:St) (H:Hp) (Q:List V->Hp->Prop),Inv X pins σ H s->t σ H Q->wpAny (model X.prog X.w) X.A (spliced (backTo pos (starEach es X.env))) (AP X pins σ Q) X.xe s
def PS(X:Cx)(st:Stmt)(t:TS):Prop :=
 ∀(pins:List (Addr×Obj)) (s:Shared) (σ:St) (H:Hp) (D:Ends),Inv X pins σ H s->t D σ H->wpAny (model X.prog X.w) X.A (exec st X.env) (SP X pins D) X.xe s
def PSs(X:Cx)(st:List Stmt)(t:TS):Prop :=
 ∀(pins:List (Addr×Obj)) (s:Shared) (σ:St) (H:Hp) (D:Ends),Inv X pins σ H s->t D σ H->wpAny (model X.prog X.w) X.A (execs st X.env) (SP X pins D) X.xe s
end
theorem thn{t:Sem α}{Q Q':α->Shared->Prop}{s:Shared}(h:wpAny M A t Q E s)(hQ:∀a s,Q a s->Q' a s):wpAny M A t Q' E s:=aCF h hQ λ_ _ x=>x
section
noncomputable def tVar(i:Nat):TE:=λσ H Q=>∃v,σ[i]?=some (some v)/\Q v H
noncomputable def tC(v:V):TE:=λ_ H Q=>Q v H
variable{pos:Pos}
theorem yF(hN:X.N[i]?=some x)(hv:Vis X.env.scope x)(hd:(x==("__debug__":Str))=false:=by decide)(hcd:(x==("__classdict__":Str))=false:=by decide):PE X (.Name x pos) (tVar i):=by
 intro pins s σ H Q I h
 obtain⟨v,e,h⟩:=h
 obtain⟨m,hn,hl⟩:=I.loc
 obtain⟨u,r,l⟩:=hl i x v hN e hv
 have fin:EP X pins σ Q u s:=⟨v,H,I,r,h⟩
 rcases l with⟨hk,hm⟩|⟨hk,c,hc,hcell⟩
 ·exact wpAny_Name (wpAny_loadName_local I.ok.kind hk hn hm fin) hd
 ·rcases hk with hk|hk
  ·exact wpAny_Name (wpAny_loadName_cell I.ok.kind hk hc hcell fin) hd
  ·exact wpAny_Name (wpAny_loadName_free I.ok.kind hk hc hcell fin hcd) hd
theorem aEq{i j pos}:PE X (.Constant (.int i) j pos) (tC (.int i)):=λ_ _ _ H _ I h=>wpAny_Constant_int ⟨.int i,H,I.tok _,⟨_,rfl⟩,h⟩
theorem aIx{b j pos}:PE X (.Constant (.bool b) j pos) (tC (.bl b)):=λ_ _ _ H _ I h=>Constant_bool ⟨.bl b,H,I,rfl,h⟩
theorem aGm{j pos}:PE X (.Constant .none j pos) (tC .non):=λ_ _ _ H _ I h=>Constant_none ⟨.non,H,I,rfl,h⟩
theorem dC{x j pos}:PE X (.Constant (.str x) j pos) (tC (.str x)):=λ_ _ _ H _ I h=>Calls.Constant_str ⟨.str x,H,I.tok _,⟨_,rfl⟩,h⟩
noncomputable def Gl(X:Cx)(x:Str):Prop:=X.env.kindOf x=some .globalImplicit
variable{σ:St}{Q:Value->Shared->Prop}
theorem gH(I:Inv X pins σ H s)(hg:Gl X x)(hm:X.mg x=some u)(h:Q u s)
  (hd:(x==("__debug__":Str))=false:=by decide):wpAny (model X.prog X.w) X.A (eval (.Name x pos) X.env) Q E s :=
 Calls.Name_function_global I.ok.kind hg (Calls.loadGlobal_global (by rw[I.ok.glob];exact I.mod.glob.keeps I.bk) hm h) hd
theorem kO(I:Inv X pins σ H s)(hg:Gl X x)(hm:X.mg x=none)(hv:bootBuiltins x=some u)(h:Q u s)
  (hn:x≠"__name__":=by decide)(hd:(x==("__debug__":Str))=false:=by decide):wpAny (model X.prog X.w) X.A (eval (.Name x pos) X.env) Q E s:=by
 obtain⟨mb,h1,h2⟩:=I.mod.blt
 exact Calls.Name_function_global I.ok.kind hg (Calls.loadGlobal_builtin (by rw[I.ok.glob];exact I.mod.glob.keeps I.bk) hm (by rw[I.ok.blt];exact h1.keeps I.bk) ((h2 x hn).trans hv) h) hd
theorem iF(hg:Gl X x)(hm:X.mg x=some u)(r:RelV v u)(hd:(x==("__debug__":Str))=false:=by decide):PE X (.Name x pos) (tC v) :=
 λ_ _ _ H _ I h=>gH I hg hm ⟨v,H,I,r,h⟩ hd
theorem uD(hg:Gl X x)(hm:X.mg x=none)(hv:bootBuiltins x=some u)(r:RelV v u)(hn:x≠"__name__":=by decide)(hd:(x==("__debug__":Str))=false:=by decide):PE X (.Name x pos) (tC v) :=
 λ_ _ _ H _ I h=>kO I hg hm hv ⟨v,H,I,r,h⟩ hn hd
noncomputable def t2I(ta tb:TE)(k:Int->Int->Hp->Prop):St->Hp->Prop:=λσ H=>ta σ H λx H1=>tb σ H1 λy H2=>∃i j,x=.int i/\y=.int j/\k i j H2
variable{a b:Expr}{ta tb:TE}
noncomputable section
def tCmp(p:Int->Int->Bool)(ta tb:TE):TE:=λσ H Q=>t2I ta tb (λi j H2=>Q (.bl (p i j)) H2) σ H
abbrev tLt:TE->TE->TE:=tCmp λi j=>decide (i < j)
def tB(t:TE):TT:=λσ H Q=>t σ H λx H1=>∃c,x=.bl c/\Q c H1
end
variable{tA tB':TT}{rest:List Expr}
noncomputable section
def tAnd(t u:TT):TT:=λσ H Q=>t σ H λc H1=>if c=true then u σ H1 Q else Q false H1
def tOr(t u:TT):TT:=λσ H Q=>t σ H λc H1=>if c=true then Q true H1 else u σ H1 Q
def tNot(t:TT):TT:=λσ H Q=>t σ H λc H1=>Q (!c) H1
theorem aBc(ha:PT X a tA):PW X (.BoolOp .And [a] pos) tA:=by
 intro wh pins s σ H Q I h
 refine isTrue_and (thn (ha pins s σ H Q I h) λc s1 e=>?_)
 cases c with
 |true=>exact isTrue_and_nil e
 |false=>exact e
theorem aFh(ha:PT X a tA):PW X (.BoolOp .Or [a] pos) tA:=by
 intro wh pins s σ H Q I h
 refine isTrue_or (thn (ha pins s σ H Q I h) λc s1 e=>?_)
 cases c with
 |false=>exact isTrue_or_nil e
 |true=>exact e
theorem aFm(ha:PT X a tA)(hb:PW X (.BoolOp .And (b::rest) pos) tB'):PW X (.BoolOp .And (a::b::rest) pos) (tAnd tA tB'):=by
 intro wh pins s σ H Q I h
 refine isTrue_and (thn (ha pins s σ H _ I h) λc s1 ⟨H1,I1,q1⟩=>?_)
 cases c with
 |true=>exact hb wh pins s1 σ H1 Q I1 q1
 |false=>exact⟨H1,I1,q1⟩
theorem aHs(ha:PT X a tA)(hb:PW X (.BoolOp .Or (b::rest) pos) tB'):PW X (.BoolOp .Or (a::b::rest) pos) (tOr tA tB'):=by
 intro wh pins s σ H Q I h
 refine isTrue_or (thn (ha pins s σ H _ I h) λc s1 ⟨H1,I1,q1⟩=>?_)
 cases c with
 |true=>exact⟨H1,I1,q1⟩
 |false=>exact hb wh pins s1 σ H1 Q I1 q1
theorem aEg(ha:PT X a tA):PT X (.UnaryOp .Not a pos) (tNot tA):=by
 intro pins s σ H Q I h
 exact isTrue_not (ha pins s σ H (λc H1=>Q (!c) H1) I h)
def tAndV(ta tb:TE):TE:=λσ H Q=>ta σ H λx H1=>∃c,x=.bl c/\if c=true then tb σ H1 Q else Q (.bl false) H1
def tNotV(ta:TE):TE:=λσ H Q=>ta σ H λx H1=>∃c,x=.bl c/\Q (.bl (!c)) H1
end
theorem aHh{op}{t:TE}(h:PE X a t):PE X (.BoolOp op [a] pos) t:=λpins s σ H Q I hw=>BoolOp_one (h pins s σ H Q I hw)
theorem aHb(ha:PE X a ta)(hb:PE X (.BoolOp .And (b::rest) pos) tb):PE X (.BoolOp .And (a::b::rest) pos) (tAndV ta tb):=by
 intro pins s σ H Q I h
 refine BoolOp_and (thn (ha pins s σ H _ I h) λv s1 ⟨x,H1,I1,r1,q1⟩=>?_)
 obtain⟨c,rfl,q1⟩:=q1
 cases r1
 refine aDZ ?_
 cases c with
 |true=>exact hb pins s1 σ H1 Q I1 q1
 |false=>exact⟨.bl false,H1,I1,rfl,q1⟩
theorem aFx(ha:PE X a ta):PE X (.UnaryOp .Not a pos) (tNotV ta):=by
 intro pins s σ H Q I h
 refine UnaryOp_ (thn (ha pins s σ H _ I h) λv s1 ⟨x,H1,I1,r1,q1⟩=>?_)
 obtain⟨c,rfl,q1⟩:=q1
 cases r1
 exact not_of (aDZ ⟨.bl (!c),H1,I1,rfl,q1⟩)
end
noncomputable section
def SqL(K:Frag)(H:Hp)(a:Addr)(xs:List V):Prop :=
 Rd H a (.lst xs) \/
  ∃(o:Obj) (its:Array Value) (n:Nat),K.lookup a=some o/\o.cls=.type "list"/\o.dict=none/\o.data=.seq its n/\its.size<=sizeLine/\Vals xs its.toList
def SqT(K:Frag)(H:Hp)(a:Addr)(xs:List V):Prop :=
 Rd H a (.tup xs) \/
  ∃(o:Obj) (its:Array Value) (n:Nat),K.lookup a=some o/\o.cls=.type "tuple"/\o.data=.seq its n/\its.size<=sizeLine/\Vals xs its.toList
def absV:Value->Option V
 |.none=>some .non
 |.bool b=>some (.bl b)
 |.int i _=>some (.int i)
 |.str x _=>some (.str x)
 |.bytes b _=>some (.byt b)
 |.float b _=>some (.flt b)
 |.ref a=>some (.ref a)
 |.type n=>some (.ty n)
 |_=>none
end
theorem RelV.abs{x:V}(r:RelV x u):absV u=some x:=by
 cases x with
 |non=>cases r;rfl
 |bl _=>cases r;rfl
 |int _=>obtain⟨t,rfl⟩:=r;rfl
 |str _=>obtain⟨t,rfl⟩:=r;rfl
 |byt _=>obtain⟨t,rfl⟩:=r;rfl
 |flt _=>obtain⟨t,rfl⟩:=r;rfl
 |ref _=>cases r;rfl
 |ty _=>cases r;rfl
theorem RelV.inj{x y:V}{u:Value}(r:RelV x u)(q:RelV y u):x=y:=Option.some.inj (r.abs.symm.trans q.abs)
theorem Vals.inj:∀{xs ys:List V} {us:List Value},Vals xs us->Vals ys us->xs=ys
 |_,_,_,.nil,.nil=>rfl
 |_,_,_,.cons r t,.cons r' t'=>by rw[r.inj r',Vals.inj t t']
variable{σ:St}{xs ys:List V}
theorem SqL.of(h:H a=some (.lst xs)):SqL K H a xs:=.inl (.inl h)
theorem SqT.of(h:H a=some (.tup xs)):SqT K H a xs:=.inl (.inl h)
theorem Inv.list(I:Inv X pins σ H s)(h:SqL X.K H a xs):∃its:List Value,Vals xs its/\PlainL s.heap a its.toArray/\xs.length<=sizeLine:=by
 rcases h with h|⟨o,its,n,hk,hc,hd,hs,hz,r⟩
 ·obtain⟨z,its,n,r,e⟩:=h.ok I.hok
  exact⟨its,r,⟨_,n,e,rfl,rfl,rfl⟩,z⟩
 ·refine⟨its.toList,r,⟨o,n,I.kIn a o hk,hc,hd,by simpa using hs⟩,?_⟩
  have e:=r.length
  simp only[aEU]at e
  lia
theorem Inv.tuple(I:Inv X pins σ H s)(h:SqT X.K H a xs):∃its:List Value,Vals xs its/\IsTup s.heap a its.toArray/\xs.length<=sizeLine:=by
 rcases h with h|⟨o,its,n,hk,hc,hs,hz,r⟩
 ·obtain⟨z,its,r,p⟩:=h.ok I.hok
  exact⟨its,r,p,z⟩
 ·refine⟨its.toList,r,⟨o,I.kIn a o hk,hc,n,by simpa using hs⟩,?_⟩
  have e:=r.length
  simp only[aEU]at e
  lia
theorem Inv.list_inj(I:Inv X pins σ H s)(h:SqL X.K H a xs)(h':SqL X.K H a ys):xs=ys:=by
 obtain⟨its,r,⟨o,n,e,_,_,d⟩,_⟩:=I.list h
 obtain⟨its',r',⟨o',n',e',_,_,d'⟩,_⟩:=I.list h'
 rw[e]at e';cases e'
 rw[d]at d'
 injection d' with d1 _
 have:its=its':=by simpa using congrArg Array.toList d1
 subst this
 exact r.inj r'
theorem Inv.tuple_inj(I:Inv X pins σ H s)(h:SqT X.K H a xs)(h':SqT X.K H a ys):xs=ys:=by
 obtain⟨its,r,⟨o,e,_,n,d⟩,_⟩:=I.tuple h
 obtain⟨its',r',⟨o',e',_,n',d'⟩,_⟩:=I.tuple h'
 rw[e]at e';cases e'
 rw[d]at d'
 injection d' with d1 _
 have:its=its':=by simpa using congrArg Array.toList d1
 subst this
 exact r.inj r'
noncomputable abbrev Cx.wish(X:Cx)(E:Value->Shared->Prop):Cx:={X with xe:=E}
noncomputable abbrev Cx.nox(X:Cx):Cx:=X.wish λ_ _=>False
theorem Cx.Ok.wish{X:Cx}(ok:X.Ok)(E:Value->Shared->Prop):(X.wish E).Ok :=
 ⟨ok.mod,ok.kind,ok.glob,ok.blt,ok.above,ok.inj,ok.has,ok.cab,ok.hd,ok.frames,ok.stk,ok.exf,ok.bs,ok.bsz,ok.noex,ok.exfs,ok.funs,ok.frf⟩
theorem Cx.Ok.unwish(ok:(X.wish E).Ok):X.Ok :=
 ⟨ok.mod,ok.kind,ok.glob,ok.blt,ok.above,ok.inj,ok.has,ok.cab,ok.hd,ok.frames,ok.stk,ok.exf,ok.bs,ok.bsz,ok.noex,ok.exfs,ok.funs,ok.frf⟩
theorem Inv.wish(I:Inv X pins σ H s)(E:Value->Shared->Prop):Inv (X.wish E) pins σ H s:=⟨I.ok.wish E,I.os,I.bare,I.base,I.loc,I.cell,I.free,I.freeC,I.pin,I.hok,I.len⟩
theorem Inv.unwish(I:Inv (X.wish E) pins σ H s):Inv X pins σ H s:=⟨I.ok.unwish,I.os,I.bare,I.base,I.loc,I.cell,I.free,I.freeC,I.pin,I.hok,I.len⟩
theorem SP.unwish{D:Ends}{f:Flow}{s':Shared}(h:SP (X.wish E) pins D f s'):SP X pins D f s':=by
 cases f with
 |next=>obtain⟨σ',H',I,q⟩:=h;exact⟨σ',H',I.unwish,q⟩
 |brk=>obtain⟨σ',H',I,q⟩:=h;exact⟨σ',H',I.unwish,q⟩
 |cont=>obtain⟨σ',H',I,q⟩:=h;exact⟨σ',H',I.unwish,q⟩
 |ret u=>obtain⟨v,σ',H',I,r,q⟩:=h;exact⟨v,σ',H',I.unwish,r,q⟩
theorem PSs.nox{st:List Stmt}{t:TS}(h:PSs X.nox st t):PSs X st t:=λpins s σ H D I hw =>
 aCF (h pins s σ H D (I.wish _) hw) (λ_ _ q=>q.unwish) λ_ _ z=>False.elim z
section
variable{rest:List Stmt}{t u:TS}{te:TE}{pos:Pos}
noncomputable section
def tNext:TS:=λD σ H=>D.nx σ H
def tSeq(t u:TS):TS:=λD σ H=>t {D with nx:=u D} σ H
theorem aCc:PSs X [] tNext:=λ_ _ σ H _ I h=>aDY ⟨σ,H,I,h⟩
theorem rF(h1:PS X st t)(h2:PSs X rest u):PSs X (st::rest) (tSeq t u):=by
 intro pins s σ H D I h
 refine wpAny_execs_cons (thn (h1 pins s σ H {D with nx:=u D} I h) λf s1 q=>?_)
 cases f with
 |next =>
  obtain⟨σ',H',I',q⟩:=q
  exact h2 pins s1 σ' H' D I' q
 |ret v=>exact q
 |brk=>exact q
 |cont=>exact q
theorem uE(h1:PS X st t):PSs X [st] t:=by
 intro pins s σ H D I h
 refine wpAny_execs_cons (thn (h1 pins s σ H D I h) λf s1 q=>?_)
 cases f with
 |next=>exact aDY q
 |ret v=>exact q
 |brk=>exact q
 |cont=>exact q
theorem Inv.quiet(I:Inv X pins σ H s):interactive X.env=false:=by simp[interactive,I.ok.kind]
def tDrop(te:TE):TS:=λD σ H=>te σ H λ_ H1=>D.nx σ H1
theorem uR(he:PE X e te)(hs:swapsWith e none pos.line X.env=pure false:=by rfl):PS X (.Expr e pos) (tDrop te):=by
 intro pins s σ H D I h
 exact wpAny_Expr_any (thn (he pins s σ H _ I h) λv s1 ⟨x,H1,I1,r1,q1⟩=>⟨σ,H1,I1,q1⟩) I.quiet hs
def tRet(te:TE):TS:=λD σ H=>te σ H D.rt
theorem aEo(he:PE X e te):PS X (.Return (some e) pos) (tRet te):=by
 intro pins s σ H D I h
 exact wpAny_Return_some (thn (he pins s σ H _ I h) λv s1 ⟨x,H1,I1,r1,q1⟩=>⟨x,σ,H1,I1,r1,q1⟩)
def tIfS(c:TT)(t u:TS):TS:=λD σ H=>c σ H λb H1=>if b=true then t D σ H1 else u D σ H1
end
theorem aIw{c:Expr}{a b:List Stmt}{tc:TT}(hc:PT X c tc)(ha:PSs X a t)(hb:PSs X b u):PS X (.If c a b pos) (tIfS tc t u):=by
 intro pins s σ H D I h
 refine wpAny_If (thn (hc pins s σ H _ I h) λd s1 ⟨H1,I1,q1⟩=>?_)
 cases d with
 |true=>exact ha pins s1 σ H1 D I1 q1
 |false=>exact hb pins s1 σ H1 D I1 q1
end
noncomputable section
abbrev TG:=V->St->Hp->(St->Hp->Prop)->Prop
abbrev TGs:=List V->St->Hp->(St->Hp->Prop)->Prop
def PG(X:Cx)(target:Expr)(t:TG):Prop :=
 ∀(pins:List (Addr×Obj)) (s:Shared) (σ:St) (H:Hp) (v:V) (u:Value) (Q:St->Hp->Prop),Inv X pins σ H s->RelV v u->t v σ H Q ->
  wpAny (model X.prog X.w) X.A (assign target X.env u) (λ_ s'=>∃σ' H',Inv X pins σ' H' s'/\Q σ' H') X.xe s
def PGs(X:Cx)(ts:List Expr)(t:TGs):Prop :=
 ∀(pins:List (Addr×Obj)) (s:Shared) (σ:St) (H:Hp) (vs:List V) (us:List Value) (Q:St->Hp->Prop),Inv X pins σ H s->Vals vs us->t vs σ H Q ->
  wpAny (model X.prog X.w) X.A (assignInOrder ((assignEach ts X.env).map (·.2)) us) (λ_ s'=>∃σ' H',Inv X pins σ' H' s'/\Q σ' H') X.xe s
abbrev TSet:=V->V->V->Hp->(Hp->Prop)->Prop
def PSet(X:Cx)(t:TSet):Prop :=
 ∀(pins:List (Addr×Obj)) (s:Shared) (σ:St) (H:Hp) (o i v:V) (ov iv u:Value) (Q:Hp->Prop),Inv X pins σ H s->RelV o ov->RelV i iv->RelV v u->t o i v H Q ->
  wpAny (model X.prog X.w) X.A (setItem ov iv u) (λ_ s'=>∃H',Inv X pins σ H' s'/\Q H') X.xe s
abbrev TIp:=V->V->Hp->VK->Prop
def PIp(X:Cx)(op:Operator)(t:TIp):Prop :=
 ∀(pins:List (Addr×Obj)) (s:Shared) (σ:St) (H:Hp) (x y:V) (v u:Value) (Q:VK),Inv X pins σ H s->RelV x v->RelV y u->t x y H Q ->
  wpAny (model X.prog X.w) X.A (inplaceOp op v u) (EP X pins σ Q) X.xe s
end
variable{pos:Pos}
noncomputable section
def gName(i:Nat):TG:=λv σ H Q=>Q (σ.set i (some v)) H
theorem aCf(hN:X.N.Nodup)(hi:X.N[i]?=some x)(hx:Loc X.env.scope x)(hf:X.fn x=true\/X.env.scope.names.lookup x=some .local:=by first|exact .inl rfl|exact .inr rfl|assumption):PG X (.Name x pos) (gName i):=by
 intro pins s σ H v u Q I r h
 exact wpAny_assign_Name (fR I hN hi hx r (λs' I'=>⟨_,H,I',h⟩) hf)
def gNil:TGs:=λvs σ H Q=>vs=[]/\Q σ H
def gCons(t:TG)(u:TGs):TGs:=λvs σ H Q=>∃v r,vs=v::r/\t v σ H λσ' H'=>u r σ' H' Q
end
theorem aBo:PGs X [] gNil:=by
 intro pins s σ H vs us Q I r h
 obtain⟨e,h⟩:=h
 subst e
 cases r
 exact assignInOrder_nil ⟨σ,H,I,h⟩
variable{es:List Expr}
theorem yH{t:TG}{u:TGs}(h1:PG X e t)(h2:PGs X es u)
  (hs:(assignEach (e::es) X.env).map (·.2)=assign e X.env::(assignEach es X.env).map (·.2):=by rfl):PGs X (e::es) (gCons t u):=by
 intro pins s σ H vs us Q I r h
 obtain⟨v,vr,e1,h⟩:=h
 subst e1
 cases r with
 |cons r rr =>
  rw[hs]
  refine aGF (thn (h1 pins s σ H _ _ _ I r h) λ_ s1 ⟨σ1,H1,I1,q1⟩=>?_)
  exact h2 pins s1 σ1 H1 _ _ Q I1 rr q1
noncomputable section
def gTup(K:Frag)(n:Nat)(t:TGs):TG:=λv σ H Q=>∃a xs,v=.ref a/\SqT K H a xs/\xs.length=n/\t xs σ H Q
theorem aDi{k:Nat}{t:TGs}(hc:X.calm=true)(h:PGs X es t)
  (hn:(assignEach es X.env).length=n:=by rfl)(hst:(assignEach es X.env).findIdx? (·.1)=none:=by rfl):PG X (.Tuple es k pos) (gTup X.K n t):=by
 intro pins s σ H v u Q I r hw
 obtain⟨a,xs,e1,hq,hl,hw⟩:=hw
 subst e1
 cases r
 obtain⟨its,rv,ht,hz⟩:=I.tuple hq
 refine assign_Tuple_tuple (I.ok.hd hc) ht (by simp[hn,<- hl,rv.length]) hst λh' hx=>?_
 have I1:Inv X pins σ H {s with heap:=h'}:=I.kept (t':=s.toks) λb o e=>hx b o (aAO (aAF e)) e
 exact h pins _ σ H xs _ Q I1 (by simpa using rv) hw
def gSub(to ti:TE)(t:TSet):TG:=λv σ H Q=>to σ H λo H1=>ti σ H1 λi H2=>t o i v H2 λH3=>Q σ H3
theorem aGx{o i:Expr}{to ti:TE}{t:TSet}(ho:PE X o to)(hi:PE X i ti)(hs:PSet X t)
  (ha:∀v,assign (.Subscript o i pos) X.env v=(do
   let ov <- holding [v] (eval o X.env)
   let iv <- holding [v,ov] (eval i X.env)
   standAt pos
   holding [v,ov,iv] (setItem ov iv v)
   release [v,ov,iv] []):=by intro _;rfl):PG X (.Subscript o i pos) (gSub to ti t):=by
 intro pins s σ H v u Q I r h
 rw[ha]
 refine aAB (aBL (thn (ho pins s σ H _ I h) λov s1 ⟨x,H1,I1,r1,q1⟩=>?_))
 refine aAB (aBL (thn (hi pins s1 σ H1 _ I1 q1) λiv s2 ⟨y,H2,I2,r2,q2⟩=>?_))
 refine aAB (aFI (aAB (aBL (thn (hs pins s2 σ H2 x y v ov iv u _ I2 r1 r2 r q2) λ_ s3 ⟨H3,I3,q3⟩=>?_))))
 exact wpAny_release ⟨σ,H3,I3,q3⟩
def tAsg(te:TE)(g:TG):TS:=λD σ H=>te σ H λx H1=>g x σ H1 D.nx
end
variable{tg:Expr}{te:TE}{g:TG}
theorem aFz(he:PE X e te)(hg:PG X tg g)(hs:swapsWithSole [tg] e pos.line X.env=pure false:=by rfl)(hw:swappedStores [tg] e X.env=pure none:=by rfl)
  (h1:(assignEach [tg] X.env).map (·.2)=[assign tg X.env]:=by rfl):PS X (.Assign [tg] e pos) (tAsg te g):=by
 intro pins s σ H D I h
 refine wpAny_Assign_stores (thn (he pins s σ H _ I h) λv s1 ⟨x,H1,I1,r1,q1⟩=>?_) hs hw
 rw[h1]
 exact thn (hg pins s1 σ H1 x v _ I1 r1 q1) λ_ s2 q=>q
theorem aDl(hN:X.N.Nodup)(hi:X.N[i]?=some x)(hx:Loc X.env.scope x)(he:PE X e te)(hs:swapsWith e (some (.Name x pos')) pos.line X.env=pure false:=by rfl)(hf:X.fn x=true\/X.env.scope.names.lookup x=some .local:=by first|exact .inl rfl|exact .inr rfl|assumption) :
  PS X (.Assign [.Name x pos'] e pos) (tAsg te (gName i)):=by
 intro pins s σ H D I h
 refine wpAny_Assign_Name (thn (he pins s σ H _ I h) λv s1 ⟨y,H1,I1,r1,q1⟩=>?_) hs
 exact fR I1 hN hi hx r1 (λs2 I2=>⟨_,H1,I2,q1⟩) hf
noncomputable def tPar(i j:Nat)(ta:TA):TS:=λD σ H=>ta σ H λvs H1=>∃v w,vs=[v,w]/\D.nx ((σ.set i (some v)).set j (some w)) H1
variable{a:Expr}{ta:TA}
theorem aGt{y:Str}{b:Expr}{px py pt:Pos}{kt k2 pt2}(hc:X.calm=true)(hN:X.N.Nodup)(hi:X.N[i]?=some x)(hj:X.N[j]?=some y)(hij:i≠j)
  (hx:X.env.scope.names.lookup x=some .local)(hy:X.env.scope.names.lookup y=some .local)(ha:PA X [a,b] ta)
  (hw:swappedStores [.Tuple [.Name x px,.Name y py] kt pt] (.Tuple [a,b] k2 pt2) X.env=pure (some [x,y]))
  (hs:swapsWithSole [.Tuple [.Name x px,.Name y py] kt pt] (.Tuple [a,b] k2 pt2) pos.line X.env=pure false:=by rfl) :
  PS X (.Assign [.Tuple [.Name x px,.Name y py] kt pt] (.Tuple [a,b] k2 pt2) pos) (tPar i j ta):=by
 intro pins s σ H D I h
 rw[exec_Assign_arm]
 refine aAB (aFI ?_)
 rw[hs]
 refine aAB (aAD ?_)
 rw[aAL (by decide)]
 refine aAB (Tuple_ (thn (ha _ pins s σ H _ I h) λus s1 ⟨vs,H1,I1,r1,q1⟩=>?_))
 obtain⟨v,w,e1,q1⟩:=q1
 subst e1
 obtain⟨u1,u2,rfl,rv,rw'⟩:∃u1 u2,us=[u1,u2]/\RelV v u1/\RelV w u2:=by
  cases r1 with
  |cons p q =>
   cases q with
   |cons p' q' =>
    cases q'
    exact⟨_,_,rfl,p,p'⟩
 refine aCC ?_ (by show 2<=sizeLine;decide)
 have I2:Inv X pins σ H1 {s1 with heap:=s1.heap.push {cls:=.type "tuple",data:=.seq [u1,u2].toArray}}:=I1.kept (t':=s1.toks) λb o e=>aAA _ e
 rw[hw]
 refine aAB (aAD ?_)
 show wpAny (model X.prog X.w) X.A (do rule "assign.swapped-stores";let items <- unpackItems (.ref s1.heap.objs.size) 2 none;assignInOrder [λv=>bindName X.env y v,λv=>bindName X.env x v] items.reverse;pure Flow.next) _ _ _
 refine aAB (aEM (aAB (unpackItems_tuple (items:=#[u1,u2]) (I.ok.hd hc) (IsTup.new s1.heap _) λh' hx'=>?_)))
 have I3:=I2.kept (h':=h') (t':=s1.toks) λb o e=>hx' b o (aAO (aAF e)) e
 show wpAny _ _ (assignInOrder [λv=>bindName X.env y v,λv=>bindName X.env x v] [u2,u1] >>= λ_=>pure Flow.next) _ _ _
 refine aAB (aGF (wpAny_bindName (fR I3 hN hj (.inl hy) rw' (λs2 I4=>?_) (.inr hy))))
 refine aGF (wpAny_bindName (fR I4 hN hi (.inl hx) rv (λs3 I5=>assignInOrder_nil (aAD ?_)) (.inr hx)))
 rw[List.set_comm _ _ (Ne.symm hij)]at I5
 exact⟨_,H1,I5,q1⟩
noncomputable section
def tAug(i:Nat)(te:TE)(ti:TIp):TS:=λD σ H=>∃x,σ[i]?=some (some x)/\te σ H λy H1=>ti x y H1 λz H2=>D.nx (σ.set i (some z)) H2
theorem aGs{ti:TIp}(hN:X.N.Nodup)(hi:X.N[i]?=some x)(hx:Loc X.env.scope x)(he:PE X e te)(ho:PIp X op ti)(hf:X.fn x=true\/X.env.scope.names.lookup x=some .local:=by first|exact .inl rfl|exact .inr rfl|assumption) :
  PS X (.AugAssign (.Name x pos') op e pos) (tAug i te ti):=by
 intro pins s σ H D I h
 obtain⟨v,e1,h⟩:=h
 obtain⟨m,hn,hl⟩:=I.loc
 have vis:Vis X.env.scope x:=by rcases hx with k|k;exact .inl k;exact .inr (.inl k)
 obtain⟨u,r,l⟩:=hl i x v hi e1 vis
 refine wpAny_AugAssign_Name ?_
 have go:wpAny (model X.prog X.w) X.A (eval e X.env) (λw s₂=>wpAny (model X.prog X.w) X.A (inplaceOp op u w) (λr s₃=>wpAny (model X.prog X.w) X.A (storeName X.env x r) (λ_=>SP X pins D .next) X.xe s₃) X.xe s₂) X.xe s:=by
  refine thn (he pins s σ H _ I h) λw s1 ⟨y,H1,I1,r1,q1⟩=>?_
  refine thn (ho pins s1 σ H1 v y u w _ I1 r r1 q1) λz s2 ⟨zv,H2,I2,r2,q2⟩=>?_
  exact fR I2 hN hi hx r2 (λs3 I3=>⟨_,H2,I3,q2⟩) hf
 rcases l with⟨hk,hm⟩|⟨hk,c,hc,hcell⟩
 ·exact wpAny_loadName_local I.ok.kind hk hn hm go
 ·rcases hk with hk|hk
  ·exact wpAny_loadName_cell I.ok.kind hk hc hcell go
  ·rcases hx with k|k
   ·have:X.env.scope.names.lookup x=some .free:=hk
    rw[k]at this;cases this
   ·have:X.env.scope.names.lookup x=some .free:=hk
    rw[k]at this;cases this
def ipI(f:Int->Int->Int):TIp:=λx y H Q=>∃i j,x=.int i/\y=.int j/\Q (.int (f i j)) H
theorem aEl:PIp X .Add (ipI λi j=>i+j):=by
 intro pins s σ H x y v u Q I r1 r2 h
 obtain⟨i,j,e1,e2,q⟩:=h
 subst e1;subst e2
 obtain⟨t,rfl⟩:=r1
 obtain⟨t',rfl⟩:=r2
 exact iadd_int ⟨.int _,H,I.tok _,⟨_,rfl⟩,q⟩
def tWhile(c:TT)(tb:TS):TS:=λD σ H=>∃W:Nat->St->Hp->Prop,(∃m,W m σ H)/\∀m σ H,W m σ H ->
 c σ H λb H1=>if b=true then ∃N:St->Hp->Prop,(∀σ' H',N σ' H'->∃m',m' < m/\W m' σ' H')/\tb {D with nx:=N,ct:=N,bk:=D.nx} σ H1 else D.nx σ H1
end
variable{c:Expr}{tb:TS}
theorem xB{tc:TT}(hp:PassesOwn (model X.prog X.w) X.A X.env X.xe)(hc:PT X c tc)(hb:PSs X body tb):PS X (.While c body [] pos) (tWhile tc tb):=by
 intro pins s σ H D I h
 obtain⟨W,⟨m0,w0⟩,turn⟩:=h
 refine wpAny_While (codeAny_whileLoop (λn s'=>∃σ' H',Inv X pins σ' H' s'/\W n σ' H') ?_ m0 ⟨σ,H,I,w0⟩)
 rintro n s1 ⟨σ1,H1,I1,w1⟩
 refine aDF hp (thn (hc pins s1 σ1 H1 _ I1 (turn n σ1 H1 w1)) λb s2 ⟨H2,I2,q2⟩=>?_)
 cases b with
 |true =>
  obtain⟨N,hN,q2⟩:=q2
  rw[aAG rfl]
  refine aDF hp (thn (hb pins s2 σ1 H2 _ I2 q2) λf s3 q3=>?_)
  cases f with
  |next =>
   obtain⟨σ3,H3,I3,n3⟩:=q3
   obtain⟨m',hm,w3⟩:=hN σ3 H3 n3
   exact⟨m',hm,σ3,H3,I3,w3⟩
  |cont =>
   obtain⟨σ3,H3,I3,n3⟩:=q3
   obtain⟨m',hm,w3⟩:=hN σ3 H3 n3
   exact⟨m',hm,σ3,H3,I3,w3⟩
  |brk=>exact q3
  |ret v=>exact q3
 |false =>
  rw[aAL aBF]
  exact aDY ⟨σ1,H2,I2,q2⟩
structure It where
 go:Nat->Hp->Prop
 yld:Nat->Hp->V->Hp->Prop
 stop:Nat->Hp->Prop
noncomputable def FpOk(X:Cx)(pins:List (Addr×Obj))(H:Hp)(b:Addr):Prop :=
 H b=none/\b≠X.env.locals/\b∉X.fs/\(b∈X.ex\/X.s₀.heap.objs.size<=b)/\(∀x c,X.env.cells.lookup x=some c->c≠b)/\∀p∈X.pn++pins,p.1≠b
theorem Inv.fpOk(I:Inv X pins σ H s)(hb:s.heap.objs.size<=b)(hn:H' b=none):FpOk X pins H' b:=by
 refine⟨hn,aBG (aAN I.lt hb),I.nofs hb,.inr (aAX I.sz hb),λx c e z=>?_,λp hp z=>?_⟩
 ·obtain⟨v,q⟩:=I.cell x c e
  exact absurd (aAN q.lt (by rw[z];exact hb)) (aET _)
 ·exact absurd (aAN (aAF (I.pin p hp).1) (by rw[z];exact hb)) (aET _)
structure Turn(P:Program)(w:World)(K:Frag)(tg:Expr)(J:It)(fp:List Addr)(it:Addr)(tn:Nat->Heap->Prop):Prop where
 mem:it∈fp
 obj:∀i h,tn i h->∀b∈fp,∃o,h.get? b=some o/\∀v,o.data≠.cell v
 keep:∀i h h',tn i h->(∀b∈fp,∀o,h.get? b=some o->h'.get? b=some o)->tn i h'
 item:∀(X:Cx),X.prog=P->X.w=w->X.K=K->X.calm=true->∀(i:Nat) (pins:List (Addr×Obj)) (s:Shared) (σ:St) (H:Hp) (E:Value->Shared->Prop),Inv X pins σ H s->(∀b∈fp,FpOk X pins H b)->tn i s.heap->J.go i H ->
  wpAny (model P w) X.A (pyNext (.ref it)) (λr s1=>∃u,r=some u /\
   wpAny (model P w) X.A (letOwnedTupleGo tg (.ref it) u) (λ_ s2=>∃x H',Inv X pins σ H' s2/\RelV x u/\J.yld i H x H'/\tn (i+1) s2.heap/\∀b∈fp,H' b=none) E s1) E s
 done:∀(X:Cx),X.prog=P->X.w=w->X.K=K->X.calm=true->∀(i:Nat) (pins:List (Addr×Obj)) (s:Shared) (σ:St) (H:Hp) (E:Value->Shared->Prop),Inv X pins σ H s->(∀b∈fp,FpOk X pins H b)->tn i s.heap->J.stop i H ->
  wpAny (model P w) X.A (pyNext (.ref it)) (λr s1=>r=none/\Inv X pins σ H s1) E s
 self:∀(A:Around) (i:Nat) (s:Shared) (Q:Value->Shared->Prop) (E:Value->Shared->Prop),tn i s.heap->Q (.ref it) s->wpAny (model P w) A (pyIter (.ref it)) Q E s
noncomputable section
abbrev TI:=St->Hp->(It->Hp->Prop)->Prop
def PIE(X:Cx)(pins:List (Addr×Obj))(σ:St)(tg:Expr)(R:It->Hp->Prop)(itv:Value)(s2:Shared):Prop :=
 ∃(it:Addr) (fp:List Addr) (tn:Nat->Heap->Prop) (J:It) (H':Hp),itv=.ref it/\Inv X pins σ H' s2/\Turn X.prog X.w X.K tg J fp it tn/\tn 0 s2.heap/\(∀b∈fp,FpOk X pins H' b)/\R J H'
def PI(X:Cx)(tg iter:Expr)(wi:TI):Prop :=
 ∀(pins:List (Addr×Obj)) (s:Shared) (σ:St) (H:Hp) (R:It->Hp->Prop),Inv X pins σ H s->wi σ H R ->
  wpAny (model X.prog X.w) X.A (eval iter X.env) (λv s1=>wpAny (model X.prog X.w) X.A (pyIter v) (PIE X pins σ tg R) X.xe s1) X.xe s
theorem uV{n:String}{vs:Array Value}(ho:s.heap.get? it=some o)(hc:o.cls=.type n)(hd:o.data=.fields vs)
  (hn:["enumerate","zip","dict_itemiterator","dict_reverseitemiterator","odict_iterator","itertools.zip_longest","itertools.pairwise"].contains n=false)(hQ:Q () s):wpAny M A (letOwnedTupleGo tg (.ref it) u) Q E s:=by
 unfold letOwnedTupleGo
 cases tg <;> first
  |exact aAD hQ
  |(cases u <;> first
    |exact aAD hQ
    |(refine aAB (wpAny_load ho ?_)
      rw[hc,hd]
      show wpAny M A (if(["enumerate","zip","dict_itemiterator","dict_reverseitemiterator","odict_iterator","itertools.zip_longest","itertools.pairwise"].contains n&&vs[0]?==some (rawInt _))=true then _ else _) Q E s
      rw[aAL (by intro h;rw[hn,Bool.false_and]at h;cases h)]
      exact aAD hQ))
def Itl(K:Frag)(a:Addr):It :=
 ⟨λi H=>∃xs x,SqL K H a xs/\xs[i]?=some x,λi H x H'=>H'=H/\∀xs,SqL K H a xs->xs[i]?=some x,λi H=>∃xs,SqL K H a xs/\xs.length<=i⟩
def Itt(K:Frag)(a:Addr):It :=
 ⟨λi H=>∃xs x,SqT K H a xs/\xs[i]?=some x,λi H x H'=>H'=H/\∀xs,SqT K H a xs->xs[i]?=some x,λi H=>∃xs,SqT K H a xs/\xs.length<=i⟩
def Itr(lo:Int)(n:Nat):It:=⟨λi _=>i < n,λi H x H'=>H'=H/\x=.int (lo+i),λi _=>n<=i⟩
theorem vI(a it:Addr):Turn P w K tg (Itl K a) [it] it (λi h=>h.IsListIter it a i)where
 mem:=by simp
 obj:=λi h st b hb=>by
  have e:b=it:=by simpa using hb
  subst e
  obtain⟨o,e,c,d⟩:=st
  exact⟨o,e,λv z=>by rw[d]at z;cases z⟩
 keep:=λi h h' st k=>st.at λo e=>k it (by simp) o e
 item:=by
  intro X hP hw hK hc i pins s σ H E I hf st hg
  subst hP hw hK
  obtain⟨xs,x,hq,hx⟩:=hg
  obtain⟨its,rv,p,hz⟩:=I.list hq
  obtain⟨u,hu,ru⟩:=rv.get hx
  obtain⟨f0,f1,f2,f3,f4,f5⟩:=hf it (by simp)
  refine wpAny_pyNext_list_item st p.isList (x:=u) (by simpa using hu) λh' st' sb=>?_
  have I1:Inv X pins σ H {s with heap:=h'}:=I.turned (t':=s.toks) (λb o hb e=>(sb.2 b hb).trans e) f0 f1 f3 f4 f5
  obtain⟨o,e,c,d⟩:=id st'
  exact⟨u,rfl,uV (s:={s with heap:=h'}) e c d (by decide) ⟨x,H,I1,ru,⟨rfl,λys hy=>by rw[I.list_inj hy hq];exact hx⟩,st',λb hb=>(hf b hb).1⟩⟩
 done:=by
  intro X hP hw hK hc i pins s σ H E I hf st hg
  subst hP hw hK
  obtain⟨xs,hq,hx⟩:=hg
  obtain⟨its,rv,p,hz⟩:=I.list hq
  obtain⟨f0,f1,f2,f3,f4,f5⟩:=hf it (by simp)
  have hl:=rv.length
  exact wpAny_pyNext_list_end (I.ok.hd hc) st p.isList (by simp;lia) λh' eb=>⟨rfl,I.turned (t':=s.toks) (λb o hb e=>eb b o hb e) f0 f1 f3 f4 f5⟩
 self:=λ_ _ _ _ _ st h=>wpAny_pyIter_listiter st h
theorem sC(a it:Addr):Turn P w K tg (Itt K a) [it] it (λi h=>h.IsTupleIter it a i)where
 mem:=by simp
 obj:=λi h st b hb=>by
  have e:b=it:=by simpa using hb
  subst e
  obtain⟨o,e,c,d⟩:=st
  exact⟨o,e,λv z=>by rw[d]at z;cases z⟩
 keep:=λi h h' st k=>st.at λo e=>k it (by simp) o e
 item:=by
  intro X hP hw hK hc i pins s σ H E I hf st hg
  subst hP hw hK
  obtain⟨xs,x,hq,hx⟩:=hg
  obtain⟨its,rv,p,hz⟩:=I.tuple hq
  obtain⟨u,hu,ru⟩:=rv.get hx
  obtain⟨f0,f1,f2,f3,f4,f5⟩:=hf it (by simp)
  refine wpAny_pyNext_tuple_item st (show s.heap.IsTuple a its.toArray from p) (x:=u) (by simpa using hu) λh' st' sb=>?_
  have I1:Inv X pins σ H {s with heap:=h'}:=I.turned (t':=s.toks) (λb o hb e=>(sb.2 b hb).trans e) f0 f1 f3 f4 f5
  obtain⟨o,e,c,d⟩:=id st'
  exact⟨u,rfl,uV (s:={s with heap:=h'}) e c d (by decide) ⟨x,H,I1,ru,⟨rfl,λys hy=>by rw[I.tuple_inj hy hq];exact hx⟩,st',λb hb=>(hf b hb).1⟩⟩
 done:=by
  intro X hP hw hK hc i pins s σ H E I hf st hg
  subst hP hw hK
  obtain⟨xs,hq,hx⟩:=hg
  obtain⟨its,rv,p,hz⟩:=I.tuple hq
  obtain⟨f0,f1,f2,f3,f4,f5⟩:=hf it (by simp)
  have hl:=rv.length
  exact wpAny_pyNext_tuple_end (I.ok.hd hc) st (show s.heap.IsTuple a its.toArray from p) (by simp;lia) λh' eb=>⟨rfl,I.turned (t':=s.toks) (λb o hb e=>eb b o hb e) f0 f1 f3 f4 f5⟩
 self:=λ_ _ _ _ _ st h=>wpAny_pyIter_tupleiter st h
theorem rU(it:Addr)(lo:Int)(n:Nat):Turn P w K tg (Itr lo n) [it] it (λi h=>IsRangeIter h it (lo+(i:Nat)*1) ((n:Int) - (i:Nat)) 1)where
 mem:=by simp
 obj:=λi h st b hb=>by
  have e:b=it:=by simpa using hb
  subst e
  exact⟨_,st,λv z=>by
   have z':Data.fields _=Data.cell v:=z
   cases z'⟩
 keep:=λi h h' st k=>k it (by simp) _ st
 item:=by
  intro X hP hw hK hc i pins s σ H E I hf st hg
  subst hP hw hK
  obtain⟨f0,f1,f2,f3,f4,f5⟩:=hf it (by simp)
  have W:=Walks.range (prog:=X.prog) (w:=X.w) (I.ok.hd hc) it lo 1 n
  refine W.item i s _ _ hg st λv h' tk hv st' kk=>?_
  obtain⟨t,rfl⟩:=hv
  have I1:Inv X pins σ H {s with heap:=h',toks:=tk}:=I.turned (λb o hb e=>kk b o (by simpa using hb) e) f0 f1 f3 f4 f5
  refine⟨_,rfl,uV (s:={s with heap:=h',toks:=tk}) (n:="range_iterator") st' rfl rfl (by decide) ⟨.int (lo+i),H,I1,⟨t,?_⟩,⟨rfl,rfl⟩,st',λb hb=>(hf b hb).1⟩⟩
  rw[Int.mul_one]
 done:=by
  intro X hP hw hK hc i pins s σ H E I hf st hg
  subst hP hw hK
  obtain⟨f0,f1,f2,f3,f4,f5⟩:=hf it (by simp)
  exact wpAny_pyNext_range_end (I.ok.hd hc) st (by have:n<=i:=hg;lia) λh' eb=>⟨rfl,I.turned (t':=s.toks) (λb o hb e=>eb b o hb e) f0 f1 f3 f4 f5⟩
 self:=λ_ _ _ _ _ st h=>wpAny_pyIter_rangeiter st h
theorem yE{R:It->Hp->Prop}{lo hi:Int}{t u v:Tok}{tk:Nat}(I:Inv X pins σ H s)(h1 : -(2 ^ 62)<=lo)(h2:lo < 2 ^ 62)(h3 : -(2 ^ 62)<=hi)(h4:hi < 2 ^ 62)
  (q:R (Itr lo (hi - lo).toNat) H):wpAny (model X.prog X.w) X.A (pyIter (.ref s.heap.objs.size)) (PIE X pins σ tg R) E {s with heap:=s.heap.push {cls:=.type "range",data:=.fields #[.int lo t,.int hi u,.int 1 v]},toks:=tk}:=by
 refine wpAny_pyIter_range (IsRange.new ..) (small_one h1 h2 h3 h4) ?_
 have I1:Inv X pins σ H {s with heap:=s.heap.push {cls:=.type "range",data:=.fields #[.int lo t,.int hi u,.int 1 v]},toks:=tk}:=I.kept λb o e=>aAA _ e
 refine⟨(s.heap.push {cls:=.type "range",data:=.fields #[.int lo t,.int hi u,.int 1 v]}).objs.size,[(s.heap.push {cls:=.type "range",data:=.fields #[.int lo t,.int hi u,.int 1 v]}).objs.size],_,_,H,rfl,
  I1.kept (t':=tk) λb o e=>aAA _ e,rU _ lo (hi - lo).toNat,?_,λb hb=>?_,q⟩
 ·have e1:lo+((0:Nat):Int)*1=lo:=by simp
  have e2:(((hi - lo).toNat:Nat):Int) - ((0:Nat):Int)=Builtin.Range.rangeSize lo hi 1:=by rw[rangeSize_one];split <;> lia
  show IsRangeIter _ _ (lo+((0:Nat):Int)*1) ((((hi - lo).toNat:Nat):Int) - ((0:Nat):Int)) 1
  rw[e1,e2]
  exact aAI _ rfl
 ·have e:b=(s.heap.push {cls:=.type "range",data:=.fields #[.int lo t,.int hi u,.int 1 v]}).objs.size:=by simpa using hb
  subst e
  exact I1.fpOk (aAH _) (I1.hok.fresh (aAH _))
def iRng1(ta:TA):TI:=λσ H R=>ta σ H λvs H1=>∃j:Int,vs=[.int j] /\ -(2 ^ 62)<=j/\j < 2 ^ 62/\R (Itr 0 j.toNat) H1
theorem vM(hg:Gl X "range")(hm:X.mg "range"=none)(ha:PA X [a] ta)(hs:starEach [a] X.env=[(false,eval a X.env)]:=by rfl):PI X tg (.Call (.Name "range" p) [a] [] pos) (iRng1 ta):=by
 intro pins s σ H R I h
 refine Call_ (kO I hg hm boot_range (aDB (thn (ha pos pins s σ H _ I h) λus s1 ⟨vs,H1,I1,r1,q1⟩=>?_) hs rfl))
 obtain⟨j,e,q1,q2,q⟩:=q1
 subst e
 cases r1 with
 |cons r rr =>
  cases rr
  obtain⟨t,rfl⟩:=r
  exact call_range_1 (yE I1 (by lia) (by lia) q1 q2 (by simpa using q))
def tFor(wi:TI)(g:TG)(tb:TS):TS:=λD σ H=>wi σ H λJ H1=>∃W:Nat->Nat->St->Hp->Prop,(∃m,W 0 m σ H1)/\∀i m σ H,W i m σ H ->
 (J.stop i H/\D.nx σ H)\/(J.go i H/\∃N:St->Hp->Prop,(∀σ' H',N σ' H'->∃m',m' < m/\W (i+1) m' σ' H')/\∀x H',J.yld i H x H'->g x σ H' λσ2 H2=>tb {D with nx:=N,ct:=N,bk:=D.nx} σ2 H2)
def pinsAt(fp:List Addr)(h:Heap):List (Addr×Obj):=fp.filterMap λb=>(h.get? b).map λo=>(b,o)
theorem gB(hb:b∈fp)(e:h.get? b=some o):(b,o)∈pinsAt fp h:=List.mem_filterMap.mpr ⟨b,hb,by rw[e];rfl⟩
theorem wP{p:Addr×Obj}(hp:p∈pinsAt fp h):p.1∈fp/\h.get? p.1=some p.2:=by
 obtain⟨b,hb,e⟩:=List.mem_filterMap.mp hp
 cases q:h.get? b with
 |none=>rw[q]at e;cases e
 |some o =>
  rw[q]at e
  have e':(b,o)=p:=Option.some.inj e
  subst e'
  exact⟨hb,q⟩
theorem Inv.pinned{fp:List Addr}(I:Inv X pins σ H s)(hf:∀b∈fp,FpOk X pins H b)(ho:∀b∈fp,∃o,s.heap.get? b=some o/\∀v,o.data≠.cell v):Inv X (pins++pinsAt fp s.heap) σ H s :=
 I.pins_of λp hp=>(aCE.mp hp).elim (λz=>I.pin p (aBK _ z)) λz=>by
  obtain⟨hb,e⟩:=wP z
  obtain⟨f0,f1,f2,_⟩:=hf p.1 hb
  obtain⟨o,e',d⟩:=ho p.1 hb
  rw[e]at e';cases e'
  exact⟨e,f0,f1,f2,d⟩
theorem Inv.unpinned{pl:List (Addr×Obj)}(I:Inv X (pins++pl) σ H s):Inv X pins σ H s:=I.pins_of λp hp=>I.pin p (aBK _ (List.mem_append_left _ hp))
theorem aFf{iter:Expr}{wi:TI}(hp:PassesOwn (model X.prog X.w) X.A X.env X.xe)(hc:X.calm=true)(hi:PI X tg iter wi)(hg:PG X tg g)(hb:PSs X body tb)
  (hs:∀x,foldedSetIterable iter X.env x=pure x:=by intro _;rfl):PS X (.For tg iter body [] pos) (tFor wi g tb):=by
 intro pins s σ H D I h
 refine wpAny_For (thn (hi pins s σ H _ I h) λv s1 h1=>thn h1 λitv s2 h2=>?_) hs
 obtain⟨it,fp,tn,J,H2,e,I2,T,st2,f2,W,⟨m0,w0⟩,turn⟩:=h2
 subst e
 have stat:∀{H':Hp},(∀b∈fp,H' b=none)->∀b∈fp,FpOk X pins H' b:=λhn b hb=>⟨hn b hb,(f2 b hb).2⟩
 refine codeAny_forLoop_any (λn s'=>∃i σ' H',Inv X pins σ' H' s'/\tn i s'.heap/\(∀b∈fp,H' b=none)/\W i n σ' H') ?_ m0 ⟨0,σ,H2,I2,st2,λb hb=>(f2 b hb).1,w0⟩
 rintro n s3 ⟨i,σ3,H3,I3,st3,fr3,w3⟩
 rcases turn i n σ3 H3 w3 with⟨stop,qn⟩|⟨go,N,hN,step⟩
 ·refine aDF hp (thn (T.done X rfl rfl rfl hc i pins s3 σ3 H3 X.xe I3 (stat fr3) st3 stop) λr s4 ⟨hr,I4⟩=>?_)
  subst hr
  exact aDY ⟨σ3,H3,I4,qn⟩
 ·refine aDF hp (thn (T.item X rfl rfl rfl hc i pins s3 σ3 H3 X.xe I3 (stat fr3) st3 go) λr s4 ⟨u,hr,h4⟩=>?_)
  subst hr
  refine aDF hp (thn h4 λ_ s5 ⟨x,H5,I5,r5,y5,st5,fr5⟩=>?_)
  have I5':=I5.pinned (stat fr5) (T.obj _ _ st5)
  refine aDF hp (thn (hg _ s5 σ3 H5 x u _ I5' r5 (step x H5 y5)) λ_ s6 ⟨σ6,H6,I6,q6⟩=>?_)
  refine aDF hp (thn (hb _ s6 σ6 H6 _ I6 q6) λf s7 q7=>?_)
  have again:∀{σ7:St} {H7:Hp},Inv X (pins++pinsAt fp s5.heap) σ7 H7 s7->N σ7 H7->∃m,m < n/\∃i σ' H',Inv X pins σ' H' s7/\tn i s7.heap/\(∀b∈fp,H' b=none)/\W i m σ' H':=λ{σ7 H7} I7 n7=>by
   obtain⟨m',hm,w7⟩:=hN σ7 H7 n7
   refine⟨m',hm,i+1,σ7,H7,I7.unpinned,T.keep _ _ _ st5 λb hb o e=>(I7.pin (b,o) (aBK _ (aBK _ (gB hb e)))).1,λb hb=>?_,w7⟩
   obtain⟨o,e,d⟩:=T.obj _ _ st5 b hb
   exact(I7.pin (b,o) (aBK _ (aBK _ (gB hb e)))).2.1
  cases f with
  |next=>obtain⟨σ7,H7,I7,n7⟩:=q7;exact again I7 n7
  |cont=>obtain⟨σ7,H7,I7,n7⟩:=q7;exact again I7 n7
  |brk=>obtain⟨σ7,H7,I7,q7⟩:=q7;exact⟨σ7,H7,I7.unpinned,q7⟩
  |ret v=>obtain⟨x7,σ7,H7,I7,r7,q7⟩:=q7;exact⟨x7,σ7,H7,I7.unpinned,r7,q7⟩
abbrev R2:=V->V->Hp->VK->Prop
def OpR(X:Cx)(f:Value->Value->Sem Value)(r:R2):Prop :=
 ∀(pins:List (Addr×Obj)) (s:Shared) (σ:St) (H:Hp) (x y:V) (v u:Value) (Q:VK),Inv X pins σ H s->RelV x v->RelV y u->r x y H Q ->
  wpAny (model X.prog X.w) X.A (f v u) (EP X pins σ Q) X.xe s
def CallR(X:Cx)(f:Value)(r:List V->Hp->VK->Prop):Prop :=
 ∀(pins:List (Addr×Obj)) (s:Shared) (σ:St) (H:Hp) (xs:List V) (us:List Value) (Q:VK),Inv X pins σ H s->Vals xs us->r xs H Q ->
  wpAny (model X.prog X.w) X.A (call f us) (EP X pins σ Q) X.xe s
def TruR(X:Cx)(r:V->Hp->(Bool->Hp->Prop)->Prop):Prop :=
 ∀(pins:List (Addr×Obj)) (s:Shared) (σ:St) (H:Hp) (x:V) (v:Value) (Q:Bool->Hp->Prop),Inv X pins σ H s->RelV x v->r x H Q ->
  wpAny (model X.prog X.w) X.A (truthy v) (TP X pins σ Q) X.xe s
def tOp(r:R2)(ta tb:TE):TE:=λσ H Q=>ta σ H λx H1=>tb σ H1 λy H2=>r x y H2 Q
def rI(C:Int->Int->Prop)(g:Int->Int->V):R2:=λx y H Q=>∃i j,x=.int i/\y=.int j/\C i j/\Q (g i j) H
def rI0(g:Int->Int->V):R2:=λx y H Q=>∃i j,x=.int i/\y=.int j/\Q (g i j) H
end
variable{b:Expr}{ta tb tc:TE}{f:Value->Value->Sem Value}
theorem binT(ha:PE X a ta)(hb:PE X b tb){R:V->V->Hp->Prop}(I:Inv X pins σ H s)
  (h:ta σ H λx H1=>tb σ H1 λy H2=>R x y H2){Q:Value->Shared->Prop}
  (hf:∀v u s2 x y H2,Inv X pins σ H2 s2->RelV x v->RelV y u->R x y H2->wpAny (model X.prog X.w) X.A (f v u) Q X.xe s2) :
  wpAny (model X.prog X.w) X.A (eval a X.env) (λv s₁=>wpAny (model X.prog X.w) X.A (eval b X.env) (λu s₂=>wpAny (model X.prog X.w) X.A (f v u) Q X.xe s₂) X.xe s₁) X.xe s:=by
 refine thn (ha pins s σ H _ I h) λv s1 ⟨x,H1,I1,r1,q1⟩=>?_
 refine thn (hb pins s1 σ H1 _ I1 q1) λu s2 ⟨y,H2,I2,r2,q2⟩=>?_
 exact hf v u s2 x y H2 I2 r1 r2 q2
variable{r:R2}
theorem aJb(ho:OpR X (binaryOp op) r)(ha:PE X a ta)(hb:PE X b tb):PE X (.BinOp a op b pos) (tOp r ta tb):=by
 intro pins s σ H Q I h
 exact wpAny_BinOp (binT ha hb I h λv u s2 x y H2 I2 rx ry q=>ho pins s2 σ H2 x y v u Q I2 rx ry q)
variable{g:Int->Int->Int}
theorem opI{C:Int->Int->Prop}
  (rule:∀(i j:Int) (t u:Tok) (s:Shared) (Q:Value->Shared->Prop) (E:Value->Shared->Prop),C i j->Q (.int (g i j) s.toks) {s with toks:=s.toks+1}->wpAny (model X.prog X.w) X.A (f (.int i t) (.int j u)) Q E s) :
  OpR X f (rI C λi j=>.int (g i j)):=by
 intro pins s σ H x y v u Q I rx ry h
 obtain⟨i,j,rfl,rfl,hc,q⟩:=h
 obtain⟨t,rfl⟩:=rx
 obtain⟨t',rfl⟩:=ry
 exact rule i j t t' s _ _ hc ⟨.int (g i j),H,I.tok _,⟨_,rfl⟩,q⟩
theorem opI0 
  (rule:∀(i j:Int) (t u:Tok) (s:Shared) (Q:Value->Shared->Prop) (E:Value->Shared->Prop),Q (.int (g i j) s.toks) {s with toks:=s.toks+1}->wpAny (model X.prog X.w) X.A (f (.int i t) (.int j u)) Q E s) :
  OpR X f (rI0 λi j=>.int (g i j)):=by
 intro pins s σ H x y v u Q I rx ry h
 obtain⟨i,j,rfl,rfl,q⟩:=h
 obtain⟨t,rfl⟩:=rx
 obtain⟨t',rfl⟩:=ry
 exact rule i j t t' s _ _ ⟨.int (g i j),H,I.tok _,⟨_,rfl⟩,q⟩
theorem opB0{g:Int->Int->Bool}
  (rule:∀(i j:Int) (t u:Tok) (s:Shared) (Q:Value->Shared->Prop) (E:Value->Shared->Prop),Q (.bool (g i j)) s->wpAny (model X.prog X.w) X.A (f (.int i t) (.int j u)) Q E s) :
  OpR X f (rI0 λi j=>.bl (g i j)):=by
 intro pins s σ H x y v u Q I rx ry h
 obtain⟨i,j,rfl,rfl,q⟩:=h
 obtain⟨t,rfl⟩:=rx
 obtain⟨t',rfl⟩:=ry
 exact rule i j t t' s _ _ ⟨.bl (g i j),H,I,rfl,q⟩
noncomputable def CPow(i j:Int):Prop:=0<=j/\j<=1000000/\i.natAbs < 2 ^ 64
noncomputable def CMul(i j:Int):Prop:=(-(2 ^ 64) < i/\i < 2 ^ 64)\/(-(2 ^ 64) < j/\j < 2 ^ 64)
theorem CMul.ok{i j:Int}(h:CMul i j):IntMulOk i j:=by
 rcases h with⟨h1,h2⟩|⟨h1,h2⟩
 ·exact .of_left (intBits_le_64 h1 h2)
 ·exact .of_right (intBits_le_64 h1 h2)
theorem aFj:OpR X (binaryOp .Add) (rI0 λi j=>.int (i+j)):=opI0 λ_ _ _ _ _ _ _ q=>add_int q
theorem aDv:OpR X (binaryOp .Sub) (rI0 λi j=>.int (i - j)):=opI0 λ_ _ _ _ _ _ _ q=>sub_int q
theorem aGf:OpR X (binaryOp .Mod) (rI (λ_ j=>0 < j) λi j=>.int (i % j)):=opI λi j _ _ _ _ _ hc q=>by
 have h1:(0:Int) < j:=hc
 exact mod_int' (by lia) (by rw[Int.fmod_eq_emod_of_nonneg i (by lia)];exact q)
theorem aDm:OpR X (binaryOp .Pow) (rI CPow λi j=>.int (i ^ j.toNat)):=opI λ_ _ _ _ _ _ _ hc q=>pow_int_small hc.1 hc.2.1 hc.2.2 q
theorem tF{Q:VK}{k k':Bool}(I:Inv X pins σ H s)(q:Q (.bl k) H)(e:k=k'):EP X pins σ Q (.bool k') s:=by
 subst e
 exact⟨.bl k,H,I,rfl,q⟩
theorem aIc:OpR X (compareOp .Lt) (rI0 λi j=>.bl (decide (i < j))):=opB0 λ_ _ _ _ _ _ _ q=>lt_int q
theorem aJc:OpR X (compareOp .Gt) (rI0 λi j=>.bl (decide (j < i))):=opB0 λ_ _ _ _ _ _ _ q=>gt_int q
theorem aId:OpR X (compareOp .GtE) (rI0 λi j=>.bl (decide (j<=i))):=opB0 λ_ _ _ _ _ _ _ q=>ge_int q
theorem vH:OpR X (compareOp .In) (λx y H Q=>∃i j,x=.str i/\y=.str j/\Q (.bl (!(Builtin.Str.occurrences j i 0 j.length 1).isEmpty)) H):=by
 intro pins s σ H x y v u Q I rx ry h
 obtain⟨i,j,rfl,rfl,q⟩:=h
 obtain⟨t,rfl⟩:=rx
 obtain⟨t',rfl⟩:=ry
 exact in_str (tF I q rfl)
theorem aHj:OpR X (compareOp .Is) (λx y H Q=>y=.non/\Q (.bl (decide (x=.non))) H):=by
 intro pins s σ H x y v u Q I rx ry h
 obtain⟨rfl,q⟩:=h
 cases ry
 refine is_none_gen (tF I q ?_)
 cases x <;> first
  |(cases rx;rfl)
  |(obtain⟨t,rfl⟩:=rx;rfl)
theorem aBa:OpR X (compareOp .IsNot) (λx y H Q=>y=.non/\Q (.bl (!decide (x=.non))) H):=by
 intro pins s σ H x y v u Q I rx ry h
 obtain⟨rfl,q⟩:=h
 cases ry
 refine isnot_none_gen (tF I q ?_)
 cases x <;> first
  |(cases rx;rfl)
  |(obtain⟨t,rfl⟩:=rx;rfl)
variable{op:CmpOp}
theorem nomark(b:Expr)(h:op≠.In:=by decide)(h2:op≠.NotIn:=by decide):behindInMarks op b=false:=by
 have e1:(op==CmpOp.In)=false:=by cases op <;> first|rfl|exact absurd rfl h
 have e2:(op==CmpOp.NotIn)=false:=by cases op <;> first|rfl|exact absurd rfl h2
 cases b <;> simp[behindInMarks,e1,e2]
theorem aBq(ho:OpR X (compareOp op) r)(ha:PE X a ta)(hb:PE X b tb)(hm:behindInMarks op b=false):PE X (.Compare a [op] [b] pos) (tOp r ta tb):=by
 intro pins s σ H Q I h
 exact wpAny_Compare1 (binT ha hb I h λv u s2 x y H2 I2 rx ry q=>ho pins s2 σ H2 x y v u Q I2 rx ry q) hm
noncomputable def tTest(t:TE):TT:=λσ H Q=>t σ H λx H'=>∃k,x=.bl k/\Q k H'
theorem aCq(ho:OpR X (compareOp op) r)(ha:PE X a ta)(hb:PE X b tb)(hm:behindInMarks op b=false):PT X (.Compare a [op] [b] pos) (tTest (tOp r ta tb)):=by
 intro pins s σ H Q I h
 refine wpAny_isTrue_Compare1 (thn (ha pins s σ H _ I h) λv s1 ⟨x,H1,I1,r1,q1⟩=>thn (hb pins s1 σ H1 _ I1 q1) λu s2 ⟨y,H2,I2,r2,q2⟩ =>
  thn (ho pins s2 σ H2 x y v u _ I2 r1 r2 q2) λc s3 ⟨z,H3,I3,r3,k,e,q3⟩=>?_) hm
 subst e
 cases r3
 exact aDZ ⟨H3,I3,q3⟩
noncomputable def TruV(K:Frag)(x:V)(H:Hp)(k:Bool):Prop :=
 match x with
 |.non=>k=false
 |.bl b=>k=b
 |.int i=>k=(i != 0)
 |.str y=>y.length<=sizeLine/\k=((y.length:Int) != 0)
 |.byt y=>y.size<=sizeLine/\k=((y.size:Int) != 0)
 |.ref p=>(∃xs,SqL K H p xs/\k=!xs.isEmpty)\/(∃xs,SqT K H p xs/\k=!xs.isEmpty)\/∃kvs,H p=some (.dK kvs)/\k=!kvs.isEmpty
 |_=>False
theorem tI{κ:Type}{kvs:List (κ×V)}{vs:List (κ×Value)}(r:KV kvs vs):(!vs.isEmpty)=!kvs.isEmpty:=by
 cases r <;> rfl
theorem mG(r:Vals xs its):(!its.toArray.isEmpty)=!xs.isEmpty:=by
 cases r <;> simp
theorem line63:(sizeLine:Nat) < 2 ^ 63:=by rw[aAT];decide
theorem aFa:TruR X (λx H Q=>∃k,TruV X.K x H k/\Q k H):=by
 intro pins s σ H x v Q I rx h
 obtain⟨k,e,q⟩:=h
 have hl:=line63
 have hs:sizeLine=16777216:=aAT
 cases x with
 |non =>
  cases rx
  have e':k=false:=e
  subst e'
  exact truthy_none ⟨H,I,q⟩
 |bl b =>
  cases rx
  have e':k=b:=e
  subst e'
  exact aDZ ⟨H,I,q⟩
 |int i =>
  obtain⟨t,rfl⟩:=rx
  have e':k=(i != 0):=e
  subst e'
  exact PySem.P.truthy_int ⟨H,I,q⟩
 |str y =>
  obtain⟨t,rfl⟩:=rx
  obtain⟨hy,e'⟩:y.length<=sizeLine/\k=((y.length:Int) != 0):=e
  subst e'
  exact PySem.P.truthy_str (by lia) ⟨H,I.tok _,q⟩
 |byt y =>
  obtain⟨t,rfl⟩:=rx
  obtain⟨hy,e'⟩:y.size<=sizeLine/\k=((y.size:Int) != 0):=e
  subst e'
  exact PySem.W.truthy_bytes (by lia) ⟨H,I.tok _,q⟩
 |ref p =>
  cases rx
  have e':(∃xs,SqL X.K H p xs/\k=!xs.isEmpty)\/(∃xs,SqT X.K H p xs/\k=!xs.isEmpty)\/∃kvs,H p=some (.dK kvs)/\k=!kvs.isEmpty:=e
  rcases e' with⟨xs,hx,e'⟩|⟨xs,hx,e'⟩|⟨kvs,hx,e'⟩
  ·subst e'
   obtain⟨its,r,pl,hz⟩:=I.list hx
   have hlen:=r.length
   exact wpAny_truthy_list pl.isList (by simp only[aAK];lia) ⟨H,I.tok _,by rw[mG r];exact q⟩
  ·subst e'
   obtain⟨its,r,pl,hz⟩:=I.tuple hx
   have hlen:=r.length
   exact truthy_tuple pl (by simp only[aAK];lia) ⟨H,I.tok _,by rw[mG r];exact q⟩
  ·subst e'
   obtain⟨hz,hS,vs,r,m⟩:kvs.length<=sizeLine/\(p==sysModules)=false/\∃vs,KV kvs vs/\s.heap.DictOf (mixKind X.prog X.w) p vs:=I.hok p _ hx
   have hlen:kvs.length=vs.length:=Paired.length r
   exact wpAny_truthy_dict hS m (by lia) ⟨H,I.tok _,by rw[tI r];exact q⟩
 |_=>exact(show False from e).elim
theorem zF(ha:PE X a ta)(he:∀whole,isTrue a X.env whole=(do let v <- whole;standAt a.pos;holding [v] (truthy v))) :
  PT X a (λσ H Q=>ta σ H λx H'=>∃k,TruV X.K x H' k/\Q k H'):=by
 intro pins s σ H Q I h
 exact isTrue_plain (thn (ha pins s σ H _ I h) λv s1 ⟨x,H1,I1,r1,q1⟩=>aFa pins s1 σ H1 x v Q I1 r1 q1) (he _)
theorem sY:OpR X (binaryOp .Add) (λx y H Q=>∃i j,x=.str i/\y=.str j/\i.length+j.length<=sizeLine/\Q (.str (i++j)) H):=by
 intro pins s σ H x y v u Q I rx ry h
 obtain⟨i,j,rfl,rfl,hz,q⟩:=h
 obtain⟨t,rfl⟩:=rx
 obtain⟨t',rfl⟩:=ry
 exact add_str (λt' tk=>⟨.str (i++j),H,I.tok _,⟨_,rfl⟩,q⟩) hz
variable{x:V}
theorem vals1(r:Vals [x] us):∃u,us=[u]/\RelV x u:=by
 cases r with
 |cons r1 r2=>cases r2;exact⟨_,rfl,r1⟩
theorem vals2{y:V}(r:Vals [x,y] us):∃u w',us=[u,w']/\RelV x u/\RelV y w':=by
 cases r with
 |cons r1 r2 =>
  cases r2 with
  |cons r3 r4=>cases r4;exact⟨_,_,rfl,r1,r3⟩
theorem wA(hc:X.calm=true):CallR X (.builtin "max") (λxs H Q=>∃i j,xs=[.int i,.int j]/\Q (.int (if j > i then j else i)) H):=by
 intro pins s σ H xs us Q I r h
 obtain⟨i,j,rfl,q⟩:=h
 obtain⟨u,w',rfl,⟨t,rfl⟩,⟨t',rfl⟩⟩:=vals2 r
 refine max_two_ints (I.ok.hd hc) λh' tk k=>⟨_,H,I.kept k,?_,q⟩
 by_cases hj:j > i
 ·rw[aAG hj,aAG hj];exact⟨_,rfl⟩
 ·rw[aAL hj,aAL hj];exact⟨_,rfl⟩
theorem wJ:CallR X (.type "int") (λxs H Q=>(∃i,xs=[.int i]/\Q (.int i) H)\/∃k,xs=[.bl k]/\Q (.int (if k then 1 else 0)) H):=by
 intro pins s σ H xs us Q I r h
 rcases h with⟨i,rfl,q⟩|⟨k,rfl,q⟩
 ·obtain⟨u,rfl,t,rfl⟩:=vals1 r
  exact call_int_int ⟨.int i,H,I,⟨_,rfl⟩,q⟩
 ·obtain⟨u,rfl,r1⟩:=vals1 r
  cases r1
  exact call_int_bool ⟨.int (if k then 1 else 0),H,I.tok _,⟨_,rfl⟩,q⟩
theorem nW:CallR X (.type "str") (λxs H Q=>∃i,xs=[.int i]/\i.natAbs.log2 < 1920/\Q (.str (toString i)) H):=by
 intro pins s σ H xs us Q I r h
 obtain⟨i,rfl,hz,q⟩:=h
 obtain⟨u,rfl,t,rfl⟩:=vals1 r
 exact PySem.P.str_of_int hz ⟨.str _,H,I.tok _,⟨_,rfl⟩,q⟩
structure ObjM(h:Heap)(x dx C:Addr)(mA:Str->Option Value):Prop where
 obj:h.get? x=some (PySem.W.instObj C dx)
 ns:h.Ns1 dx mA
 ne:dx≠x
theorem kQ(n:h.Ns1 dx mA):∃od,h.get? dx=some od/\∀name,PySem.W.lookIn name od=some (mA name):=by
 obtain⟨o,es,ep,ho,hd,hk,_,hm⟩:=n
 refine⟨o,ho,λname=>?_⟩
 have e:=hm name
 unfold nsFind findBy at e
 rw[<- Array.find?_toList]at e
 unfold PySem.W.lookIn
 rw[hd]
 dsimp only
 split
 ·rename_i y q
  rw[q]at e
  exact congrArg some e
 ·rename_i q
  rw[q]at e
  have a:es.toList.any (·.refKey)=false:=by
   rw[List.any_eq_false]
   intro y hy
   obtain⟨z,t,hkey⟩:=hk y (Array.mem_toList_iff.mp hy)
   simp[DictEntry.refKey,hkey]
  have a':¬es.toList.any (·.refKey)=true:=by rw[a];exact aBF
  rw[aAL a']
  exact congrArg some e
theorem ObjM.look{x:Addr}(I:ObjM h x dx C mA):∃od,PySem.W.InstAt h x (PySem.W.instObj C dx) C (some od)/\∀name,PySem.W.lookIn name od=some (mA name) :=
 let⟨od,ho,hl⟩:=kQ I.ns
 ⟨od,⟨I.obj,rfl,rfl,ho⟩,hl⟩
variable{K:Frag}{x f:Addr}{v:Value}{v:V}
theorem RelO.some_of{o:Option Value}(r:RelO (some v) o):∃u,o=some u/\RelV v u:=by
 cases o with
 |none=>exact(show False from r).elim
 |some u=>exact⟨u,rfl,r⟩
section
variable{a:Addr}{fs fs':List (Str×V)}
theorem aBe(hok:HOk P w H h)(e:H a=some (.ins C dx fs)):∃mA,ObjM h a dx C mA/\(∀f,RelO (fs.lookup f) (mA f))/\PySem.Within mA (fs.map (·.1))/\fs.length<=1000/\H dx=some (.own a):=by
 obtain⟨d,z,ne,ob,mA,n,r,q⟩:=(show ObjOk P w H h a (.ins C dx fs)from hok a _ e)
 exact⟨mA,⟨ob,n,ne⟩,r,q,z,d⟩
end
structure Cls(K:Frag)(C:Addr):Prop where
 pg:PySem.W.plainGet K C Str.empty=true
 hd:PySem.W.hasDictIn K C=true
 po:PySem.W.plainOver K C=true
 sa:PySem.W.findIn K (.ref C) "__setattr__"=some (some (.builtin "object.__setattr__"))
theorem Cls.get{K:Frag}{C:Addr}(c:Cls K C)(f:Str):PySem.W.plainGet K C f=true:=c.pg
structure Con(K:Frag)(C:Addr)(f:Str)(v:V)(u:Value):Prop where
 at_:PySem.W.findIn K (.ref C) f=some (some u)
 rel:RelV v u
 get:PySem.W.specialIn K u "__get__"=some none
 cp:PySem.W.copiedNames.contains f=false
structure Meth(K:Frag)(C:Addr)(m:Str)(f:Addr):Prop where
 at_:PySem.W.findIn K (.ref C) m=some (some (.ref f))
 fn:PySem.W.isFn K (.ref f)=true
 kp:keepIn K (.ref f)=true
section
variable{a:Addr}{fs:List (Str×V)}{f:Str}
theorem aAk{Q:Value->Shared->Prop}(hb:attributeBase e f env (eval e env)=eval e env)
  (h:wpAny (model prog w) A (eval e env) (λo s₁=>wpAny (model prog w) A (getAttr o f true) Q E s₁) E s):wpAny (model prog w) A (eval (.Attribute e f pos) env) Q E s :=
 Attribute_any_ h (by rw[arm_eval_Attribute,hb])
end
variable{o value:Expr}{f:Str}{tv:TE}{Q:Value->Shared->Prop}{c:Value}{b:Bool}
inductive TyOf(K:Frag)(H:Hp):V->Value->Prop where
 |non:TyOf K H .non (.type "NoneType")
 |bl (x:Bool):TyOf K H (.bl x) (.type "bool")
 |int (i:Int):TyOf K H (.int i) (.type "int")
 |str (x:Str):TyOf K H (.str x) (.type "str")
 |flt (x:UInt64):TyOf K H (.flt x) (.type "float")
 |lst {a:Addr} {xs:List V} (e:H a=some (.lst xs)):TyOf K H (.ref a) (.type "list")
 |frz {a:Addr} {o:Obj} {xs:List V} (e:H a=some (.frz o (.lst xs))):TyOf K H (.ref a) (.type "list")
 |tup {a:Addr} {xs:List V} (e:H a=some (.tup xs)):TyOf K H (.ref a) (.type "tuple")
 |dK {a:Addr} {kvs:List (Key×V)} (e:H a=some (.dK kvs)):TyOf K H (.ref a) (.type "dict")
 |dT {a:Addr} {kvs:List (List Key×V)} (e:H a=some (.dT kvs)):TyOf K H (.ref a) (.type "dict")
 |ins {a C dx:Addr} {fs:List (Str×V)} (e:H a=some (.ins C dx fs)) (cl:Cls K C) (ha:PySem.W.findIn K (.ref C) "__class__"=some (some (.builtin "object.__class__")))
   (hn:PySem.W.specialIn K (.builtin "object.__class__") "__get__"=some (some (.builtin "getset_descriptor.__get__"))) (htk:PySem.W.takesIn K (.builtin "object.__class__")=some true)
   (hm:PySem.W.mroIn K C (.type "object")=some true):TyOf K H (.ref a) (.ref C)
theorem wK{x:V}{t:Value}(I:Inv X pins σ H s)(rx:RelV x u)(ty:TyOf X.K H x t)(e:PySem.W.kitOne X.K t c=some b)(h:∀tk,Q (.bool b) {s with toks:=tk}) :
  wpAny (model X.prog X.w) A (call (.builtin "isinstance") [u,c]) Q E s:=by
 cases ty with
 |non=>cases(show u=Value.none from rx);exact aBX PySem.W.kitx_none I.kIn True.intro e (λz=>nomatch z) h
 |bl y=>cases(show u=Value.bool y from rx);exact aBX PySem.W.kitx_bool I.kIn True.intro e (λz=>nomatch z) h
 |int i=>obtain⟨t,q⟩:=(show ∃t,u=Value.int i t from rx);cases q;exact aBX PySem.W.kitx_int I.kIn True.intro e (λz=>nomatch z) h
 |str y=>obtain⟨t,q⟩:=(show ∃t,u=Value.str y t from rx);cases q;exact aBX PySem.W.kitx_str I.kIn True.intro e (λz=>nomatch z) h
 |flt y=>obtain⟨t,q⟩:=(show ∃t,u=Value.float y t from rx);cases q;exact aBX PySem.W.kitx_float I.kIn True.intro e (λz=>nomatch z) h
 |@lst a xs ea =>
  cases(show u=Value.ref a from rx)
  obtain⟨_,_,n,_,h1⟩:=(show ObjOk X.prog X.w H s.heap a (.lst xs)from I.hok a _ ea)
  exact aBX PySem.W.kitx_list I.kIn ⟨_,h1,rfl⟩ e (λz=>nomatch z) h
 |@frz a ob xs ea =>
  cases(show u=Value.ref a from rx)
  obtain⟨_,_,_,n,_,h1⟩:=(show ObjOk X.prog X.w H s.heap a (.frz ob (.lst xs))from I.hok a _ ea)
  exact aBX PySem.W.kitx_list I.kIn ⟨_,h1,rfl⟩ e (λz=>nomatch z) h
 |@tup a xs ea =>
  cases(show u=Value.ref a from rx)
  obtain⟨_,_,_,p⟩:=(show ObjOk X.prog X.w H s.heap a (.tup xs)from I.hok a _ ea)
  obtain⟨o,h1,h2,_⟩:=p
  exact aBX PySem.W.kitx_tuple I.kIn ⟨o,h1,h2⟩ e (λz=>nomatch z) h
 |@dK a kvs ea =>
  cases(show u=Value.ref a from rx)
  obtain⟨_,_,vs,_,p⟩:=(show ObjOk X.prog X.w H s.heap a (.dK kvs)from I.hok a _ ea)
  obtain⟨o,es,ep,h1,h2,_⟩:=p
  exact aBX PySem.W.kitx_dict I.kIn ⟨o,h1,h2.1⟩ e (λz=>nomatch z) h
 |@dT a kvs ea =>
  cases(show u=Value.ref a from rx)
  obtain⟨_,_,xs,_,o,es,ep,h1,h2,_⟩:=(show ObjOk X.prog X.w H s.heap a (.dT kvs)from I.hok a _ ea)
  exact aBX PySem.W.kitx_dict I.kIn ⟨o,h1,h2.1⟩ e (λz=>nomatch z) h
 |@ins a C dx fs ea cl ha hn htk hm =>
  cases(show u=Value.ref a from rx)
  obtain⟨mA,O,_⟩:=aBe I.hok ea
  obtain⟨od,J,_⟩:=O.look
  exact aBX (PySem.W.kitx_own (cl.get _) cl.hd ha hn htk hm) I.kIn J e (λz=>nomatch z) h
structure Room(k:Nat)(A:Around):Prop where
 hd:A.handled=none
 dp:A.depth+3*k+5 < recursionLimit
 un:A.units+16*k+200 < cLine
theorem Room.mono{k:Nat}(r:Room k A)(h:j<=k):Room j A:=⟨r.hd,by have:=r.dp;lia,by have:=r.un;lia⟩
theorem Room.deeper{k:Nat}{A:Around}(r:Room (k+1) A)(env:Env):Room k (A.deeper env) :=
 ⟨r.hd,by have:=r.dp;show A.depth+1+3*k+5 < _;lia,by have:=r.un;show A.units+3+16*k+200 < _;lia⟩
theorem tU :(A.under (.builtin "type.__call__" ⟨.ref C::us,kw⟩)).depth=A.depth+1:=by
 first|rfl|simp[Around.under,Code.weight,Code.isCreation,Code.isGuard,Code.isCaller,Code.frames,Code.isFrame,guardIds]
theorem rZ :(A.under (.builtin "type.__call__" ⟨.ref C::us,kw⟩)).units=A.units+1:=by
 first|rfl|simp[Around.under,Code.cUnits,Code.frames,Code.isFrame]
theorem Room.make{k:Nat}(r:Room (k+1) A)(C:Addr)(us:List Value)(kw:List (Str×Value)):Room k (A.under (.builtin "type.__call__" ⟨.ref C::us,kw⟩)) :=
 ⟨r.hd,by have:=r.dp;rw[tU];lia,by have:=r.un;rw[rZ];lia⟩
theorem Room.depth{k:Nat}{A:Around}(r:Room k A):A.depth < recursionLimit:=by have:=r.dp;lia
noncomputable def tNil:TA:=λ_ H Q=>Q [] H
noncomputable def tCons(ta:TE)(tr:TA):TA:=λσ H Q=>ta σ H λx H1=>tr σ H1 λxs H2=>Q (x::xs) H2
section
variable{t:TA}
theorem fH:PA X [] tNil:=λ_ _ _ _ H Q I h=>aFD ⟨[],H,I,.nil,h⟩
theorem cE(ha:PE X e te)(hr:PA X es t)(hs:starEach (e::es) X.env=(false,eval e X.env)::starEach es X.env:=by rfl):PA X (e::es) (tCons te t):=by
 intro pos pins s σ H Q I h
 rw[hs]
 show wpAny _ _ (spliced ((false,eval e X.env)::backTo pos (starEach es X.env))) _ _ s
 refine aFA (thn (ha pins s σ H _ I h) λu s1 ⟨x,H1,I1,r1,q1⟩=>?_)
 exact thn (hr pos pins s1 σ H1 _ I1 q1) λus s2 ⟨xs,H2,I2,r2,q2⟩=>⟨x::xs,H2,I2,.cons r1 r2,q2⟩
noncomputable def tTup(t:TA):TE:=λσ H Q=>t σ H λxs H1=>xs.length<=sizeLine/\∀p,H1 p=none->Q (.ref p) (upd H1 p (.tup xs))
noncomputable def tLst(t:TA):TE:=λσ H Q=>t σ H λxs H1=>xs.length<=sizeLine/\∀p,H1 p=none->Q (.ref p) (upd H1 p (.lst xs))
theorem yI{x1}(h:PA X es t):PE X (.Tuple es x1 pos) (tTup t):=by
 intro pins s σ H Q I hq
 refine wpAny_Tuple_spliced (thn (h pos pins s σ H _ I hq) λus s1 ⟨xs,H1,I1,r,z,q⟩=>⟨by rw[<- r.length];exact z,?_⟩)
 have hf:H1 s1.heap.objs.size=none:=I1.hok.fresh (aAH _)
 refine⟨.ref s1.heap.objs.size,upd H1 s1.heap.objs.size (.tup xs),I1.laid (t':=s1.toks) (λb u e=>aAA _ e) (aAH _) ?_,rfl,q _ hf⟩
 exact⟨z,us,r,⟨_,aAI _ rfl,rfl,_,rfl⟩⟩
theorem yP(h:PA X es t):PE X (.List es pos) (tLst t):=by
 intro pins s σ H Q I hq
 refine wpAny_List_spliced (thn (h pos pins s σ H _ I hq) λus s1 ⟨xs,H1,I1,r,z,q⟩=>⟨by rw[<- r.length];exact z,?_⟩)
 have hf:H1 s1.heap.objs.size=none:=I1.hok.fresh (aAH _)
 refine⟨.ref s1.heap.objs.size,upd H1 s1.heap.objs.size (.lst xs),I1.laid (t':=s1.toks) (λb u e=>aAA _ e) (aAH _) ?_,rfl,q _ hf⟩
 exact⟨z,us,0,r,aAI _ rfl⟩
end
noncomputable abbrev Sp:=List V->Hp->VK->XK->Prop
noncomputable abbrev CXT:=List Env->Hp->Shared->XK->Value->Shared->Prop
structure Env0(P:Program)(w:World)(K:Frag)(mg:Str->Option Value)(base:Heap)(A:Around)(outer:List Env)(s:Shared)(H:Hp):Prop where
 frames:A.frames=some outer
 mod:Mod K mg base
 bs:∀b o,base.get? b=some o->s.heap.get? b=some o/\H b=none
 bsz:base.objs.size<=s.heap.objs.size
 funs:s.heap.FunFrames base outer
 frf:∀b∈frs outer,H b=none
 hok:HOk P w H s.heap
 bare:AllBare s.gens
noncomputable def CE(outer:List Env)(P:Program)(w:World)(H:Hp)(s:Shared)(Q:VK)(u:Value)(s':Shared):Prop :=
 ∃v H',s'.os=s.os/\AllBare s'.gens/\Un (frs outer) [] H H' s.heap s'.heap/\HOk P w H' s'.heap/\RelV v u/\Q v H'
noncomputable def CR(CX:CXT)(outer:List Env)(P:Program)(w:World)(H:Hp)(s:Shared)(Q:VK)(E:XK)(r:Result)(s':Shared):Prop :=
 match r with
 |.ok (.ret u)=>CE outer P w H s Q u s'
 |.ok _=>False
 |.error e=>CX outer H s E e s'
structure FnOk(P:Program)(w:World)(K:Frag)(mg:Str->Option Value)(base:Heap)(CX:CXT)(k:Nat)(f:Addr)(fd:FuncData)(ps:List Str)(sp:Sp):Prop where
 len:∀vs H Q E,sp vs H Q E->vs.length=ps.length
 run:∀(A:Around) (outer:List Env) (s:Shared) (H:Hp) (args:Args) (us:List Value) (vs:List V) (Q:VK) (E:XK),Room k A->Env0 P w K mg base A outer s H->BindsTo s fd args (ps.zip us)->Vals vs us->sp vs H Q E ->
  codeAny (model P w) A (.call (.ref f) args) (CR CX outer P w H s Q E) s
theorem FnOk.mono{P:Program}{w:World}{K:Frag}{mg:Str->Option Value}{base:Heap}{CX:CXT}{j k:Nat}{f:Addr}{fd:FuncData}{ps:List Str}{sp:Sp}(F:FnOk P w K mg base CX j f fd ps sp)(h:j<=k) :
  FnOk P w K mg base CX k f fd ps sp:=⟨F.len,λA outer s H args us vs Q E hr=>F.run A outer s H args us vs Q E (hr.mono h)⟩
theorem Env0.make(e:Env0 P w K mg base A outer s H)(C:Addr)(us:List Value)(kw:List (Str×Value)) :
  Env0 P w K mg base (A.under (.builtin "type.__call__" ⟨.ref C::us,kw⟩)) outer s H:=⟨by first|exact e.frames|(simpa[Around.under,Code.envs,Code.isFrame,pushEnvs]using e.frames),e.mod,e.bs,e.bsz,e.funs,e.frf,e.hok,e.bare⟩
theorem Inv.env0(I:Inv X pins σ H s):Env0 X.prog X.w X.K X.mg X.base X.A X.stack s H :=
 ⟨I.ok.frames,I.ok.mod,I.bs,aAX I.ok.bsz I.sz,I.stack,I.stkFree,I.hok,I.bare⟩
variable{Q:VK}
theorem Inv.after(I:Inv X pins σ H s)(h:CE X.stack X.prog X.w H s Q u s'):EP X pins σ Q u s':=by
 obtain⟨v,H',os,bare,un,hok,r,q⟩:=h
 obtain⟨hh,g,d,t,os'⟩:=s'
 obtain rfl:os'=s.os:=os
 exact⟨v,H',I.call (h':=hh) (g':=g) (d':=d) (t':=t) (ch:=[]) un hok bare (λb z=>absurd z (by simp)),r,q⟩
noncomputable section
def tCall(sp:Sp)(dvs:List V)(E:XK)(t:TA):TE:=λσ H Q=>t σ H λvs H1=>sp (vs++dvs) H1 Q E
def Binds(K:Frag)(fd:FuncData)(ps:List Str)(ds:List Value):Prop :=
 ∀(s:Shared) (us:List Value),K.In s.heap->(us++ds).length=ps.length->BindsTo s fd ⟨us,[]⟩ (ps.zip (us++ds))
theorem Binds.all(h:∀us:List Value,us.length=ps.length->bindArgs fd ⟨us,[]⟩=pure (ps.zip us)):Binds K fd ps []:=λs us _ hl=>by
 rw[aDH]at hl ⊢
 exact .of_eq (h us hl)
def Passes(CX:CXT)(X:Cx)(E:XK):Prop:=∀(pins:List (Addr×Obj)) (σ:St) (H:Hp) (s:Shared) (e:Value) (s':Shared),Inv X pins σ H s->CX X.stack H s E e s'->X.xe e s'
end
section
variable{CX:CXT}{k:Nat}{f:Addr}{sp:Sp}{dvs:List V}{E:XK}{x m:Str}{t:TA}
theorem yS{vs:List V}(F:FnOk X.prog X.w X.K X.mg X.base CX k f fd ps sp)(hr:Room k X.A)(hb:Binds X.K fd ps ds)(hd:Vals dvs ds)(hx:Passes CX X E)
  (I:Inv X pins σ H s)(r:Vals vs us)(h:sp (vs++dvs) H Q E):wpAny (model X.prog X.w) X.A (call (.ref f) us) (EP X pins σ Q) X.xe s:=by
 have r2:Vals (vs++dvs) (us++ds):=r.append hd
 have hl:(us++ds).length=ps.length:=by rw[<- r2.length];exact F.len _ _ _ _ h
 refine aEJ (aFX (F.run X.A X.stack s H ⟨us,[]⟩ (us++ds) (vs++dvs) Q E hr I.env0 (hb s us I.kIn hl) r2 h) λr s' hq=>?_)
 cases r with
 |error e=>exact hx pins σ H s e s' I hq
 |ok fl =>
  cases fl with
  |ret u=>exact I.after hq
  |next=>exact False.elim hq
  |brk=>exact False.elim hq
  |cont=>exact False.elim hq
theorem lF(F:FnOk X.prog X.w X.K X.mg X.base CX k f fd ps sp)(hr:Room k X.A)(hg:Gl X x)(hm:X.mg x=some (.ref f))(hk:keepIn X.K (.ref f)=true)(hb:Binds X.K fd ps ds)(hd:Vals dvs ds)(hx:Passes CX X E)
  (ha:PA X (e::es) t)(hdb:(x==("__debug__":Str))=false:=by decide)(he:starEach (e::es) X.env=(false,eval e X.env)::starEach es X.env:=by rfl)(hpl:(backTo pos (starEach es X.env)).any (·.1)=false:=by rfl) :
  PE X (.Call (.Name x p) (e::es) [] pos) (tCall sp dvs E t):=by
 intro pins s σ H Q I h
 refine aCI (gH I hg hm ?_ hdb)
 refine aGJ (h₀:=X.base) I.ok.mod.kin hk (thn (ha pos pins s σ H _ I h) λus s1 ⟨vs,H1,I1,r,q⟩=>⟨I1.kIn,?_⟩) he hpl
 exact yS F hr hb hd hx I1 r q
theorem xZ(F:FnOk X.prog X.w X.K X.mg X.base CX k f fd ps sp)(hr:Room k X.A)(hg:Gl X x)(hm:X.mg x=some (.ref f))(hk:keepIn X.K (.ref f)=true)(hb:Binds X.K fd ps ds)(hd:Vals dvs ds)(hx:Passes CX X E)
  (hdb:(x==("__debug__":Str))=false:=by decide):PE X (.Call (.Name x p) [] [] pos) (tCall sp dvs E tNil):=by
 intro pins s σ H Q I h
 refine aCI (gH I hg hm ?_ hdb)
 exact PySem.W.callWith_K0 I.kIn hk (yS (us:=[]) F hr hb hd hx I .nil h)
structure Mk(K:Frag)(C f:Addr):Prop where
 makes:PySem.W.makesIn K C=true
 init:PySem.W.findIn K (.ref C) "__init__"=some (some (.ref f))
 fn:PySem.W.isFn K (.ref f)=true
 kp:keepIn K (.ref C)=true
end
section
variable{CX:CXT}{k:Nat}{f:Addr}{ks:List Str}{sp:Sp}{E:XK}{x m:Str}{kpos:Pos}{kws:List Keyword}{t tk:TA}{nm:Option Str}
structure KBinds(K:Frag)(fd:FuncData)(ps ks:List Str)(g:List Value->List Value->List Value)(gV:List V->List V->List V):Prop where
 to:∀(s:Shared) (us ws:List Value),K.In s.heap->(g us ws).length=ps.length->BindsTo s fd ⟨us,ks.zip ws⟩ (ps.zip (g us ws))
 rel:∀{vs:List V} {us:List Value} {zs:List V} {ws:List Value},Vals vs us->Vals zs ws->Vals (gV vs zs) (g us ws)
variable{g:List Value->List Value->List Value}{gV:List V->List V->List V}
end
structure FnScope(N P:List Str)(sc:Scope):Prop where
 kind:sc.kind=.function
 co:sc.isCoroutine=false
 gen:sc.isGenerator=false
 nd:N.Nodup
 pre:N.take P.length=P
 par:∀x∈P,sc.names.lookup x=some .local\/sc.names.lookup x=some .cell
 nofree:∀y∈sc.names,y.2≠.free
theorem nM{kindOf:Str->Option NameKind}{x:Str}:∀{binds:List (Str×Value)} {m:Str->Option Value},(∀v,(x,v)∉binds)->bindL kindOf binds m x=m x
 |[],_,_=>rfl
 |(n,v)::r,m,h=>by
  unfold bindL
  rw[nM λw hw=>h w (aBY _ hw)]
  split
  ·have:x≠n:=by rintro rfl;exact h v aDC
   simp[this]
  ·rfl
theorem nV{kindOf:Str->Option NameKind}{x:Str}:∀{binds:List (Str×Value)} {m:Str->Option Value},(∀v,(x,v)∉binds)->bindC kindOf binds m x=m x
 |[],_,_=>rfl
 |(n,v)::r,m,h=>by
  unfold bindC
  rw[nV λw hw=>h w (aBY _ hw)]
  split
  ·rfl
  ·have:x≠n:=by rintro rfl;exact h v aDC
   simp[this]
theorem nK{kindOf:Str->Option NameKind}{x:Str}{v:Value}:∀{P:List Str} {vs:List Value} {i:Nat} {m:Str->Option Value},P.Nodup->P[i]?=some x->vs[i]?=some v->kindOf x=some .local ->
  bindL kindOf (P.zip vs) m x=some v
 |[],_,_,_,_,h,_,_=>by simp at h
 |_::_,[],_,_,_,_,h,_=>by simp at h
 |p::P,w::vs,0,m,nd,h1,h2,hk=>by
  simp at h1 h2;subst h1;subst h2
  show bindL kindOf ((p,w)::P.zip vs) m p=_
  unfold bindL
  rw[nM λv hv=>(aFW.mp nd).1 (List.of_mem_zip hv).1,aAG hk]
  simp
 |p::P,w::vs,i+1,m,nd,h1,h2,hk=>by
  show bindL kindOf ((p,w)::P.zip vs) m x=_
  unfold bindL
  exact nK (i:=i) (aFW.mp nd).2 (by simpa using h1) (by simpa using h2) hk
theorem nG{kindOf:Str->Option NameKind}{x:Str}{v:Value}:∀{P:List Str} {vs:List Value} {i:Nat} {m:Str->Option Value},P.Nodup->P[i]?=some x->vs[i]?=some v->kindOf x≠some .local ->
  bindC kindOf (P.zip vs) m x=some v
 |[],_,_,_,_,h,_,_=>by simp at h
 |_::_,[],_,_,_,_,h,_=>by simp at h
 |p::P,w::vs,0,m,nd,h1,h2,hk=>by
  simp at h1 h2;subst h1;subst h2
  show bindC kindOf ((p,w)::P.zip vs) m p=_
  unfold bindC
  rw[nV λv hv=>(aFW.mp nd).1 (List.of_mem_zip hv).1,aAL hk]
  simp
 |p::P,w::vs,i+1,m,nd,h1,h2,hk=>by
  show bindC kindOf ((p,w)::P.zip vs) m x=_
  unfold bindC
  exact nG (i:=i) (aFW.mp nd).2 (by simpa using h1) (by simpa using h2) hk
noncomputable def start(N:List Str)(vs:List V):St:=vs.map some++List.replicate (N.length - vs.length) none
noncomputable def cxOf(CX:CXT)(P:Program)(w:World)(K:Frag)(mg:Str->Option Value)(base:Heap)(N:List Str)(qual:Str)(scope:Scope)(f:Addr)(cd:Value)(A:Around)(outer:List Env)(s:Shared)(H:Hp)(E:XK):Cx where
 prog:=P
 w:=w
 K:=K
 mg:=mg
 base:=base
 A:=A.deeper (envOfC qual scope s.heap.objs.size f cd)
 N:=N
 s₀:=s
 H₀:=H
 env:=envOfC qual scope s.heap.objs.size f cd
 outer:=outer
 stack:=envOfC qual scope s.heap.objs.size f cd::outer
 ex:=[]
 calm:=true
 fn:=λ_=>true
 pn:=[]
 xe:=λe s'=>wpAny (model P w) (A.deeper (envOfC qual scope s.heap.objs.size f cd)) (leaving (envOfC qual scope s.heap.objs.size f cd) e) (λ_ s''=>CX outer H s E e s'') (λe' s''=>CX outer H s E e' s'') s'
variable{x:Str}
theorem qU{sc:Scope}(h:sc.names.lookup x=some .cell):∃c,(cellsFrom n sc.names []).lookup x=some c:=by
 have q:=PySem.W.cellsFrom_some sc.names n [] (.inl h)
 exact Option.isSome_iff_exists.mp q
variable{CX:CXT}{scope:Scope}{f:Addr}
theorem vG{cd:Value}{s1:Shared}{E:XK}{vs:List V}
  (S:FnScope N ps scope)(hd:A.handled=none)(e0:Env0 P w K mg base A outer s H)(hl:vs.length=ps.length)(r:Vals vs us)
  (x:InCallC s s.heap.objs.size (bindL (envOfC qual scope s.heap.objs.size f cd).kindOf (ps.zip us) λ_=>none) (cellsFrom (s.heap.objs.size+1) scope.names []) (bindC (envOfC qual scope s.heap.objs.size f cd).kindOf (ps.zip us) λ_=>none) s1) :
  Inv (cxOf CX P w K mg base N qual scope f cd A outer s H E) [] (start N vs) H s1:=by
 have hpl:ps.length<=N.length:=by have:=congrArg List.length S.pre;rw[aCX]at this;lia
 obtain⟨h1,tk,rfl,hk⟩:=x.done
 have noA:∀b:Addr,b∉(cxOf CX P w K mg base N qual scope f cd A outer s H E).ex:=λb z=>absurd (show b∈([]:List Addr)from z) (by simp)
 refine⟨⟨e0.mod,S.kind,rfl,rfl,aAH _,λy z c h1 h2=>?_,λy hy=>?_,λy c _ h=>?_,λ_=>hd,Around.frames_deeper e0.frames,.inr ⟨rfl,rfl⟩,λb z=>absurd z (noA b),e0.bs,e0.bsz,λb _ _=>noA b,λb z=>absurd z (noA b),e0.funs,e0.frf⟩,
  rfl,e0.bare,Un.kept hk,⟨_,x.toInCall.ns,λi y v h1 h2 h3=>?_⟩,λy c h=>⟨_,x.cell y c h⟩,e0.hok.fresh (aAH _),λy c h=>?_,λp hp=>absurd (show p∈([]:List (Addr×Obj))from hp) (by simp),e0.hok.kept hk,?_⟩
 ·exact name_of_addr x.apart (aDS h1) (aDS h2)
 ·have hy:scope.names.lookup y=some .cell\/scope.names.lookup y=some .free:=hy
  rcases hy with hy|hy
  ·exact qU hy
  ·exact absurd rfl (S.nofree _ (aDS hy))
 ·exact Nat.le_of_lt (x.above y c (aDS h))
 ·have hi:i < vs.length:=by
   unfold start at h2
   by_cases hi:i < vs.length
   ·exact hi
   ·rw[aBZ (by simpa using hi)]at h2
    rw[List.getElem?_replicate]at h2
    split at h2 <;> cases h2
  have ha:vs[i]?=some v:=by
   unfold start at h2
   rw[aAW (by simpa using hi),aCB]at h2
   cases e:vs[i]? with
   |none=>rw[e]at h2;cases h2
   |some a=>rw[e]at h2;cases h2;rfl
  obtain⟨u,hu,rv⟩:=r.get ha
  have hp:ps[i]?=some y:=by
   rw[<- S.pre,List.getElem?_take_of_lt (by lia)];exact h1
  have ndP:ps.Nodup:=by rw[<- S.pre];exact S.nd.sublist (List.take_sublist _ _)
  refine⟨u,rv,?_⟩
  rcases S.par y (aDO hp)with k|k
  ·exact .inl ⟨k,nK ndP hp hu k⟩
  ·obtain⟨c,e⟩:=qU (n:=s.heap.objs.size+1) k
   refine .inr ⟨.inl k,c,e,?_⟩
   have q:=x.cell y c e
   rw[nG ndP hp hu (by show scope.names.lookup y≠_;rw[k];decide)]at q
   exact q
 ·exact e0.hok.fresh (Nat.le_of_lt (x.above y c (aDS h)))
 ·unfold start
  show _=N.length
  rw[aAV,aBB,aEE]
  lia
theorem xK{k:Nat}{params:Arguments}{dV kV doc pm cdv ct oc:Value}{an od:Option Addr}
  {sp:Sp}(lk:K.lookup f=some ⟨oc,od,.func (fnOf name qual params body scope dV kV doc pm an cdv ct),osl⟩)(hcd:codeIn K cdv qual=true)(S:FnScope N ps scope)
  (len:∀vs H Q E,sp vs H Q E->vs.length=ps.length)
  (hbody:∀(A:Around) (outer:List Env) (s:Shared) (H:Hp) (vs:List V) (Q:VK) (E:XK),Room k (A.deeper (envOfC qual scope s.heap.objs.size f cdv))->sp vs H Q E ->
   ∃t,PSs (cxOf CX P w K mg base N qual scope f cdv A outer s H E) body t/\t {nx:=λ_ H'=>Q .non H',rt:=Q} (start N vs) H) :
  FnOk P w K mg base CX (k+1) f (fnOf name qual params body scope dV kV doc pm an cdv ct) ps sp:=by
 refine⟨len,λA outer s H args us vs Q E hr e0 hb r hsp=>?_⟩
 have hl:=len _ _ _ _ hsp
 have KX:K.In s.heap:=e0.mod.kin.keeps λb o e=>(e0.bs b o e).1
 have lim:s.heap.NoLimit:=e0.mod.nolimit.keeps λb o e=>(e0.bs b o e).1
 have hkind:∀y∈ps.zip us,scope.names.lookup y.1=some .local\/(scope.names.lookup y.1=some .cell/\((cellsFrom (s.heap.objs.size+1) scope.names []).lookup y.1).isSome=true):=λ⟨n,v⟩ hy=>by
  rcases S.par n (List.of_mem_zip hy).1 with q|q
  ·exact .inl q
  ·exact .inr ⟨q,PySem.W.cellsFrom_some _ _ _ (.inl q)⟩
 refine codeAny_call_function hr.depth (KX _ _ lk) rfl S.co S.gen rfl (PySem.W.codeRec_of KX hcd) (hb _ _ _ _ ?_)
 refine wpAny_newFunctionEnv_cells S.kind hkind λenv he s1 x=>?_
 subst he
 refine⟨lim.keeps x.toInCall.keep,codeAny_func ?_⟩
 obtain⟨t,ht,hq⟩:=hbody A outer s H vs Q E (hr.deeper _) hsp
 have I:Inv (cxOf CX P w K mg base N qual scope f cdv A outer s H E) [] (start N vs) H s1:=vG S hr.hd e0 hl r x
 refine aCF (ht [] s1 (start N vs) H _ I hq) (λfl s' hs=>?_) λe s' hs=>hs
 have fin:∀{σ':St} {H':Hp} {v:V} {u:Value},Inv (cxOf CX P w K mg base N qual scope f cdv A outer s H E) [] σ' H' s'->RelV v u->Q v H'->CE outer P w H s Q u s' :=
  λ{σ' H' v u} J rv q=>⟨v,H',J.os,J.bare,J.base,J.hok,rv,q⟩
 cases fl with
 |ret u =>
  obtain⟨v,σ',H',J,rv,q⟩:=hs
  exact fin J rv q
 |next =>
  obtain⟨σ',H',J,q⟩:=hs
  exact fin (v:=V.non) (u:=Value.none) J rfl q
 |brk =>
  obtain⟨_,_,_,q⟩:=hs
  exact False.elim q
 |cont =>
  obtain⟨_,_,_,q⟩:=hs
  exact False.elim q
section
variable{t:TA}{id T:String}{r:List V->Hp->VK->Prop}
noncomputable def tCB(r:List V->Hp->VK->Prop)(t:TA):TE:=λσ H Q=>t σ H λvs H1=>r vs H1 Q
theorem jN(hc:CallR X (.builtin id) r)(hg:Gl X x)(hm:X.mg x=none)(hv:bootBuiltins x=some (.builtin id))(ha:PA X (e::es) t)(hn:x≠"__name__":=by decide)(hdb:(x==("__debug__":Str))=false:=by decide)
  (he:starEach (e::es) X.env=(false,eval e X.env)::starEach es X.env:=by rfl)(hpl:(backTo pos (starEach es X.env)).any (·.1)=false:=by rfl):PE X (.Call (.Name x p) (e::es) [] pos) (tCB r t):=by
 intro pins s σ H Q I h
 refine aCI (kO I hg hm hv ?_ hn hdb)
 exact PyProof.Rows.callWith_builtin1 (thn (ha pos pins s σ H _ I h) λus s1 ⟨vs,H1,I1,r1,q1⟩=>hc pins s1 σ H1 vs us Q I1 r1 q1) he hpl
theorem vQ(hc:CallR X (.type T) r)(hg:Gl X x)(hm:X.mg x=none)(hv:bootBuiltins x=some (.type T))(ha:PA X (e::es) t)(hn:x≠"__name__":=by decide)(hdb:(x==("__debug__":Str))=false:=by decide)
  (he:starEach (e::es) X.env=(false,eval e X.env)::starEach es X.env:=by rfl)(hpl:(backTo pos (starEach es X.env)).any (·.1)=false:=by rfl):PE X (.Call (.Name x p) (e::es) [] pos) (tCB r t):=by
 intro pins s σ H Q I h
 refine aCI (kO I hg hm hv ?_ hn hdb)
 exact aDB (thn (ha pos pins s σ H _ I h) λus s1 ⟨vs,H1,I1,r1,q1⟩=>hc pins s1 σ H1 vs us Q I1 r1 q1) he hpl
end
end L2
end
variable{H H' H1 H2:L2.Hp}{X:L2.Cx}{v y:L2.V}{ta tb te:L2.TE}{vs:List L2.V}{R:PySem.Addr->L2.Hp->Prop}{r:List L2.V->L2.Hp->L2.VK->Prop}{CX:L2.CXT}{sp:L2.Sp}{kvs:List (L2.Key×L2.V)}
section
open PySem PySem.Spec PyProof.Rows
end
namespace HT
open PySem PyProof.Rows
noncomputable def lexLt:List Int->List Int->Bool
 |[],[]=>false
 |[],_::_=>true
 |_::_,[]=>false
 |x::xs,y::ys=>if x=y then lexLt xs ys else decide (x < y)
section
open PySem.SeqAt
open PySem.AutoSeq1 (wpAny_loadPart')
open PySem.MeetsSeq PySem.MeetsSeq2 PySem.MeetsSeq3
end
variable{E:Value->Shared->Prop}
theorem cat_tup{t b:Addr}{vs ws:List Value}(ht:IsTup s.heap t vs.toArray)(hb:IsTup s.heap b ws.toArray)(hv:vs≠[])
  (h1:ws=[]->Q (.ref t) s)(h2:ws≠[]->Q (.ref s.heap.objs.size) {s with heap:=s.heap.push {cls:=.type "tuple",data:=.seq (vs++ws).toArray}})
  (hsz:vs.length+ws.length<=sizeLine):wpAny (model prog w) A (binaryOp .Add (.ref t) (.ref b)) Q E s:=by
 obtain⟨⟨cls,dd,data,sl⟩,ho,hc,n,hd⟩:=id ht
 obtain⟨⟨cls2,dd2,data2,sl2⟩,ho2,hc2,n2,hd2⟩:=id hb
 simp only at hc hd hc2 hd2
 subst hc hd hc2 hd2
 have e:vs.toArray++ws.toArray=(vs++ws).toArray:=by simp
 by_cases hw:ws=[]
 ·exact concat_meets ⟨_,ho,rfl⟩ ⟨_,ho2,rfl⟩ noFill_tuple_add seq_tuple_add aFG aFB (aEZ _ _)
   (tuple_addW1 t b vs.toArray ws.toArray n n2 dd dd2 sl sl2 (by simpa using hv) (by simp[hw])) ⟨ho,ho2,h1 hw⟩
 ·refine concat_meets ⟨_,ho,rfl⟩ ⟨_,ho2,rfl⟩ noFill_tuple_add seq_tuple_add aFG aFB (aEZ _ _)
   (tuple_addW2 t b vs.toArray ws.toArray n n2 dd dd2 sl sl2 (by simpa using hv) (by simpa using hw) (by rw[aAK,aAK];exact hsz)) ⟨ho,ho2,?_⟩
  rw[e]
  exact h2 hw
noncomputable def sIx(n d:Nat):Option Int->Nat
 |none=>d
 |some v=>if v < 0 then(v+(n:Int)).toNat else min v.toNat n
theorem sIx_le(n d:Nat)(hd:d<=n)(o:Option Int):sIx n d o<=n:=by
 cases o with
 |none=>exact hd
 |some v =>
  show(if v < 0 then(v+(n:Int)).toNat else min v.toNat n)<=n
  by_cases hv:v < 0
  ·rw[aAG hv];lia
  ·rw[aAL hv];exact Nat.min_le_right _ _
theorem uO(v:Int)(n d:Nat):(if v < 0 then max (v+(n:Int)) 0 else min v (n:Int))=((sIx n d (some v):Nat):Int):=by
 show(if v < 0 then max (v+(n:Int)) 0 else min v (n:Int))=(((if v < 0 then(v+(n:Int)).toNat else min v.toNat n):Nat):Int)
 by_cases hv:v < 0
 ·simp only[aAG hv];lia
 ·simp only[aAL hv];lia
theorem sK(lo hi:Option Int)(n:Nat):Builtin.Slice.sliceAdjust lo hi 1 (n:Int)=(((sIx n 0 lo:Nat):Int),((sIx n n hi:Nat):Int)):=by
 have h1:¬((1:Int) < 0):=by lia
 unfold Builtin.Slice.sliceAdjust
 simp only[h1,aCO]
 refine Prod.ext ?_ ?_
 ·cases lo with
  |none=>rfl
  |some v=>exact uO v n 0
 ·cases hi with
  |none=>rfl
  |some v=>exact uO v n n
theorem sV(i j:Nat):Builtin.Slice.slicePlaces (i:Int) (j:Int) 1=j - i:=by
 unfold Builtin.Slice.slicePlaces
 have h1:(1:Int) > 0:=by lia
 simp only[h1,aDE,Int.ediv_one]
 split <;> lia
theorem mP{v:Value}{o:Option Int}{Q:Option Int->Shared->Prop}(p:IsPart v o)(h:Q o s):wpAny (model prog w) A (Builtin.Slice.slicePartIndex v) Q E s:=by
 cases p with
 |none=>exact slicePart_none h
 |int i t=>exact slicePart_int h
variable{sl:Addr}
theorem fQ{vl vu:Value}{Q:Int×Int×Nat->Shared->Prop}(hs:s.heap.IsSliceOf sl vl vu .none)(pl:IsPart vl lo)(pu:IsPart vu hi)
  (h:Q (((sIx n 0 lo:Nat):Int),1,sIx n n hi - sIx n 0 lo) s):wpAny (model prog w) A (Builtin.Slice.sliceApplied (.ref sl) (pure (n:Int))) Q E s:=by
 obtain⟨os,hos,hcs,hds⟩:=id hs
 unfold Builtin.Slice.sliceApplied Builtin.Slice.sliceFields
 refine aAB (aAB (aAZ hos hds (x:=vl) rfl (aAB (aAZ hos hds (x:=vu) rfl (aAB (aAZ hos hds (x:=.none) rfl (aAD ?_)))))))
 refine aAB (slicePart_none ?_)
 show wpAny _ _ (if((1:Int)==0)=true then _ else _) _ _ s
 rw[aAL (by decide)]
 refine aAB (mP pl (aAB (mP pu (aAB (aAD ?_)))))
 show wpAny _ _ (match Builtin.Slice.sliceAdjust lo hi 1 (n:Int)with|(lo,hi)=>pure (lo,(1:Int),Builtin.Slice.slicePlaces lo hi 1)) _ _ s
 rw[sK lo hi n]
 show wpAny _ _ (pure (((sIx n 0 lo:Nat):Int),(1:Int),Builtin.Slice.slicePlaces ((sIx n 0 lo:Nat):Int) ((sIx n n hi:Nat):Int) 1)) _ _ s
 rw[sV]
 exact aAD h
theorem yQ(xs:Array Value)(i k:Nat):((List.range k).filterMap λ(m:Nat)=>xs[((i:Int)+(m:Int)*1).toNat]?).toArray=((xs.toList.drop i).take k).toArray:=by
 have e:(λ(m:Nat)=>xs[((i:Int)+(m:Int)*1).toNat]?)=λm=>xs[i+m]?:=by
  funext m
  have:((i:Int)+(m:Int)*1).toNat=i+m:=by lia
  rw[this]
 rw[e]
 have:=pick_run xs i k
 rw[List.filterMap_map]at this
 have e2:((λx=>xs[x]?) ∘ λx=>i+x)=λm=>xs[i+m]?:=rfl
 rw[e2]at this
 rw[this]
theorem getItem_tuple_cut{t:Addr}{vl vu:Value}(ht:IsTup s.heap t items)(hs:s.heap.IsSliceOf sl vl vu .none)(pl:IsPart vl lo)(pu:IsPart vu hi)
  (hw:¬(sIx items.size 0 lo=0/\sIx items.size items.size hi=items.size))
  (h:Q (.ref s.heap.objs.size) {s with heap:=s.heap.push {cls:=.type "tuple",data:=.seq ((items.toList.drop (sIx items.size 0 lo)).take (sIx items.size items.size hi - sIx items.size 0 lo)).toArray}})
  (hsz:items.size<=sizeLine):wpAny (model prog w) A (getItem (.ref t) (.ref sl)) Q E s:=by
 have htake:sizeOk (.seq ((items.toList.drop (sIx items.size 0 lo)).take (sIx items.size items.size hi - sIx items.size 0 lo)).toArray):=by
  show((items.toList.drop (sIx items.size 0 lo)).take (sIx items.size items.size hi - sIx items.size 0 lo)).toArray.size<=sizeLine
  rw[aAK,aCX,aCW,aEU]
  lia
 have hj:sIx items.size items.size hi<=items.size:=sIx_le _ _ (aAH _) hi
 obtain⟨os,hos,hcs,hds⟩:=id hs
 have hTs:s.TypeIs (.ref sl) "slice":=⟨os,hos,hcs⟩
 unfold getItem
 try with_reducible refine aBL ?_
 first|refine aAB (aAD ?_)|skip
 refine aAB (wpAny_sequenceKey ht.typeIs (by decide) ?_)
 refine aAB (aBP (name:=Str.ofString "__getitem__") ht.typeIs aBO
  (aCK aBO ht.typeIs entry_tuple_getitem ?_ (args_tuple_getitem _ _)))
 show wpAny _ _ (Builtin.Tuple.tupleItemsOf (.ref t) >>= _) _ _ s
 refine aAB (tupleItemsOf_ ht ?_)
 refine aAB (aFR hTs ?_)
 rw[aAG (by decide)]
 refine aAB (fQ hs pl pu ?_)
 have hno:¬((((sIx items.size 0 lo:Nat):Int)==0&&(1:Int)==1&&(sIx items.size items.size hi - sIx items.size 0 lo)==items.size)=true):=by
  intro q
  rw[aBR,aBR]at q
  have q1:((sIx items.size 0 lo:Nat):Int)=0:=eq_of_beq q.1.1
  have q2:sIx items.size items.size hi - sIx items.size 0 lo=items.size:=eq_of_beq q.2
  exact hw ⟨by lia,by lia⟩
 show wpAny _ _ (if(((sIx items.size 0 lo:Nat):Int)==0&&(1:Int)==1&&(sIx items.size items.size hi - sIx items.size 0 lo)==items.size)=true then _ else _) _ _ s
 rw[aAL hno,yQ]
 first
  |exact aAB (m:=Builtin.Tuple.tupleExact _) (aCC (aAD ⟨_,rfl,aAD h⟩) htake)
  |exact aAB (m:=Builtin.Tuple.tupleExact _) (aCC (aAB (aAD (aAD ⟨_,rfl,aAD h⟩))) htake)
  |exact aAB (aAB (m:=Builtin.Tuple.tupleExact _) (aCC (aAD (aAD ⟨_,rfl,aAD h⟩)) htake))
  |exact aAB (aAB (m:=Builtin.Tuple.tupleExact _) (aCC (aAD ⟨_,rfl,aAD h⟩) htake))
end HT
section
open PySem PySem.Spec PyProof.Rows
namespace L2
noncomputable section
abbrev TO:=St->Hp->(Option Int->Hp->Prop)->Prop
def PO(X:Cx)(e:Option Expr)(t:TO):Prop :=
 ∀(pins:List (Addr×Obj)) (s:Shared) (σ:St) (H:Hp) (Q:Option Int->Hp->Prop),Inv X pins σ H s->t σ H Q ->
  wpAny (model X.prog X.w) X.A (evalPart e X.env) (λu s'=>∃o H',Inv X pins σ H' s'/\IsPart u o/\Q o H') X.xe s
def tNoPart:TO:=λ_ H Q=>Q none H
def tPart(t:TE):TO:=λσ H Q=>t σ H λx H1=>∃i,x=.int i/\Q (some i) H1
end
variable{e:Expr}{lo hi:Option Expr}{tl th:TO}{pos:Pos}
theorem aBx:PO X none tNoPart:=by
 intro pins s σ H Q I h
 rw[evalPart_none]
 exact aAD ⟨none,H,I,.none,h⟩
theorem aBs(h:PE X e te):PO X (some e) (tPart te):=by
 intro pins s σ H Q I hw
 rw[evalPart_some]
 refine thn (h pins s σ H _ I hw) λu s1 ⟨x,H1,I1,r1,q1⟩=>?_
 obtain⟨i,rfl,q⟩:=q1
 obtain⟨t,rfl⟩:=r1
 exact⟨some i,H1,I1,.int i t,q⟩
noncomputable def SlR(X:Cx)(r:V->Option Int->Option Int->Hp->VK->Prop):Prop :=
 ∀(pins:List (Addr×Obj)) (s:Shared) (σ:St) (H:Hp) (x:V) (v vl vu:Value) (lo hi:Option Int) (sl:Addr) (Q:VK),Inv X pins σ H s->RelV x v->s.heap.IsSliceOf sl vl vu .none->IsPart vl lo->IsPart vu hi->r x lo hi H Q ->
  ∃T id,typeLookup (.type T) "__getitem__"=pure (some (.builtin id))/\s.TypeIs v T/\wpAny (model X.prog X.w) X.A (getItem v (.ref sl)) (EP X pins σ Q) X.xe s
variable{r:V->Option Int->Option Int->Hp->VK->Prop}
theorem SlR.or{r':V->Option Int->Option Int->Hp->VK->Prop}(h:SlR X r)(h':SlR X r'):SlR X (λx lo hi H Q=>r x lo hi H Q\/r' x lo hi H Q):=by
 intro pins s σ H x v vl vu lo hi sl Q I rx hs pl pu q
 rcases q with q|q
 ·exact h pins s σ H x v vl vu lo hi sl Q I rx hs pl pu q
 ·exact h' pins s σ H x v vl vu lo hi sl Q I rx hs pl pu q
noncomputable section
def tSl(r:V->Option Int->Option Int->Hp->VK->Prop)(te:TE)(tl th:TO):TE:=λσ H Q=>te σ H λx H1=>tl σ H1 λl H2=>th σ H2 λu H3=>r x l u H3 Q
theorem zX(hr:SlR X r)(he:PE X e te)(hl:PO X lo tl)(hu:PO X hi th):PE X (.Subscript e (.Slice lo hi none p2) pos) (tSl r te tl th):=by
 intro pins s σ H Q I h
 refine Subscript_ (thn (he pins s σ H _ I h) λv s1 ⟨x,H1,I1,r1,q1⟩=>?_)
 refine wpAny_Slice (thn (hl pins s1 σ H1 _ I1 q1) λvl s2 ⟨l,H2,I2,pl,q2⟩=>thn (hu pins s2 σ H2 _ I2 q2) λvu s3 ⟨u,H3,I3,pu,q3⟩=>?_)
 rw[evalPart_none]
 refine aAD ?_
 have I4:Inv X pins σ H3 {s3 with heap:=s3.heap.push {cls:=.type "slice",data:=.fields #[vl,vu,.none]}}:=I3.kept (t':=s3.toks) λb ob q=>aAA _ q
 obtain⟨T,id,hT,ht,hg⟩:=hr pins {s3 with heap:=s3.heap.push {cls:=.type "slice",data:=.fields #[vl,vu,.none]}} σ H3 x v vl vu l u s3.heap.objs.size Q I4 r1 (Heap.IsSliceOf.new ..) pl pu q3
 show wpAny (model X.prog X.w) X.A (subscriptTail e (.Slice lo hi none p2) v (.ref s3.heap.objs.size)) (EP X pins σ Q) X.xe {s3 with heap:=s3.heap.push {cls:=.type "slice",data:=.fields #[vl,vu,.none]}}
 exact tail_any (ops:=[.ref s3.heap.objs.size,v]) ht hT hg (by with_unfolding_all rfl)
def cutV(xs:List V)(lo hi:Option Int):List V:=(xs.drop (HT.sIx xs.length 0 lo)).take (HT.sIx xs.length xs.length hi - HT.sIx xs.length 0 lo)
theorem kY(xs:List V)(lo hi:Option Int):(cutV xs lo hi).length<=xs.length:=by
 unfold cutV
 rw[aCX,aCW]
 lia
def rSlT(K:Frag):V->Option Int->Option Int->Hp->VK->Prop:=λx lo hi H Q=>∃a xs,x=.ref a/\SqT K H a xs /\
 ¬(HT.sIx xs.length 0 lo=0/\HT.sIx xs.length xs.length hi=xs.length)/\∀p,H p=none->Q (.ref p) (upd H p (.tup (cutV xs lo hi)))
theorem aGu:SlR X (rSlT X.K):=by
 intro pins s σ H x v vl vu lo hi sl Q I rx hs pl pu h
 obtain⟨a,xs,rfl,hx,hw,q⟩:=h
 cases rx
 obtain⟨its,r,ht,hz⟩:=I.tuple hx
 have hlen:its.toArray.size=xs.length:=by rw[aAK];exact r.length.symm
 refine⟨"tuple",_,aBO.lookup,ht.typeIs,?_⟩
 refine HT.getItem_tuple_cut ht hs pl pu (by rw[hlen];exact hw) ?_ (by rw[hlen];exact hz)
 rw[hlen]
 refine⟨.ref s.heap.objs.size,_,I.laid (t':=s.toks) (o:=.tup (cutV xs lo hi)) (λb ob q=>aAA _ q) (aAH _) ?_,rfl,q _ (I.hok.fresh (aAH _))⟩
 exact⟨aAX (kY xs lo hi) hz,_,(r.drop (HT.sIx xs.length 0 lo)).take (HT.sIx xs.length xs.length hi - HT.sIx xs.length 0 lo),IsTup.new _ _⟩
def rCatT(K:Frag):R2:=λx y H Q=>∃a b xs ys,x=.ref a/\y=.ref b/\SqT K H a xs/\SqT K H b ys/\xs≠[]/\xs.length+ys.length<=sizeLine /\
 (ys=[]->Q (.ref a) H)/\(ys≠[]->∀p,H p=none->Q (.ref p) (upd H p (.tup (xs++ys))))
end
variable{xs:List V}
theorem Vals.nil_iff(r:Vals xs us):us=[] ↔ xs=[]:=by
 cases r with
 |nil=>simp
 |cons _ _=>simp
theorem aBt:OpR X (binaryOp .Add) (rCatT X.K):=by
 intro pins s σ H x y v u Q I rx ry h
 obtain⟨a,b,xs,ys,rfl,rfl,ha,hb,hx,hz,q1,q2⟩:=h
 cases rx
 cases ry
 obtain⟨its,r1,p1,_⟩:=I.tuple ha
 obtain⟨its2,r2,p2,_⟩:=I.tuple hb
 refine HT.cat_tup p1 p2 (λz=>hx (r1.nil_iff.mp z)) (λz=>⟨.ref a,H,I,rfl,q1 (r2.nil_iff.mp z)⟩) (λz=>?_) (by rw[<- r1.length,<- r2.length];exact hz)
 refine⟨.ref s.heap.objs.size,_,I.laid (t':=s.toks) (o:=.tup (xs++ys)) (λb ob q=>aAA _ q) (aAH _) ?_,rfl,q2 (λw=>z (r2.nil_iff.mpr w)) _ (I.hok.fresh (aAH _))⟩
 exact⟨by rw[aAV];exact hz,_,r1.append r2,IsTup.new _ _⟩
noncomputable def ixN(n:Nat)(i:Int):Option Nat:=if 0<=i then(if i < n then some i.toNat else none)else if -(n:Int)<=i then some (i+n).toNat else none
noncomputable def atI(xs:List α)(i:Int):Option α:=(ixN xs.length i).bind λj=>xs[j]?
variable{i:Int}
theorem tW(h:ixN n i=some j):seqIndex? i n=some j/\j < n /\ -(n:Int)<=i/\i < n:=by
 unfold ixN at h
 by_cases h0:0<=i
 ·rw[aAG h0]at h
  by_cases h1:i < n
  ·rw[aAG h1]at h
   have e:i.toNat=j:=Option.some.inj h
   exact⟨by rw[seqIndex_of h0 h1,e],by lia,by lia,h1⟩
  ·rw[aAL h1]at h;cases h
 ·rw[aAL h0]at h
  by_cases h1 : -(n:Int)<=i
  ·rw[aAG h1]at h
   have e:(i+n).toNat=j:=Option.some.inj h
   exact⟨by rw[seqIndex_neg (by lia) h1,e],by lia,h1,by lia⟩
  ·rw[aAL h1]at h;cases h
theorem oW{xs:List α}{v:α}(h:atI xs i=some v):∃j,seqIndex? i xs.length=some j/\xs[j]?=some v/\j < xs.length /\ -(xs.length:Int)<=i/\i < xs.length:=by
 unfold atI at h
 cases e:ixN xs.length i with
 |none=>rw[e]at h;cases h
 |some j =>
  rw[e]at h
  obtain⟨h1,h2,h3,h4⟩:=tW e
  exact⟨j,h1,h,h2,h3,h4⟩
noncomputable section
def PlainIx(b:Expr):Prop:=∀o i,subscripted b false o i=operate [o,i] (getItem o i)
def IxR(X:Cx)(r:R2):Prop :=
 ∀(value slice:Expr) (pins:List (Addr×Obj)) (s:Shared) (σ:St) (H:Hp) (x y:V) (v u:Value) (Q:VK),Inv X pins σ H s->RelV x v->RelV y u->r x y H Q ->
  subscripted slice false v u=operate [v,u] (getItem v u)->wpAny (model X.prog X.w) X.A (subscriptTail value slice v u) (EP X pins σ Q) X.xe s
def MtR(X:Cx)(id:String)(r:V->List V->Hp->VK->Prop):Prop :=
 ∀(pins:List (Addr×Obj)) (s:Shared) (σ:St) (H:Hp) (x:V) (xs:List V) (v:Value) (us:List Value) (Q:VK),Inv X pins σ H s->RelV x v->Vals xs us->r x xs H Q ->
  wpAny (model X.prog X.w) X.A (call (.builtin id) (v::us)) (EP X pins σ Q) X.xe s
end
section
variable{a b:Expr}{r:R2}
theorem IxR.or{r':R2}(h:IxR X r)(h':IxR X r'):IxR X (λx y H Q=>r x y H Q\/r' x y H Q):=by
 intro value slice pins s σ H x y v u Q I rx ry q hs
 rcases q with q|q
 ·exact h value slice pins s σ H x y v u Q I rx ry q hs
 ·exact h' value slice pins s σ H x y v u Q I rx ry q hs
theorem aIf(hr:IxR X r)(ha:PE X a ta)(hb:PE X b tb)(hs:PlainIx b):PE X (.Subscript a b pos) (tOp r ta tb):=by
 intro pins s σ H Q I h
 exact Subscript_ (binT ha hb I h λv u s2 x y H2 I2 rx ry q=>hr a b pins s2 σ H2 x y v u Q I2 rx ry q (hs _ _))
noncomputable section
def rIxL(K:Frag):R2:=λx y H Q=>∃p xs i v,x=.ref p/\y=.int i/\SqL K H p xs/\atI xs i=some v/\Q v H
def rIxT(K:Frag):R2:=λx y H Q=>∃p xs i v,x=.ref p/\y=.int i/\SqT K H p xs/\atI xs i=some v/\Q v H
def rIxS:R2:=λx y H Q=>∃z i c,x=.str z/\y=.int i/\z.length<=sizeLine/\atI z.cps.toList i=some c/\Q (.str ⟨#[c]⟩) H
theorem aAb:IxR X (rIxL X.K):=by
 intro value slice pins s σ H x y v u Q I rx ry h hs
 obtain⟨p,xs,i,z,rfl,rfl,hq,he,q⟩:=h
 cases rx
 obtain⟨t,rfl⟩:=ry
 obtain⟨its,r,pl,hz⟩:=I.list hq
 obtain⟨j,h1,h2,h3,h4,h5⟩:=oW he
 obtain⟨w,ew,rw'⟩:=r.get h2
 have hl:=r.length
 have hn:=line63
 have fin:EP X pins σ Q w s:=⟨z,H,I,rw',q⟩
 by_cases h0:0<=i
 ·have hj:i.toNat=j:=by
   rw[seqIndex_of h0 h5]at h1
   exact Option.some.inj h1
  exact item_listR pl.isList h0 (by lia) (by rw[hj];simpa using ew) fin hs
 ·have hj:(i+(its.toArray.size:Int)).toNat=j:=by
   rw[seqIndex_neg (by lia) h4]at h1
   rw[aAK,<- hl]
   exact Option.some.inj h1
  exact subscriptTail_builtinR (x:=w) pl.isList.typeIs slot_list_getitem.lookup
   (wpAny_getItem_list_neg (Q:=λr s'=>r=w/\EP X pins σ Q r s') pl.isList (by lia) (by rw[aAK] <;> lia) (by lia) (by rw[hj];simpa using ew) ⟨rfl,fin⟩) hs
theorem aEy:IxR X (rIxT X.K):=by
 intro value slice pins s σ H x y v u Q I rx ry h hs
 obtain⟨p,xs,i,z,rfl,rfl,hq,he,q⟩:=h
 cases rx
 obtain⟨t,rfl⟩:=ry
 obtain⟨its,r,pl,hz⟩:=I.tuple hq
 obtain⟨j,h1,h2,h3,h4,h5⟩:=oW he
 obtain⟨w,ew,rw'⟩:=r.get h2
 have hl:=r.length
 have hn:=line63
 have fin:EP X pins σ Q w s:=⟨z,H,I,rw',q⟩
 exact subscriptTail_builtinR (x:=w) pl.typeIs slot_tuple_getitem.lookup
  (getItem_tuple (j:=j) (Q:=λr s'=>r=w/\EP X pins σ Q r s') pl (by lia) (by lia) (by rw[aAK,<- hl];exact h1) (by simpa using ew) ⟨rfl,fin⟩) hs
theorem aEr:IxR X rIxS:=by
 intro value slice pins s σ H x y v u Q I rx ry h hs
 obtain⟨z,i,c,rfl,rfl,hz,he,q⟩:=h
 obtain⟨t,rfl⟩:=rx
 obtain⟨t',rfl⟩:=ry
 obtain⟨j,h1,h2,h3,h4,h5⟩:=oW he
 have hl:z.cps.toList.length=z.length:=by simp[Str.length]
 rw[hl]at h1 h4 h5
 have hn:=line63
 exact tail_any (typeIs_str s z t) slot_str_getitem.lookup (getItem_str (c:=c) (by
  have e1:decide (i < -(2 ^ 63:Int))=false:=aAS (by lia)
  have e2:decide (i>=2 ^ 63)=false:=aAS (by lia)
  rw[e1,e2,aGL]) (by rw[h1];simpa using h2) ⟨.str ⟨#[c]⟩,H,I.tok _,⟨_,rfl⟩,q⟩) hs
def rIx(K:Frag):R2:=λx y H Q=>rIxL K x y H Q\/rIxT K x y H Q\/rIxS x y H Q
end
theorem aDw:IxR X (rIx X.K):=aAb.or (aEy.or aEr)
theorem rS(its:List Value)(n j:Nat)(u:Value):Obj.mapSeq (·.setIfInBounds j u) {cls:=.type "list",data:=.seq its.toArray n}={cls:=.type "list",data:=.seq (its.set j u).toArray n}:=by
 simp[Obj.mapSeq]
theorem Inv.lst{pins:List (Addr×Obj)}{σ:St}{H:Hp}{s:Shared}{p:Addr}{xs:List V}(I:Inv X pins σ H s)(h:H p=some (.lst xs)) :
  ∃(its:List Value) (n:Nat),Vals xs its/\s.heap.get? p=some {cls:=.type "list",data:=.seq its.toArray n}/\xs.length<=sizeLine:=by
 obtain⟨z,its,n,r,e⟩:=I.hok p _ h
 exact⟨its,n,r,e,z⟩
variable{σ:St}
theorem Inv.lstUpd{p:Addr}{ys:List V}{its':List Value}{n':Nat}{f:Obj->Obj}(I:Inv X pins σ H s)(h:H p=some (.lst xs))
  (ho:s.heap.get? p=some {cls:=.type "list",data:=.seq its.toArray n})(hf:f {cls:=.type "list",data:=.seq its.toArray n}={cls:=.type "list",data:=.seq its'.toArray n'})(r:Vals ys its')(hz:ys.length<=sizeLine)(t:Nat) :
  Inv X pins σ (upd H p (.lst ys)) {s with heap:=s.heap.update p f,toks:=t}:=by
 have e:(s.heap.update p f).get? p=some {cls:=.type "list",data:=.seq its'.toArray n'}:=by
  rw[aBW f ho (by rw[hf] <;> rfl),hf]
 refine I.write (x:=p) (e:=p) (by rw[h];trivial) (.inl rfl) (λb u hb q=>(aCA _ _ (Ne.symm hb)).trans q) ⟨_,e⟩ ?_
 exact⟨hz,its',n',r,e⟩
noncomputable section
def rSetL:V->V->V->Hp->(Hp->Prop)->Prop:=λo i v H Q=>∃p xs k j,o=.ref p/\i=.int k/\H p=some (.lst xs)/\ixN xs.length k=some j/\Q (upd H p (.lst (xs.set j v)))
theorem yG:PSet X rSetL:=by
 intro pins s σ H o i v ov iv u Q I ro ri rv h
 obtain⟨p,xs,k,j,rfl,rfl,hp,hj,q⟩:=h
 cases ro
 obtain⟨t,rfl⟩:=ri
 obtain⟨its,n,r,ho,hz⟩:=I.lst hp
 obtain⟨h1,h2,h3,h4⟩:=tW hj
 have hl:=r.length
 have hn:=line63
 have I':Inv X pins σ (upd H p (.lst (xs.set j v))) {s with heap:=s.heap.update p (Obj.mapSeq (·.setIfInBounds j u))} :=
  I.lstUpd hp ho (rS its n j u) (r.set rv j) (by rw[List.length_set];exact hz) s.toks
 by_cases h0:0<=k
 ·have hk:k.toNat=j:=by
   rw[seqIndex_of h0 h4]at h1
   exact Option.some.inj h1
  exact PySem.W.ki_setAt ho h0 (by lia) (by rw[aAK,<- hl];exact h4) (by rw[hk];exact⟨_,I',q⟩)
 ·have hk:(k+(its.toArray.size:Int)).toNat=j:=by
   rw[seqIndex_neg (by lia) h3]at h1
   rw[aAK,<- hl]
   exact Option.some.inj h1
  exact PySem.W.ki_setBack ho (by lia) (by rw[aAK,<- hl];exact h3) (by lia) (by rw[hk];exact⟨_,I',q⟩)
theorem jW(lo hi:Option Int)(n:Nat):(sliceBounds lo hi none n).1=((HT.sIx n 0 lo:Nat):Int)/\(sliceBounds lo hi none n).2.1=((HT.sIx n n hi:Nat):Int)/\(sliceBounds lo hi none n).2.2=1:=by
 refine⟨?_,?_,rfl⟩
 ·cases lo with
  |none=>simp[sliceBounds,HT.sIx]
  |some i =>
   simp only[sliceBounds,HT.sIx,Option.getD_none,show(1:Int) > 0 by decide,aDE]
   by_cases h:i < 0
   ·simp only[h,aDE] <;> lia
   ·simp only[h,aCO] <;> lia
 ·cases hi with
  |none=>simp[sliceBounds,HT.sIx]
  |some i =>
   simp only[sliceBounds,HT.sIx,Option.getD_none,show(1:Int) > 0 by decide,aDE]
   by_cases h:i < 0
   ·simp only[h,aDE] <;> lia
   ·simp only[h,aCO] <;> lia
theorem nA(its:List Value)(lo hi:Option Int):slicePick its.toArray lo hi none=((its.drop (HT.sIx its.length 0 lo)).take (HT.sIx its.length its.length hi - HT.sIx its.length 0 lo)).toArray:=by
 obtain⟨h1,h2,h3⟩:=jW lo hi its.toArray.size
 unfold slicePick
 rw[h1,h2,h3]
 simp only[sliceRange_one,pick_run,aAK] <;> rfl
def rSlL(K:Frag):V->Option Int->Option Int->Hp->VK->Prop:=λx lo hi H Q=>∃a xs,x=.ref a/\SqL K H a xs/\∀p,H p=none->Q (.ref p) (upd H p (.lst (cutV xs lo hi)))
theorem aCi:SlR X (rSlL X.K):=by
 intro pins s σ H x v vl vu lo hi sl Q I rx hs pl pu h
 obtain⟨a,xs,rfl,hx,q⟩:=h
 cases rx
 obtain⟨its,r,ht,hz⟩:=I.list hx
 have hlen:=r.length
 refine⟨"list",_,slot_list_getitem.lookup,ht.isList.typeIs,?_⟩
 refine wpAny_getItem_list_slice ht.isList hs pl pu .none (by simp) ?_ (by rw[aAK] <;> lia)
 rw[nA,<- hlen]
 refine⟨.ref s.heap.objs.size,_,I.laid (t':=s.toks) (o:=.lst (cutV xs lo hi)) (λb ob q=>aAA _ q) (aAH _) ?_,rfl,q _ (I.hok.fresh (aAH _))⟩
 exact⟨aAX (kY xs lo hi) hz,_,0,(r.drop (HT.sIx xs.length 0 lo)).take (HT.sIx xs.length xs.length hi - HT.sIx xs.length 0 lo),aAI _ rfl⟩
def flatV:V->Bool
 |.non=>true
 |.bl _=>true
 |.int _=>true
 |.str _=>true
 |_=>false
def eqV:V->V->Bool
 |.non,.non=>true
 |.bl a,.bl b=>a==b
 |.bl a,.int b=>(if a then 1 else 0)==b
 |.int a,.bl b=>a==(if b then 1 else 0)
 |.int a,.int b=>a==b
 |.str a,.str b=>a==b
 |_,_=>false
end
variable{x:V}{v:Value}
theorem aHd(ry:RelV y u)(rx:RelV x v)(fy:flatV y=true)(fx:flatV x=true):SeqAt.EqAt A s u v (eqV y x):=by
 cases y with
 |non =>
  cases ry
  cases x with
  |non=>cases rx;exact SeqAt.EqAt.same _
  |bl b=>cases rx;exact SeqAt.EqAt.none_bool b
  |int b=>obtain⟨t,rfl⟩:=rx;exact SeqAt.EqAt.none_int b t
  |str b=>obtain⟨t,rfl⟩:=rx;exact SeqAt.EqAt.none_str b t
  |_=>exact absurd (show false=true from fx) aBF
 |bl a =>
  cases ry
  cases x with
  |non=>cases rx;exact SeqAt.EqAt.bool_none a
  |bl b=>cases rx;exact SeqAt.EqAt.bool_bool a b
  |int b=>obtain⟨t,rfl⟩:=rx;exact SeqAt.EqAt.bool_int a b t
  |str b=>obtain⟨t,rfl⟩:=rx;exact SeqAt.EqAt.bool_str a b t
  |_=>exact absurd (show false=true from fx) aBF
 |int a =>
  obtain⟨t',rfl⟩:=ry
  cases x with
  |non=>cases rx;exact SeqAt.EqAt.int_none a t'
  |bl b=>cases rx;exact SeqAt.EqAt.int_bool a t' b
  |int b=>obtain⟨t,rfl⟩:=rx;exact SeqAt.EqAt.int_int a t' b t
  |str b=>obtain⟨t,rfl⟩:=rx;exact SeqAt.EqAt.int_str a t' b t
  |_=>exact absurd (show false=true from fx) aBF
 |str a =>
  obtain⟨t',rfl⟩:=ry
  cases x with
  |non=>cases rx;exact SeqAt.EqAt.str_none a t'
  |bl b=>cases rx;exact SeqAt.EqAt.str_bool a t' b
  |int b=>obtain⟨t,rfl⟩:=rx;exact SeqAt.EqAt.str_int a t' b t
  |str b=>obtain⟨t,rfl⟩:=rx;exact SeqAt.EqAt.str_str a t' b t
  |_=>exact absurd (show false=true from fx) aBF
 |_=>exact absurd (show false=true from fy) aBF
theorem oN:CallR X (.builtin "len") (λxs H Q=>∃p ys,xs=[.ref p]/\(SqL X.K H p ys\/SqT X.K H p ys)/\Q (.int ys.length) H):=by
 intro pins s σ H xs us Q I r h
 obtain⟨p,ys,rfl,hq,q⟩:=h
 obtain⟨u,rfl,rx⟩:=vals1 r
 cases rx
 have hn:=line63
 rcases hq with hq|hq
 ·obtain⟨its,r',pl,hz⟩:=I.list hq
  have hlen:=r'.length
  exact Calls.call_len_list pl.isList (by simp only[aAK] <;> lia) ⟨.int ys.length,H,I.tok _,⟨s.toks+1,by rw[aAK,hlen]⟩,q⟩
 ·obtain⟨its,r',pl,hz⟩:=I.tuple hq
  have hlen:=r'.length
  exact len_tuple pl (by simp only[aAK] <;> lia) ⟨.int ys.length,H,I.tok _,⟨s.toks+1,by rw[aAK,hlen]⟩,q⟩
theorem pH:CallR X (.builtin "len") (λxs H Q=>∃z,xs=[.str z]/\z.length<=sizeLine/\Q (.int z.length) H):=by
 intro pins s σ H xs us Q I r h
 obtain⟨z,rfl,hz,q⟩:=h
 obtain⟨u,rfl,t,rfl⟩:=vals1 r
 have hn:=line63
 exact len_str (by lia) ⟨.int z.length,H,I.tok _,⟨_,rfl⟩,q⟩
theorem CallR.or{f:Value}{r r':List V->Hp->VK->Prop}(h:CallR X f r)(h':CallR X f r'):CallR X f (λxs H Q=>r xs H Q\/r' xs H Q):=by
 intro pins s σ H xs us Q I rs q
 rcases q with q|q
 ·exact h pins s σ H xs us Q I rs q
 ·exact h' pins s σ H xs us Q I rs q
noncomputable def tyV(K:Frag)(T:String)(x:V)(H:Hp):Prop:=match x with
 |.str _=>T="str"
 |.int _=>T="int"
 |.ref p=>(T="list"/\∃xs,SqL K H p xs)\/(T="tuple"/\∃o,K.lookup p=some o/\o.cls=.type "tuple"/\o.dict=none) \/
   (T="dict"/\((∃kvs,H p=some (.dK kvs))\/∃kvs,H p=some (.dT kvs)))\/(T="set"/\∃S n,H p=some (.set S n))
 |_=>False
variable{T:String}
theorem xD(I:Inv X pins σ H s)(r:RelV x v)(ty:tyV X.K T x H) :
  s.TypeIs v T/\∀a,v=.ref a->∃ob,s.heap.get? a=some ob/\ob.dict=none:=by
 cases x with
 |str z =>
  obtain⟨t,rfl⟩:=r
  cases(show T="str"from ty)
  exact⟨typeIs_str s z t,λ_ e=>nomatch e⟩
 |int i =>
  obtain⟨t,rfl⟩:=r
  cases(show T="int"from ty)
  exact⟨aGO s i t,λ_ e=>nomatch e⟩
 |ref p =>
  cases r
  rcases ty with⟨rfl,xs,hq⟩|⟨rfl,o,hk,hc,hd⟩|⟨rfl,hk⟩|⟨rfl,S,n,hk⟩
  ·obtain⟨its,_,pl,_⟩:=I.list hq
   refine⟨pl.isList.typeIs,λa e=>?_⟩
   cases e
   obtain⟨o,n,e,c,hd,_⟩:=pl
   exact⟨o,e,hd⟩
  ·refine⟨⟨o,I.kIn p o hk,hc⟩,λa e=>?_⟩
   cases e
   exact⟨o,I.kIn _ o hk,hd⟩
  ·have z:∃o,s.heap.get? p=some o/\o.ExactDict:=by
    rcases hk with⟨kvs,hk⟩|⟨kvs,hk⟩
    ·obtain⟨_,_,_,_,o,_,_,e,ex,_⟩:=I.hok p _ hk
     exact⟨o,e,ex⟩
    ·obtain⟨_,_,_,_,o,_,_,e,ex,_⟩:=I.hok p _ hk
     exact⟨o,e,ex⟩
   obtain⟨o,e,ex⟩:=z
   refine⟨⟨o,e,ex.1⟩,λa e2=>?_⟩
   cases e2
   exact⟨o,e,ex.2.1⟩
  ·obtain⟨o,_,_,_,e,ex,_⟩:=I.hok p _ hk
   refine⟨⟨o,e,ex.1⟩,λa e2=>?_⟩
   cases e2
   exact⟨o,e,ex.2.1⟩
 |_=>exact False.elim ty
noncomputable def tBM0(K:Frag)(T:String)(r:V->List V->Hp->VK->Prop)(to:TE):TE:=λσ H Q=>to σ H λx H1=>tyV K T x H1/\r x [] H1 Q
noncomputable def tBM(K:Frag)(T:String)(r:V->List V->Hp->VK->Prop)(to:TE)(t:TA):TE:=λσ H Q=>to σ H λx H1=>tyV K T x H1/\t σ H1 λxs H2=>r x xs H2 Q
variable{o:Expr}{es:List Expr}{to:TE}{t:TA}{id:String}{r:V->List V->Hp->VK->Prop}
theorem aEk(pa:PlainAttrs T)(slot:Slot T name id)(hty:typeOf (.builtin id)=pure (.type "method_descriptor"))(hm:MtR X id r)(ho:PE X o to)
  (hbase:attributeBase o name X.env (eval o X.env)=eval o X.env:=by rfl)(hline:(apos.endLine==cpos.line)=true:=by rfl):PE X (.Call (.Attribute o name apos) [] [] cpos) (tBM0 X.K T r to):=by
 intro pins s σ H Q I h
 refine wpAny_Call_method0_late hbase hline (thn (ho pins s σ H _ I h) λv s1 ⟨x,H1,I1,r1,ty,q1⟩=>?_)
 obtain⟨h1,h2⟩:=xD I1 r1 ty
 exact⟨T,id,pa,slot,hty,h1,h2,aCZ rfl (PySem.evalArgs_none (hm pins s1 σ H1 x [] v [] Q I1 r1 .nil q1))⟩
theorem aHp(pa:PlainAttrs T)(slot:Slot T name id)(hty:typeOf (.builtin id)=pure (.type "method_descriptor"))(hm:MtR X id r)(ho:PE X o to)(ha:PA X (e::es) t)
  (hbase:attributeBase o name X.env (eval o X.env)=eval o X.env:=by rfl)
  (hfew:((backTo cpos (starEach (e::es) X.env)).all (λx=>!x.1)&&(backToKw cpos (keywordEach [] X.env)).all (λx=>x.1.isSome)
   && decide ((e::es).length+([]:List Keyword).length+(if([]:List Keyword).isEmpty then 0 else 1) < 30))=true:=by rfl)
  (hline:(apos.endLine==cpos.line)=true:=by rfl)(hs:starEach (e::es) X.env=(false,eval e X.env)::starEach es X.env:=by rfl)(hplain:(backTo cpos (starEach es X.env)).any (·.1)=false:=by rfl) :
  PE X (.Call (.Attribute o name apos) (e::es) [] cpos) (tBM X.K T r to t):=by
 intro pins s σ H Q I h
 refine wpAny_Call_method_late hbase hfew hline rfl (thn (ho pins s σ H _ I h) λv s1 ⟨x,H1,I1,r1,ty,q1⟩=>?_)
 obtain⟨h1,h2⟩:=xD I1 r1 ty
 refine⟨T,id,pa,slot,hty,h1,h2,?_⟩
 have hA:=ha cpos pins s1 σ H1 _ I1 q1
 rw[hs]at hA ⊢
 refine aCZ (by show(false || (backTo cpos (starEach es X.env)).any (·.1))=false;rw[hplain] <;> rfl) (aEK ?_)
 exact thn hA λus s2 ⟨vs,H2,I2,r2,q2⟩=>hm pins s2 σ H2 x vs v us Q I2 r1 r2 q2
end
noncomputable def MtM(X:Cx)(id:String)(r:V->List V->Hp->VK->Prop):Prop :=
 ∀(pins:List (Addr×Obj)) (s:Shared) (σ:St) (H:Hp) (x:V) (xs:List V) (v:Value) (us:List Value) (Q:VK),Inv X pins σ H s->RelV x v->Vals xs us->r x xs H Q ->
  wpAny (model X.prog X.w) X.A (call (.builtin id) (v::us)) (EP X pins σ Q) X.xe s
theorem Vals.one:∀{x:V} {us:List Value},Vals [x] us->∃u,us=[u]/\RelV x u
 |_,_,.cons r .nil=>⟨_,rfl,r⟩
theorem Vals.two:∀{x y:V} {us:List Value},Vals [x,y] us->∃u v,us=[u,v]/\RelV x u/\RelV y v
 |_,_,_,.cons r (.cons q .nil)=>⟨_,_,rfl,r,q⟩
theorem Vals.zero:∀{us:List Value},Vals [] us->us=[]
 |_,.nil=>rfl
theorem Vals.dropLast{xs:List V}{us:List Value}(h:Vals xs us):Vals xs.dropLast us.dropLast:=by
 induction h with
 |nil=>exact .nil
 |cons r t ih =>
  cases t with
  |nil=>exact .nil
  |cons q t'=>exact .cons r ih
theorem Vals.rep{xs:List V}{us:List Value}(h:Vals xs us):∀k:Nat,Vals (List.replicate k xs).flatten (List.replicate k us).flatten
 |0=>.nil
 |k+1=>by
  rw[aCD,aCD,aEA,aEA]
  exact Vals.append h (Vals.rep h k)
theorem tP(l:List α):l.eraseIdx (l.length - 1)=l.dropLast:=by
 induction l with
 |nil=>rfl
 |cons a r ih =>
  cases r with
  |nil=>rfl
  |cons b r =>
   have e:(a::b::r).length - 1=((b::r).length - 1)+1:=by
    have h1:(a::b::r).length=r.length+2:=rfl
    have h2:(b::r).length=r.length+1:=rfl
    lia
   rw[e,List.eraseIdx_cons_succ,ih]
   all_goals rfl
theorem kX(its:List Value):∀(k:Nat) (acc:List Value),
  List.foldl (λx1 x2=>x1++x2) acc.toArray (List.replicate k its.toArray)=(acc++(List.replicate k its).flatten).toArray
 |0,acc=>by simp
 |k+1,acc=>by
  have e:acc.toArray++its.toArray=(acc++its).toArray:=by simp
  have e2:(acc++its)++(List.replicate k its).flatten=acc++(List.replicate (k+1) its).flatten:=by
   rw[aCD,aEA,List.append_assoc]
  rw[<- e2,<- kX its k (acc++its),<- e,aCD,List.foldl_cons]
variable{σ:St}{l b:Addr}{ys zs:List V}
theorem Inv.lset{its':List Value}{f:Array Value->Array Value}(I:Inv X pins σ H s)(hH:H l=some (.lst xs))
  (e:s.heap.get? l=some {cls:=.type "list",data:=.seq its.toArray n})(hf:f its.toArray=its'.toArray)(hv:Vals ys its')(hz:ys.length<=sizeLine) :
  Inv X pins σ (upd H l (.lst ys)) {s with heap:=s.heap.update l (Obj.mapSeq f),toks:=t'}:=by
 have q:=PySem.IsL.update e f
 rw[hf]at q
 refine I.write (x:=l) (e:=l) (by rw[hH];exact trivial) (.inl rfl) (λb' u hb hu=>(aCA s.heap (Obj.mapSeq f) (Ne.symm hb)).trans hu) ⟨_,q⟩ ?_
 exact⟨hz,its',_,hv,q⟩
theorem Inv.lnew(I:Inv X pins σ H s)(hv:Vals ys its)(hz:ys.length<=sizeLine) :
  Inv X pins σ (upd H s.heap.objs.size (.lst ys)) {s with heap:=s.heap.push {cls:=.type "list",data:=.seq its.toArray},toks:=t'} :=
 I.laid (λ_ _ q=>aAA _ q) (aAH _) ⟨hz,its,0,hv,aAI _ rfl⟩
theorem Inv.fresh(I:Inv X pins σ H s):H s.heap.objs.size=none:=I.hok.fresh (aAH _)
theorem Inv.lstM(I:Inv X pins σ H s)(hH:H l=some (.lst xs)):xs.length<=sizeLine/\∃(its:List Value) (n:Nat),Vals xs its/\xs.length=its.length/\s.heap.get? l=some {cls:=.type "list",data:=.seq its.toArray n}:=by
 obtain⟨z,its,n,r,e⟩:=I.hok l _ hH
 exact⟨z,its,n,r,r.length,e⟩
theorem notLongL(h:n<=sizeLine):Builtin.List.listTooLong n=false:=by
 unfold Builtin.List.listTooLong
 exact aAS (by lia)
noncomputable section
def rAppend:V->List V->Hp->VK->Prop:=λx vs H Q=>∃l xs y,x=.ref l/\vs=[y]/\H l=some (.lst xs)/\xs.length < sizeLine/\Q .non (upd H l (.lst (xs++[y])))
theorem vY:MtM X "list.append" rAppend:=by
 intro pins s σ H x vs v us Q I rx rv h
 obtain⟨l,xs,y,rfl,rfl,hH,hz,q⟩:=h
 cases rx
 obtain⟨u,rfl,ru⟩:=rv.one
 obtain⟨z,its,n,r,hl,e⟩:=I.lstM hH
 refine aDP F.slot_list_append ⟨_,e,rfl⟩ F.entry_list_append (F.args_list_append_2 _ _) (PySem.list_append l its.toArray n u (by rw[aAK];lia)) ⟨e,?_⟩
 refine⟨.non,_,I.lset (its':=its++[u]) hH e (by simp) (r.append (.cons ru .nil)) ?_,rfl,q⟩
 rw[aAV,List.length_singleton]
 lia
def rExtend:V->List V->Hp->VK->Prop:=λx vs H Q=>∃l b xs zs,x=.ref l/\vs=[.ref b]/\H l=some (.lst xs)/\H b=some (.lst zs)/\xs.length+zs.length<=sizeLine/\Q .non (upd H l (.lst (xs++zs)))
theorem wH:MtM X "list.extend" rExtend:=by
 intro pins s σ H x vs v us Q I rx rv h
 obtain⟨l,b,xs,zs,rfl,rfl,hH,hB,hz,q⟩:=h
 cases rx
 obtain⟨u,rfl,ru⟩:=rv.one
 cases ru
 obtain⟨z,its,n,r,hl,e⟩:=I.lstM hH
 obtain⟨z2,its2,n2,r2,hl2,e2⟩:=I.lstM hB
 have hsz:its.toArray.size+its2.toArray.size<=sizeLine:=by rw[aAK,aAK];lia
 have hlong:¬(!its.toArray.isEmpty&&Builtin.List.listTooLong (its.toArray.size+its2.toArray.size))=true:=by
  rw[notLongL hsz,aEC]
  exact aBF
 refine aDP F.slot_list_extend ⟨_,e,rfl⟩ F.entry_list_extend (F.args_list_extend_2 _ _)
  (AutoSeq1.list_extend_list_list_0 l its.toArray n b its2.toArray n2 hlong (by rw[aAK];lia) (by lia)) ⟨e,e2,?_⟩
 refine⟨.non,_,I.lset (its':=its++its2) hH e (by simp) (r.append r2) ?_,rfl,q⟩
 rw[aAV]
 lia
def rPop:V->List V->Hp->VK->Prop:=λx vs H Q=>∃l xs y,x=.ref l/\vs=[]/\H l=some (.lst xs)/\xs[xs.length - 1]?=some y/\Q y (upd H l (.lst xs.dropLast))
theorem aGb:MtM X "list.pop" rPop:=by
 intro pins s σ H x vs v us Q I rx rv h
 obtain⟨l,xs,y,rfl,rfl,hH,hy,q⟩:=h
 cases rx
 have hus:=rv.zero
 subst hus
 obtain⟨z,its,n,r,hl,e⟩:=I.lstM hH
 obtain⟨u,hu,ru⟩:=r.get hy
 have hy':its.toArray[its.toArray.size - 1]?=some u:=by
  show its.toArray[its.length - 1]?=some u
  rw[<- aFN,<- hl]
  exact hu
 refine aDP F.slot_list_pop ⟨_,e,rfl⟩ F.entry_list_pop (F.args_list_pop_1 _) (MeetsSeq.list_pop_last l its.toArray n u hy' (by rw[aAK];lia)) ⟨e,?_⟩
 refine⟨y,_,I.lset (its':=its.dropLast) hH e ?_ r.dropLast ?_,ru,q⟩
 ·show its.toArray.eraseIdxIfInBounds (its.toArray.size - 1)=its.dropLast.toArray
  rw[aAK,List.eraseIdxIfInBounds_toArray,tP]
 ·rw[List.length_dropLast]
  lia
def rCat:R2:=λx y H Q=>∃l b xs zs,x=.ref l/\y=.ref b/\H l=some (.lst xs)/\H b=some (.lst zs)/\xs.length+zs.length<=sizeLine/\∀p,H p=none->Q (.ref p) (upd H p (.lst (xs++zs)))
theorem aFn:OpR X (binaryOp .Add) rCat:=by
 intro pins s σ H x y v u Q I rx ry h
 obtain⟨l,b,xs,zs,rfl,rfl,hH,hB,hz,q⟩:=h
 cases rx
 cases ry
 obtain⟨z,its,n,r,hl,e⟩:=I.lstM hH
 obtain⟨z2,its2,n2,r2,hl2,e2⟩:=I.lstM hB
 refine PySem.P.add_list e e2 ?_ (by rw[aAK,aAK];lia)
 have ea:its.toArray++its2.toArray=(its++its2).toArray:=by simp
 rw[ea]
 exact⟨.ref _,_,I.lnew (t':=s.toks) (r.append r2) (by rw[aAV];lia),rfl,q _ I.fresh⟩
def rRep:R2:=λx y H Q=>∃l k xs,x=.ref l/\y=.int k/\H l=some (.lst xs) /\ -(2 ^ 63)<=k/\k < 2 ^ 63/\xs.length*k.toNat<=sizeLine /\
 ∀p,H p=none->Q (.ref p) (upd H p (.lst (List.replicate k.toNat xs).flatten))
end
theorem oG(xs:List α)(k:Nat):(List.replicate k xs).flatten.length=k*xs.length:=by
 induction k with
 |zero=>simp
 |succ k ih=>rw[aCD,aEA,aAV,ih,Nat.succ_mul,Nat.add_comm]
theorem aDo:OpR X (binaryOp .Mult) rRep:=by
 intro pins s σ H x y v u Q I rx ry h
 obtain⟨l,k,xs,rfl,rfl,hH,h1,h2,hz,q⟩:=h
 cases rx
 obtain⟨t,rfl⟩:=ry
 obtain⟨z,its,n,r,hl,e⟩:=I.lstM hH
 have hlen:its.toArray.size*k.toNat<=sizeLine:=by rw[aAK,<- hl];exact hz
 have hcap:¬its.toArray.size*k.toNat > (2 ^ 63 - 1) / 8:=by
  have:(sizeLine:Nat)<=(2 ^ 63 - 1) / 8:=by decide
  lia
 have hfit:¬(!Builtin.List.listFitsIndex k)=true:=by
  rw[fitsIndex_both h1 h2]
  exact aBF
 have hlong:¬Builtin.List.listTooLong (its.toArray.size*k.toNat)=true:=by
  rw[notLongL hlen]
  exact aBF
 have hnew:List.foldl (λx1 x2=>x1++x2) #[] (List.replicate (if its.toArray.isEmpty=true then 0 else k.toNat) its.toArray)=(List.replicate k.toNat its).flatten.toArray:=by
  have f0:∀m:Nat,List.foldl (λx1 x2=>x1++x2) #[] (List.replicate m its.toArray)=(List.replicate m its).flatten.toArray:=λm=>by
   have:=kX its m []
   rw[List.nil_append]at this
   exact this
  rw[f0]
  cases its with
  |nil=>simp
  |cons a r'=>rw[aAL (by simp)]
 refine wpAny_binaryOp_repeat_ref (T:="list") (U:="int") (by decide) ⟨_,e,rfl⟩ (λs'=>aGO s' k t) noFill_list_mul F.fills_int_mul aFU repeat_list F.slot_int_index.lookup
  (aDP aFU (aGO s k t) F.entry_int_rmul (F.args_int_rmul_2 _ _) (int___rmul___int_list k t l its.toArray n)
   ⟨e,rfl,⟨_,e,rfl⟩,aDP F.slot_list_mul ⟨_,e,rfl⟩ F.entry_list_mul (F.args_list_mul_2 _ _) (AutoListH.list___mul___list_int_3 l its.toArray n k t hfit hcap hlong) ⟨e,?_⟩⟩)
 rw[hnew]
 exact⟨.ref _,_,I.lnew (t':=s.toks) (r.rep k.toNat) (by rw[oG,Nat.mul_comm];exact hz),rfl,q _ I.fresh⟩
variable{E:Value->Shared->Prop}
end L2
end
namespace Att
open PySem PySem.W PySem.Calls PyProof.Rows
variable{P:Params}
theorem lA :∀(ns:List Int) (vs:List Value),WellAll P h vs (ns.map WData.int)->IntsAre vs ns:=by
 intro ns
 induction ns with
 |nil =>
  intro vs w
  rw[List.map_nil]at w
  cases w
  exact .nil
 |cons n ns ih =>
  intro vs w
  rw[aBM]at w
  cases w with
  |cons a b =>
   cases a
   exact .cons _ _ (ih _ b)
variable{l:OpenLaw}
theorem wS(hn:l.most=some n){args:List WData}{vals:List Value}
  (hpre:l.row.toRowW.claim.pre args=true)(hwl:WellAll P h vals args) :
  ∃a vs ns,vals=[Value.ref a]/\args=[WData.list (ns.map WData.int)]/\h.get? a=some {cls:=.type "list",data:=.seq vs.toArray}/\IntsAre vs ns/\ns.length<=n:=by
 have hsh:WShape.hasAll [] args [.list .int]=true:=(pre_splitW hpre).1
 have hc:l.pre.holds [] {args:=args}=true:=(pre_splitW hpre).2
 obtain⟨d,r,rfl,h1,h2⟩:=hasAllW_cons hsh
 obtain rfl:=hasAllW_nil h2
 obtain⟨xs,rfl,h3⟩:=hasW_list h1
 obtain⟨ns,rfl⟩:=items_int h3
 have hlen:ns.length<=n:=by
  unfold OpenLaw.pre at hc
  have h4:(WTm.not (.lt (.lit (.int (n:Int))) (.len (.arg 0)))).holds [] {args:=[.list (ns.map .int)]}=true:=by
   have h4:=(holds_andW hc).1
   rw[hn]at h4
   exact h4
  have h5:=condW_of h4 (w_not (w_lt w_lit (w_len_list (w_arg rfl))))
  rw[aBB]at h5
  refine Nat.le_of_not_lt λq=>?_
  have q':(n:Int) < ((ns.length:Nat):Int):=by lia
  first
   |(rw[decide_eq_true q']at h5;exact absurd h5 (by decide))
   |(simp at h5;lia)
 cases hwl with
 |cons w1 w2 =>
  cases w2
  cases w1 with
  |list ho hall=>exact⟨_,_,ns,rfl,rfl,ho,lA ns _ hall,hlen⟩
theorem wF(l:OpenLaw)(args:List WData):l.row.toRowW.claim.post args (.bool true) args=true :=
 postW_of (r:=l.row.toRowW) (X:=(true==true))
  (show WShape.has [] (.bool true) .bool=true by first|rfl|decide|simp[WShape.has,WShape.arms,WShape.armsAll])
  (show(WTm.eq .res (.lit (.bool true))).value [] {args:=args,res:=some (.bool true),after:=args}=some (.bool (true==true))from w_eq_bool (w_res rfl) w_lit) rfl
theorem attach_call{q:Program}{d:DefRec}
  (hn:l.most=some n)(hdf:d.params.defaults=[])
  (call:∀(w:World) (s₀ s₁:Shared) (mg mb:Str->Option Value) (fa:Addr) (o:Obj) (pm cd doc:Value) (a:Addr) (vs:List Value) (ns:List Int),
   Ground q loose [] XP w s₀ mg mb s₁.heap->YP w s₁.heap ->
   s₁.heap.get? fa=some o->o.data=.func (docDef d.name d.params d.body d.scope pm cd doc)->s₁.heap.CodeRec cd d.name->mg d.name=some (.ref fa) ->
   s₁.heap.get? a=some {cls:=.type "list",data:=.seq vs.toArray}->IntsAre vs ns->ns.length<=n->s₁.gens=#[] ->
   codeAny (model l.prog w) callerA (.call (.ref fa) ⟨[.ref a],[]⟩) (λr s'=>r=.ok (.ret (.bool true))/\OldK s₁.heap s'.heap/\s'.os=s₁.os/\AllBare s'.gens) s₁) :
  WalkO q loose XP YP l.row.toRowW d [] (λf vs=>PySem.call f vs):=by
 intro w s₀ s₁ mg mb G Y fa o pm cd doc dV kV ho hd hcd hD hmg hg args vals as hpre hlay hrd hwl hlo
 obtain rfl:dV=.none:=Dflts.none hD hdf
 obtain rfl:kV=.none:=Dflts.noKw hD
 obtain⟨a,vs,ns,rfl,rfl,hobj,hints,hlen⟩:=wS hn hpre hwl
 refine enter_call (aFX (call w s₀ s₁ mg mb fa o pm cd doc a vs ns G Y ho (fd_plain hd) hcd hmg hobj hints hlen hg) λr s' hq=>?_)
 obtain⟨rfl,h2,h3,h4⟩:=hq
 exact⟨.inl ⟨.bool true,.bool true,[],rfl,λ_=>rfl,.bool true,wF l _,λ_=>⟨List.Pairwise.nil,λ_ hm=>(nomatch hm)⟩⟩,h2,h3,h4⟩
variable{E:Value->Shared->Prop}{K:Frag}
noncomputable def ledger(h:Heap)(L d:Addr):List (Addr×Obj):=(List.range h.objs.size).filterMap λa=>if a=L\/a=d then none else(h.get? a).map λo=>(a,o)
end Att
section
open PySem PySem.Spec PyProof.Rows
namespace L2
theorem nH:∀{vs:List Value} {ns:List Int},IntsAre vs ns->Vals (ns.map V.int) vs
 |_,_,.nil=>.nil
 |_,_,.cons n t h=>.cons ⟨t,rfl⟩ (nH h)
noncomputable section
def Only(H:Hp):Prop:=∀b,H b=none\/∃o xs,H b=some (.frz o (.lst xs))
theorem yM{mb:Str->Option Value}{k:Nat}{fa:Addr}{x:Str}{s₁:Shared}{vs:List Value}
  (KX:K.In s₁.heap)(hns:s₁.heap.Ns mainGlobals mg)(hb:s₁.heap.Ns builtinsNs mb)(hbb:∀x:Str,x≠"__name__"->mb x=bootBuiltins x)(hlim:s₁.heap.NoLimit)(hg:s₁.gens=#[])
  (ha:s₁.heap.get? a=some {cls:=.type "list",data:=.seq vs.toArray})(hi:IntsAre vs ns)(hl:ns.length<=sizeLine)(hr:Room k callerA)
  (F:∀base:Heap,K.In base->base.Ns mainGlobals mg->FnOk P w K mg base CX k fa fd [x] sp)(hbind:∀(s:Shared) (u:Value),BindsTo s fd ⟨[u],[]⟩ [(x,u)])
  (hsp:∀H:Hp,Only H->SqL K H a (ns.map V.int)->sp [.ref a] H (λv _=>v=.bl true) λ_ _ _=>False)
  (hCX:∀H e s',CX [] H s₁ (λ_ _ _=>False) e s'->False) :
  codeAny (model P w) callerA (.call (.ref fa) ⟨[.ref a],[]⟩) (λr s'=>r=.ok (.ret (.bool true))/\OldK s₁.heap s'.heap/\s'.os=s₁.os/\AllBare s'.gens) s₁:=by
 have rv:=nH hi
 have lenV:=hi.length
 have core:∀H:Hp,Only H->SqL K H a (ns.map V.int)->HOk P w H s₁.heap->(∀b,H b≠none->b=a)->(H a≠none->K.lookup a=none) ->
   codeAny (model P w) callerA (.call (.ref fa) ⟨[.ref a],[]⟩) (λr s'=>r=.ok (.ret (.bool true))/\OldK s₁.heap s'.heap/\s'.os=s₁.os/\AllBare s'.gens) s₁:=by
  intro H hO hS hok hA hK
  have base_of:∀{b:Addr} {o:Obj},s₁.heap.get? b=some o->H b=none->(hidT s₁.heap H).get? b=some o:=λe n=>zM e n
  have noA:∀{b:Addr} {o:Obj} {es:Array DictEntry} {ep:Nat},s₁.heap.get? b=some o->o.data=.dict es ep->H b=none:=λ{b o es ep} e d=>by
   cases q:H b with
   |none=>rfl
   |some u =>
    have e':b=a:=hA b (by rw[q];simp)
    subst e'
    rw[ha]at e;cases e
    have d':Data.seq vs.toArray _=Data.dict es ep:=d
    cases d'
  have nsK:∀{b:Addr} {m:Str->Option Value},s₁.heap.Ns b m->(hidT s₁.heap H).Ns b m:=λ{b m} ⟨o,es,ep,e,d,r⟩=>⟨o,es,ep,base_of e (noA e d),d,r⟩
  have hKb:K.In (hidT s₁.heap H):=λb o e=>base_of (KX b o e) (by
   cases q:H b with
   |none=>rfl
   |some u =>
    have e':b=a:=hA b (by rw[q];simp)
    subst e'
    rw[hK (by rw[q];simp)]at e;cases e)
  have hM:Mod K mg (hidT s₁.heap H):=⟨hKb,nsK hns,⟨mb,nsK hb,hbb⟩,let⟨mc,h1,h2⟩:=hlim;⟨mc,nsK h1,h2⟩⟩
  have e0:Env0 P w K mg (hidT s₁.heap H) callerA [] s₁ H:=⟨rfl,hM,λb o e=>aBl e,Nat.le_of_eq (wI _ _),trivial,λb hb=>absurd (show b∈([]:List Addr)from hb) (by simp),hok,.of_eq hg⟩
  refine aFX ((F _ hKb (nsK hns)).run callerA [] s₁ H ⟨[.ref a],[]⟩ [.ref a] [.ref a] _ _ hr e0 (hbind s₁ (.ref a)) (.cons rfl .nil) (hsp H hO hS)) λr s' h=>?_
  cases r with
  |error e=>exact(hCX H e s' h).elim
  |ok fl =>
   cases fl with
   |next=>exact False.elim h
   |brk=>exact False.elim h
   |cont=>exact False.elim h
   |ret u =>
    obtain⟨v,H',os,bare,un,hok',r',q⟩:=h
    have q':v=.bl true:=q
    subst q'
    obtain rfl:u=Value.bool true:=r'
    refine⟨rfl,OldK.of_keep λb o e=>?_,os,bare⟩
    cases q:H b with
    |none=>exact un.keep b o e q (by intro z;exact absurd (show b∈([]:List Addr)from z) (by simp)) (by simp)
    |some u =>
     rcases hO b with z|⟨ob,xs,z⟩
     ·rw[q]at z;cases z
     ·have z2:=un.frzs b ob _ z
      obtain⟨e1,_⟩:=hok b _ z
      obtain⟨e2,_⟩:=hok' b _ z2
      rw[e]at e1;cases e1
      exact e2
 cases hk:K.lookup a with
 |some o =>
  have e:=KX a o hk
  rw[ha]at e
  cases e
  refine core (λ_=>none) (λ_=>.inl rfl) (.inr ⟨_,vs.toArray,_,hk,rfl,rfl,rfl,by rw[aAK,lenV];exact hl,by simpa using rv⟩) (λb u z=>by have z':(none:Option HO)=some u:=z;cases z') (λb z=>absurd rfl z) λz=>absurd rfl z
 |none =>
  refine core (λb=>if b=a then some (.frz {cls:=.type "list",data:=.seq vs.toArray} (.lst (ns.map V.int)))else none) (λb=>?_) (.inl (.inr ⟨{cls:=.type "list",data:=.seq vs.toArray},aAG rfl⟩)) (λb u z=>?_) (λb z=>?_) λ_=>hk
  ·by_cases hb:b=a
   ·exact .inr ⟨_,_,aAG hb⟩
   ·exact .inl (aAL hb)
  ·by_cases hb:b=a
   ·have z':=(aAG hb).symm.trans z
    cases z'
    subst hb
    exact⟨ha,by rw[aBB];exact hl,vs,_,rv,ha⟩
   ·have z':=(aAL hb).symm.trans z
    cases z'
  ·by_cases hb:b=a
   ·exact hb
   ·exact absurd (aAL hb) z
abbrev KOf(_:K.In h):Frag:=K
theorem uI{l:PySem.W.OpenLaw}{k:Nat}{q:Program}{d:DefRec}{K:Params->Frag}{CX:World->CXT}{sp:World->Sp}
  (hn:l.most=some n)(hn2:n<=sizeLine)(hdf:d.params.defaults=[])(hr:Room k callerA)
  (hY:∀(w:World) (h:Heap),YP w h->(K w.params).In h)
  (F:∀(w:World) (mg:Str->Option Value) (fa:Addr) (h:Heap),(K w.params).In h->h.Ns mainGlobals mg->mg d.name=some (.ref fa) ->
   ∃fd:FuncData,(∀(s:Shared) (u:Value),BindsTo s fd ⟨[u],[]⟩ [(x,u)]) /\
    ∀base:Heap,(K w.params).In base->base.Ns mainGlobals mg->FnOk l.prog w (K w.params) mg base (CX w) k fa fd [x] (sp w))
  (hsp:∀(w:World) (H:Hp) (a:Addr) (ns:List Int),ns.length<=n->Only H->SqL (K w.params) H a (ns.map V.int)->sp w [.ref a] H (λv _=>v=.bl true) λ_ _ _=>False)
  (hCX:∀(w:World) (H:Hp) (s:Shared) (e:Value) (s':Shared),CX w [] H s (λ_ _ _=>False) e s'->False) :
  PySem.W.WalkO q loose XP YP l.row.toRowW d [] (λf vs=>PySem.call f vs):=by
 refine Att.attach_call hn hdf λw s₀ s₁ mg mb fa o pm cd doc a vs ns G Y ho hd hcd hmg hobj hints hlen hg=>?_
 have KX:=hY w _ Y
 obtain⟨fd,hb,hF⟩:=F w mg fa _ KX G.T.g hmg
 exact yM KX G.T.g G.T.b G.T.builtins G.T.nolimit hg hobj hints (aAX hlen hn2) hr hF hb (λH hO hS=>hsp w H a ns hlen hO hS) λH e s'=>hCX w H s₁ e s'
def inClass(s:Stmt)(j:Nat):Stmt:=match s with
 |.ClassDef _ _ _ body _ _ _ _ _ _ _=>body.getD j (.Pass ⟨0,0,0,0⟩)
 |_=>.Pass ⟨0,0,0,0⟩
def defArgs(s:Stmt):Arguments:=match s with
 |.FunctionDef _ a _ _ _ _ _ _ _ _=>a
 |_=>{posonlyargs:=[],args:=[],vararg:=none,kwonlyargs:=[],kw_defaults:=[],kwarg:=none,defaults:=[]}
def defBody(s:Stmt):List Stmt:=match s with
 |.FunctionDef _ _ b _ _ _ _ _ _ _=>b
 |_=>[]
def defScope(s:Stmt):Scope:=match s with
 |.FunctionDef _ _ _ _ _ _ sc _ _ _=>sc
 |_=>{kind:=.function,names:=[],isGenerator:=false,isCoroutine:=false}
abbrev CX0:CXT:=λ_ _ _ _ _ _=>False
abbrev E0:XK:=λ_ _ _=>False
end
theorem pass0:Passes CX0 X E0:=λ_ _ _ _ _ _ _ h=>h.elim
structure Fun(K:Frag)(x qual:Str)(st:Stmt)(f:Addr)(fd:FuncData):Prop where
 ex:∃(oc:Value) (od:Option Addr) (kV doc pm:Value) (an:Option Addr) (cdv ct:Value) (osl:Array (Option Value)),
  fd=fnOf x qual (defArgs st) (defBody st) (defScope st) .none kV doc pm an cdv ct/\K.lookup f=some ⟨oc,od,.func fd,osl⟩/\codeIn K cdv qual=true
 kp:keepIn K (.ref f)=true
variable{K:Frag}{f:Addr}
theorem Fun.ok{k:Nat}(F:Fun K x qual st f fd)(S:FnScope N ps (defScope st))(len:∀vs H Q E,sp vs H Q E->vs.length=ps.length)
  (hbody:∀(cdv:Value) (A:Around) (outer:List Env) (s:Shared) (H:Hp) (vs:List V) (Q:VK) (E:XK),Room k (A.deeper (envOfC qual (defScope st) s.heap.objs.size f cdv))->sp vs H Q E ->
   ∃t,PSs (cxOf CX0 P w K mg base N qual (defScope st) f cdv A outer s H E).nox (defBody st) t/\t {nx:=λ_ H'=>Q .non H',rt:=Q} (start N vs) H):FnOk P w K mg base CX0 (k+1) f fd ps sp:=by
 obtain⟨oc,od,kV,doc,pm,an,cdv,ct,osl,rfl,lk,hcd⟩:=F.ex
 refine xK lk hcd S len λA outer s H vs Q E hr hsp=>?_
 obtain⟨t,h,q⟩:=hbody cdv A outer s H vs Q E hr hsp
 exact⟨t,h.nox,q⟩
theorem Fun.binds(F:Fun K x qual st f fd)
  (h:∀(kV doc pm:Value) (an:Option Addr) (cdv ct:Value) (us:List Value),us.length=ps.length->bindArgs (fnOf x qual (defArgs st) (defBody st) (defScope st) .none kV doc pm an cdv ct) ⟨us,[]⟩=pure (ps.zip us)):Binds K fd ps []:=by
 obtain⟨oc,od,kV,doc,pm,an,cdv,ct,osl,rfl,lk,hcd⟩:=F.ex
 exact .all (h kV doc pm an cdv ct)
theorem aS{oc:Value}{od an:Option Addr}{kV doc pm cdv ct:Value}(l:K.lookup f=some ⟨oc,od,.func (fnOf x qual (defArgs st) (defBody st) (defScope st) .none kV doc pm an cdv ct),osl⟩)
  (c:codeIn K cdv qual=true)(k:keepIn K (.ref f)=true):Fun K x qual st f (fnOf x qual (defArgs st) (defBody st) (defScope st) .none kV doc pm an cdv ct):=⟨⟨oc,od,kV,doc,pm,an,cdv,ct,osl,rfl,l,c⟩,k⟩
theorem pv(i:Nat){pos:Pos}(hN:X.N[i]?=some x:=by rfl)(hv:Vis X.env.scope x:=by first|exact Or.inl rfl|exact Or.inr (Or.inl rfl)|exact Or.inr (Or.inr rfl))(hd:(x==("__debug__":Str))=false:=by decide)
  (hcd:(x==("__classdict__":Str))=false:=by decide):PE X (.Name x pos) (tVar i):=yF hN hv hd hcd
noncomputable def Same(H H':Hp):Prop:=∀b o,H b=some o->H' b=some o
theorem Same.trans(a:Same H H1)(b:Same H1 H2):Same H H2:=λc o h=>b c o (a c o h)
theorem Same.free(e:Same H H'){l:Addr}(h:H' l=Option.none):H l=Option.none:=by
 cases q:H l with
 |none=>rfl
 |some o =>
  rw[e l o q]at h
  cases h
theorem Same.seq{xs:List V}(e:Same H H')(h:SqL K H a xs):SqL K H' a xs:=by
 rcases h with(h|⟨o,h⟩)|h
 ·exact .inl (.inl (e _ _ h))
 ·exact .inl (.inr ⟨o,e _ _ h⟩)
 ·exact .inr h
end L2
set_option maxHeartbeats 4000000
namespace L2
variable{tg:Expr}
noncomputable def CDivW(_ j:Int):Prop:=0 < j/\j < 18446744073709551616
theorem wD(h:n < 18446744073709551616):n.log2 < 9000:=by
 by_cases h0:n=0
 ·subst h0;decide
 ·have:n.log2 < 64:=(Nat.log2_lt h0).2 (by simpa using h)
  lia
theorem zU:OpR X (binaryOp .FloorDiv) (rI CDivW λi j=>.int (i / j)):=opI λi j _ _ _ _ _ hc q=>by
 have h1:(0:Int) < j:=hc.1
 have h2:j < 18446744073709551616:=hc.2
 exact floordiv_int (by lia) (by rw[Int.fdiv_eq_ediv_of_nonneg i (by lia)];exact q) (.inl (PyProof.noPylong_of_log2 (wD (by lia))))
noncomputable def rIsT(K:Frag):List V->Hp->VK->Prop:=λxs H Q=>∃x T t b,xs=[x,.ty T]/\TyOf K H x t/\PySem.W.kitOne K t (.type T)=some b/\Q (.bl b) H
theorem qO:CallR X (.builtin "isinstance") (rIsT X.K):=by
 intro pins s σ H xs us Q I r h
 obtain⟨x,T,t,b,e,ty,ek,q⟩:=h
 subst e
 obtain⟨u,w',rfl,r1,r2⟩:=vals2 r
 obtain rfl:w'=Value.type T:=r2
 exact wK I r1 ty ek λtk=>⟨.bl b,H,I.tok tk,rfl,q⟩
inductive IntsE:List Expr->List Int->Prop where
 |nil:IntsE [] []
 |cons {i:Int} {j:Nat} {p:Pos} {r:List Expr} {ns:List Int} (h:IntsE r ns):IntsE (.Constant (.int i) j p::r) (i::ns)
structure JE(X:Cx)(e:Expr)(t:TE):Prop where
 h:PE X e t
structure JS(X:Cx)(st:Stmt)(t:TS):Prop where
 h:PS X st t
structure JSs(X:Cx)(sts:List Stmt)(t:TS):Prop where
 h:PSs X sts t
theorem gR{env:Env}{f:Str×NameKind->List (Str×Addr)->Sem (ForInStep (List (Str×Addr)))}
  (hf:∀y acc c,y.2=NameKind.free->env.cells.lookup y.1=some c->f y acc=pure (.yield ((y.1,c)::acc)))(hf':∀y acc,y.2≠NameKind.free->f y acc=pure (.yield acc)) :
  ∀(names:List (Str×NameKind)) (acc:List (Str×Addr)),(∀y∈names,y.2=NameKind.free->∃c,env.cells.lookup y.1=some c)->(∀x c,acc.lookup x=some c->env.cells.lookup x=some c) ->
   ∃cl,forIn names acc f=(pure cl:Sem (List (Str×Addr)))/\(∀x c,cl.lookup x=some c->env.cells.lookup x=some c)/\(∀y∈names,y.2=NameKind.free->∃c,cl.lookup y.1=some c)/\(∀x c,acc.lookup x=some c->∃c',cl.lookup x=some c')
 |[],acc,_,ha=>⟨acc,rfl,ha,(λ_ h=>nomatch h),λx c h=>⟨c,h⟩⟩
 |y::r,acc,hn,ha=>by
  by_cases hy:y.2=NameKind.free
  ·obtain⟨c,hc⟩:=hn y aDC hy
   have ha':∀x d,((y.1,c)::acc).lookup x=some d->env.cells.lookup x=some d:=λx d h=>by
    rw[aCH]at h
    cases e:x==y.1 with
    |true =>
     rw[e]at h
     have:x=y.1:=by simpa using e
     subst this
     cases h
     exact hc
    |false=>rw[e]at h;exact ha x d h
   obtain⟨cl,h1,h2,h3,h4⟩:=gR hf hf' r _ (λz hz=>hn z (aBY _ hz)) ha'
   have hyl:∃c',cl.lookup y.1=some c':=h4 y.1 c (by rw[aCH];simp)
   refine⟨cl,?_,h2,λz hz hzf=>?_,λx d hx=>?_⟩
   ·rw[aDX,hf y acc c hy hc]
    exact h1
   ·rcases aBH.mp hz with rfl|hz
    ·exact hyl
    ·exact h3 z hz hzf
   ·by_cases e:x=y.1
    ·rw[e];exact hyl
    ·have e':(x==y.1)=false:=by simpa using e
     exact h4 x d (by rw[aCH,e'];exact hx)
  ·obtain⟨cl,h1,h2,h3,h4⟩:=gR hf hf' r acc (λz hz=>hn z (aBY _ hz)) ha
   refine⟨cl,?_,h2,λz hz hzf=>?_,h4⟩
   ·rw[aDX,hf' y acc hy]
    exact h1
   ·rcases aBH.mp hz with rfl|hz
    ·exact absurd hzf hy
    ·exact h3 z hz hzf
theorem mT{scope:Scope}(h:∀y∈scope.names,y.2=NameKind.free->∃c,env.cells.lookup y.1=some c) :
  ∃cl,closureFor scope env=pure cl/\(∀x c,cl.lookup x=some c->env.cells.lookup x=some c)/\(∀y∈scope.names,y.2=NameKind.free->∃c,cl.lookup y.1=some c):=by
 obtain⟨cl,h1,h2,h3,_⟩:=gR (env:=env) (f:=λx cs=>match x with
   |(name,kind)=>if(kind==NameKind.free)=true then do
     let a <- cellOf env name
     pure (ForInStep.yield ((name,a)::cs))
     else pure (ForInStep.yield cs)) (λy acc c hy hc=>by
    obtain⟨n,k⟩:=y
    simp only at hy hc
    subst hy
    simp only[beq_self_eq_true,aDE,cellOf,hc]
    rfl) (λy acc hy=>by
    obtain⟨n,k⟩:=y
    simp only at hy
    have:(k==NameKind.free)=false:=by simpa using hy
    simp only[this,aBI,aCO]) scope.names [] h (λ_ _ z=>by simp at z)
 refine⟨cl,?_,h2,h3⟩
 show(forIn scope.names [] _ >>= λcs=>pure cs)=pure cl
 exact(congrArg (· >>= λcs=>(pure cs:Sem (List (Str×Addr)))) h1).trans rfl
theorem eI{env:Env}(hk:env.scope.kind=.function):∀{names:List (Str×NameKind)} {x:Str},names.lookup x=some .free->env.kindOf x=some .cell ->
  (names.map λ(n,k)=>if(k==NameKind.free&&env.scope.kind==.function&&env.kindOf n==some .cell)then(n,NameKind.cell)else(n,k)).lookup x=some .cell
 |[],_,h,_=>by simp at h
 |(n,k)::r,x,h,hx=>by
  rw[aBM]
  rw[aCH]at h
  cases e:x==n with
  |true =>
   rw[e]at h
   have:x=n:=by simpa using e
   subst this
   cases h
   simp[hk,hx,aCH]
  |false =>
   rw[e]at h
   have ih:=eI hk h hx
   simp only
   split <;> (rw[aCH,e];exact ih)
theorem dO{env:Env}:∀{names:List (Str×NameKind)} {x:Str} {k':NameKind},
  (names.map λ(n,k)=>if(k==NameKind.free&&env.scope.kind==.function&&env.kindOf n==some .cell)then(n,NameKind.cell)else(n,k)).lookup x=some k'->k'=.cell\/k'=.free ->
  ∃k,(x,k)∈names/\(k=.cell\/k=.free)
 |[],_,_,h,_=>by simp at h
 |(n,k)::r,x,k',h,hk=>by
  rw[aBM]at h
  simp only at h
  cases e:x==n with
  |true =>
   have:x=n:=by simpa using e
   subst this
   refine⟨k,aDC,?_⟩
   split at h
   ·rename_i hc
    simp only[aBR]at hc
    exact .inr (by simpa using hc.1.1)
   ·rw[aCH,e]at h
    cases h
    exact hk
  |false =>
   have h':(r.map λ(n,k)=>if(k==NameKind.free&&env.scope.kind==.function&&env.kindOf n==some .cell)then(n,NameKind.cell)else(n,k)).lookup x=some k':=by
    split at h <;> (rw[aCH,e]at h;exact h)
   obtain⟨k1,h1,h2⟩:=dO h' hk
   exact⟨k1,aBY _ h1,h2⟩
noncomputable def compCx(X:Cx)(Nc:List Str)(scope:Scope)(cl:List (Str×Addr))(C:Addr)(fp:List Addr)(pins:List (Addr×Obj))(s₂:Shared)(H₂:Hp):Cx where
 prog:=X.prog
 w:=X.w
 K:=X.K
 mg:=X.mg
 base:=X.base
 A:=X.A
 N:=Nc
 s₀:=s₂
 H₀:=H₂
 env:=compEnvC scope cl C X.env
 outer:=X.stack
 stack:=X.stack
 ex:=fp
 fn:=λ_=>false
 calm:=true
 pn:=X.pn++pins
 xe:=λ_ _=>False
structure CompOk(N0:List Str)(sc0:Scope)(scope:Scope)(Nc:List Str)(js:List (Option Nat)):Prop where
 kind:scope.kind=.function
 nocell:∀y∈scope.names,y.2≠.cell
 names:∀y∈scope.names,y.2=.local->scope.names.lookup y.1=some .local
 free:∀y∈scope.names,y.2=.free->sc0.names.lookup y.1=some .cell
 len:js.length=Nc.length
 slots:∀p∈Nc.zip js,∀j∈p.2,N0[j]?=some p.1/\scope.names.lookup p.1=some .free/\sc0.names.lookup p.1=some .cell
noncomputable def outσ(js:List (Option Nat))(σ:St):St:=js.map λo=>o.bind λj=>(σ[j]?).join
variable{σ:St}{H₂:Hp}{scope:Scope}{js:List (Option Nat)}
theorem aAx(I:Inv X pins σ H₂ s₂)(hc:X.calm=true)(T:CompOk X.N X.env.scope scope Nc js)(hcl:∀x c,cl.lookup x=some c->X.env.cells.lookup x=some c)(hfr:∀y∈scope.names,y.2=.free->∃c,cl.lookup y.1=some c)
  (hC:s₂.heap.objs.size<=C)(hf:∀b∈fp,FpOk X pins H₂ b)(ho:∀b∈fp,∃o,s₂.heap.get? b=some o):(compCx X Nc scope cl C fp pins s₂ H₂).Ok where
 mod:=I.ok.mod
 kind:=T.kind
 glob:=I.ok.glob
 blt:=I.ok.blt
 above:=hC
 inj:=λx y c h1 h2=>I.ok.inj x y c (hcl x c h1) (hcl y c h2)
 has:=λx hx=>by
  have hx':∃k',(relabel scope X.env).names.lookup x=some k'/\(k'=.cell\/k'=.free):=by
   rcases hx with h|h
   ·exact⟨_,h,.inl rfl⟩
   ·exact⟨_,h,.inr rfl⟩
  obtain⟨k',h1,h2⟩:=hx'
  obtain⟨k,h3,h4⟩:=dO h1 h2
  rcases h4 with rfl|rfl
  ·exact absurd rfl (T.nocell _ h3)
  ·exact hfr _ h3 rfl
 cab:=λx c h=>by cases h
 hd:=λ_=>I.ok.hd hc
 frames:=I.ok.frames
 stk:=.inl rfl
 exf:=λb hb=>by
  obtain⟨f0,f1,f2,f3,f4,f5⟩:=hf b hb
  obtain⟨o,e⟩:=ho b hb
  exact⟨aAO (aAN (aAF e) hC),λx c h=>f4 x c (hcl x c h)⟩
 bs:=λb o e=>I.bs b o e
 bsz:=aAX I.ok.bsz I.sz
 noex:=λb o e hb=>by
  obtain⟨f0,f1,f2,f3,f4,f5⟩:=hf b hb
  rcases f3 with z|z
  ·exact I.ok.noex b o e z
  ·exact absurd (aAN (aAF (I.ok.bs b o e).1) z) (aET _)
 exfs:=λb hb z=>by
  obtain⟨f0,f1,f2,f3,f4,f5⟩:=hf b hb
  rcases aBH.mp (I.stkSub b z)with q|q
  ·exact f1 q
  ·exact f2 q
 funs:=I.stack
 frf:=I.stkFree
theorem sF(I:Inv X pins σ H₂ s₂)(hc:X.calm=true)(T:CompOk X.N X.env.scope scope Nc js)(hcl:∀x c,cl.lookup x=some c->X.env.cells.lookup x=some c)(hfr:∀y∈scope.names,y.2=.free->∃c,cl.lookup y.1=some c)
  (hf:∀b∈fp,FpOk X pins H₂ b)(ho:∀b∈fp,∃o,s₂.heap.get? b=some o){h₁:Heap}{m:Str->Option Value}{tk:Nat}(hC:C=s₂.heap.objs.size+1)(old:∀b u,s₂.heap.get? b=some u->h₁.get? b=some u)
  (hns:h₁.Ns C m)(hD:h₁.get? s₂.heap.objs.size=some {cls:=.type "list",data:=.seq #[] n}) :
  Inv (compCx X Nc scope cl C fp pins s₂ H₂) [] (outσ js σ) (upd H₂ s₂.heap.objs.size (.lst [])) {s₂ with heap:=h₁,toks:=tk}:=by
 have lt:∀b o,s₂.heap.get? b=some o->b < s₂.heap.objs.size:=λb o e=>aAF e
 have hle:s₂.heap.objs.size<=C:=by rw[hC];exact Nat.le_succ _
 have cellc:∀x c,cl.lookup x=some c->c < s₂.heap.objs.size:=λx c h=>by
  obtain⟨v,o,e,_⟩:=I.cell x c (hcl x c h)
  exact lt c o e
 have new:ObjOk X.prog X.w (upd H₂ s₂.heap.objs.size (.lst [])) h₁ s₂.heap.objs.size (.lst []):=⟨aFF _,[],n,.nil,hD⟩
 refine⟨aAx I hc T hcl hfr hle hf ho,rfl,I.bare,?_,⟨m,hns,λi x v e1 e2 e3=>?_⟩,λx c h=>?_,?_,λx c h=>?_,λp hp=>?_,I.hok.laid old (aAH _) new,?_⟩
 ·exact Un.laid old (aAH _) (I.hok.fresh (aAH _))
 ·have e1:Nc[i]?=some x:=e1
  have e2':∃j,js[i]?=some (some j)/\σ[j]?=some (some v):=by
   unfold outσ at e2
   rw[aCB]at e2
   cases hj:js[i]? with
   |none=>rw[hj]at e2;cases e2
   |some o =>
    rw[hj]at e2
    cases o with
    |none=>cases e2
    |some j =>
     refine⟨j,rfl,?_⟩
     have e2:(σ[j]?).join=some v:=Option.some.inj e2
     cases hq:σ[j]? with
     |none=>rw[hq]at e2;cases e2
     |some o=>rw[hq]at e2;exact congrArg some e2
  obtain⟨j,hj,hv⟩:=e2'
  have hz:(x,some j)∈Nc.zip js:=by
   refine aDO (i:=i) ?_
   rw[List.getElem?_zip_eq_some]
   exact⟨e1,hj⟩
  obtain⟨t1,t2,t3⟩:=T.slots _ hz j rfl
  obtain⟨m0,hn0,hl0⟩:=I.loc
  obtain⟨u,ru,lk⟩:=hl0 j x v t1 hv (.inr (.inl t3))
  refine⟨u,ru,.inr ⟨.inl (eI I.ok.kind t2 t3),?_⟩⟩
  rcases lk with⟨k,_⟩|⟨_,c,hcc,hcell⟩
  ·have k:X.env.scope.names.lookup x=some .local:=k
   rw[t3]at k;cases k
  ·have hm:(x,NameKind.free)∈scope.names:=by
    have:∀(l:List (Str×NameKind)),l.lookup x=some .free->(x,NameKind.free)∈l:=λl=>by
     induction l with
     |nil=>intro h;simp at h
     |cons y r ih =>
      obtain⟨n',k'⟩:=y
      intro h
      rw[aCH]at h
      cases e:x==n' with
      |true =>
       rw[e]at h
       have:x=n':=by simpa using e
       subst this
       cases h
       exact aDC
      |false=>rw[e]at h;exact aBY _ (ih h)
    exact this _ t2
   obtain⟨c',hc'⟩:=hfr _ hm rfl
   have hc'':=hcl x c' hc'
   rw[hcc]at hc''
   cases hc''
   obtain⟨o,ho,hd⟩:=hcell
   exact⟨c,hc',o,old c o ho,hd⟩
 ·obtain⟨v,o,e,d⟩:=I.cell x c (hcl x c h)
  exact⟨v,o,old c o e,d⟩
 ·show upd H₂ _ _ C=none
  rw[aP (by rw[hC];exact aBG (aER _))]
  exact I.hok.fresh hle
 ·show upd H₂ _ _ c=none
  rw[aP (aAO (cellc x c h))]
  exact I.freeC x c (hcl x c h)
 ·have hp:p∈X.pn++pins:=by
   have hp:p∈(X.pn++pins)++[]:=hp
   rwa[aDH]at hp
  obtain⟨e,n0,ne,nf,d⟩:=I.pin p hp
  have hlt:=lt _ _ e
  refine⟨old _ _ e,?_,?_,λz=>?_,d⟩
  ·show upd H₂ _ _ p.1=none
   rw[aP (aAO hlt)];exact n0
  ·show p.1≠C
   exact aAO (aAN hlt hle)
  ·rcases aBH.mp (I.stkSub _ z)with q|q
   ·exact ne q
   ·exact nf q
 ·show(outσ js σ).length=Nc.length
  unfold outσ
  rw[aBB]
  exact T.len
noncomputable section
def tTurns(J:It)(g:TG)(ti:TT)(te:TE)(D:Addr)(σ0:St)(H0:Hp)(Q:Hp->Prop):Prop :=
 ∃W:Nat->Nat->St->Hp->Prop,(∃m,W 0 m σ0 H0)/\∀i m σ' H',W i m σ' H' ->
  (J.stop i H'/\Q H')\/(J.go i H'/\∃Nn:St->Hp->Prop,(∀σ'' H'',Nn σ'' H''->∃m',m' < m/\W (i+1) m' σ'' H'') /\
   ∀x H'',J.yld i H' x H''->g x σ' H'' λσ2 H2=>ti σ2 H2 λok H3=>if ok=true then te σ2 H3 λy H4=>∃ys,H4 D=some (.lst ys)/\ys.length < sizeLine/\Nn σ2 (upd H4 D (.lst (ys++[y])))else Nn σ2 H3)
def tComp(js:List (Option Nat))(wi:TI)(g:TG)(ti:TT)(te:TE):TE:=λσ H Q=>wi σ H λJ H1=>∀D,H1 D=none->tTurns J g ti te D (outσ js σ) (upd H1 D (.lst [])) λH'=>Q (.ref D) H'
def PIf(X:Cx)(ifs:List Expr)(ti:TT):Prop :=
 ∀(pins:List (Addr×Obj)) (s:Shared) (σ:St) (H:Hp) (Q:Bool->Hp->Prop),Inv X pins σ H s->ti σ H Q ->
  wpAny (model X.prog X.w) X.A (forIn ifs true λc r=>if r=true then do let ok <- isTrue c X.env (eval c X.env);pure (ForInStep.yield ok)else pure (ForInStep.yield r)) (TP X pins σ Q) X.xe s
def tYes:TT:=λ_ H Q=>Q true H
end
theorem aAw:PIf X [] tYes:=λ_ _ _ H _ I h=>wpAny_tests_nil ⟨H,I,h⟩
variable{E:Value->Shared->Prop}
theorem thnE{t:Sem α}{Q Q':α->Shared->Prop}{M:Model}{E0:Value->Shared->Prop}{s:Shared}(hE:∀e s,¬E0 e s)(h:wpAny M A t Q E0 s)(hQ:∀a s,Q a s->Q' a s):wpAny M A t Q' E s:=aCF h hQ λe s z=>(hE e s z).elim
variable{ifs:List Expr}{pos:Pos}{J:It}{g:TG}{ti:TT}{D:Addr}{σ0:St}{H0:Hp}{Q:Hp->Prop}
theorem vO{Y:Cx}{iter elt:Expr}{fp:List Addr}{R:Result->Shared->Prop}{s:Shared}
  (hc:Y.calm=true)(hx:∀e s,¬Y.xe e s)(T:Turn Y.prog Y.w Y.K tg J fp it tn)(hg:PG Y tg g)(hi:PIf Y ifs ti)(he:PE Y elt te)
  (stat:∀H',(∀b∈fp,H' b=none)->∀b∈fp,FpOk Y [] H' b)(I0:Inv Y [] σ0 H0 s)(st0:tn 0 s.heap)(fr0:∀b∈fp,H0 b=none)(h:tTurns J g ti te D σ0 H0 Q)
  (hR:∀σ' H' s',Inv Y [] σ' H' s'->Q H'->R (.ok .next) s') :
  codeAny (model Y.prog Y.w) Y.A (.compLoop (.ListComp elt [⟨tg,iter,ifs,0⟩] scope pos) 0 (.ref it) (.ref D) Y.env) R s:=by
 obtain⟨W,⟨m0,w0⟩,turn⟩:=h
 refine codeAny_loop rfl (λn s'=>∃i σ' H',Inv Y [] σ' H' s'/\tn i s'.heap/\(∀b∈fp,H' b=none)/\W i n σ' H') (λn s' hI=>?_) m0 ⟨0,σ0,H0,I0,st0,fr0,w0⟩
 show wpAny _ Y.A ((compTurn (.ListComp elt [⟨tg,iter,ifs,0⟩] scope pos) 0 (.ref it) (.ref D) Y.env).onRaise (λx=>do noteFrame x Y.env;theTreesLotGoes x)) _ _ s'
 refine wpAny_noted ?_
 rw[compTurn_list]
 obtain⟨i,σ3,H3,I3,st3,fr3,w3⟩:=hI
 refine aAB (aFI (aAB ?_))
 rcases turn i n σ3 H3 w3 with⟨stop,qn⟩|⟨go,Nn,hN,step⟩
 ·refine aCF (T.done Y rfl rfl rfl hc i [] s' σ3 H3 _ I3 (stat H3 fr3) st3 stop) (λr s4 ⟨hr,I4⟩=>?_) (λ_ _ h=>h)
  subst hr
  exact aAD (hR σ3 H3 s4 I4 qn)
 ·refine aCF (T.item Y rfl rfl rfl hc i [] s' σ3 H3 _ I3 (stat H3 fr3) st3 go) (λr s4 ⟨u,hr,h4⟩=>?_) (λ_ _ h=>h)
  subst hr
  refine aAB (aCF h4 (λ_ s5 ⟨x,H5,I5,r5,y5,st5,fr5⟩=>?_) λ_ _ h=>h)
  have I5':=I5.pinned (stat H5 fr5) (T.obj _ _ st5)
  refine aAB (thnE hx (hg _ s5 σ3 H5 x u _ I5' r5 (step x H5 y5)) λ_ s6 ⟨σ6,H6,I6,q6⟩=>?_)
  refine aAB (thnE hx (hi _ s6 σ6 H6 _ I6 q6) λok s7 ⟨H7,I7,q7⟩=>?_)
  have again:∀{σ7:St} {H7:Hp} {s7:Shared},Inv Y ([]++pinsAt fp s5.heap) σ7 H7 s7->Nn σ7 H7->∃m,m < n/\∃i σ' H',Inv Y [] σ' H' s7/\tn i s7.heap/\(∀b∈fp,H' b=none)/\W i m σ' H':=λ{σ7 H7 s7} I7 n7=>by
   obtain⟨m',hm,w7⟩:=hN σ7 H7 n7
   refine⟨m',hm,i+1,σ7,H7,I7.unpinned,T.keep _ _ _ st5 λb hb o e=>(I7.pin (b,o) (aBK _ (aBK _ (gB hb e)))).1,λb hb=>?_,w7⟩
   obtain⟨o,e,d⟩:=T.obj _ _ st5 b hb
   exact(I7.pin (b,o) (aBK _ (aBK _ (gB hb e)))).2.1
  cases ok with
  |false=>exact aAD ⟨rfl,again I7 q7⟩
  |true =>
   refine aAB (aAB (thnE hx (he _ s7 σ6 H7 _ I7 q7) λy s8 ⟨yv,H8,I8,r8,ys,hD,hz,n8⟩=>aAB ?_))
   refine thnE hx (vY _ s8 σ6 H8 (.ref D) [yv] (.ref D) [y] (λ_ H9=>Nn σ6 H9) I8 rfl (.cons r8 .nil) ⟨D,ys,yv,rfl,rfl,hD,hz,n8⟩) λ_ s9 ⟨_,H9,I9,_,q9⟩=>?_
   exact aAD (aAD ⟨rfl,again I9 q9⟩)
variable{iter elt:Expr}{js:List (Option Nat)}{wi:TI}
structure CompEnd(X:Cx)(pins:List (Addr×Obj))(σ:St)(H':Hp)(C:Addr)(s':Shared):Prop where
 inv:Inv X pins σ H' s'
 ns:∃m,s'.heap.Ns C m
 no:H' C=none
 ne:C≠X.env.locals
 ge:X.s₀.heap.objs.size<=C
 nc:∀x c,X.env.cells.lookup x=some c->c≠C
 np:∀p∈X.pn++pins,p.1≠C
theorem CompEnd.go{σ':St}{t:Shared}(e:CompEnd X pins σ H' C s')(I:Inv X pins σ' H' t)(hs:Heap.SameBut C t.heap h'):Inv X pins σ' H' {t with heap:=h'} :=
 I.turned (t':=t.toks) (it:=C) (λb o hb q=>(hs.2 b hb).trans q) e.no e.ne (.inr e.ge) e.nc e.np
theorem sZ{pins:List (Addr×Obj)}{H₂:Hp}{s₂:Shared}{fp:List Addr}{cl:List (Str×Addr)}{RR:Value->Addr->Result->Shared->Prop}{Q':Addr->Hp->Prop}
  (hc:X.calm=true)(T:CompOk X.N X.env.scope scope Nc js)(hcl:∀x c,cl.lookup x=some c->X.env.cells.lookup x=some c)(hfr:∀y∈scope.names,y.2=.free->∃c,cl.lookup y.1=some c)
  (hg:∀cl C fp pins s₂ H₂,PG (compCx X Nc scope cl C fp pins s₂ H₂) tg g)(hi:∀cl C fp pins s₂ H₂,PIf (compCx X Nc scope cl C fp pins s₂ H₂) ifs ti)(he:∀cl C fp pins s₂ H₂,PE (compCx X Nc scope cl C fp pins s₂ H₂) elt te)
  (I2:Inv X pins σ H₂ s₂)(Tn:Turn X.prog X.w X.K tg J fp it tn)(st2:tn 0 s₂.heap)(f2:∀b∈fp,FpOk X pins H₂ b)
  (q:∀D,H₂ D=none->tTurns J g ti te D (outσ js σ) (upd H₂ D (.lst [])) (Q' D))
  (hRR:∀D C H' s',CompEnd X pins σ H' C s'->Q' D H'->RR (.ref D) C (.ok .next) s') :
  wpAny (model X.prog X.w) X.A (newList []) (λacc s₃=>wpAny (model X.prog X.w) X.A (newFunctionEnv scope X.env.globals cl [] X.env.qual none .none (some X.env)) (λcenv s₄ =>
   codeAny (model X.prog X.w) X.A (.compStart (.ListComp elt [⟨tg,iter,ifs,0⟩] scope pos) 0 (.ref it) acc {cenv with scope:=relabel scope X.env}) (RR acc cenv.locals) s₄) E s₃) E s₂:=by
 refine aCC (wpAny_newFunctionEnv T.nocell (by intro y hy;simp at hy) (λh₁ hns₁ hsb₁=>?_) T.kind)
 dsimp only at hns₁ hsb₁ ⊢
 generalize hH2:s₂.heap.push {cls:=.type "list",dict:=none,data:=.seq ([]:List Value).toArray}=Hx at hns₁ hsb₁ ⊢
 have hC:Hx.objs.size=s₂.heap.objs.size+1:=by rw[<- hH2,aAR]
 have below:∀b,b < s₂.heap.objs.size->b≠Hx.objs.size:=λb hb=>by rw[hC];exact aAO (aGN hb)
 have old:∀b o,s₂.heap.get? b=some o->h₁.get? b=some o:=λb o e=>hsb₁.extBut b o (below b (aAF e)) (aAA _ (hH2▸aAA _ e))
 have hD:h₁.get? s₂.heap.objs.size=some {cls:=.type "list",data:=.seq #[]}:=hsb₁.extBut _ _ (by rw[hC];exact aAO (aER _)) (aAA _ (hH2▸aAI _ rfl))
 have ho:∀b∈fp,∃o,s₂.heap.get? b=some o:=λb hb=>let⟨o,e,_⟩:=Tn.obj _ _ st2 b hb;⟨o,e⟩
 have hDn:H₂ s₂.heap.objs.size=none:=I2.hok.fresh (aAH _)
 have hle:s₂.heap.objs.size<=Hx.objs.size:=by rw[hC];exact Nat.le_succ _
 have st1:tn 0 h₁:=Tn.keep _ _ _ st2 λb _ o e=>old b o e
 have fr1:∀b∈fp,upd H₂ s₂.heap.objs.size (.lst []) b=none:=λb hb=>by
  obtain⟨o,e⟩:=ho b hb
  rw[aP (aAO (aAF e))]
  exact(f2 b hb).1
 have stat:∀H',(∀b∈fp,H' b=none)->∀b∈fp,FpOk (compCx X Nc scope cl Hx.objs.size fp pins s₂ H₂) [] H' b:=λH' hn b hb=>by
  obtain⟨g0,g1,g2,g3,g4,g5⟩:=f2 b hb
  obtain⟨o,e⟩:=ho b hb
  refine⟨hn b hb,below b (aAF e),λz=>?_,.inl hb,λx c h=>g4 x c (hcl x c h),λp hp=>g5 p ?_⟩
  ·rcases aBH.mp (I2.stkSub b z)with y|y
   ·exact g1 y
   ·exact g2 y
  ·have hp:p∈(X.pn++pins)++[]:=hp
   rwa[aDH]at hp
 have loop:∀tk,codeAny (model X.prog X.w) X.A (.compLoop (.ListComp elt [⟨tg,iter,ifs,0⟩] scope pos) 0 (.ref it) (.ref s₂.heap.objs.size) (compEnvC scope cl Hx.objs.size X.env)) (RR (.ref s₂.heap.objs.size) Hx.objs.size) {s₂ with heap:=h₁,toks:=tk}:=λtk=>by
  refine vO (Y:=compCx X Nc scope cl Hx.objs.size fp pins s₂ H₂) rfl (λ_ _ z=>z) Tn (hg _ _ _ _ _ _) (hi _ _ _ _ _ _) (he _ _ _ _ _ _) stat
   (sF (tk:=tk) I2 hc T hcl hfr f2 ho hC old hns₁ hD) st1 fr1 (q _ hDn) λσ' H' s' I' qQ=>?_
  obtain⟨m,hm,_⟩:=I'.loc
  refine hRR _ _ H' s' ⟨?_,⟨m,hm⟩,I'.free,aBG (aAN I2.lt hle),aAX I2.sz hle,λx c h=>?_,λp hp=>?_⟩ qQ
  ·exact I2.call' (ch:=fp) I'.os I'.base I'.hok I'.bare λb hb=>let⟨g0,g1,g2,g3,g4,g5⟩:=f2 b hb;⟨g3,g1,g4,g5⟩
  ·obtain⟨v,o,e,_⟩:=I2.cell x c h
   exact below c (aAF e)
  ·exact below _ (aAF (I2.pin p hp).1)
 exact codeAny_compStart_list (loop _) (Tn.self _ _ _ _ _ st1 (loop _))
theorem aBh(hc:X.calm=true)(T:CompOk X.N X.env.scope scope Nc js)(hit:PI X tg iter wi)
  (hg:∀cl C fp pins s₂ H₂,PG (compCx X Nc scope cl C fp pins s₂ H₂) tg g)(hi:∀cl C fp pins s₂ H₂,PIf (compCx X Nc scope cl C fp pins s₂ H₂) ifs ti)(he:∀cl C fp pins s₂ H₂,PE (compCx X Nc scope cl C fp pins s₂ H₂) elt te)
  (hs:∀x,foldedSetIterable iter X.env x=pure x:=by intro _;rfl):PE X (.ListComp elt [⟨tg,iter,ifs,0⟩] scope pos) (tComp js wi g ti te):=by
 intro pins s σ H Q I h
 rw[eval_ListComp]
 obtain⟨cl,hcl0,hcl,hfr⟩:=mT (scope:=scope) (env:=X.env) (λy hy hf=>I.ok.has y.1 (.inl (T.free y hy hf)))
 refine wpAny_comprehension_free (use:=none) rfl hs hcl0 T.kind T.names (thn (hit pins s σ H _ I h) λxv s1 h1=>thn h1 λitv s2 h2=>?_)
 obtain⟨it,fp,tn,J,H2,e,I2,Tn,st2,f2,q⟩:=h2
 subst e
 refine sZ (RR:=λacc C=>compPost (model X.prog X.w) X.A X.xe none (EP X pins σ Q) acc C) hc T hcl hfr hg hi he I2 Tn st2 f2 q λD C H' s' ce qD=>?_
 obtain⟨m,hm⟩:=ce.ns
 exact⟨m,hm,λh' hs'=>⟨.ref D,H',ce.go ce.inv hs',rfl,qD⟩⟩
noncomputable def compOkB(N0:List Str)(sc0 scope:Scope)(Nc:List Str)(js:List (Option Nat)):Bool :=
 decide (scope.kind=.function)&&scope.names.all (λy=>y.2 != .cell)&&scope.names.all (λy=>y.2 != .local || scope.names.lookup y.1==some .local)&&scope.names.all (λy=>y.2 != .free || sc0.names.lookup y.1==some .cell) &&
  (js.length==Nc.length)&&(Nc.zip js).all (λp=>match p.2 with|none=>true|some j=>N0[j]?==some p.1&&scope.names.lookup p.1==some .free&&sc0.names.lookup p.1==some .cell)
theorem CompOk.of{N0:List Str}{sc0:Scope}(h:compOkB N0 sc0 scope Nc js=true):CompOk N0 sc0 scope Nc js:=by
 unfold compOkB at h
 simp only[aBR,aBE,aDL,aAU]at h
 obtain⟨⟨⟨⟨⟨h1,h2⟩,h3⟩,h4⟩,h5⟩,h6⟩:=h
 refine⟨h1,λy hy=>by simpa using h2 y hy,λy hy e=>?_,λy hy e=>?_,h5,λp hp j hj=>?_⟩
 ·have:=h3 y hy
  simpa[e]using this
 ·have:=h4 y hy
  simpa[e]using this
 ·have:=h6 p hp
  have hj:p.2=some j:=hj
  rw[hj]at this
  simpa[and_assoc]using this
section
variable{a b:Expr}{rest:List Expr}
end
section
variable{rest:List Stmt}{t u:TS}
end
theorem dQ:bootBuiltins "int"=some (.type "int"):=by decide +kernel
theorem pD:bootBuiltins "bool"=some (.type "bool"):=by decide +kernel
theorem fF:bootBuiltins "isinstance"=some (.builtin "isinstance"):=by decide +kernel
theorem aGe:bootBuiltins "max"=some (.builtin "max"):=by decide +kernel
theorem mE:bootBuiltins "tuple"=some (.type "tuple"):=by decide +kernel
theorem aCa:bootBuiltins "list"=some (.type "list"):=by decide +kernel
theorem rV:bootBuiltins "str"=some (.type "str"):=by decide +kernel
theorem aEj:bootBuiltins "zip"=some (.type "zip"):=by decide +kernel
end L2
end
namespace L2
open PySem
noncomputable def Scr(K:Frag)(H:Hp)(a:Addr)(xs:List V):Prop:=(∃o,H a=some (.frz o (.lst xs)))\/∀H',SqL K H' a xs
theorem Scr.of{xs:List V}(hO:Only H)(h:SqL K H a xs):Scr K H a xs:=by
 rcases h with(h|⟨o,h⟩)|h
 ·rcases hO a with z|⟨o,ys,z⟩
  ·rw[h]at z;cases z
  ·rw[h]at z;cases z
 ·exact .inl ⟨o,h⟩
 ·exact .inr λ_=>.inr h
noncomputable def SB(l:Addr)(H H':Hp):Prop:=∀x o,x≠l->H x=some o->H' x=some o
theorem SB.trans{l:Addr}(s:SB l H H1)(t:SB l H1 H2):SB l H H2:=λx u n e=>t x u n (s x u n e)
open PySem.Spec PyProof.Rows
theorem aEz:bootBuiltins "all"=some (.builtin "all"):=by decide +kernel
end L2
namespace Com
open PySem L2
structure IW(n k high low past now:Int):Prop where
 h0:0<=high
 hb:high<=1000000
 l0:0<=low
 lb:low<=1000000
 g:Int.gcd high low=Int.gcd n (k % n)
 d1:n ∣ k*past - high
 d2:n ∣ k*now - low
structure PV(n k e told square left:Int):Prop where
 t0:0<=told
 t1:told < n
 s0:0<=square
 s1:square < n
 l0:0<=left
 eq:told*square ^ left.toNat % n=k ^ e.toNat % n
noncomputable def bitsN:List Int->Nat
 |[]=>0
 |b::r=>b.toNat+2*bitsN r
structure DG(e0 e:Int)(ds:List Int):Prop where
 nn:0<=e
 bit:∀d∈ds,d=0\/d=1
 len:∃m:Nat,e.toNat < 2 ^ m/\ds.length+m=62
 val:∀r,bitsN r=e.toNat->bitsN (ds++r)=e0.toNat
noncomputable def BoxAt(H:Hp)(b:Addr):Prop:=∃c s t:Int,H b=some (.lst [.int c,.int s,.int t])
noncomputable def Keep(b:Addr)(H H':Hp):Prop:=(∀a o,a≠b->H a=some o->H' a=some o)/\BoxAt H' b
theorem Keep.trans{b:Addr}(x:Keep b H H1)(y:Keep b H1 H2):Keep b H H2:=⟨λa o n e=>y.1 a o n (x.1 a o n e),y.2⟩
end Com
section
open PySem PySem.Spec PyProof.Rows
namespace L2
variable{K:Frag}
section
variable{W:World}{Ar:Around}{Ex:Value->Shared->Prop}{hp:Heap}{gn:Array GenState}{dr:Drawn}{tk:Nat}{oz:OsState}{nm qn:Str}{N:Addr}{bs bmB:List Value}{hdct:Bool}{sn:List Str}{sub:List Value}{ab:Bool}{col:Option Bool}{dd:Option Addr}{k0 k1 k2 k3 k5:Option Value}{B newId initId:String}{rs:List Value}{oI:Obj}
theorem pA(F:ExcBaseFacts B newId initId bmB)(T:OwnTail hp bmB bm){Q:Fin->Shared->Prop}
  (hC:hp.get? C=some (excClassObj nm qn C N bs bm hdct sn sub ab col dd k0 k1 k2 k3 k5 newId))(nsN:hp.Ns N mN)(iN:mN "__init__"=some (.ref fI))(gI:hp.get? fI=some oI)(cI:oI.cls=.type "function")
  (go:∀h' e,Heap.MadeExcOf hp h' e (.ref C) rs->wpAny (model P W) Ar (call (.ref fI) (.ref e::rs)) (λr s'=>r=.none/\Q (.done (.ret (.ref e))) s') Ex ⟨h',gn,dr,tk,oz⟩)(few:rs.length<=sizeLine:=by size_fits) :
  wpAny (model P W) Ar (Builtin.«type.__call__» ⟨.ref C::rs,[]⟩) Q Ex ⟨hp,gn,dr,tk,oz⟩:=by
 repeat(first|with_reducible refine aCT hC ?_ |with_reducible refine wpAny_madeBy_exc hC ?_ |wp_step)
 refine codeAny_call_builtin_code (Code.quiet_builtin _ F.quiet) (wpAny_check_new_subT F T hC (codeAny_exc_new_subT F T hC ?_ few))
 show wpAny _ _ _ _ _ _
 generalize eO1:({cls:=.type "tuple",data:=.seq rs.toArray}:Obj)=O1
 generalize eO2:({cls:=.ref C,data:=.fields #[.ref hp.objs.size,.none,.none,.none,.bool false,.none]}:Obj)=O2
 have keep:∀b o,hp.get? b=some o->((hp.push O1).push O2).get? b=some o:=λb o e=>aAA _ (aAA _ e)
 have at2:((hp.push O1).push O2).get? (hp.objs.size+1)=some O2:=by subst eO1 eO2;heap_get
 have own:(Value.ref C::bm).contains (.ref C)=true:=by simp
 have C1:=keep _ _ hC
 unfold isInstance
 have c2:O2.cls=.ref C:=by subst eO2;rfl
 repeat(first|(with_reducible refine aCT at2 ?_;rw[c2])|(with_reducible refine aEW C1 ?_;rw[own])|wp_step)
 refine wpAny_typeLookup_tail C1 (nsN.keeps keep) (T.keeps keep) F.mroIs F.init.lookup ?_
 rw[iN]
 unfold bindSpecial
 refine aBL (aAB (aAB (aFR (T:="function") ⟨_,keep _ _ gI,cI⟩ ?_)))
 rw[aAG (by decide)]
 have made:Heap.MadeExcOf hp ((hp.push O1).push O2) (hp.objs.size+1) (.ref C) rs :=
  ⟨keep,aEL (Nat.le_succ _),hp.objs.size,by rw[at2,<- eO2],aEL (aAH _),by subst eO1;exact aAA _ (Heap.get?_push_at rfl rfl)⟩
 refine aAD (aAB (aCF (go _ _ made) (λr s' z=>?_) λ_ _ x=>x))
 obtain⟨rfl,z⟩:=z
 wp_walk
 exact z
theorem rX(F:ExcBaseFacts B newId initId bmB)(T:OwnTail hp bmB bm) 
  (hC:hp.get? C=some (excClassObj nm qn C N bs bm hdct sn sub ab col dd k0 k1 k2 k3 k5 newId))(nsN:hp.Ns N mN)(iN:mN "__init__"=some (.ref fI))(gI:hp.get? fI=some oI)(cI:oI.cls=.type "function")
  (go:∀h' e,Heap.MadeExcOf hp h' e (.ref C) rs->wpAny (model P W) (Ar.under (.builtin "type.__call__" ⟨.ref C::rs,[]⟩)) (call (.ref fI) (.ref e::rs)) (λr s'=>r=.none/\Q (.ref e) s') Ex ⟨h',gn,dr,tk,oz⟩)(few:rs.length<=sizeLine:=by size_fits) :
  wpAny (model P W) Ar (call (.ref C) rs) Q Ex ⟨hp,gn,dr,tk,oz⟩:=by
 have f1:=tc_lookup
 have f2:=tc_bind (.ref C)
 have ty:(⟨hp,gn,dr,tk,oz⟩:Shared).TypeIs (.ref C) "type":=⟨_,hC,rfl⟩
 refine aEJ (codeAny_of_tree (show wpAny _ _ (callAny (.ref C) _) _ _ _ from ?_))
 repeat(any_goals (first|assumption|with_reducible refine aCT hC ?_ |wp_step))
 exact⟨rfl,codeAny_call_builtin_at (Code.quiet_builtin _ (by decide +kernel)) entry_typeCall (wpAny_check_type_call_sub hC (pA (few:=few) F T hC nsN iN gI cI go))⟩
end
noncomputable def XRec(P:Addr->Prop)(H:Hp)(h:Heap)(e C:Addr)(d:Option Addr):Prop :=
 ∃vs sl,h.get? e=some ⟨.ref C,d,.fields vs,sl⟩/\1 < vs.size /\
  (vs[1]?=some .none\/∃T cT dT ts sT,vs[1]?=some (.ref T)/\P T/\H T=none/\h.get? T=some ⟨cT,dT,.fields ts,sT⟩/\3 < ts.size)
variable{e:Addr}
theorem XRec.imp{P P':Addr->Prop}(x:XRec P H h e C d)(i:∀T,P T->P' T):XRec P' H h e C d:=by
 obtain⟨vs,sl,h1,h2,h3|⟨T,cT,dT,ts,sT,a1,a2,a3⟩⟩:=x
 ·exact⟨vs,sl,h1,h2,.inl h3⟩
 ·exact⟨vs,sl,h1,h2,.inr ⟨T,cT,dT,ts,sT,a1,i T a2,a3⟩⟩
variable{M:Model}{E:Value->Shared->Prop}{L:Addr}{P:Addr->Prop}{Q:Unit->Shared->Prop}{vs:Array Value}
theorem cM{c:Value}{x:Value}(ha:h.get? a=some ⟨c,d,.fields vs,sl⟩) :
  (h.update a (Obj.mapFields (·.setIfInBounds i x))).get? a=some ⟨c,d,.fields (vs.setIfInBounds i x),sl⟩:=aBW _ ha rfl
theorem bB{b:Addr}{f:Obj->Obj}(n:b≠a):(h.update a f).get? b=h.get? b:=aCA _ _ (Ne.symm n)
theorem mB{sl:Array (Option Value)}{head:Value}{hb:Bool}(hfr:A.frames=some (env::outer))(hl:s.heap.FunFrames base (env::outer))(hf:env.frame=some L)
  (he:s.heap.get? e=some ⟨.ref C,d,.fields vs,sl⟩)(hz:1 < vs.size)(hP:∀T,s.heap.objs.size<=T->P T)(hN:∀T,s.heap.objs.size<=T->H T=none)
  (hQ:∀h',(∀b o,b≠e->b∉frs (env::outer)->s.heap.get? b=some o->h'.get? b=some o)->(∀b o,b∈frs (env::outer)->s.heap.get? b=some o->∃sl,h'.get? b=some {o with slots:=sl}) ->
   XRec P H h' e C d->Q () {s with heap:=h'}) :
  wpAny M A (do let a <- frameOf env;let pl <- entryPlaceOf L hb;let t <- EntryCells.newEntry head a .none (rawInt L) .none pl;setField (.ref e) 1 t) (λ_ s₂=>wpAny M A' (setFlight (.ref e) none) Q E s₂) E s:=by
 have nfr:e∉frs (env::outer):=λz=>by
  obtain⟨_,o,q,n⟩:=hl.mem z
  rw[he]at q;cases q;exact n vs rfl
 refine aAB (wpAny_frameOf_fun hfr hl hf λh1 so=>?_)
 refine aAB (wpAny_entryPlaceOf λpl isp=>aAB ?_)
 unfold EntryCells.newEntry newFields
 refine aCC ?_ (isp.sizeOk5 _ _ _ _ _)
 generalize eT:([head,Value.ref L,.none,rawInt L,.none]++(if pl.isEmpty then List.replicate 6 Value.none else pl)).toArray=tv
 have hsz:3 < tv.size:=by rw[<- eT];simp only[aAK,aAV,aBA];lia
 have e1:h1.get? e=some ⟨.ref C,d,.fields vs,sl⟩:=(so.2.1 e nfr).trans he
 have ne:e≠h1.objs.size:=aAO (aAF e1)
 generalize eo:({cls:=.type "traceback",dict:=none,data:=.fields tv}:Obj)=oT
 have e2:(h1.push oT).get? e=some ⟨.ref C,d,.fields vs,sl⟩:=aAA _ e1
 refine aCY e2 rfl hz ?_
 have e3:=cM (i:=1) (x:=.ref h1.objs.size) e2
 have t3:((h1.push oT).update e (Obj.mapFields (·.setIfInBounds 1 (.ref h1.objs.size)))).get? h1.objs.size=some ⟨.type "traceback",none,.fields tv,#[]⟩:=by
  rw[bB (Ne.symm ne),<- eo];exact aAI h1 rfl
 unfold setFlight
 refine aAB (aAZ e3 rfl (x:=.ref h1.objs.size) (by simp[hz]) ?_)
 rw[aAG (by simp)]
 refine aCY t3 rfl hsz (hQ _ (λb o nb nf q=>?_) (λb o bf q=>?_) ?_)
 ·have q1:=(so.2.1 b nf).trans q
  rw[bB (aAO (aAF q1)),bB nb]
  exact aAA _ q1
 ·obtain⟨sl',q1⟩:=so.2.2 b o q
  have nb:b≠e:=λz=>nfr (z▸bf)
  exact⟨sl',by rw[bB (aAO (aAF q1)),bB nb];exact aAA _ q1⟩
 ·refine⟨_,sl,by rw[bB ne];exact e3,by simpa using hz,.inr ⟨h1.objs.size,_,_,_,_,by simp[hz],hP _ (by rw[so.1];exact aAH _),hN _ (by rw[so.1];exact aAH _),cM t3,?_⟩⟩
  simp[hsz]
theorem flight(hfr:A.frames=some (env::outer))(hl:s.heap.FunFrames base (env::outer))(hf:env.frame=some L)(x:XRec P H s.heap e C d)(he:H e≠none)
  (hP:∀T,s.heap.objs.size<=T->P T)(hN:∀T,s.heap.objs.size<=T->H T=none)
  (hQ:∀(h':Heap) (ch:List Addr),(∀b∈ch,P b/\H b=none/\b∉frs (env::outer))->(∀b o,b≠e->b∉frs (env::outer)->b∉ch->s.heap.get? b=some o->h'.get? b=some o)->(∀b o,b∈frs (env::outer)->s.heap.get? b=some o->∃sl,h'.get? b=some {o with slots:=sl}) ->
   (∀b o,s.heap.get? b=some o->∃o',h'.get? b=some o')->XRec P H h' e C d->Q () {s with heap:=h'}) :
  wpAny M A (noteFrame (.ref e) env) (λ_ s₂=>wpAny M A' (setFlight (.ref e) none) Q E s₂) E s:=by
 obtain⟨vs,sl,h1,h2,h3|⟨T,cT,dT,ts,sT,a1,a2,a3,a4,a5⟩⟩:=x
 ·unfold noteFrame
  simp only[hf]
  refine aAB (aAZ h1 rfl h3 ?_)
  rw[aAL (by decide)]
  refine mB (P:=P) (H:=H) hfr hl hf h1 h2 hP hN λh' k1 k2 r=>hQ h' [] (λ_ z=>nomatch z) (λb o n nf _ q=>k1 b o n nf q) k2 (λb o q=>?_) r
  by_cases hb:b∈frs (env::outer)
  ·obtain⟨sl,q⟩:=k2 b o hb q;exact⟨_,q⟩
  ·by_cases hbe:b=e
   ·subst hbe;obtain⟨_,_,r,_⟩:=r;exact⟨_,r⟩
   ·exact⟨_,k1 b o hbe hb q⟩
 ·have ne:e≠T:=λz=>he (z▸a3)
  have nfr:T∉frs (env::outer):=λz=>by
   obtain⟨_,o,q,n⟩:=hl.mem z
   rw[a4]at q;cases q;exact n ts rfl
  unfold noteFrame
  simp only[hf]
  refine aAB (aAZ h1 rfl a1 ?_)
  rw[aAG (show(Value.ref T != Value.none)=true by simp)]
  refine aAB (aAZ a4 rfl (aBT a5) ?_)
  by_cases here:(ts[3]==rawInt L)=true
  ·rw[aAG here]
   refine aAD ?_
   unfold setFlight
   refine aAB (aAZ h1 rfl a1 ?_)
   rw[aAG (show(Value.ref T != Value.none)=true by simp)]
   refine aCY a4 rfl a5 (hQ _ [T] (λb hb=>?_) (λb o _ _ nb q=>(bB λz=>nb (by simp[z])).trans q) (λb o hb q=>⟨o.slots,(bB (a:=T) (λ(z:b=T)=>nfr (z▸hb))).trans q⟩) (λb o q=>?_) ⟨vs,sl,(bB ne).trans h1,h2,.inr ⟨T,cT,dT,_,sT,a1,a2,a3,cM a4,by simpa using a5⟩⟩)
   ·rw[aCG]at hb;subst hb;exact⟨a2,a3,nfr⟩
   ·by_cases z:b=T
    ·subst z;exact⟨_,cM a4⟩
    ·exact⟨o,(bB z).trans q⟩
  rw[aAL here]
  refine aAB (aCY a4 rfl a5 ?_)
  have hsz:(s.heap.update T (Obj.mapFields (·.setIfInBounds 3 Value.none))).objs.size=s.heap.objs.size:=Heap.size_after_update ..
  refine mB (P:=P) (H:=H) hfr (hl.of_keeps λb o q n=>⟨o,(bB λz=>?_).trans q,rfl⟩) hf ((bB ne).trans h1) h2 (λU hU=>hP U (by rw[<- hsz];exact hU)) (λU hU=>hN U (by rw[<- hsz];exact hU)) λh' k1 k2 r=>hQ h' [T] (λb hb=>?_) (λb o n nf nc q=>k1 b o n nf ((bB λz=>nc (by simp[z])).trans q)) (λb o bf q=>k2 b o bf ((bB (a:=T) (λ(z:b=T)=>nfr (z▸bf))).trans q)) (λb o q=>?_) r
  ·subst z;rw[a4]at q;cases q;exact n ts rfl
  ·rw[aCG]at hb;subst hb;exact⟨a2,a3,nfr⟩
  ·have:∃o1,(s.heap.update T (Obj.mapFields (·.setIfInBounds 3 Value.none))).get? b=some o1:=by
    by_cases z:b=T
    ·subst z;exact⟨_,cM a4⟩
    ·exact⟨o,(bB z).trans q⟩
   obtain⟨o1,q⟩:=this
   by_cases hb:b∈frs (env::outer)
   ·obtain⟨sl,q⟩:=k2 b o1 hb q;exact⟨_,q⟩
   ·by_cases hbe:b=e
    ·subst hbe;obtain⟨_,_,r,_⟩:=r;exact⟨_,r⟩
    ·exact⟨_,k1 b o1 hbe hb q⟩
theorem tK(x:XRec P H s.heap e C d)(he:H e≠none) 
  (hQ:∀(h':Heap) (ch:List Addr),(∀b∈ch,P b/\H b=none)->(∀b o,b∉ch->s.heap.get? b=some o->h'.get? b=some o)->(∀b o,s.heap.get? b=some o->∃o',h'.get? b=some o')->XRec P H h' e C d->Q () {s with heap:=h'}) :
  wpAny M A (setFlight (.ref e) none) Q E s:=by
 obtain⟨vs,sl,h1,h2,h3|⟨T,cT,dT,ts,sT,a1,a2,a3,a4,a5⟩⟩:=x
 ·unfold setFlight
  refine aAB (aAZ h1 rfl h3 ?_)
  rw[aAL (by decide)]
  exact aAD (hQ s.heap [] (λ_ z=>nomatch z) (λ_ _ _ q=>q) (λb o q=>⟨o,q⟩) ⟨vs,sl,h1,h2,.inl h3⟩)
 ·have ne:e≠T:=λz=>he (z▸a3)
  have hz3:=a5
  unfold setFlight
  refine aAB (aAZ h1 rfl a1 ?_)
  rw[aAG (show(Value.ref T != Value.none)=true by simp)]
  refine aCY a4 rfl hz3 (hQ _ [T] (λb hb=>?_) (λb o nb q=>(bB λz=>nb (by simp[z])).trans q) (λb o q=>?_) ⟨vs,sl,(bB ne).trans h1,h2,.inr ⟨T,cT,dT,_,sT,a1,a2,a3,cM a4,?_⟩⟩)
  ·rw[aCG]at hb;subst hb;exact⟨a2,a3⟩
  ·by_cases z:b=T
   ·subst z;exact⟨_,cM a4⟩
   ·exact⟨o,(bB z).trans q⟩
  ·simp[hz3]
noncomputable def XO(e C:Addr)(d:Option Addr):HO:=.ext λh=>∃vs sl,h.get? e=some ⟨.ref C,d,.fields vs,sl⟩
variable{P:Program}
theorem XO.ok(q:h.get? e=some ⟨.ref C,d,.fields vs,sl⟩):ObjOk P w H h e (XO e C d) :=
 ⟨⟨vs,sl,q⟩,⟨_,q⟩,λh1 h2 ⟨vs,sl,z⟩ k=>⟨vs,sl,k _ z⟩⟩
theorem XO.at(x:HOk P w H h)(q:H e=some (XO e C d)):∃vs sl,h.get? e=some ⟨.ref C,d,.fields vs,sl⟩:=(x e _ q).1
noncomputable def Free(X:Cx)(pins:List (Addr×Obj))(T:Addr):Prop:=X.s₀.heap.objs.size<=T/\T≠X.env.locals/\(∀x c,X.env.cells.lookup x=some c->c≠T)/\∀p∈X.pn++pins,p.1≠T
variable{σ:List (Option V)}
theorem Inv.freeNew(I:Inv X pins σ H s){T:Addr}(h:s.heap.objs.size<=T):Free X pins T:=by
 refine⟨aAX I.sz h,aBG (aAN I.lt h),λx c q=>?_,λp hp=>?_⟩
 ·obtain⟨v,o,ho,_⟩:=I.cell x c q
  exact aAO (aAN (aAF ho) h)
 ·exact aAO (aAN (aAF (I.pin p hp).1) h)
theorem Inv.moved{ch:List Addr}(I:Inv X pins σ H s)(he:H e=some (XO e C d))(hst:X.stack=X.env::X.outer)(hfm:X.env.frame=some X.env.locals)
  (hc:∀b∈ch,Free X pins b/\H b=none)(k1:∀b o,b≠e->b∉frs (X.env::X.outer)->b∉ch->s.heap.get? b=some o->h'.get? b=some o)
  (k2:∀b o,b∈frs (X.env::X.outer)->s.heap.get? b=some o->∃sl,h'.get? b=some {o with slots:=sl})(k3:∀b o,s.heap.get? b=some o->∃o',h'.get? b=some o')
  {sl:Array (Option Value)}(new:h'.get? e=some ⟨.ref C,d,.fields vs,sl⟩):Inv X pins σ H {s with heap:=h'}:=by
 have hfr:∀b,b∈frs (X.env::X.outer) ↔ b=X.env.locals\/b∈X.fs:=λb=>by
  unfold frs;rw[aDT,hfm];exact aBH
 have ne:∀b,H b=none->b≠e:=λb n z=>by subst z;rw[he]at n;cases n
 have hsf:=I.stkFree
 rw[hst]at hsf
 refine I.step (g':=s.gens) (d':=s.drawn) (t':=s.toks) (ch:=ch) (λb hb=>⟨.inr (hc b hb).1.1,(hc b hb).1.2⟩) (λb o nL nf nc q n=>k1 b o (ne b n) (λz=>((hfr b).mp z).elim nL nf) nc q)
  (λb o nL bf nc q n=>k2 b o ((hfr b).mpr (.inr bf)) q) (λ_ _ _ _ n=>n) (λb o _ q=>k3 b o q) (λ_ _ q=>q) (λ_ _ _ q=>q) (λb ps q=>⟨#[],by rw[q];simp⟩) (λm hm=>?_) (λa o q=>?_) I.bare
 ·obtain⟨o,es,ep,ho,r⟩:=hm
  obtain⟨sl,q⟩:=k2 _ o ((hfr _).mpr (.inl rfl)) ho
  exact⟨_,es,ep,q,r⟩
 ·by_cases ha:a=e
  ·subst ha;rw[he]at q;cases q;exact XO.ok new
  ·refine(I.hok a o q).stay (λb u hb q'=>k1 b u ?_ ?_ ?_ q') (λ_ z=>z) λ_ _ z=>z
   ·rcases hb with rfl|hb
    ·exact ha
    ·rintro rfl;rw[he]at hb;cases hb
   ·intro z
    have n:=hsf b z
    rcases hb with rfl|hb
    ·rw[q]at n;cases n
    ·rw[hb]at n;cases n
   ·intro z
    have n:=(hc b z).2
    rcases hb with rfl|hb
    ·rw[q]at n;cases n
    ·rw[hb]at n;cases n
theorem Inv.flight(I:Inv X pins σ H s)(hst:X.stack=X.env::X.outer)(hfm:X.env.frame=some X.env.locals)(hA:A.frames=some X.stack)(x:XRec (Free X pins) H s.heap e C d)(he:H e=some (XO e C d))
  (hQ:∀h',Inv X pins σ H {s with heap:=h'}->XRec (Free X pins) H h' e C d->Q () {s with heap:=h'}) :
  wpAny M A (noteFrame (.ref e) X.env) (λ_ s₂=>wpAny M A' (setFlight (.ref e) none) Q E s₂) E s:=by
 have hl:=I.stack
 rw[hst]at hl hA
 refine L2.flight hA hl hfm x (by rw[he];simp) (λT hT=>I.freeNew hT) (λT hT=>I.hok.fresh hT) λh' ch hc k1 k2 k3 r=>?_
 obtain⟨vs,sl,q,_⟩:=id r
 exact hQ h' (I.moved he hst hfm (λb hb=>⟨(hc b hb).1,(hc b hb).2.1⟩) k1 k2 k3 q) r
theorem Inv.again(I:Inv X pins σ H s)(hst:X.stack=X.env::X.outer)(hfm:X.env.frame=some X.env.locals)(x:XRec (Free X pins) H s.heap e C d)(he:H e=some (XO e C d))
  (hQ:∀h',Inv X pins σ H {s with heap:=h'}->XRec (Free X pins) H h' e C d->Q () {s with heap:=h'}) :
  wpAny M A (setFlight (.ref e) none) Q E s:=by
 refine tK x (by rw[he];simp) λh' ch hc k1 k3 r=>?_
 obtain⟨vs,sl,q,_⟩:=id r
 have k2:∀b o,b∈frs (X.env::X.outer)->s.heap.get? b=some o->∃sl,h'.get? b=some {o with slots:=sl}:=λb o hb q=>by
  refine⟨o.slots,k1 b o (λz=>?_) q⟩
  have hl:=I.stack
  rw[hst]at hl
  rcases aBH.mp (show b∈X.env.locals::X.fs by unfold frs at hb;rw[aDT,hfm]at hb;exact hb)with rfl|hb'
  ·exact(hc _ z).1.2.1 rfl
  ·obtain⟨_,o',ho',_⟩:=I.ok.funs.mem hb'
   exact absurd (aAF ho') (Nat.not_lt.mpr (hc b z).1.1)
 exact hQ h' (I.moved he hst hfm hc (λb o _ _ nc q=>k1 b o nc q) k2 k3 q) r
noncomputable def CX1(P:Program)(w:World):CXT:=λouter H s E ev s'=>∃a H' C d,ev=.ref a/\s'.os=s.os/\AllBare s'.gens/\Un (frs outer) [] H H' s.heap s'.heap/\HOk P w H' s'.heap /\
 XRec (λT=>s.heap.objs.size<=T) H' s'.heap a C d/\H' a=some (XO a C d)/\E (.ref a) none H'
noncomputable def XE(X:Cx)(pins:List (Addr×Obj))(σ:List (Option V))(R:Addr->Hp->Prop)(ev:Value)(s':Shared):Prop :=
 ∃a H' C d,ev=.ref a/\Inv X pins σ H' s'/\XRec (Free X pins) H' s'.heap a C d/\H' a=some (XO a C d)/\R a H'
structure Xz(X:Cx)(R:Addr->Hp->Prop):Prop where
 go:∀pins σ ev s',XE X pins σ R ev s'->X.xe ev s'
variable{ev:Value}
theorem XE.imp{R':Addr->Hp->Prop}(x:XE X pins σ R ev s')(h:∀a H,R a H->R' a H):XE X pins σ R' ev s' :=
 let⟨a,H',C,d,x1,x2,x3,x4,x5⟩:=x
 ⟨a,H',C,d,x1,x2,x3,x4,h _ _ x5⟩
variable{E:XK}
theorem XE.call(I:Inv X pins σ H s)(h:CX1 X.prog X.w X.stack H s E ev s'):XE X pins σ (λa H'=>E (.ref a) none H') ev s':=by
 obtain⟨a,H',C,d,rfl,os,ba,un,hok,x,he,q⟩:=h
 exact⟨a,H',C,d,rfl,I.call' os un hok ba (λb z=>nomatch z),x.imp λT hT=>I.freeNew hT,he,q⟩
theorem qM(h:∀a H,¬R a H):Xz X R:=⟨λ_ _ _ _ ⟨_,_,_,_,_,_,_,_,q⟩=>(h _ _ q).elim⟩
theorem aIi{scope:Scope}{f:Addr}{cd:Value} :
  Xz (cxOf (CX1 P w) P w K mg base N qual scope f cd A outer s H E) (λa H'=>E (.ref a) none H'):=by
 refine⟨λpins σ ev s' ⟨a,H',C,d,e1,I,x,he,q⟩=>?_⟩
 subst e1
 refine aAB (I.flight rfl rfl I.ok.frames x he λh' I' x'=>?_)
 exact⟨a,H',C,d,rfl,I'.os,I'.bare,I'.base,I'.hok,x'.imp λT hT=>hT.1,he,q⟩
theorem kR(hP:X.prog=P)(hw:X.w=w)(z:Xz X (λa H'=>E (.ref a) none H')):Passes (CX1 P w) X E:=λpins σ H s e s' I h=>by
 subst hP hw
 exact z.go pins σ e s' (XE.call I h)
end L2
namespace L2
open PySem.W PySem.Calls Builtin Builtin.ObjectAttr
noncomputable abbrev vb:List Value:=[.type "ValueError",.type "Exception",.type "BaseException",.type "object"]
variable{E:Value->Shared->Prop}{K:Frag}{x:Addr}{vs:Array Value}{v:Value}{M:Model}
theorem kT(X:K.In h)(hc:clsIn K C=some cd)(hm:cd.mro=.ref C::.ref LE::vb)(b:Value):Looks M h (isSubtype (.ref C) b) ((Value.ref C::.ref LE::vb).contains b):=by
 refine looks_mroIn X ?_
 unfold mroIn
 rw[hc,aFL,hm]
 rfl
theorem xset{Q:Unit->Shared->Prop}(X:K.In s.heap)(hx:s.heap.get? x=some ⟨.ref C,none,.fields vs,sl⟩)(hc:clsIn K C=some cd)(hm:cd.mro=.ref C::.ref LE::vb)(hd:cd.hasDict=true)
  (hs:findIn K (.ref C) "__setattr__"=some (some (.builtin "object.__setattr__")))(hn:findIn K (.ref C) name=some none)
  (hq:∀h' tk',h'.get? x=some ⟨.ref C,some s.heap.objs.size,.fields vs,sl⟩->h'.Ns1 s.heap.objs.size (λy=>if y=name then some v else none)->(∀b o,b≠x->s.heap.get? b=some o->h'.get? b=some o) ->
   Q () {s with heap:=h',toks:=tk'}):wpAny (model prog w) A (setAttr (.ref x) name v) Q E s:=by
 obtain⟨hp,gn,dr,tk,oz⟩:=s
 dsimp only at X hx hq
 have I:InstAt hp x ⟨.ref C,none,.fields vs,sl⟩ C none:=⟨hx,rfl,rfl,trivial⟩
 have SF:=PySem.F.store_object
 have hsub:Looks (model prog w) hp (isInstance (.ref x) (.type "object")) true:=I.type.andThen (kT X hc hm _)
 refine set_plain X I hs (aEN SF.slot.plain SF.entry (@check_slot (model prog w) _ _ ⟨hp,gn,dr,tk+1,oz⟩ "object.__setattr__" "object" "__setattr__" (.ref x) [.str name tk,v] [] _ SF.kind SF.split hsub (SF.args (.ref x) (.str name tk) v) ?_))
 have hmro:Looks (model prog w) hp (mroOf (.ref C)) (.ref C::.ref LE::vb):=hm▸(looks_clsIn X hc).andThen .now
 rw[osa_eq,refuse_eq]
 refine aAB (aAB (I.type.at (aAB (hmro.at ?_))))
 rw[refuseLoop_ref,refuseLoop_ref,PySem.F.store_ValueError.passes (.ref x)]
 refine aAD (aAB (I.type.at (aAB ((looks_findIn X hn).at (aAB (aAD ?_))))))
 show wpAny _ _ (storeInOwnDict (.ref x) (.ref C) (.str name tk) name v false) _ _ _
 unfold storeInOwnDict ownDictForStores instanceDict
 refine aAB (aAD ?_)
 refine aAB (aAB (wpAny_loadPart hx ?_))
 dsimp only
 refine aAB ((looks_clsIn X hc).at ?_)
 rw[hd]
 simp only[Bool.not_true,aBI,aCO,Bool.false_or,typeHasDict]
 have hne:x≠hp.objs.size:=aAO (aAF hx)
 refine aAB (wpAny_alloc' (aAB (wpAny_update' (aAA _ hx) (aAB (aAD (aAD ?_))))))
 generalize eh:(hp.push {cls:=Value.type "dict",data:=Data.dict #[]}).update x (λo=>{o with dict:=some hp.objs.size})=h1
 have hd1:h1.get? hp.objs.size=some {cls:=.type "dict",data:=.dict #[]}:=by
  rw[<- eh,bB (Ne.symm hne)];exact Heap.get?_push_at rfl rfl
 have hx1:h1.get? x=some ⟨.ref C,some hp.objs.size,.fields vs,sl⟩:=by
  rw[<- eh];exact aBW _ (aAA _ hx) rfl
 have k1:∀b o,b≠x->hp.get? b=some o->h1.get? b=some o:=λb o nb q=>by
  rw[<- eh,bB nb];exact aAA _ q
 have n1:h1.Ns1 hp.objs.size (λ_=>none):=Heap.Ns1.of_empty ⟨_,#[],_,hd1,rfl,λe he=>absurd he (by simp),λ_=>rfl⟩
 show wpAny _ _ (storeInDict hp.objs.size (.str name tk) name v) _ _ _
 unfold storeInDict newKeyGuard
 refine aAB (aAD (aAB (wpAny_nsSet1 n1 λh2 n2 same=>?_)))
 obtain⟨oD,es,ep,q1,q2,q3⟩:=n2.count (Within.cons name v Within.nil)
 refine aAB (wpAny_lookBehind q1 (by rw[q2];exact pastItsLine_dict (aAX q3 (by rw[aBA,aDW,aAT];lia))) ?_)
 refine aAD (hq h2 _ ((same.2 x hne).trans hx1) n2 λb o nb q=>(same.2 b (aAO (aAF q))).trans (k1 b o nb q))
variable{K:Frag}
theorem rJ:builtinKind "BaseException.__getattribute__"=some .slot:=by decide +kernel
theorem nN:splitId "BaseException.__getattribute__"=some ("BaseException","__getattribute__"):=by decide +kernel
theorem xget{expr:Bool}(X:K.In s.heap)(hx:s.heap.get? x=some ⟨.ref C,some dx,.fields vs,sl⟩)(n:s.heap.Ns1 dx mA)(hc:clsIn K C=some cd)(hm:cd.mro=.ref C::.ref LE::vb)(hd:hasDictIn K C=true)
  (hg:findIn K (.ref C) "__getattribute__"=some (some (.builtin "BaseException.__getattribute__")))(hh:findIn K (.ref C) "__getattr__"=some none)(hn:findIn K (.ref C) name=some none)(hv:mA name=some v)(hv':handedIn v=true)
  (hq:Q v {s with toks:=s.toks+1}):wpAny (model prog w) A (getAttr (.ref x) name expr) Q E s:=by
 obtain⟨hp,gn,dr,tk,oz⟩:=s
 dsimp only at X hx n hq
 obtain⟨od,ho,hl⟩:=kQ n
 have I:InstAt hp x ⟨.ref C,some dx,.fields vs,sl⟩ C (some od):=⟨hx,rfl,rfl,ho⟩
 have hf:findObj K C (some od) name=some (.value v):=findObj_own hd hn rfl (by rw[hl,hv])
 have GA:=PySem.F.attr_ValueError.ga
 have hsub:Looks (model prog w) hp (isInstance (.ref x) (.type "BaseException")) true:=I.type.andThen (kT X hc hm _)
 unfold getAttr getAttrBy
 refine aAB (wpAny_mkText (aBL (aAB (I.type.at (aAB ((looks_findIn X hg).at ?_))))))
 dsimp only
 rw[show(onTheHeap (Value.ref C)&&Value.builtin "BaseException.__getattribute__"==Value.builtin "object.__getattribute__")=false from by rw[show(Value.builtin "BaseException.__getattribute__"==Value.builtin "object.__getattribute__")=false from by decide +kernel,aEC],aAL (by decide)]
 unfold getAttrByItsOwn
 have hk:Looks (model prog w) hp (hookBefore (.ref C)) none:=looks_hook X (by rw[aAG (show onTheHeap (Value.ref C)=true from rfl)];exact hh)
 refine aAB (hk.at (aAB (aDV (aBL ?_))))
 unfold callGetattribute
 rw[show(expr&&onTheHeap (Value.builtin "BaseException.__getattribute__"))=false from aEC _,aAL (by decide)]
 unfold boundAndCalled
 rw[GA.bind]
 refine aAB (aAD ?_)
 show wpAny _ _ (call (.builtin "BaseException.__getattribute__") [.ref x,.str name tk]) _ _ _
 refine aEJ (aEN GA.plain PySem.F.entry_bexc_ga (@check_slot (model prog w) _ _ ⟨hp,gn,dr,tk+1,oz⟩ "BaseException.__getattribute__" "BaseException" "__getattribute__" (.ref x) [.str name tk] [] _ rJ nN hsub (PySem.F.args_bexc_ga (.ref x) (.str name tk)) ?_))
 unfold Builtin.«object.__getattribute__»
 refine aAB (aAD (aAB (aAD (aAB (I.type.at (aAB ((looks_find X I hf).at (aAD ?_)))))))) 
 show wpAny _ _ (handedOut v) _ _ _
 rw[handedOut_of hv']
 exact aAD hq
variable{dr:Drawn}{e N t0:Addr}
theorem xinit{hp:Heap}{gn:Array GenState}{tk:Nat}{oz:OsState}{nm qn:Str}{bs:List Value}{hdct:Bool}{sn:List Str}{sub:List Value}{ab:Bool}{col:Option Bool}{dd:Option Addr}{k0 k1 k2 k3 k5:Option Value}
  (T:OwnTail hp vb bm)(hC:hp.get? C=some (excClassObj nm qn C N bs bm hdct sn sub ab col dd k0 k1 k2 k3 k5 "ValueError.__new__"))
  (he:hp.get? e=some ⟨.ref C,none,.fields vs,sl⟩)(h0:vs[0]?=some (.ref t0))
  (hq:∀h',h'.get? e=some ⟨.ref C,none,.fields (vs.setIfInBounds 0 (.ref hp.objs.size)),sl⟩->(∀b o,b≠e->hp.get? b=some o->h'.get? b=some o)->Q .none ⟨h',gn,dr,tk,oz⟩) :
  wpAny (model prog w) A (call (.builtin "ValueError.__init__") [.ref e,u]) Q E ⟨hp,gn,dr,tk,oz⟩:=by
 have F:=PySem.F.excBase_ValueError
 refine aEJ (aEN F.init.plain F.initEntry (wpAny_check_init_subT F T hC he rfl ?_))
 have ne:e≠hp.objs.size:=aAO (aAF he)
 have he2:(hp.push {cls:=.type "tuple",data:=.seq #[u]}).get? e=some ⟨.ref C,none,.fields vs,sl⟩:=aAA _ he
 have key:=hq ((hp.push {cls:=.type "tuple",data:=.seq #[u]}).update e (Obj.mapFields (·.setIfInBounds 0 (.ref hp.objs.size)))) (cM he2) λb o nb q=>(bB nb).trans (aAA _ q)
 wp_walk
 rw[h0]
 refine aAD (aAB (aCY he2 rfl (aES.mp h0).1 ?_))
 wp_walk
 exact key
noncomputable def xcB(K:Frag)(C:Addr)(bm0:List Value)(ini:Option Value):Bool:=match K.lookup C with
 |some ⟨.type "type",_,.cls cd,sl⟩=>(match cd.mro,sl.toList with
  |.ref C'::bm,[_,_,_,_,some (.builtin n),_]=>C'==C&&bm==bm0&&n=="ValueError.__new__"&&!cd.hasDel&&nsOkIn K cd.ns&&nsIn K cd.ns "__init__"==some ini
  |_,_=>false)
 |_=>false
structure Xc(K:Frag)(c:Str)(C LE:Addr):Prop where
 nm:nsIn K mainGlobals c=some (some (.ref C))
 cd:∃cd,clsIn K C=some cd/\cd.name=c/\cd.mro=.ref C::.ref LE::vb
 le:∃cl,clsIn K LE=some cl/\cl.name="LentError"
 leN:nsIn K mainGlobals "LentError"=some (some (.ref LE))
 ne:c≠"LentError"
 hd:hasDictIn K C=true
 ga:findIn K (.ref C) "__getattribute__"=some (some (.builtin "BaseException.__getattribute__"))
 gh:findIn K (.ref C) "__getattr__"=some none
 cl:findIn K (.ref C) "__class__"=some (some (.builtin "object.__class__"))
 ob:∃ini,xcB K C (.ref LE::vb) ini=true
 leO:xcB K LE vb none=true
structure XcO(h:Heap)(C:Addr)(bm:List Value)(ini:Option Value):Prop where
 ex:∃nm q N bs hdct sn sub ab col dd k0 k1 k2 k3 k5,h.get? C=some (excClassObj nm q C N bs bm hdct sn sub ab col dd k0 k1 k2 k3 k5 "ValueError.__new__")/\∃mN,h.Ns N mN/\mN "__init__"=ini
theorem qT{x:Str}{r:Option Value}(X:K.In h)(e:nsOkIn K N=true)(q:nsIn K N x=some r):h.nsMap N x=r:=by
 cases r with
 |none=>exact nsMap_none_of_in X e q
 |some v =>
  obtain⟨o,es,ep,ho,hd,_,hf⟩:=Heap.Ns.of_isNs (isNs_of_in X e)
  unfold nsIn at q
  split at q
  ·rename_i c d es' n' sl z
   have:=X _ _ z
   rw[ho]at this
   cases this
   cases hd
   split at q
   ·rename_i en he
    cases q
    rw[<- hf]
    unfold nsFind findBy
    rw[<- Array.find?_toList,he]
    rfl
   ·split at q <;> cases q
  ·cases q
theorem lP(X:K.In h)(q:xcB K C bm ini=true):XcO h C bm ini:=by
 unfold xcB at q
 split at q
 ·rename_i dd cd sl ho
  split at q
  ·rename_i C' bm k0 k1 k2 k3 n k5 hm hs
   simp only[aBR,aDL,Bool.not_eq_true']at q
   obtain⟨⟨⟨⟨⟨rfl,rfl⟩,rfl⟩,hdel⟩,hok⟩,hni⟩:=q
   obtain⟨nm,bs,mro,ns,qn,hd,sn,sub,ab,col,del⟩:=cd
   dsimp only at hm hdel hok hni
   subst hm hdel
   have hsl:sl=#[k0,k1,k2,k3,some (.builtin "ValueError.__new__"),k5]:=by
    obtain⟨l⟩:=sl
    simp only at hs
    rw[hs]
   subst hsl
   exact⟨nm,qn,ns,bs,hd,sn,sub,ab,col,dd,k0,k1,k2,k3,k5,X _ _ ho,_,.of_isNs (isNs_of_in X hok),qT X hok hni⟩
  ·cases q
 ·cases q
variable{Q:Flow->Shared->Prop}
theorem aCh{x:Sem Value}(hB:bm.contains (.type "BaseException")=true)(hh:A.handled=none)
  (h:wpAny M A x (λv s₁=>∃e d vs sl,v=.ref e/\XcO s₁.heap C bm ini/\s₁.heap.get? e=some ⟨.ref C,d,.fields vs,sl⟩/\vs[1]?=some .none/\E (.ref e) s₁) E s):wpAny M A (raiseStmt env (some x) none) Q E s:=by
 unfold raiseStmt
 refine aAB (aCF h (λv s₁ h₁=>?_) λ_ _ z=>z)
 obtain⟨e,d,vs,sl,rfl,⟨nm,q,N,bs,hdct,sn,sub,ab,col,dd,k0,k1,k2,k3,k5,hC,_⟩,he,h1,hE⟩:=h₁
 have hcB:(Value.ref C::bm).contains (.type "BaseException")=true:=by rw[List.contains_cons,hB,Bool.or_true]
 obtain⟨hp,g,dr,tk,os⟩:=s₁
 dsimp only at hC he
 repeat(first|with_reducible refine aCT he ?_ |with_reducible refine aCT hC ?_ |(with_reducible refine aEW hC ?_;rw[hcB])|wp_step)
 rw[h1]
 refine aAD ?_
 rw[aAL (by decide)]
 exact aAD (wpAny_raiseNew_none hh hE)
noncomputable def XN(e C:Addr)(d:Option Addr):HO:=.ext λh=>∃vs sl t0,h.get? e=some ⟨.ref C,d,.fields vs,sl⟩/\vs[1]?=some .none/\vs[0]?=some (.ref t0)
variable{o:HO}
theorem XN.ok(q:h.get? e=some ⟨.ref C,d,.fields vs,sl⟩)(q1:vs[1]?=some .none)(q0:vs[0]?=some (.ref t0)):ObjOk P w H h e (XN e C d) :=
 ⟨⟨vs,sl,t0,q,q1,q0⟩,⟨_,q⟩,λh1 h2 ⟨vs,sl,t0,z,z'⟩ k=>⟨vs,sl,t0,k _ z,z'⟩⟩
theorem XN.at(x:HOk P w H h)(q:H e=some (XN e C d)):∃vs sl t0,h.get? e=some ⟨.ref C,d,.fields vs,sl⟩/\vs[1]?=some .none/\vs[0]?=some (.ref t0):=(x e _ q).1
theorem zT(q:H a=some o):upd H a o=H:=by
 funext b
 by_cases z:b=a
 ·subst z;rw[aW,q]
 ·rw[aP z]
theorem ObjOk.here(x:ObjOk P w H h a o):∃u,h.get? a=some u:=by
 cases o with
 |lst xs=>obtain⟨_,_,_,_,e⟩:=x;exact⟨_,e⟩
 |tup xs=>obtain⟨_,_,_,p⟩:=x;obtain⟨u,e,_⟩:=p;exact⟨_,e⟩
 |dK kvs=>obtain⟨_,_,_,_,o,_,_,e,_⟩:=x;exact⟨_,e⟩
 |dT kvs=>obtain⟨_,_,_,_,o,_,_,e,_⟩:=x;exact⟨_,e⟩
 |set S n=>obtain⟨o,_,_,_,e,_⟩:=x;exact⟨_,e⟩
 |ins C dx fs=>obtain⟨_,_,_,e,_⟩:=x;exact⟨_,e⟩
 |own y=>exact x
 |xd fs=>obtain⟨_,⟨_,_,_,e,_⟩,_⟩:=x;exact⟨_,e⟩
 |rng lo hi=>obtain⟨_,_,_,e⟩:=x;exact⟨_,e⟩
 |frz ob u=>obtain⟨e,_⟩:=x;exact⟨_,e⟩
 |tbl ps=>exact⟨_,(show h.get? a=some _ from x)⟩
 |met f y=>exact⟨_,(show h.get? a=some _ from x)⟩
 |ext φ=>exact x.2.1
theorem HOk.none_of(x:HOk P w H h)(n:h.get? a=none):H a=none:=by
 cases q:H a with
 |none=>rfl
 |some o=>obtain⟨u,z⟩:=(x a o q).here;rw[n]at z;cases z
variable{σ:List (Option V)}
theorem Inv.laid0(I:Inv X pins σ H s)(k:∀b u,s.heap.get? b=some u->h'.get? b=some u)(hn:s.heap.get? a=none)(new:ObjOk X.prog X.w (upd H a o) h' a o):Inv X pins σ (upd H a o) {s with heap:=h',toks:=t'}:=by
 have hH:=I.hok.none_of hn
 have ne:∀b u,s.heap.get? b=some u->b≠a:=λb u q z=>by subst z;rw[hn]at q;cases q
 refine I.un ⟨λb u q _ _ _=>k b u q,λb u q _ _ _=>⟨u.slots,k b u q⟩,λb u q n _=>by rw[aP (ne b u q)];exact n,λb u q _=>⟨u,k b u q⟩,λb xs q=>by rw[aP (bA q hH)];exact q,λb u xs q=>by rw[aP (bA q hH)];exact q,λb ps q=>⟨#[],by rw[aP (bA q hH),q];simp⟩⟩ λb u q=>?_
 by_cases z:b=a
 ·subst z;rw[aW]at q;cases q;exact new
 ·rw[aP z]at q
  exact(I.hok b u q).stay (λc v _ q=>k c v q) (λc q=>by rw[aP (bA q hH)];exact q) λc xs q=>by rw[aP (bA q hH)];exact q
variable{f:Str}
theorem Inv.gotDict{u:Value}(I:Inv X pins σ H s)(he:H e=some (XN e C none))(hn:s.heap.get? dx=none)(k:∀b u,b≠e->s.heap.get? b=some u->h'.get? b=some u)
  (q:h'.get? e=some ⟨.ref C,some dx,.fields vs,sl⟩)(q1:vs[1]?=some .none)(q0:vs[0]?=some (.ref t0))(ns:h'.Ns1 dx (λz=>if z=f then some u else none))(r:RelV y u) :
  Inv X pins σ (upd (upd H dx (.xd [(f,y)])) e (XN e C (some dx))) {s with heap:=h',toks:=t'}:=by
 have hH:=I.hok.none_of hn
 have ned:dx≠e:=λz=>by subst z;rw[hH]at he;cases he
 have nd:∀b u,s.heap.get? b=some u->b≠dx:=λb u qq z=>by subst z;rw[hn]at qq;cases qq
 have ne:∀b,H b=none->b≠e:=λb n z=>by subst z;rw[he]at n;cases n
 have old:∀b o,H b=some o->b≠e->upd (upd H dx (.xd [(f,y)])) e (XN e C (some dx)) b=some o:=λb o q z=>by rw[aP z,aP (bA q hH)];exact q
 have hx:∀b u,H b=some u->(∀φ,u≠.ext φ)->b≠e:=λb u qq n z=>by subst z;rw[he]at qq;cases qq;exact n _ rfl
 refine I.un ⟨λb u q n _ _=>k b u (ne b n) q,λb u q n _ _=>⟨u.slots,k b u (ne b n) q⟩,λb u q n _=>by rw[aP (ne b n),aP (nd b u q)];exact n,λb u q _=>?_,λb xs q=>old b _ q (hx b _ q λ_ z=>nomatch z),λb u xs q=>old b _ q (hx b _ q λ_ z=>nomatch z),λb ps q=>⟨#[],by rw[old b _ q (hx b _ q λ_ z=>nomatch z)];simp⟩⟩ λb u z=>?_
 ·by_cases z:b=e
  ·subst z;exact⟨_,‹h'.get? b=some _›⟩
  ·exact⟨u,k b u z q⟩
 ·by_cases hb:b=e
  ·subst hb;rw[aW]at z;cases z;exact XN.ok q q1 q0
  ·rw[aP hb]at z
   by_cases hd:b=dx
   ·subst hd;rw[aW]at z;cases z
    refine⟨_,ns,λg=>?_⟩
    by_cases hg:g=f
    ·subst hg;simp[List.lookup,RelO,r]
    ·have:(g==f)=false:=by simpa using hg
     simp[List.lookup,RelO,hg,this]
   ·rw[aP hd]at z
    refine(I.hok b u z).stay (λc v hc q'=>k c v ?_ q') (λc q'=>old c _ q' (hx c _ q' λ_ z=>nomatch z)) λc xs q'=>old c _ q' (hx c _ q' λ_ z=>nomatch z)
    rcases hc with rfl|hc
    ·exact hb
    ·exact hx c _ hc λ_ z=>nomatch z
theorem Inv.flies(I:Inv X pins σ (upd H e (XN e C d)) s):Inv X pins σ (upd H e (XO e C d)) s/\XRec (Free X pins) (upd H e (XO e C d)) s.heap e C d:=by
 obtain⟨vs,sl,t0,q,q1,q0⟩:=XN.at I.hok aW
 refine⟨?_,vs,sl,q,(aES.mp q1).1,.inl q1⟩
 have:=I.write (x:=e) (e:=e) (o:=XO e C d) (h':=s.heap) (t':=s.toks) (by rw[aW];trivial) (.inl rfl) (λ_ _ _ q=>q) ⟨_,q⟩ (XO.ok q)
 rw[aAs]at this
 exact this
structure LeF(K:Frag)(LE:Addr):Prop where
 rd:readsIn K LE (.type "type")=true
 ga:specialIn K (.ref LE) "__getattribute__"=some (some (.builtin "type.__getattribute__"))
 ini:findCls K (.ref LE) (.type "type") "__init__"=some (.val (.builtin "ValueError.__init__"))
 tl:tailIn K vb (.ref LE::vb)=true
section
variable{e1 e2 o v:Expr}{t:TA}{to tv:TE}{p1 ap cp pos:Pos}
noncomputable def tBinit(C:Addr)(t:TA):TE:=λσ H Q=>t σ H λvs H1=>∃e u,vs=[.ref e,u]/\H1 e=some (XN e C none)/\Q .non H1
theorem yW{pl:Sem Bool}(F:LeF X.K LE)(hm:X.mg "LentError"=some (.ref LE))(hC:xcB X.K C (.ref LE::vb) ini=true)(ha:PA X [e1,e2] t)(hg:Gl X "LentError":=by rfl)
  (hs:starEach [e1,e2] X.env=[(false,eval e1 X.env),(false,eval e2 X.env)]:=by rfl)
  (hev:eval (.Call (.Attribute (.Name "LentError" p1) "__init__" ap) [e1,e2] [] cp) X.env=(do
   let ov <- eval (.Name "LentError" p1) X.env
   standAt ap.atName
   let(f,first) <- holding [ov] (getMethod ov "__init__" pl)
   callWith cp f first (backTo cp (starEach [e1,e2] X.env)) (backToKw cp (keywordEach [] X.env))):=by rfl) :
  PE X (.Call (.Attribute (.Name "LentError" p1) "__init__" ap) [e1,e2] [] cp) (tBinit C t):=by
 intro pins s σ H Q I h
 refine methodCall_KW (pl:=pl) (gH I hg hm ?_) hev
 refine method_cls I.kIn F.ga (cls_value I.kIn F.rd F.ini rfl ?_)
 have hA:=ha cp pins _ σ H _ (I.tok (s.toks+1)) h
 rw[hs]at hA ⊢
 refine aCZ rfl (aEK (thn hA λus s1 ⟨vs,H1,I1,r,e,u,ev,he,q⟩=>?_))
 subst ev
 obtain⟨a,b,rfl,ra,rb⟩:=Vals.two r
 cases(show a=Value.ref e from ra)
 obtain⟨vs',sl,t0,z,z1,z0⟩:=XN.at I1.hok he
 obtain⟨nm,qn,N,bs,hdct,sn,sub,ab,col,dd,k0,k1,k2,k3,k5,oC,_⟩:=lP I1.kIn hC
 obtain⟨hp,gn,dr,tk,oz⟩:=s1
 refine xinit (tail_of_in I1.kIn F.tl) oC z z0 λh' zn k=>?_
 have J:=I1.write (x:=e) (e:=e) (o:=XN e C none) (h':=h') (t':=tk) (by rw[he];trivial) (.inl rfl) (λb u n q=>k b u n q) ⟨_,zn⟩ (XN.ok (t0:=hp.objs.size) zn (by rw[Array.getElem?_setIfInBounds_ne (by decide)];exact z1) (by simp[(aES.mp z0).1]))
 rw[zT he]at J
 exact⟨.non,H1,J,rfl,q⟩
noncomputable def sXfld(K:Frag)(C:Addr)(to tv:TE)(f:Str):TS:=λD σ H=>tv σ H λy H1=>to σ H1 λx H2=>∃e,x=.ref e/\H2 e=some (XN e C none)/\∀dx,H2 dx=none->dx≠e->D.nx σ (upd (upd H2 dx (.xd [(f,y)])) e (XN e C (some dx)))
theorem aAa(hc:clsIn X.K C=some cd)(hm:cd.mro=.ref C::.ref LE::vb)(hd:cd.hasDict=true)(hsa:findIn X.K (.ref C) "__setattr__"=some (some (.builtin "object.__setattr__")))(hn:findIn X.K (.ref C) f=some none)
  (ho:PE X o to)(hv:PE X v tv)(hs:swapsWith v (some (.Attribute o f pos')) pos.line X.env=pure false:=by rfl):PS X (.Assign [.Attribute o f pos'] v pos) (sXfld X.K C to tv f):=by
 intro pins s σ H D I h
 refine plainObj_wpAny_Assign_Attribute (thn (hv pins s σ H _ I h) λu s1 ⟨y,H1,I1,ry,q⟩=>thn (ho pins s1 σ H1 _ I1 q) λov s2 ⟨x,H2,I2,rx,e,ex,he,q2⟩=>?_) hs
 subst ex
 cases(show ov=Value.ref e from rx)
 obtain⟨vs,sl,t0,z,z1,z0⟩:=XN.at I2.hok he
 have fresh:s2.heap.get? s2.heap.objs.size=none:=aEL (aAH _)
 refine xset I2.kIn z hc hm hd hsa hn λh' tk' w1 w2 w3=>?_
 exact⟨σ,_,I2.gotDict (t':=tk') he fresh w3 w1 z1 z0 w2 ry,q2 _ (I2.hok.none_of fresh) (aBG (aAF z))⟩
end
theorem aBp{p o':HO}(n:dx≠e):upd (upd (upd H e o) dx p) e o'=upd (upd H dx p) e o':=by
 funext b
 unfold upd
 by_cases h1:b=e
 ·simp[h1]
 ·by_cases h2:b=dx
  ·simp[h2,n]
  ·simp[h1,h2]
noncomputable def spXI(C:Addr)(f:Str):Sp:=λvs H Q _=>∃e y,vs=[.ref e,y]/\H e=some (XN e C none)/\∀dx,H dx=none->dx≠e->Q .non (upd (upd H dx (.xd [(f,y)])) e (XN e C (some dx)))
theorem Fun.okN{x:Str}{f:Addr}{N:List Str}{k:Nat}(F:Fun K x qual st f fd)(S:FnScope N ps (defScope st))(len:∀vs H Q E,sp vs H Q E->vs.length=ps.length)
  (hbody:∀(cdv:Value) (A:Around) (outer:List Env) (s:Shared) (H:Hp) (vs:List V) (Q:VK) (E:XK),Room k (A.deeper (envOfC qual (defScope st) s.heap.objs.size f cdv))->sp vs H Q E ->
   ∃t,PSs (cxOf CX P w K mg base N qual (defScope st) f cdv A outer s H E).nox (defBody st) t/\t {nx:=λ_ H'=>Q .non H',rt:=Q} (start N vs) H):FnOk P w K mg base CX (k+1) f fd ps sp:=by
 obtain⟨oc,od,kV,doc,pm,an,cdv,ct,osl,rfl,lk,hcd⟩:=F.ex
 refine xK lk hcd S len λA outer s H vs Q E hr hsp=>?_
 obtain⟨t,h,q⟩:=hbody cdv A outer s H vs Q E hr hsp
 exact⟨t,h.nox,q⟩
theorem aAp{p txt:Str}(F:Fun K "__init__" qual st fI fd)(S:FnScope ["self",p] ["self",p] (defScope st))
  (hb:∀(cdv:Value) (A:Around) (outer:List Env) (s:Shared) (H:Hp) (E:XK),PSs (cxOf CX P w K mg base ["self",p] qual (defScope st) fI cdv A outer s H E).nox (defBody st) (tSeq (tDrop (tBinit C (tCons (tVar 0) (tCons (tC (.str txt)) tNil)))) (sXfld K C (tVar 0) (tVar 1) f))) :
  FnOk P w K mg base CX 1 fI fd ["self",p] (spXI C f):=by
 refine F.okN (k:=0) S (λvs H Q E ⟨e,y,h,_⟩=>by rw[h];rfl) λcdv A outer s H vs Q E _ ⟨e,y,hv,he,hq⟩=>⟨_,hb cdv A outer s H E,?_⟩
 subst hv
 exact⟨.ref e,rfl,e,.str txt,rfl,he,y,rfl,.ref e,rfl,e,rfl,he,hq⟩
section
variable{k:Nat}{E:XK}{x:Str}{pos:Pos}{e:Expr}{es:List Expr}{t:TA}{σ:St}{Q:VK}{vs:List V}
theorem vL(hxo:xcB X.K C (.ref LE::vb) (some (.ref fI))=true)(F:LeF X.K LE)(hf:typeIn X.K (.ref fI)=some (.type "function"))(G:FnOk X.prog X.w X.K X.mg X.base CX k fI fd ps (spXI C f))(hr:Room (k+1) X.A)(hb:Binds X.K fd ps [])(hx:Passes CX X E)
  (I:Inv X pins σ H s)(r:Vals vs us)(h:∃y,vs=[y]/\∀e dx,H e=none->H dx=none->dx≠e->Q (.ref e) (upd (upd H dx (.xd [(f,y)])) e (XN e C (some dx)))) :
  wpAny (model X.prog X.w) X.A (call (.ref C) us) (EP X pins σ Q) X.xe s:=by
 obtain⟨y,rfl,h⟩:=h
 obtain⟨u,rfl,ru⟩:=Vals.one r
 obtain⟨nm,qn,N,bs,hdct,sn,sub,ab,col,dd,k0,k1,k2,k3,k5,oC,mN,nsN,iN⟩:=lP I.kIn hxo
 have gI:∃oI,s.heap.get? fI=some oI/\oI.cls=.type "function":=by
  obtain⟨o,z,zc⟩:=aBS.mp hf
  exact⟨o,I.kIn _ _ z,zc⟩
 obtain⟨oI,gI,cI⟩:=gI
 obtain⟨hp,gn,dr,tk,oz⟩:=s
 refine rX (few:=by show 1<=sizeLine;decide) PySem.F.excBase_ValueError (tail_of_in I.kIn F.tl) oC nsN iN gI cI λh' a mk=>?_
 obtain⟨t0,ea,_,_⟩:=mk.there
 have hn:=I.hok.none_of mk.new
 have I2:Inv X pins σ (upd H a (XN a C none)) ⟨h',gn,dr,tk,oz⟩:=I.laid0 (t':=tk) mk.keeps mk.new (XN.ok (t0:=t0) ea rfl rfl)
 have sp:spXI C f [.ref a,y] (upd H a (XN a C none)) (λv H2=>v=.non/\Q (.ref a) H2) E:=⟨a,y,rfl,aW,λdx hd ne=>⟨rfl,by rw[aBp ne];exact h a dx hn (by rw[aP ne]at hd;exact hd) ne⟩⟩
 have r2:Vals [V.ref a,y] [Value.ref a,u]:=.cons rfl (.cons ru .nil)
 have hl:([Value.ref a,u]++[]).length=ps.length:=by have:=G.len _ _ _ _ sp;simpa using this
 refine aEJ (aFX (G.run _ X.stack _ _ ⟨[.ref a,u],[]⟩ [.ref a,u] _ _ E (hr.make C [u] []) (I2.env0.make C [u] []) (hb _ [.ref a,u] I2.kIn hl) r2 sp) λr s' hq'=>?_)
 cases r with
 |error e=>exact hx pins σ _ _ e s' I2 hq'
 |ok fl =>
  cases fl with
  |ret u =>
   obtain⟨v,H',I3,rv,ev,q3⟩:=I2.after hq'
   subst ev
   exact⟨rv,⟨V.ref a,H',I3,rfl,q3⟩⟩
  |next=>exact False.elim hq'
  |brk=>exact False.elim hq'
  |cont=>exact False.elim hq'
noncomputable def tXmake(C:Addr)(f:Str)(t:TA):TE:=λσ H Q=>t σ H λvs H1=>∃y,vs=[y]/\∀e dx,H1 e=none->H1 dx=none->dx≠e->Q (.ref e) (upd (upd H1 dx (.xd [(f,y)])) e (XN e C (some dx)))
theorem zB(hxo:xcB X.K C (.ref LE::vb) (some (.ref fI))=true)(F:LeF X.K LE)(hf:typeIn X.K (.ref fI)=some (.type "function"))(G:FnOk X.prog X.w X.K X.mg X.base CX k fI fd ps (spXI C f))(hr:Room (k+1) X.A)(hb:Binds X.K fd ps [])(hx:Passes CX X E)
  (hm:X.mg x=some (.ref C))(hk:keepIn X.K (.ref C)=true)(ha:PA X (e::es) t)(hg:Gl X x:=by rfl)(hdb:(x==("__debug__":Str))=false:=by decide)(he:starEach (e::es) X.env=(false,eval e X.env)::starEach es X.env:=by rfl)(hpl:(backTo pos (starEach es X.env)).any (·.1)=false:=by rfl) :
  PE X (.Call (.Name x p) (e::es) [] pos) (tXmake C f t):=by
 intro pins s σ H Q I h
 refine aCI (gH I hg hm ?_ hdb)
 refine aGJ (h₀:=X.base) I.ok.mod.kin hk (thn (ha pos pins s σ H _ I h) λus s1 ⟨vs,H1,I1,r,q⟩=>⟨I1.kIn,?_⟩) he hpl
 exact vL hxo F hf G hr hb hx I1 r q
noncomputable def tRaise(C:Addr)(R:Addr->Hp->Prop)(te:TE):TS:=λ_ σ H=>te σ H λv H1=>∃e d H0,v=.ref e/\H1=upd H0 e (XN e C d)/\R e (upd H0 e (XO e C d))
theorem zQ(hxo:xcB X.K C (.ref LE::vb) ini=true)(hc:X.calm=true)(hz:Xz X R)(he:PE X e te):PS X (.Raise (some e) none pos) (tRaise C R te):=by
 intro pins s σ H D I h
 rw[arm_exec_Raise]
 refine aAB (aFI ?_)
 show wpAny _ _ (raiseStmt X.env (some (do let v <- eval e X.env;standAt pos;pure v)) none) _ _ s
 refine aCh (C:=C) (bm:=.ref LE::vb) (ini:=ini) rfl (I.ok.hd hc) (aAB (thn (he pins s σ H _ I h) λv s1 ⟨x,H1,I1,rx,a,d,H0,ex,eH,q⟩=>aAB (aFI (aAD ?_))))
 subst ex eH
 cases(show v=Value.ref a from rx)
 obtain⟨vs,sl,t0,z,z1,z0⟩:=XN.at I1.hok aW
 obtain⟨I2,x2⟩:=I1.flies
 exact⟨a,d,vs,sl,rfl,lP I1.kIn hxo,z,z1,hz.go pins σ _ _ ⟨a,_,C,d,rfl,I2,x2,aW,q⟩⟩
end
section
variable{g:Array GenState}{t:Nat}{os:OsState}{D:Addr}{oe:Obj}{bmD:List Value}{iniD:Option Value}{Q:Bool->Shared->Prop}
theorem excM(hC:XcO h C bm ini)(he:h.get? e=some oe)(hcls:oe.cls=.ref C)(hD:XcO h D bmD iniD)(hB:bmD.contains (.type "BaseException")=true)(hsub:(Value.ref C::bm).contains (.ref D)=true)(hq:Q true ⟨h,g,dr,t,os⟩) :
  wpAny M A (excMatches (.ref e) (.ref D)) Q E ⟨h,g,dr,t,os⟩:=by
 obtain⟨nm,qn,N,bs,hdct,sn,sub,ab,col,dd,k0,k1,k2,k3,k5,oC,_⟩:=hC
 obtain⟨nm',qn',N',bs',hdct',sn',sub',ab',col',dd',k0',k1',k2',k3',k5',oD,_⟩:=hD
 have hcB:(Value.ref D::bmD).contains (.type "BaseException")=true:=by rw[List.contains_cons,hB,Bool.or_true]
 have f:=tc_notTuple
 unfold excMatches
 repeat(first|(with_reducible refine aCT he ?_;rw[hcls])|with_reducible refine aCT oD ?_ |(with_reducible refine aEW oD ?_;rw[hcB])|(with_reducible refine aEW oC ?_;rw[hsub])|wp_step)
 exact hq
end
noncomputable section
def PEx(X:Cx)(e:Expr)(t:St->Hp->VK->(Addr->Hp->Prop)->Prop):Prop :=
 ∀(pins:List (Addr×Obj)) (s:Shared) (σ:St) (H:Hp) (Q:VK) (R:Addr->Hp->Prop),Inv X pins σ H s->t σ H Q R->wpAny (model X.prog X.w) X.A (eval e X.env) (EP X pins σ Q) (XE X pins σ R) s
def PBx(X:Cx)(b:List Stmt)(t:Ends->(Addr->Hp->Prop)->St->Hp->Prop):Prop :=
 ∀(pins:List (Addr×Obj)) (s:Shared) (σ:St) (H:Hp) (D:Ends) (R:Addr->Hp->Prop),Inv X pins σ H s->t D R σ H->wpAny (model X.prog X.w) X.A (execs b X.env) (SP X pins D) (XE X pins σ R) s
abbrev Cx.hnd(X:Cx)(e:Addr):Cx:={X with A:=X.A.mark (some (.ref e)),calm:=false,xe:=λ_ _=>False}
end
theorem Cx.Ok.hnd{X:Cx}(ok:X.Ok)(e:Addr):(X.hnd e).Ok :=
 ⟨ok.mod,ok.kind,ok.glob,ok.blt,ok.above,ok.inj,ok.has,ok.cab,(λz=>nomatch z),ok.frames,ok.stk,ok.exf,ok.bs,ok.bsz,ok.noex,ok.exfs,ok.funs,ok.frf⟩
variable{σ:St}
theorem Inv.hnd(I:Inv X pins σ H s)(e:Addr):Inv (X.hnd e) pins σ H s:=⟨I.ok.hnd e,I.os,I.bare,I.base,I.loc,I.cell,I.free,I.freeC,I.pin,I.hok,I.len⟩
theorem Inv.unhnd(ok:X.Ok)(I:Inv (X.hnd e) pins σ H s):Inv X pins σ H s:=⟨ok,I.os,I.bare,I.base,I.loc,I.cell,I.free,I.freeC,I.pin,I.hok,I.len⟩
theorem SP.unhnd{D:Ends}{f:Flow}{s':Shared}(ok:X.Ok)(h:SP (X.hnd e) pins D f s'):SP X pins D f s':=by
 cases f with
 |next=>obtain⟨σ',H',I,q⟩:=h;exact⟨σ',H',I.unhnd ok,q⟩
 |brk=>obtain⟨σ',H',I,q⟩:=h;exact⟨σ',H',I.unhnd ok,q⟩
 |cont=>obtain⟨σ',H',I,q⟩:=h;exact⟨σ',H',I.unhnd ok,q⟩
 |ret u=>obtain⟨v,σ',H',I,r,q⟩:=h;exact⟨v,σ',H',I.unhnd ok,r,q⟩
variable{n:Str}{pos:Pos}
theorem iG{Q:Unit->Shared->Prop}(I:Inv X pins σ H s)(hi:X.N[i]?=some n)(hN:X.N.Nodup)(hl:X.env.scope.names.lookup n=some .local)
  (h:∀s',Inv X pins (σ.set i none) H s'->Q () s'):wpAny M A (do bindName X.env n .none;unbindBehindTheSuite X.env n pos) Q E s:=by
 obtain⟨m,hn,hv⟩:=id I.loc
 have hcls:(X.env.scope.kind==.class || (X.env.scope.kind==.module&&X.env.locals != X.env.globals))=false:=by rw[I.ok.kind];rfl
 refine wpAny_nameGoes_keeps hl hn hcls λh' v nn same=>h _ ?_
 have nL:∀b o,X.s₀.heap.get? b=some o->b≠X.env.locals:=λb o q=>aAO (aAN (aAF q) I.ok.above)
 refine⟨I.ok,I.os,I.bare,⟨λb o q n hb hx=>(same.2 b (nL b o q)).trans (I.base.keep b o q n hb hx),λb o q n hb hx=>?_,I.base.free,λb o q hx=>?_,I.base.tups,I.base.frzs,I.base.tbls⟩,⟨_,nn,λj y u e1 e2 e3=>?_⟩,λy c q=>?_,I.free,I.freeC,λp hp=>?_,λb o q=>?_,by simpa using I.len⟩
 ·obtain⟨sl,z⟩:=I.base.slot b o q n hb hx
  exact⟨sl,(same.2 b (nL b o q)).trans z⟩
 ·obtain⟨o',z⟩:=I.base.there b o q hx
  exact⟨o',(same.2 b (nL b o q)).trans z⟩
 ·by_cases hj:j=i
  ·subst hj
   rw[List.getElem?_set_self' ]at e2
   cases z:σ[j]? <;> rw[z]at e2 <;> cases e2
  ·rw[aBQ (Ne.symm hj)]at e2
   obtain⟨u',r',q⟩:=hv j y u e1 e2 e3
   refine⟨u',r',?_⟩
   rcases q with⟨k,z⟩|⟨k,c,z,w⟩
   ·have:y≠n:=λz=>hj (lZ hN e1 (z▸hi))
    exact .inl ⟨k,by simp[this,z]⟩
   ·exact .inr ⟨k,c,z,w.sameBut same (I.cne y c z)⟩
 ·obtain⟨w',z⟩:=I.cell y c q
  exact⟨w',z.sameBut same (I.cne y c q)⟩
 ·obtain⟨z,n,ne,nf,dd⟩:=I.pin p hp
  exact⟨(same.2 p.1 ne).trans z,n,ne,nf,dd⟩
 ·refine(I.hok b o q).stay (λc u hc z=>(same.2 c ?_).trans z) (λ_ z=>z) λ_ _ z=>z
  rintro rfl
  rcases hc with rfl|hc
  ·have:=I.free;rw[q]at this;cases this
  ·have:=I.free;rw[hc]at this;cases this
structure XM(K:Frag)(C D:Addr):Prop where
 c:∃bm ini,xcB K C bm ini=true/\(Value.ref C::bm).contains (.ref D)=true
 d:∃bm ini,xcB K D bm ini=true/\bm.contains (.type "BaseException")=true
variable{b₀:Stmt}{suite:List Stmt}{np hpos:Pos}{tb:Ends->(Addr->Hp->Prop)->St->Hp->Prop}{ts:TS}
noncomputable def tTryAs(K:Frag)(Dc:Addr)(i:Nat)(tb:Ends->(Addr->Hp->Prop)->St->Hp->Prop)(ts:TS):TS:=λD σ H=>tb D (λa H'=>(∃C d,H' a=some (XO a C d)/\XM K C Dc) /\
 ts {nx:=λσ' H''=>D.nx (σ'.set i none) H'',rt:=D.rt,bk:=λσ' H''=>D.bk (σ'.set i none) H'',ct:=λσ' H''=>D.ct (σ'.set i none) H''} (σ.set i (some (.ref a))) H') σ H
theorem aAh{C':Addr}{d':Option Addr}(ok:HOk P w H h)(q:H a=some (XO a C d))(q':H a=some (XO a C' d')):C=C'/\d=d':=by
 obtain⟨_,_,z⟩:=XO.at ok q
 obtain⟨_,_,z'⟩:=XO.at ok q'
 rw[z]at z';cases z';exact⟨rfl,rfl⟩
theorem zP(hN:X.N.Nodup)(hb:PBx X body tb)(hs:∀a,PSs (X.hnd a) (b₀::suite) ts)(hm:X.mg cn=some (.ref Dc))(hi:X.N[i]?=some n:=by rfl)(hl:X.env.scope.names.lookup n=some .local:=by rfl)(hg:Gl X cn:=by rfl)(hst:X.stack=X.env::X.outer:=by rfl)(hfm:X.env.frame=some X.env.locals:=by rfl)(hdb:(cn==("__debug__":Str))=false:=by decide) :
  PS X (.Try body [.ExceptHandler (some (.Name cn np)) (some n) (b₀::suite) hpos] [] [] pos) (tTryAs X.K Dc i tb ts):=by
 intro pins s σ H D I h
 refine wpAny_Try_except (aCF (hb pins s σ H D _ I h) (λf s1 q=>?_) λev s1 ⟨a,H1,C,d,ee,I1,x1,hx,⟨C',d',hx',xm⟩,q⟩=>?_)
 ·cases f with
  |next=>exact aDY q
  |brk=>exact q
  |cont=>exact q
  |ret u=>exact q
 ·subst ee
  obtain⟨rfl,rfl⟩:=aAh I1.hok hx hx'
  refine I1.flight hst hfm I1.ok.frames x1 hx λh2 I2 x2=>?_
  refine wpAny_handleBy_cons (codeAny_handlers_test (gH (X:=X.hnd a) (I2.hnd a) hg hm ?_ hdb)) (by intro q;cases q)
  obtain⟨bm,ini,c1,c2⟩:=xm.c
  obtain⟨bmD,iniD,d1,d2⟩:=xm.d
  obtain⟨vs,sl,z⟩:=XO.at I2.hok hx
  refine excM (lP I2.kIn c1) z rfl (lP I2.kIn d1) d2 c2 ?_
  refine codeAny_handlers_suite_as (I2.again hst hfm x2 hx λh3 I3 x3=>?_)
  refine fR I3 hN hi (.inl hl) (v:=.ref a) rfl (λs4 I4=>?_) (.inr hl)
  refine aCF ((hs a) pins _ (σ.set i (some (.ref a))) H1 _ (I4.hnd a) q) (λf s5 q5=>?_) λ_ _ z=>z.elim
  have q5:=q5.unhnd I4.ok
  cases f with
  |next=>obtain⟨σ',H',I',q'⟩:=q5;exact iG I' hi hN hl λs6 I6=>⟨_,H',I6,q'⟩
  |brk=>obtain⟨σ',H',I',q'⟩:=q5;exact iG I' hi hN hl λs6 I6=>⟨_,H',I6,q'⟩
  |cont=>obtain⟨σ',H',I',q'⟩:=q5;exact iG I' hi hN hl λs6 I6=>⟨_,H',I6,q'⟩
  |ret u=>obtain⟨v,σ',H',I',r,q'⟩:=q5;exact iG I' hi hN hl λs6 I6=>⟨v,_,H',I6,r,q'⟩
variable{K:Frag}{c:Str}
theorem aBz(K:Frag):specialIn K (.builtin "object.__class__") "__get__"=some (some (.builtin "getset_descriptor.__get__")):=by with_unfolding_all rfl
theorem aDp(K:Frag):takesIn K (.builtin "object.__class__")=some true:=by with_unfolding_all rfl
theorem tG{a g:Value}(hc:(clsIn K C).isSome=true)(ha:findIn K (.ref C) name=some (some a))(hg:specialIn K a "__get__"=some (some g))(ht:takesIn K a=some true):findObj K C od name=some (.bind g a):=by
 obtain⟨cd,hc⟩:=Option.isSome_iff_exists.mp hc
 unfold findObj
 simp only[hc,ha,aFL,hg,ht]
theorem Xc.mro(F:Xc K c C LE)(b:Value):mroIn K C b=some ((Value.ref C::.ref LE::vb).contains b):=by
 obtain⟨cd,h1,_,h2⟩:=F.cd
 unfold mroIn
 rw[h1,aFL,h2]
 rfl
variable{ox:Obj}
theorem xclass{Q:Option Value->Shared->Prop}(F:Xc K c C LE)(X:K.In s.heap)(I:InstAt s.heap x ox C od)(h:Q (some (.ref C)) {s with toks:=s.toks+1}):wpAny (model prog w) A (getAttr? (.ref x) "__class__") Q E s:=by
 obtain⟨hp,gn,dr,tk,oz⟩:=s
 dsimp only at X I h
 obtain⟨cd,hc,_,hm⟩:=F.cd
 have hf:findObj K C od "__class__"=some (.bind (.builtin "getset_descriptor.__get__") (.builtin "object.__class__")):=tG (by rw[hc];rfl) F.cl (aBz K) (aDp K)
 have GA:=PySem.F.attr_ValueError.ga
 have hsub:Looks (model prog w) hp (isInstance (.ref x) (.type "BaseException")) true:=I.type.andThen (kT X hc hm _)
 unfold getAttr? getAttrBy? getAttrBy
 refine aAB (wpAny_mkText (aAB (aDV (aBL (aAB (I.type.at (aAB ((looks_findIn X F.ga).at ?_))))))))
 dsimp only
 rw[show(onTheHeap (Value.ref C)&&Value.builtin "BaseException.__getattribute__"==Value.builtin "object.__getattribute__")=false from by rw[show(Value.builtin "BaseException.__getattribute__"==Value.builtin "object.__getattribute__")=false from by decide +kernel,aEC],aAL (by decide)]
 unfold getAttrByItsOwn
 have hk:Looks (model prog w) hp (hookBefore (.ref C)) none:=looks_hook X (by rw[aAG (show onTheHeap (Value.ref C)=true from rfl)];exact F.gh)
 refine aAB (hk.at (aAB (aDV (aBL ?_))))
 unfold callGetattribute
 rw[show(false&&onTheHeap (Value.builtin "BaseException.__getattribute__"))=false from rfl,aAL (by decide)]
 unfold boundAndCalled
 rw[GA.bind]
 refine aAB (aAD ?_)
 show wpAny _ _ (call (.builtin "BaseException.__getattribute__") [.ref x,.str "__class__" tk]) _ _ _
 refine aEJ (aEN GA.plain PySem.F.entry_bexc_ga (@check_slot (model prog w) _ _ ⟨hp,gn,dr,tk+1,oz⟩ "BaseException.__getattribute__" "BaseException" "__getattribute__" (.ref x) [.str "__class__" tk] [] _ rJ nN hsub (PySem.F.args_bexc_ga (.ref x) (.str "__class__" tk)) ?_))
 unfold Builtin.«object.__getattribute__»
 refine aAB (aAD (aAB (aAD (aAB (I.type.at (aAB ((looks_find X I hf).at ?_)))))))
 show wpAny _ _ (holding [Value.builtin "object.__class__"] (call (.builtin "getset_descriptor.__get__") [.builtin "object.__class__",.ref x,.ref C]) >>= ret) _ _ _
 refine aAB (aBL (aEJ (class_get X I ?_ (aAD ?_))))
 ·have:=F.mro (.type "object");exact this
 ·show wpAny _ _ (handedOut (.ref C)) _ _ _
  rw[handedOut_of rfl]
  exact aAD (aAD h)
theorem qC(F:Xc K c C LE):KitX K (.ref x) (.ref C) (λh=>InstAt h x ox C od)where
 ty:=λ_ _ _ I=>I.type
 it:=λ_ _ X _=>by
  obtain⟨cd,hc,_⟩:=F.cd
  unfold clsIn at hc
  split at hc
  ·rename_i c' d' cd' sl' ho
   intro A' Q' E' s' k q
   unfold isType loadHead
   exact aAB (wpAny_loadPart (k _ _ (X _ _ ho)) (aAD q))
  ·cases hc
 ne:=λh tp dd its n sl X htp=>by
  obtain⟨cd,hc,_⟩:=F.cd
  refine Bool.eq_false_iff.mpr λq=>?_
  cases Value.ref.inj (aDL.mp q)
  unfold clsIn at hc
  split at hc
  ·rename_i c' d' cd' sl' ho
   cases(X _ _ ho).symm.trans htp
  ·cases hc
 ca:=λX I k=>xclass F X I k
noncomputable def clV:V->Option Value
 |.ref a=>some (.ref a)
 |.ty n=>some (.type n)
 |_=>none
theorem uW{v:V}{c:Value}(h:clV v=some c)(r:RelV v u):u=c:=by
 cases v <;> simp only[clV,aAJ,reduceCtorEq]at h <;> (subst h;exact r)
variable{σ:List (Option V)}
theorem rA{f:Str}{u:V}(I:Inv X pins σ H s)(he:H x=some (XO x C d))(hd:d=none\/∃dx fs,d=some dx/\H dx=some (.xd fs)):∃ox od,InstAt s.heap x ox C od:=by
 obtain⟨vs,sl,q⟩:=XO.at I.hok he
 rcases hd with rfl|⟨dx,fs,rfl,hx⟩
 ·exact⟨_,none,q,rfl,rfl,trivial⟩
 ·obtain⟨mA,n,_⟩:=(show ObjOk X.prog X.w H s.heap dx (.xd fs)from I.hok dx _ hx)
  obtain⟨od,ho,_⟩:=kQ n
  exact⟨_,some od,q,rfl,rfl,ho⟩
noncomputable section
def rIsX(K:Frag):List V->Hp->VK->Prop:=λxs H Q=>∃x C LE c d y cv b,xs=[.ref x,y]/\H x=some (XO x C d)/\(d=none\/∃dx fs,d=some dx/\H dx=some (.xd fs))/\Xc K c C LE/\clV y=some cv/\kitOne K (.ref C) cv=some b/\Q (.bl b) H
def rIsXs(K:Frag):List V->Hp->VK->Prop:=λxs H Q=>∃x C LE c d tp ys cvs b,xs=[.ref x,.ref tp]/\H x=some (XO x C d)/\(d=none\/∃dx fs,d=some dx/\H dx=some (.xd fs))/\Xc K c C LE/\H tp=some (.tup ys)/\ys.map clV=cvs.map some/\kitAny K (.ref C) cvs=some b/\Q (.bl b) H
theorem zH:CallR X (.builtin "isinstance") (rIsX X.K):=by
 intro pins s σ H xs us Q I r h
 obtain⟨x,C,LE,c,d,y,cv,b,ex,hx,hd,F,hy,ek,q⟩:=h
 subst ex
 obtain⟨u,w',rfl,r1,r2⟩:=Vals.two r
 cases(show u=Value.ref x from r1)
 cases uW hy r2
 obtain⟨ox,od,J⟩:=rA (f:=c) (u:=y) I hx hd
 exact kia_one (qC (od:=od) (ox:=ox) F) I.kIn J ek (λz=>nomatch z) λtk=>⟨.bl b,H,I.tok tk,rfl,q⟩
theorem pT:∀{ys:List V} {us cvs:List Value},ys.map clV=cvs.map some->Vals ys us->us=cvs
 |[],us,cvs,h,r=>by cases r;cases cvs with|nil=>rfl|cons=>simp at h
 |y::ys,us,cvs,h,r=>by
  cases r with
  |cons r1 r2 =>
   cases cvs with
   |nil=>simp at h
   |cons cv cvs =>
    simp only[aBM,List.cons.injEq]at h
    rw[uW h.1 r1,pT h.2 r2]
theorem vE:CallR X (.builtin "isinstance") (rIsXs X.K):=by
 intro pins s σ H xs us Q I r h
 obtain⟨x,C,LE,c,d,tp,ys,cvs,b,ex,hx,hd,F,ht,hy,ek,q⟩:=h
 subst ex
 obtain⟨u,w',rfl,r1,r2⟩:=Vals.two r
 cases(show u=Value.ref x from r1)
 cases(show w'=Value.ref tp from r2)
 obtain⟨_,its,rv,o,ho,oc,n,od'⟩:=(show ObjOk X.prog X.w H s.heap tp (.tup ys)from I.hok tp _ ht)
 cases pT hy rv
 obtain⟨ox,od,J⟩:=rA (f:=c) (u:=.non) I hx hd
 obtain⟨c0,d0,dt0,sl0⟩:=o
 dsimp only at oc od'
 subst oc od'
 exact kia_tup (qC (od:=od) (ox:=ox) F) I.kIn J ho ek (λz=>nomatch z) λtk=>⟨.bl b,H,I.tok tk,rfl,q⟩
def tXget(K:Frag)(te:TE)(f:Str):TE:=λσ H Q=>te σ H λv H1=>∃x C LE c dx y,v=.ref x/\H1 x=some (XO x C (some dx))/\H1 dx=some (.xd [(f,y)])/\Xc K c C LE/\findIn K (.ref C) f=some none/\(∀i,y≠.ty i)/\Q y H1
end
theorem aAr{e:Expr}(he:PE X e te)(hb:attributeBase e f X.env (eval e X.env)=eval e X.env:=by rfl):PE X (.Attribute e f pos) (tXget X.K te f):=by
 intro pins s σ H Q I h
 refine aAk hb (thn (he pins s σ H _ I h) λu s1 ⟨v,H1,I1,rx,x,C,LE,c,dx,y,ex,hx,hd,F,hn,ny,q⟩=>?_)
 subst ex
 cases(show u=Value.ref x from rx)
 obtain⟨vs,sl,z⟩:=XO.at I1.hok hx
 obtain⟨mA,n,hr⟩:=(show ObjOk X.prog X.w H1 s1.heap dx (.xd [(f,y)])from I1.hok dx _ hd)
 have hf:=hr f
 simp only[List.lookup,beq_self_eq_true]at hf
 cases hm:mA f with
 |none=>rw[hm]at hf;exact hf.elim
 |some w =>
  rw[hm]at hf
  obtain⟨cd,hc,_,hmro⟩:=F.cd
  refine xget I1.kIn z n hc hmro F.hd F.ga F.gh hn hm ?_ ⟨y,H1,I1.tok _,hf,q⟩
  cases y <;> first|(cases hf;rfl)|(obtain⟨t,rfl⟩:=hf;rfl)|(cases(show w=_ from hf);rfl)
end L2
namespace EV
open L2
noncomputable abbrev St:=L2.St
inductive D where
 |non|bl (b:Bool)|int (i:Int)|str (x:Str)|tup (xs:List D)|lst (xs:List D)|fz (xs:List D)
 |exn (c f:Str) (xs:List D)
inductive W where
 |d (x:D)|ref (i:Nat)
 |ob (c:Str) (i:Nat)|nest (js:List Nat)
noncomputable section
abbrev Lc:=List (Option W)
abbrev Mm:=List (List D)
abbrev Exn:=D
end
inductive Oc(α:Type)where
 |ok (a:α) (M:Mm)|ex (x:Exn) (M:Mm)|bad
noncomputable def Oc.bind(o:Oc α)(k:α->Mm->Oc β):Oc β:=match o with
 |.ok a M=>k a M
 |.ex x M=>.ex x M
 |.bad=>.bad
@[simp]theorem dR(a:α)(M:Mm)(k:α->Mm->Oc β):(Oc.ok a M).bind k=k a M:=rfl
@[simp]theorem aBr(x:Exn)(M:Mm)(k:α->Mm->Oc β):(Oc.ex x M:Oc α).bind k=.ex x M:=rfl
@[simp]theorem aIr(k:α->Mm->Oc β):(Oc.bad:Oc α).bind k=.bad:=rfl
section
variable(K:Frag)(μ:List Addr)(H:Hp)
noncomputable def FzL(a:Addr)(vs:List V):Prop:=(∃o,H a=some (.frz o (.lst vs))) \/
 ∃(o:Obj) (its:Array Value) (n:Nat),K.lookup a=some o/\o.cls=.type "list"/\o.dict=none/\o.data=.seq its n/\its.size<=sizeLine/\Vals vs its.toList
noncomputable def XFl(C:Addr)(f:Str)(d:Option Addr)(vs:List V):Prop:=(d=none/\vs=[])\/∃dx u,d=some dx/\vs=[u]/\H dx=some (.xd [(f,u)])/\PySem.W.findIn K (.ref C) f=some none
mutual
noncomputable def Rp:D->V->Prop
 |.non,v=>v=.non
 |.bl b,v=>v=.bl b
 |.int i,v=>v=.int i
 |.str x,v=>v=.str x
 |.tup ds,v=>∃a vs,v=.ref a/\H a=some (.tup vs)/\Rps ds vs
 |.lst ds,v=>∃a vs,v=.ref a/\H a=some (.lst vs)/\a∉μ/\Rps ds vs
 |.fz ds,v=>∃a vs,v=.ref a/\FzL K H a vs/\Rps ds vs
 |.exn c f ds,v=>∃a vs C LE d,v=.ref a/\H a=some (XO a C d)/\Xc K c C LE/\XFl K H C f d vs/\Rps ds vs
noncomputable def Rps:List D->List V->Prop
 |[],vs=>vs=[]
 |d::ds,vs=>∃v r,vs=v::r/\Rp d v/\Rps ds r
end
noncomputable section
def IsL(H:Hp)(a:Addr):Prop:=∃vs,H a=some (.lst vs)
def IsO(c:Str)(H:Hp)(a:Addr):Prop:=(∃C dx fs,H a=some (.ins C dx fs)/\nsIn K mainGlobals c=some (some (.ref C)))\/(c="dict"/\∃kvs,H a=some (.dT kvs))
def Rjs:List Nat->List V->Prop
 |[],vs=>vs=[]
 |j::js,vs=>∃a r,vs=.ref a::r/\μ[j]?=some a/\IsL H a/\Rjs js r
def Rw:W->V->Prop
 |.d x,v=>Rp K μ H x v
 |.ref i,v=>∃a,μ[i]?=some a/\v=.ref a/\IsL H a
 |.ob c i,v=>∃a,μ[i]?=some a/\v=.ref a/\IsO K c H a
 |.nest js,v=>∃a vs,v=.ref a/\H a=some (.lst vs)/\a∉μ/\Rjs μ H js vs
def Frs:List D->List (Str×V)->Prop
 |[],fs=>fs=[]
 |d::ds,fs=>∃f x v r,d=.tup [.str f,x]/\fs=(f,v)::r/\Rp K μ H x v/\Frs ds r
def kyD:Key->D
 |.inl i=>.int i
 |.inr x=>.str x
def Krs:List D->List (List Key×V)->Prop
 |[],fs=>fs=[]
 |d::ds,fs=>∃k x v r,d=.tup [.tup (k.map kyD),x]/\fs=(k,v)::r/\Rp K μ H x v/\Krs ds r
def CelO:HO->List D->Prop
 |.lst vs,ds=>Rps K μ H ds vs
 |.ins _ _ fs,ds=>Frs K μ H ds fs
 |.dT kvs,ds=>Krs K μ H ds kvs
 |_,_=>False
def Rws:List W->List V->Prop
 |[],vs=>vs=[]
 |d::ds,vs=>∃v r,vs=v::r/\Rw K μ H d v/\Rws ds r
end
structure HR(M:Mm):Prop where
 len:μ.length=M.length
 nd:μ.Nodup
 ent:∀(i:Nat) (a:Addr) (ds:List D),μ[i]?=some a->M[i]?=some ds->∃o,H a=some o/\CelO K μ H o ds
structure LR(L:Lc)(σ:St):Prop where
 len:L.length=σ.length
 ent:∀(i:Nat) (w:W),L[i]?=some (some w)->∃v,σ[i]?=some (some v)/\Rw K μ H w v
end
structure SameK(o o':HO):Prop where
 l:∀vs,o=.lst vs->∃us,o'=.lst us
 i:∀C dx fs,o=.ins C dx fs->∃gs,o'=.ins C dx gs
 t:∀kvs,o=.dT kvs->∃ls,o'=.dT ls
variable{o:HO}
theorem SameK.refl:SameK o o:=⟨λ_ h=>⟨_,h⟩,λ_ _ _ h=>⟨_,h⟩,λ_ h=>⟨_,h⟩⟩
theorem SameK.trans{p q:HO}(a:SameK o p)(b:SameK p q):SameK o q:=⟨λ_ h=>let⟨_,h⟩:=a.l _ h;b.l _ h,λ_ _ _ h=>let⟨_,h⟩:=a.i _ _ _ h;b.i _ _ _ h,λ_ h=>let⟨_,h⟩:=a.t _ h;b.t _ h⟩
structure Ext(μ:List Addr)(H:Hp)(μ':List Addr)(H':Hp):Prop where
 keep:∀a o,a∉μ->H a=some o->H' a=some o
 new:∀a,a∈μ'->a∈μ\/H a=none
 pre:∀(i:Nat) (a:Addr),μ[i]?=some a->μ'[i]?=some a
 kin:∀a o,H a=some o->∃o',H' a=some o'/\SameK o o'
variable{K:Frag}{μ2:List Addr}{M:Mm}
theorem FzL.sq(h:FzL K H a vs):SqL K H a vs:=by
 rcases h with⟨o,h⟩|h
 ·exact .inl (.inr ⟨o,h⟩)
 ·exact .inr h
theorem Ext.refl:Ext μ H μ H:=⟨λ_ _ _ h=>h,λ_ h=>.inl h,λ_ _ h=>h,λ_ _ h=>⟨_,h,.refl⟩⟩
theorem Ext.out(e:Ext μ H μ1 H1)(h:H a=some o)(n:a∉μ):a∉μ1:=λz=>by
 rcases e.new a z with z|z
 ·exact n z
 ·rw[h]at z;cases z
theorem Ext.trans(e:Ext μ H μ1 H1)(f:Ext μ1 H1 μ2 H2):Ext μ H μ2 H2 where
 keep:=λa o n h=>f.keep a o (e.out h n) (e.keep a o n h)
 new:=λa h=>by
  rcases f.new a h with h|h
  ·exact e.new a h
  ·by_cases n:a∈μ
   ·exact .inl n
   ·cases q:H a with
    |none=>exact .inr rfl
    |some o=>rw[e.keep a o n q]at h;cases h
 pre:=λi a h=>f.pre i a (e.pre i a h)
 kin:=λa o h=>let⟨_,h1,k1⟩:=e.kin a o h;let⟨_,h2,k2⟩:=f.kin a _ h1;⟨_,h2,k1.trans k2⟩
noncomputable def MutO:HO->Prop
 |.lst _=>True
 |.ins _ _ _=>True
 |.dT _=>True
 |_=>False
theorem CelO.mut{ds:List D}(h:CelO K μ H o ds):MutO o:=by cases o <;> first|exact h.elim|trivial
noncomputable def Lsts(μ:List Addr)(H:Hp):Prop:=∀a∈μ,∃o,H a=some o/\MutO o
theorem HR.lsts(h:HR K μ H M):Lsts μ H:=λa ha=>by
 obtain⟨i,hi,e⟩:=aDM.mp ha
 have hM:i < M.length:=h.len▸hi
 obtain⟨vs,q,m⟩:=h.ent i a M[i] (by rw[List.getElem?_eq_getElem hi,e]) (by simp[hM])
 exact⟨vs,q,m.mut⟩
theorem FzL.ext(l:Lsts μ H)(e:Ext μ H μ1 H1)(h:FzL K H a vs):FzL K H1 a vs:=by
 rcases h with⟨o,h⟩|h
 ·exact .inl ⟨o,e.keep a _ (λz=>by obtain⟨vs,q,m⟩:=l a z;rw[h]at q;cases q;exact m) h⟩
 ·exact .inr h
theorem XFl.ext{f:Str}(l:Lsts μ H)(e:Ext μ H μ1 H1)(h:XFl K H C f d vs):XFl K H1 C f d vs:=by
 rcases h with h|⟨dx,u,h1,h2,h3,h4⟩
 ·exact .inl h
 ·exact .inr ⟨dx,u,h1,h2,e.keep dx _ (λz=>by obtain⟨vs,q,m⟩:=l dx z;rw[h3]at q;cases q;exact m) h3,h4⟩
mutual
theorem Rp.ext(l:Lsts μ H)(e:Ext μ H μ1 H1):∀(d:D) (v:V),Rp K μ H d v->Rp K μ1 H1 d v
 |.non,v,h=>by simpa[Rp]using h
 |.bl b,v,h=>by simpa[Rp]using h
 |.int b,v,h=>by simpa[Rp]using h
 |.str b,v,h=>by simpa[Rp]using h
 |.tup ds,v,h=>by
  simp only[Rp]at h ⊢
  obtain⟨a,vs,e1,e2,e3⟩:=h
  exact⟨a,vs,e1,e.keep _ _ (λz=>by obtain⟨us,q,m⟩:=l a z;rw[e2]at q;cases q;exact m) e2,Rps.ext l e ds vs e3⟩
 |.lst ds,v,h=>by
  simp only[Rp]at h ⊢
  obtain⟨a,vs,e1,e2,n,e3⟩:=h
  exact⟨a,vs,e1,e.keep _ _ n e2,e.out e2 n,Rps.ext l e ds vs e3⟩
 |.fz ds,v,h=>by
  simp only[Rp]at h ⊢
  obtain⟨a,vs,e1,e2,e3⟩:=h
  exact⟨a,vs,e1,FzL.ext l e e2,Rps.ext l e ds vs e3⟩
 |.exn c f ds,v,h=>by
  simp only[Rp]at h ⊢
  obtain⟨a,vs,C,LE,d,e1,e2,e3,e4,e5⟩:=h
  exact⟨a,vs,C,LE,d,e1,e.keep _ _ (λz=>by obtain⟨us,q,m⟩:=l a z;rw[e2]at q;cases q;exact m) e2,e3,XFl.ext l e e4,Rps.ext l e ds vs e5⟩
theorem Rps.ext(l:Lsts μ H)(e:Ext μ H μ1 H1):∀(ds:List D) (vs:List V),Rps K μ H ds vs->Rps K μ1 H1 ds vs
 |[],vs,h=>by simpa[Rps]using h
 |d::ds,vs,h=>by
  simp only[Rps]at h ⊢
  obtain⟨v,r,e1,e2,e3⟩:=h
  exact⟨v,r,e1,Rp.ext l e d v e2,Rps.ext l e ds r e3⟩
end
theorem IsL.ext(e:Ext μ H μ1 H1)(h:IsL H a):IsL H1 a:=by
 obtain⟨vs,h⟩:=h
 obtain⟨o,h1,k⟩:=e.kin a _ h
 obtain⟨us,rfl⟩:=k.l _ rfl
 exact⟨us,h1⟩
theorem IsO.ext(e:Ext μ H μ1 H1){c:Str}(h:IsO K c H a):IsO K c H1 a:=by
 rcases h with⟨C,dx,fs,h,n⟩|⟨hc,kvs,h⟩
 ·obtain⟨o,h1,k⟩:=e.kin a _ h
  obtain⟨gs,rfl⟩:=k.i _ _ _ rfl
  exact .inl ⟨C,dx,gs,h1,n⟩
 ·obtain⟨o,h1,k⟩:=e.kin a _ h
  obtain⟨gs,rfl⟩:=k.t _ rfl
  exact .inr ⟨hc,gs,h1⟩
theorem Rjs.ext(e:Ext μ H μ1 H1):∀{js:List Nat} {vs:List V},Rjs μ H js vs->Rjs μ1 H1 js vs
 |[],_,h=>h
 |_::_,_,⟨a,r,e1,e2,e3,e4⟩=>⟨a,r,e1,e.pre _ _ e2,e3.ext e,Rjs.ext e e4⟩
theorem Frs.ext(l:Lsts μ H)(e:Ext μ H μ1 H1):∀{ds:List D} {fs:List (Str×V)},Frs K μ H ds fs->Frs K μ1 H1 ds fs
 |[],_,h=>h
 |_::_,_,⟨f,x,v,r,e1,e2,e3,e4⟩=>⟨f,x,v,r,e1,e2,Rp.ext l e _ _ e3,Frs.ext l e e4⟩
theorem Krs.ext(l:Lsts μ H)(e:Ext μ H μ1 H1):∀{ds:List D} {fs:List (List Key×V)},Krs K μ H ds fs->Krs K μ1 H1 ds fs
 |[],_,h=>h
 |_::_,_,⟨f,x,v,r,e1,e2,e3,e4⟩=>⟨f,x,v,r,e1,e2,Rp.ext l e _ _ e3,Krs.ext l e e4⟩
theorem CelO.ext(l:Lsts μ H)(e:Ext μ H μ1 H1){o:HO}{ds:List D}(h:CelO K μ H o ds):CelO K μ1 H1 o ds:=by
 cases o <;> first|exact h.elim|skip
 ·exact Rps.ext l e _ _ h
 ·exact Krs.ext l e h
 ·exact Frs.ext l e h
theorem Rw.ext(l:Lsts μ H)(e:Ext μ H μ1 H1){w:W}{v:V}(h:Rw K μ H w v):Rw K μ1 H1 w v:=by
 cases w with
 |d x=>exact Rp.ext l e x v h
 |ref i=>obtain⟨a,h1,h2,h3⟩:=h;exact⟨a,e.pre i a h1,h2,h3.ext e⟩
 |ob c i=>obtain⟨a,h1,h2,h3⟩:=h;exact⟨a,e.pre i a h1,h2,h3.ext e⟩
 |nest js=>obtain⟨a,vs,h1,h2,h3,h4⟩:=h;exact⟨a,vs,h1,e.keep _ _ h3 h2,e.out h2 h3,h4.ext e⟩
theorem LR.ext(l:Lsts μ H)(e:Ext μ H μ1 H1){L:Lc}{σ:St}(h:LR K μ H L σ):LR K μ1 H1 L σ :=
 ⟨h.len,λi w q=>let⟨v,q1,q2⟩:=h.ent i w q;⟨v,q1,Rw.ext l e q2⟩⟩
theorem Rps.length:∀{ds:List D} {vs:List V},Rps K μ H ds vs->ds.length=vs.length
 |[],_,h=>by simp only[Rps]at h;subst h;rfl
 |_::_,_,h=>by simp only[Rps]at h;obtain⟨v,r,e1,_,e3⟩:=h;subst e1;simp[Rps.length e3]
theorem Rps.get:∀{ds:List D} {vs:List V} {i:Nat} {d:D},Rps K μ H ds vs->ds[i]?=some d->∃v,vs[i]?=some v/\Rp K μ H d v
 |[],_,_,_,_,q=>by simp at q
 |_::_,_,0,_,h,q=>by simp only[Rps]at h;obtain⟨v,r,e1,e2,e3⟩:=h;simp at q;subst q e1;exact⟨v,rfl,e2⟩
 |_::_,_,i+1,_,h,q=>by
  simp only[Rps]at h;obtain⟨v,r,e1,e2,e3⟩:=h;subst e1
  obtain⟨u,q1,q2⟩:=Rps.get (i:=i) e3 (by simpa using q)
  exact⟨u,by simpa using q1,q2⟩
theorem Rps.nil:Rps K μ H [] []:=by simp[Rps]
theorem Rps.cons{d:D}{v:V}{ds:List D}{vs:List V}(h:Rp K μ H d v)(t:Rps K μ H ds vs):Rps K μ H (d::ds) (v::vs):=by simp only[Rps];exact⟨v,vs,rfl,h,t⟩
theorem Rps.append:∀{ds es:List D} {vs us:List V},Rps K μ H ds vs->Rps K μ H es us->Rps K μ H (ds++es) (vs++us)
 |[],_,_,_,h,t=>by simp only[Rps]at h;subst h;exact t
 |_::_,_,_,_,h,t=>by simp only[Rps]at h;obtain⟨v,r,e1,e2,e3⟩:=h;subst e1;exact .cons e2 (Rps.append e3 t)
theorem Rps.drop:∀{ds:List D} {vs:List V} (n:Nat),Rps K μ H ds vs->Rps K μ H (ds.drop n) (vs.drop n)
 |_,_,0,h=>by simpa using h
 |[],_,n+1,h=>by simp only[Rps]at h;subst h;exact .nil
 |_::_,_,n+1,h=>by simp only[Rps]at h;obtain⟨v,r,e1,e2,e3⟩:=h;subst e1;simpa using Rps.drop n e3
theorem Rps.take:∀{ds:List D} {vs:List V} (n:Nat),Rps K μ H ds vs->Rps K μ H (ds.take n) (vs.take n)
 |_,_,0,h=>by simpa using Rps.nil
 |[],_,n+1,h=>by simp only[Rps]at h;subst h;exact .nil
 |_::_,_,n+1,h=>by simp only[Rps]at h;obtain⟨v,r,e1,e2,e3⟩:=h;subst e1;simpa using Rps.cons e2 (Rps.take n e3)
theorem Rps.set{d:D}{v:V}(q:Rp K μ H d v):∀{ds:List D} {vs:List V} (n:Nat),Rps K μ H ds vs->Rps K μ H (ds.set n d) (vs.set n v)
 |[],_,n,h=>by simp only[Rps]at h;subst h;simpa using Rps.nil
 |_::_,_,0,h=>by simp only[Rps]at h;obtain⟨u,r,e1,e2,e3⟩:=h;subst e1;simpa using Rps.cons q e3
 |_::_,_,n+1,h=>by simp only[Rps]at h;obtain⟨u,r,e1,e2,e3⟩:=h;subst e1;simpa using Rps.cons e2 (Rps.set q n e3)
theorem Rps.dropLast{ds:List D}{vs:List V}(h:Rps K μ H ds vs):Rps K μ H ds.dropLast vs.dropLast:=by
 rw[List.dropLast_eq_take,List.dropLast_eq_take,<- h.length];exact h.take _
theorem Rps.rep{ds:List D}{vs:List V}(h:Rps K μ H ds vs):∀k:Nat,Rps K μ H (List.replicate k ds).flatten (List.replicate k vs).flatten
 |0=>by simpa using Rps.nil
 |k+1=>by simpa[aCD]using h.append (h.rep k)
theorem Rps.ints:Rps K μ H (ns.map D.int) (ns.map V.int):=by
 induction ns with
 |nil=>exact .nil
 |cons n r ih=>exact .cons (by simp[Rp]) ih
theorem Rws.length:∀{ws:List W} {vs:List V},Rws K μ H ws vs->ws.length=vs.length
 |[],_,h=>by cases h;rfl
 |_::_,_,⟨v,r,e1,_,e3⟩=>by subst e1;simp[Rws.length e3]
theorem Rws.get:∀{ws:List W} {vs:List V} {i:Nat} {w:W},Rws K μ H ws vs->ws[i]?=some w->∃v,vs[i]?=some v/\Rw K μ H w v
 |[],_,_,_,_,q=>by simp at q
 |_::_,_,0,_,⟨v,r,e1,e2,e3⟩,q=>by simp at q;subst q e1;exact⟨v,rfl,e2⟩
 |_::_,_,i+1,_,⟨v,r,e1,e2,e3⟩,q=>by
  subst e1
  obtain⟨u,q1,q2⟩:=Rws.get (i:=i) e3 (by simpa using q)
  exact⟨u,by simpa using q1,q2⟩
variable{p:Addr}
theorem HR.out(h:HR K μ H M)(hp:H p=none):p∉μ:=λz=>by
 obtain⟨vs,q,_⟩:=h.lsts p z
 rw[hp]at q;cases q
theorem eK(h:HR K μ H M)(hp:H p=none):Ext μ H μ (upd H p o) :=
 ⟨λa u n q=>by rw[aP (bA q hp)];exact q,λa q=>.inl q,λ_ _ q=>q,λa u q=>⟨u,by rw[aP (bA q hp)];exact q,.refl⟩⟩
theorem HR.lay(h:HR K μ H M)(hp:H p=none):HR K μ (upd H p o) M where
 len:=h.len
 nd:=h.nd
 ent:=λi a ds q1 q2=>by
  obtain⟨vs,q3,q4⟩:=h.ent i a ds q1 q2
  exact⟨vs,by rw[aP (bA q3 hp)];exact q3,CelO.ext h.lsts (eK h hp) q4⟩
theorem pV(h:HR K μ H M)(hp:H p=none):Ext μ H (μ++[p]) (upd H p o)where
 keep:=λa u n q=>by rw[aP (bA q hp)];exact q
 new:=λa q=>by
  rcases aCE.mp q with q|q
  ·exact .inl q
  ·rw[aCG]at q;subst q;exact .inr hp
 pre:=λi a q=>by
  rw[aAW (aAC.mp q).1];exact q
 kin:=λa u q=>⟨u,by rw[aP (bA q hp)];exact q,.refl⟩
theorem uS(h:HR K μ H M)(hp:H p=none):Ext μ H (μ++[p]) (upd H p (.lst vs)):=pV h hp
theorem HR.newO(h:HR K μ H M){ds:List D}(hp:H p=none)(r:CelO K μ H o ds):HR K (μ++[p]) (upd H p o) (M++[ds])where
 len:=by simp[h.len]
 nd:=List.nodup_append.mpr ⟨h.nd,by simp,λa ha b hb=>by rw[aCG]at hb;subst hb;rintro rfl;exact h.out hp ha⟩
 ent:=λi a es q1 q2=>by
  have x:=pV (o:=o) h hp
  by_cases hi:i < μ.length
  ·rw[aAW hi]at q1
   rw[aAW (by rw[<- h.len];exact hi)]at q2
   obtain⟨us,q3,q4⟩:=h.ent i a es q1 q2
   exact⟨us,by rw[aP (bA q3 hp)];exact q3,CelO.ext h.lsts x q4⟩
  ·have:i=μ.length:=by
    have:=(aAC.mp q1).1
    simp at this;lia
   subst this
   rw[aBZ (aAH _)]at q1
   rw[h.len,aBZ (aAH _)]at q2
   simp at q1 q2
   subst q1 q2
   exact⟨o,aW,CelO.ext h.lsts x r⟩
theorem HR.new(h:HR K μ H M){ds:List D}(hp:H p=none)(r:Rps K μ H ds vs):HR K (μ++[p]) (upd H p (.lst vs)) (M++[ds]):=h.newO hp (o:=.lst vs) r
theorem qS{o':HO}(q:μ[i]?=some a)(ho:H a=some o')(k:SameK o' o):Ext μ H μ (upd H a o) :=
 ⟨λb u n q'=>by rw[aP (λz=>n (by subst z;exact aDO q))];exact q',λa q=>.inl q,λ_ _ q=>q,λb u q'=>by
  by_cases e:b=a
  ·subst e;rw[ho]at q';cases q';exact⟨o,aW,k⟩
  ·exact⟨u,by rw[aP e];exact q',.refl⟩⟩
theorem SameK.lst{vs us:List V}:SameK (.lst vs) (.lst us):=⟨λ_ _=>⟨us,rfl⟩,λ_ _ _ h=>(nomatch h),λ_ h=>(nomatch h)⟩
theorem dI(q:μ[i]?=some a)(hl:IsL H a:=by first|assumption|exact⟨_,by assumption⟩):Ext μ H μ (upd H a (.lst vs)):=let⟨_,h⟩:=hl;qS q h .lst
theorem HR.setO(h:HR K μ H M){ds:List D}{o':HO}(q:μ[i]?=some a)(ho:H a=some o')(k:SameK o' o)(r:CelO K μ H o ds):HR K μ (upd H a o) (M.set i ds)where
 len:=by simp[h.len]
 nd:=h.nd
 ent:=λj b es q1 q2=>by
  have x:=qS (H:=H) (o:=o) q ho k
  by_cases hj:i=j
  ·subst hj
   rw[q]at q1;cases q1
   have hlt:i < M.length:=by rw[<- h.len];exact(aAC.mp q).1
   rw[aBN hlt]at q2;cases q2
   exact⟨o,aW,CelO.ext h.lsts x r⟩
  ·rw[aBQ hj]at q2
   obtain⟨us,q3,q4⟩:=h.ent j b es q1 q2
   have hb:b≠a:=by
    rintro rfl
    have h1:=(aAC.mp q).1
    have h2:=(aAC.mp q1).1
    have e1:=(aAC.mp q).2
    have e2:=(aAC.mp q1).2
    have pw:=aCR.mp h.nd
    rcases Nat.lt_or_gt_of_ne hj with l|l
    ·exact pw i j h1 h2 l (e1.trans e2.symm)
    ·exact pw j i h2 h1 l (e2.trans e1.symm)
   exact⟨us,by rw[aP hb];exact q3,CelO.ext h.lsts x q4⟩
theorem HR.set(h:HR K μ H M){i:Nat}{a:Addr}{ds:List D}{vs:List V}(q:μ[i]?=some a)(r:Rps K μ H ds vs)(hl:IsL H a:=by first|assumption|exact⟨_,by assumption⟩):HR K μ (upd H a (.lst vs)) (M.set i ds):=let⟨_,e⟩:=hl;h.setO q e .lst (o:=.lst vs) r
theorem HR.atO(h:HR K μ H M){ds:List D}(q:M[i]?=some ds):∃a o,μ[i]?=some a/\H a=some o/\CelO K μ H o ds:=by
 have hlt:i < μ.length:=by rw[h.len];exact(aAC.mp q).1
 obtain⟨vs,q1,q2⟩:=h.ent i μ[i] ds (by simp[hlt]) q
 exact⟨μ[i],vs,by simp[hlt],q1,q2⟩
theorem HR.at(h:HR K μ H M){i:Nat}{ds:List D}(q:M[i]?=some ds){a':Addr}(qa:μ[i]?=some a')(hl:IsL H a':=by assumption):∃a vs,μ[i]?=some a/\H a=some (.lst vs)/\Rps K μ H ds vs:=by
 obtain⟨a,o,q1,q2,q3⟩:=h.atO q
 rw[qa]at q1;cases q1
 obtain⟨vs,hl⟩:=hl
 rw[hl]at q2;cases q2
 exact⟨a',vs,qa,hl,q3⟩
structure Zt where
 z:Exn->Mm->List Addr->Hp->Prop
 mono:∀{x M μ H μ' H':_},Ext μ H μ' H'->z x M μ H->z x M μ' H'
noncomputable def Z0:Zt:=⟨λ_ _ _ _=>False,λ_ h=>h⟩
noncomputable def Pst(K:Frag)(Z:Zt)(μ:List Addr)(H:Hp)(o:Oc α)(Q:List Addr->Hp->Mm->α->Prop):Prop:=match o with
 |.ok a M'=>∀μ' H',Ext μ H μ' H'->HR K μ' H' M'->Q μ' H' M' a
 |.ex x M'=>Z.z x M' μ H
 |.bad=>False
variable{α β:Type}{K:Frag}{Z:Zt}{o:Oc α}{Q Q':List Addr->Hp->Mm->α->Prop}
theorem Pst.mono(e:Ext μ H μ1 H1)(h:Pst K Z μ H o Q):Pst K Z μ1 H1 o Q:=by
 cases o with
 |ok a M=>exact λμ' H' e' hr=>h μ' H' (e.trans e') hr
 |ex x M=>exact Z.mono e h
 |bad=>exact h
theorem Pst.imp(h:Pst K Z μ H o Q)(f:∀μ' H' M' a,Ext μ H μ' H'->HR K μ' H' M'->o=.ok a M'->Q μ' H' M' a->Q' μ' H' M' a):Pst K Z μ H o Q':=by
 cases o with
 |ok a M=>exact λμ' H' e' hr=>f μ' H' M a e' hr rfl (h μ' H' e' hr)
 |ex x M=>exact h
 |bad=>exact h
theorem Pst.bind{k:α->Mm->Oc β}{R:List Addr->Hp->Mm->β->Prop}(h:Pst K Z μ H (o.bind k) R):Pst K Z μ H o (λμ' H' M' a=>Pst K Z μ' H' (k a M') R):=by
 cases o with
 |ok a M=>exact λμ' H' e' hr=>Pst.mono e' h
 |ex x M=>exact h
 |bad=>exact h
noncomputable section
abbrev FE:=Lc->Mm->Oc W
abbrev FT:=Lc->Mm->Oc Bool
abbrev FA:=Lc->Mm->Oc (List W)
end
inductive Out where
 |nx (L:Lc)|bk (L:Lc)|ct (L:Lc)|rt (w:W)
noncomputable section
abbrev FS:=Lc->Mm->Oc Out
abbrev FG:=W->Lc->Mm->Oc Lc
abbrev FGs:=List D->Lc->Mm->Oc Lc
abbrev Fn:=List W->Mm->Oc W
end
section
variable(K:Frag)(Z:Zt)
noncomputable section
def lift(f:FE):TE:=λσ H Q=>∃μ M L,HR K μ H M/\LR K μ H L σ/\Pst K Z μ H (f L M) λμ' H' _ w=>∀v,Rw K μ' H' w v->Q v H'
def liftT(f:FT):TT:=λσ H Q=>∃μ M L,HR K μ H M/\LR K μ H L σ/\Pst K Z μ H (f L M) λμ' H' M' b=>Q b H'
def liftA(f:FA):TA:=λσ H Q=>∃μ M L,HR K μ H M/\LR K μ H L σ/\Pst K Z μ H (f L M) λμ' H' _ ws=>∀vs,Rws K μ' H' ws vs->Q vs H'
end
end
section
variable(X:Cx)(K:Frag)(Z:Zt)
noncomputable section
abbrev Sk(K:Frag)(E:Ends)(μ':List Addr)(H':Hp)(_:Mm)(o:Out):Prop:=match o with
 |.nx L'=>∀σ',LR K μ' H' L' σ'->E.nx σ' H'
 |.bk L'=>∀σ',LR K μ' H' L' σ'->E.bk σ' H'
 |.ct L'=>∀σ',LR K μ' H' L' σ'->E.ct σ' H'
 |.rt w=>∀v,Rw K μ' H' w v->E.rt v H'
def liftS(F:FS):TS:=λE σ H=>∃μ M L,HR K μ H M/\LR K μ H L σ/\Pst K Z μ H (F L M) (Sk K E)
def liftG(g:FG):TG:=λv σ H Q=>∃μ M L w,HR K μ H M/\LR K μ H L σ/\Rw K μ H w v/\Pst K Z μ H (g w L M) λμ' H' _ L'=>∀σ',LR K μ' H' L' σ'->Q σ' H'
def liftGs(g:FGs):TGs:=λvs σ H Q=>∃μ M L ds,HR K μ H M/\LR K μ H L σ/\Rps K μ H ds vs/\Pst K Z μ H (g ds L M) λμ' H' _ L'=>∀σ',LR K μ' H' L' σ'->Q σ' H'
end
structure Ev(e:Expr)(f:FE):Prop where
 k:X.K=K
 h:PE X e (lift K Z f)
structure Et(e:Expr)(f:FT):Prop where
 k:X.K=K
 h:PT X e (liftT K Z f)
structure Ew(e:Expr)(f:FT):Prop where
 k:X.K=K
 h:PW X e (liftT K Z f)
structure Ea(es:List Expr)(f:FA):Prop where
 k:X.K=K
 h:PA X es (liftA K Z f)
structure Es(st:Stmt)(F:FS):Prop where
 k:X.K=K
 h:PS X st (liftS K Z F)
structure Ess(st:List Stmt)(F:FS):Prop where
 k:X.K=K
 h:PSs X st (liftS K Z F)
structure Eg(tg:Expr)(g:FG):Prop where
 k:X.K=K
 h:PG X tg (liftG K Z g)
structure Egs(tg:List Expr)(g:FGs):Prop where
 k:X.K=K
 h:PGs X tg (liftGs K Z g)
end
section
variable{K:Frag}{e a b:Expr}{es:List Expr}{pos:Pos}{f fa fb fc:FE}{t ta tb:FT}{fs:FA}
theorem cqE{t t':TE}(h:PE X e t)(i:∀σ H Q,t' σ H Q->t σ H Q):PE X e t':=λpins s σ H Q I q=>h pins s σ H Q I (i _ _ _ q)
theorem cqT{t t':TT}(h:PT X e t)(i:∀σ H Q,t' σ H Q->t σ H Q):PT X e t':=λpins s σ H Q I q=>h pins s σ H Q I (i _ _ _ q)
theorem cqW{t t':TT}(h:PW X e t)(i:∀σ H Q,t' σ H Q->t σ H Q):PW X e t':=λwh pins s σ H Q I q=>h wh pins s σ H Q I (i _ _ _ q)
theorem cqA{t t':TA}(h:PA X es t)(i:∀σ H Q,t' σ H Q->t σ H Q):PA X es t':=λp pins s σ H Q I q=>h p pins s σ H Q I (i _ _ _ q)
theorem cqS{t t':TS}(h:PS X st t)(i:∀E σ H,t' E σ H->t E σ H):PS X st t':=λpins s σ H E I q=>h pins s σ H E I (i _ _ _ q)
theorem cqSs{st:List Stmt}{t t':TS}(h:PSs X st t)(i:∀E σ H,t' E σ H->t E σ H):PSs X st t':=λpins s σ H E I q=>h pins s σ H E I (i _ _ _ q)
theorem cqG{t t':TG}(h:PG X e t)(i:∀v σ H Q,t' v σ H Q->t v σ H Q):PG X e t':=λpins s σ H v u Q I r q=>h pins s σ H v u Q I r (i _ _ _ _ q)
theorem cqGs{t t':TGs}(h:PGs X es t)(i:∀v σ H Q,t' v σ H Q->t v σ H Q):PGs X es t':=λpins s σ H v u Q I r q=>h pins s σ H v u Q I r (i _ _ _ _ q)
noncomputable section
def eV(i:Nat):FE:=λL M=>match L[i]? with
 |some (some w)=>.ok w M
 |_=>.bad
def eC(d:D):FE:=λ_ M=>.ok (.d d) M
theorem aB(i:Nat)(hN:X.N[i]?=some x:=by rfl)(hk:X.K=K:=by rfl)(hv:Vis X.env.scope x:=by first|exact Or.inl rfl|exact Or.inr (Or.inl rfl)|exact Or.inr (Or.inr rfl))
  (hd:(x==("__debug__":Str))=false:=by decide)(hcd:(x==("__classdict__":Str))=false:=by decide):Ev X K Z (.Name x pos) (eV i) :=
 ⟨hk,cqE (yF hN hv hd hcd) λσ H Q ⟨μ,M,L,hr,lr,p⟩=>by
  unfold eV at p
  cases q:L[i]? with
  |none=>rw[q]at p;exact p.elim
  |some o =>
   cases o with
   |none=>rw[q]at p;exact p.elim
   |some w =>
    rw[q]at p
    obtain⟨v,q1,q2⟩:=lr.ent i w q
    exact⟨v,q1,p μ H .refl hr v q2⟩⟩
theorem wE{d:D}(hd:∀K μ H,Rp K μ H d v)(hk:X.K=K)(h:PE X e (tC v)):Ev X K Z e (eC d) :=
 ⟨hk,cqE h λσ H Q ⟨μ,M,L,hr,lr,p⟩=>p μ H .refl hr v (hd K μ H)⟩
theorem aD{i:Int}(hk:X.K=K:=by rfl):Ev X K Z (.Constant (.int i) j pos) (eC (.int i)):=wE (λ_ _ _=>by simp[Rp]) hk aEq
theorem rD{i:Bool}(hk:X.K=K:=by rfl):Ev X K Z (.Constant (.bool i) j pos) (eC (.bl i)):=wE (λ_ _ _=>by simp[Rp]) hk aIx
theorem cO(hk:X.K=K:=by rfl):Ev X K Z (.Constant .none j pos) (eC .non):=wE (λ_ _ _=>by simp[Rp]) hk aGm
theorem aF(hk:X.K=K:=by rfl):Ev X K Z (.Constant (.str x) j pos) (eC (.str x)):=wE (λ_ _ _=>by simp[Rp]) hk dC
def e1(g:W->Mm->Oc W)(f:FE):FE:=λL M=>(f L M).bind g
def e2(g:W->W->Mm->Oc W)(f1 f2:FE):FE:=λL M=>(f1 L M).bind λx M1=>(f2 L M1).bind λy M2=>g x y M2
abbrev Wk(K:Frag)(Q:VK):List Addr->Hp->Mm->W->Prop:=λμ' H' _ w=>∀v,Rw K μ' H' w v->Q v H'
def Op2(K:Frag)(Z:Zt)(r:R2)(g:W->W->Mm->Oc W):Prop :=
 ∀(μ:List Addr) (H:Hp) (M:Mm) (x y:W) (v u:V) (Q:VK),HR K μ H M->Rw K μ H x v->Rw K μ H y u->Pst K Z μ H (g x y M) (Wk K Q)->r v u H Q
def OpG(X:Cx)(K:Frag)(Z:Zt)(f:Value->Value->Sem Value)(g:W->W->Mm->Oc W):Prop:=X.K=K->∃r,OpR X f r/\Op2 K Z r g
end
theorem lift2{r:R2}{g:W->W->Mm->Oc W}(hg:Op2 K Z r g):∀σ H Q,lift K Z (e2 g fa fb) σ H Q->tOp r (lift K Z fa) (lift K Z fb) σ H Q:=by
 rintro σ H Q ⟨μ,M,L,hr,lr,p⟩
 refine⟨μ,M,L,hr,lr,p.bind.imp λμ1 H1 M1 x e1 hr1 _ p1 v rx=>?_⟩
 refine⟨μ1,M1,L,hr1,lr.ext hr.lsts e1,p1.bind.imp λμ2 H2 M2 y e2 hr2 _ p2 u ry=>?_⟩
 exact hg μ2 H2 M2 x y v u Q hr2 (rx.ext hr1.lsts e2) ry p2
theorem aH{g:W->W->Mm->Oc W}(ho:OpG X K Z (binaryOp op) g)(ha:Ev X K Z a fa)(hb:Ev X K Z b fb):Ev X K Z (.BinOp a op b pos) (e2 g fa fb):=by
 obtain⟨r,h1,h2⟩:=ho ha.k
 exact⟨ha.k,cqE (aJb h1 ha.h hb.h) (lift2 h2)⟩
variable{op:CmpOp}
theorem fK{g:W->W->Mm->Oc W}(ho:OpG X K Z (compareOp op) g)(ha:Ev X K Z a fa)(hb:Ev X K Z b fb)(hm:behindInMarks op b=false):Ev X K Z (.Compare a [op] [b] pos) (e2 g fa fb):=by
 obtain⟨r,h1,h2⟩:=ho ha.k
 exact⟨ha.k,cqE (aBq h1 ha.h hb.h hm) (lift2 h2)⟩
noncomputable section
def tB(f:FE):FT:=λL M=>(f L M).bind λw M1=>match w with
 |.d (.bl b)=>.ok b M1
 |_=>.bad
theorem aM{g:W->W->Mm->Oc W}(ho:OpG X K Z (compareOp op) g)(ha:Ev X K Z a fa)(hb:Ev X K Z b fb)(hm:behindInMarks op b=false):Et X K Z (.Compare a [op] [b] pos) (tB (e2 g fa fb)):=by
 obtain⟨r,h1,h2⟩:=ho ha.k
 refine⟨ha.k,cqT (aCq h1 ha.h hb.h hm) ?_⟩
 rintro σ H Q ⟨μ,M,L,hr,lr,p⟩
 refine lift2 h2 σ H _ ⟨μ,M,L,hr,lr,p.bind.imp λμ1 H1 M1 x e1 hr1 _ p1 v rx=>?_⟩
 cases x with
 |d y=>cases y with
  |bl c=>exact⟨c,by simpa[Rw,Rp]using rx,p1 μ1 H1 .refl hr1⟩
  |_=>exact p1.elim
 |ref i=>exact p1.elim
 |ob _ _=>exact p1.elim
 |nest _=>exact p1.elim
def tru(M:Mm):W->Option Bool
 |.d .non=>some false
 |.d (.bl b)=>some b
 |.d (.int i)=>some (i != 0)
 |.d (.str x)=>if x.length<=16777216 then some (x.length != 0)else none
 |.d (.tup xs)=>some (!xs.isEmpty)
 |.d (.lst xs)=>some (!xs.isEmpty)
 |.d (.fz xs)=>some (!xs.isEmpty)
 |.d (.exn _ _ _)=>none
 |.ref i=>(M[i]?).map λxs=>!xs.isEmpty
 |.ob _ _=>none
 |.nest _=>none
def tV(f:FE):FT:=λL M=>(f L M).bind λw M1=>match tru M1 w with
 |some b=>.ok b M1
 |none=>.bad
theorem emp{ds:List D}(r:Rps K μ H ds vs):(!ds.isEmpty)=!vs.isEmpty:=by
 have:=r.length
 cases ds <;> cases vs <;> simp_all
theorem aIt{w:W}{b:Bool}(hr:HR K μ H M)(r:Rw K μ H w v)(h:tru M w=some b):TruV K v H b:=by
 cases w with
 |ref i =>
  obtain⟨a,q,rfl,il⟩:=r
  simp only[tru,aBS]at h
  obtain⟨xs,h1,rfl⟩:=h
  obtain⟨a',vs,q1,q2,q3⟩:=hr.at h1 q
  rw[q]at q1;cases q1
  exact .inl ⟨vs,SqL.of q2,emp q3⟩
 |ob _ _=>simp[tru]at h
 |nest _=>simp[tru]at h
 |d x =>
  cases x with
  |non=>simp only[Rw,Rp]at r;subst r;simp only[tru,aAJ]at h;exact h.symm
  |bl c=>simp only[Rw,Rp]at r;subst r;simp only[tru,aAJ]at h;exact h.symm
  |int i=>simp only[Rw,Rp]at r;subst r;simp only[tru,aAJ]at h;exact h.symm
  |str z =>
   simp only[Rw,Rp]at r;subst r
   simp only[tru]at h
   split at h
   ·rename_i hz
    cases h
    refine⟨by rw[aAT];exact hz,?_⟩
    rw[Bool.eq_iff_iff];simp
   ·cases h
  |tup xs=>simp only[Rw,Rp]at r;obtain⟨a,vs,rfl,q1,q2⟩:=r;simp only[tru,aAJ]at h;subst h;exact .inr (.inl ⟨vs,SqT.of q1,emp q2⟩)
  |lst xs=>simp only[Rw,Rp]at r;obtain⟨a,vs,rfl,q1,_,q2⟩:=r;simp only[tru,aAJ]at h;subst h;exact .inl ⟨vs,SqL.of q1,emp q2⟩
  |fz xs=>simp only[Rw,Rp]at r;obtain⟨a,vs,rfl,q1,q2⟩:=r;simp only[tru,aAJ]at h;subst h;exact .inl ⟨vs,q1.sq,emp q2⟩
  |exn c f xs=>simp[tru]at h
theorem tO(ha:Ev X K Z a f)(he:∀whole,isTrue a X.env whole=(do let v <- whole;standAt a.pos;holding [v] (truthy v)):=by intro _;rfl):Et X K Z a (tV f):=by
 refine⟨ha.k,cqT (zF ha.h he) ?_⟩
 rintro σ H Q ⟨μ,M,L,hr,lr,p⟩
 refine⟨μ,M,L,hr,lr,p.bind.imp λμ1 H1 M1 x e1 hr1 _ p1 v rx=>?_⟩
 cases q:tru M1 x with
 |none=>rw[q]at p1;exact p1.elim
 |some k=>rw[q]at p1;exact⟨k,by rw[ha.k];exact aIt hr1 rx q,p1 μ1 H1 .refl hr1⟩
def tNot(t:FT):FT:=λL M=>(t L M).bind λb M1=>.ok (!b) M1
def tAnd(t u:FT):FT:=λL M=>(t L M).bind λb M1=>if b=true then u L M1 else .ok false M1
def tOr(t u:FT):FT:=λL M=>(t L M).bind λb M1=>if b=true then .ok true M1 else u L M1
end
theorem aFy(ha:Et X K Z a ta):Et X K Z (.UnaryOp .Not a pos) (tNot ta):=by
 refine⟨ha.k,cqT (aEg ha.h) ?_⟩
 rintro σ H Q ⟨μ,M,L,hr,lr,p⟩
 exact⟨μ,M,L,hr,lr,p.bind.imp λμ1 H1 M1 x e1 hr1 _ p1=>p1 μ1 H1 .refl hr1⟩
variable{rest:List Expr}
theorem iO(ha:Et X K Z a ta):Ew X K Z (.BoolOp .And [a] pos) ta:=⟨ha.k,aBc ha.h⟩
theorem gK(ha:Et X K Z a ta):Ew X K Z (.BoolOp .Or [a] pos) ta:=⟨ha.k,aFh ha.h⟩
theorem kP(ha:Et X K Z a ta)(hb:Ew X K Z (.BoolOp .And (b::rest) pos) tb):Ew X K Z (.BoolOp .And (a::b::rest) pos) (tAnd ta tb):=by
 refine⟨ha.k,cqW (aFm ha.h hb.h) ?_⟩
 rintro σ H Q ⟨μ,M,L,hr,lr,p⟩
 refine⟨μ,M,L,hr,lr,p.bind.imp λμ1 H1 M1 x e1 hr1 _ p1=>?_⟩
 cases x with
 |true=>exact⟨μ1,M1,L,hr1,lr.ext hr.lsts e1,p1⟩
 |false=>exact p1 μ1 H1 .refl hr1
theorem hW(ha:Et X K Z a ta)(hb:Ew X K Z (.BoolOp .Or (b::rest) pos) tb):Ew X K Z (.BoolOp .Or (a::b::rest) pos) (tOr ta tb):=by
 refine⟨ha.k,cqW (aHs ha.h hb.h) ?_⟩
 rintro σ H Q ⟨μ,M,L,hr,lr,p⟩
 refine⟨μ,M,L,hr,lr,p.bind.imp λμ1 H1 M1 x e1 hr1 _ p1=>?_⟩
 cases x with
 |true=>exact p1 μ1 H1 .refl hr1
 |false=>exact⟨μ1,M1,L,hr1,lr.ext hr.lsts e1,p1⟩
theorem iZ(h:Ew X K Z a ta):Et X K Z a ta:=⟨h.k,h.h.pt⟩
end
noncomputable section
def lv(M:Mm):W->Option (List D)
 |.d (.lst xs)=>some xs
 |.ref i=>M[i]?
 |_=>none
def lr(M:Mm):W->Option (List D)
 |.d (.fz xs)=>some xs
 |w=>lv M w
def sv(M:Mm):W->Option (List D)
 |.d (.tup xs)=>some xs
 |w=>lr M w
def okD(d:D)(M:Mm):Oc W:=.ok (.d d) M
end
@[simp]theorem aJj(d:D)(M:Mm):okD d M=.ok (.d d) M:=rfl
variable{K:Frag}{e a b:Expr}{es:List Expr}{pos:Pos}{f fa fb:FE}{fs:FA}{F:Value->Value->Sem Value}
theorem OpR.or{r r':R2}(h:OpR X F r)(h':OpR X F r'):OpR X F (λx y H Q=>r x y H Q\/r' x y H Q):=by
 intro pins s σ H x y v u Q I rx ry q
 rcases q with q|q
 ·exact h pins s σ H x y v u Q I rx ry q
 ·exact h' pins s σ H x y v u Q I rx ry q
theorem qB{w:W}{ds:List D}(hr:HR K μ H M)(r:Rw K μ H w v)(h:lv M w=some ds):∃a vs,v=.ref a/\H a=some (.lst vs)/\Rps K μ H ds vs:=by
 cases w with
 |ref i =>
  obtain⟨a,q,rfl,il⟩:=r
  obtain⟨a',vs,q1,q2,q3⟩:=hr.at h q
  rw[q]at q1;cases q1
  exact⟨a,vs,rfl,q2,q3⟩
 |ob _ _=>simp[lv]at h
 |nest _=>simp[lv]at h
 |d x =>
  cases x with
  |lst xs=>simp only[lv,aAJ]at h;subst h;simp only[Rw,Rp]at r;obtain⟨a,vs,e,q1,_,q2⟩:=r;exact⟨a,vs,e,q1,q2⟩
  |_=>simp[lv]at h
theorem aDc{w:W}{ds:List D}(hr:HR K μ H M)(r:Rw K μ H w v)(h:lr M w=some ds):∃a vs,v=.ref a/\SqL K H a vs/\Rps K μ H ds vs:=by
 by_cases hf:∃xs,w=.d (.fz xs)
 ·obtain⟨xs,rfl⟩:=hf
  simp only[lr,aAJ]at h;subst h
  simp only[Rw,Rp]at r;obtain⟨a,vs,e,q1,q2⟩:=r
  exact⟨a,vs,e,q1.sq,q2⟩
 ·have:lr M w=lv M w:=by
   cases w with
   |ref i=>rfl
   |ob _ _=>rfl
   |nest _=>rfl
   |d x=>cases x <;> first|rfl|exact(hf ⟨_,rfl⟩).elim
  rw[this]at h
  obtain⟨a,vs,e,q1,q2⟩:=qB hr r h
  exact⟨a,vs,e,SqL.of q1,q2⟩
theorem pO{w:W}{ds:List D}(hr:HR K μ H M)(r:Rw K μ H w v)(h:sv M w=some ds):∃a vs,v=.ref a/\(SqL K H a vs\/SqT K H a vs)/\Rps K μ H ds vs:=by
 by_cases hf:∃xs,w=.d (.tup xs)
 ·obtain⟨xs,rfl⟩:=hf
  simp only[sv,aAJ]at h;subst h
  simp only[Rw,Rp]at r;obtain⟨a,vs,e,q1,q2⟩:=r
  exact⟨a,vs,e,.inr (SqT.of q1),q2⟩
 ·have:sv M w=lr M w:=by
   cases w with
   |ref i=>rfl
   |ob _ _=>rfl
   |nest _=>rfl
   |d x=>cases x <;> first|rfl|exact(hf ⟨_,rfl⟩).elim
  rw[this]at h
  obtain⟨a,vs,e,q1,q2⟩:=aDc hr r h
  exact⟨a,vs,e,.inl q1,q2⟩
variable{Q:VK}
theorem lK{ds:List D}(hr:HR K μ H M)(r:Rps K μ H ds vs)(p:Pst K Z μ H (okD (.tup ds) M) (Wk K Q)):∀q,H q=none->Q (.ref q) (upd H q (.tup vs)):=λq hq =>
 p μ _ (eK hr hq) (hr.lay hq) (.ref q) (by simp only[Rw,Rp];exact⟨q,vs,rfl,aW,Rps.ext hr.lsts (eK hr hq) _ _ r⟩)
theorem lD{ds:List D}(hr:HR K μ H M)(r:Rps K μ H ds vs)(p:Pst K Z μ H (okD (.lst ds) M) (Wk K Q)):∀q,H q=none->Q (.ref q) (upd H q (.lst vs)):=λq hq =>
 p μ _ (eK hr hq) (hr.lay hq) (.ref q) (by simp only[Rw,Rp];exact⟨q,vs,rfl,aW,hr.out hq,Rps.ext hr.lsts (eK hr hq) _ _ r⟩)
theorem aCl{ds:List D}(hr:HR K μ H M)(r:Rps K μ H ds vs)(p:Pst K Z μ H (.ok (.ref M.length) (M++[ds])) (Wk K Q)):∀q,H q=none->Q (.ref q) (upd H q (.lst vs)):=λq hq =>
 p _ _ (uS hr hq) (hr.new hq r) (.ref q) ⟨q,by rw[<- hr.len];simp,rfl,_,aW⟩
noncomputable def rCatA(K:Frag):R2:=λx y H Q=>∃a b xs ys,x=.ref a/\y=.ref b/\SqT K H a xs/\SqT K H b ys/\xs.length+ys.length<=sizeLine /\
 (xs=[]->Q (.ref b) H)/\(ys=[]->Q (.ref a) H)/\(∀p,H p=none->Q (.ref p) (upd H p (.tup (xs++ys))))
theorem aCr:OpR X (binaryOp .Add) (rCatA X.K):=by
 intro pins s σ H x y v u Q I rx ry h
 obtain⟨a,b,xs,ys,rfl,rfl,ha,hb,hz,q0,q1,q2⟩:=h
 by_cases hx:xs=[]
 ·subst hx
  cases rx
  cases ry
  obtain⟨its,r1,p1,_⟩:=I.tuple ha
  obtain⟨its2,r2,p2,_⟩:=I.tuple hb
  have hv:its=[]:=r1.nil_iff.mpr rfl
  subst hv
  obtain⟨⟨cls,dd,data,sl⟩,ho,hc,n,hd⟩:=id p1
  obtain⟨⟨cls2,dd2,data2,sl2⟩,ho2,hc2,n2,hd2⟩:=id p2
  simp only at hc hd hc2 hd2
  subst hc hd hc2 hd2
  exact concat_meets ⟨_,ho,rfl⟩ ⟨_,ho2,rfl⟩ noFill_tuple_add seq_tuple_add aFG aFB (aEZ _ _)
   (tuple_addW0 a b _ its2.toArray n n2 dd dd2 sl sl2 (by simp)) ⟨ho,ho2,⟨.ref b,H,I,rfl,q0 rfl⟩⟩
 ·exact aBt pins s σ H _ _ v u Q I rx ry ⟨a,b,xs,ys,rfl,rfl,ha,hb,hx,hz,q1,λ_=>q2⟩
noncomputable def pAdd(x y:W)(M:Mm):Oc W:=match x,y with
 |.d (.int i),.d (.int j)=>.ok (.d (.int (i+j))) M
 |.d (.tup xs),.d (.tup ys)=>if xs.length+ys.length<=16777216 then .ok (.d (.tup (xs++ys))) M else .bad
 |.d (.str i),.d (.str j)=>if i.length+j.length<=16777216 then .ok (.d (.str (i++j))) M else .bad
 |x,y=>match lv M x,lv M y with
  |some xs,some ys=>if xs.length+ys.length<=16777216 then .ok (.d (.lst (xs++ys))) M else .bad
  |_,_=>.bad
variable{u:V}
theorem sD{x y:W}(hr:HR K μ H M)(rx:Rw K μ H x v)(ry:Rw K μ H y u)(p:Pst K Z μ H (match lv M x,lv M y with
  |some xs,some ys=>if xs.length+ys.length<=16777216 then .ok (.d (.lst (xs++ys))) M else .bad
  |_,_=>.bad) (Wk K Q)):rCat v u H Q:=by
 cases q1:lv M x with
 |none=>rw[q1]at p;exact p.elim
 |some xs =>
  cases q2:lv M y with
  |none=>rw[q1,q2]at p;exact p.elim
  |some ys =>
   rw[q1,q2]at p
   simp only at p
   split at p
   ·rename_i hz
    obtain⟨a,vs,rfl,h1,r1⟩:=qB hr rx q1
    obtain⟨b,us,rfl,h2,r2⟩:=qB hr ry q2
    exact⟨a,b,vs,us,rfl,rfl,h1,h2,by rw[<- r1.length,<- r2.length,aAT];exact hz,lD hr (r1.append r2) p⟩
   ·exact p.elim
theorem opAdd:OpG X K Z (binaryOp .Add) pAdd:=λhk=>by
 refine⟨_,OpR.or (OpR.or aFj (hk▸aCr)) (OpR.or aFn sY),?_⟩
 intro μ H M x y v u Q hr rx ry p
 have gen:=λp=>sD (Q:=Q) (K:=K) (Z:=Z) hr rx ry p
 cases x with
 |ref i=>exact .inr (.inl (gen p))
 |ob _ _=>exact .inr (.inl (gen p))
 |nest _=>exact .inr (.inl (gen p))
 |d x =>
  cases y with
  |ref j=>exact .inr (.inl (gen (by cases x <;> exact p)))
  |ob _ _=>exact .inr (.inl (gen (by cases x <;> exact p)))
  |nest _=>exact .inr (.inl (gen (by cases x <;> exact p)))
  |d y =>
   cases x <;> cases y <;> first
    |exact .inr (.inl (gen p))
    |skip
   ·simp only[Rw,Rp]at rx ry;exact .inl (.inl ⟨_,_,rx,ry,p μ H .refl hr _ (by simp[Rw,Rp])⟩)
   ·simp only[Rw,Rp]at rx ry
    simp only[pAdd]at p
    split at p
    ·rename_i hz
     exact .inr (.inr ⟨_,_,rx,ry,by rw[aAT];exact hz,p μ H .refl hr _ (by simp[Rw,Rp])⟩)
    ·exact p.elim
   ·rename_i xs ys
    have rx':=rx
    have ry':=ry
    simp only[Rw,Rp]at rx ry
    obtain⟨a,vs,rfl,h1,r1⟩:=rx
    obtain⟨b,us,rfl,h2,r2⟩:=ry
    simp only[pAdd]at p
    split at p
    ·rename_i hz
     refine .inl (.inr ⟨a,b,vs,us,rfl,rfl,SqT.of h1,SqT.of h2,by rw[<- r1.length,<- r2.length,aAT];exact hz,λe=>?_,λe=>?_,lK hr (r1.append r2) p⟩)
     ·subst e
      have:xs=[]:=by have:=r1.length;simpa using this
      subst this
      exact p μ H .refl hr _ (by simpa using ry')
     ·subst e
      have:ys=[]:=by have:=r2.length;simpa using this
      subst this
      exact p μ H .refl hr _ (by simpa using rx')
    ·exact p.elim
noncomputable def pI(c:Int->Int->Bool)(g:Int->Int->D)(x y:W)(M:Mm):Oc W:=match x,y with
 |.d (.int i),.d (.int j)=>if c i j=true then .ok (.d (g i j)) M else .bad
 |_,_=>.bad
variable{gv:Int->Int->V}
theorem opI{C:Int->Int->Prop}{c:Int->Int->Bool}{g:Int->Int->D}(h:OpR X F (rI C gv))(hc:∀i j,c i j=true->C i j)(hg:∀K μ H i j,Rp K μ H (g i j) (gv i j)) :
  OpG X K Z F (pI c g):=λhk=>⟨_,h,by
 intro μ H M x y v u Q hr rx ry p
 cases x with
 |ref i=>exact p.elim
 |ob _ _=>exact p.elim
 |nest _=>exact p.elim
 |d x=>cases y with
  |ref j=>cases x <;> exact p.elim
  |ob _ _=>cases x <;> exact p.elim
  |nest _=>cases x <;> exact p.elim
  |d y=>cases x <;> cases y <;> first
   |exact p.elim
   |(simp only[Rw,Rp]at rx ry
     simp only[pI]at p
     split at p
     ·rename_i hz;exact⟨_,_,rx,ry,hc _ _ hz,p μ H .refl hr _ (hg K μ H _ _)⟩
     ·exact p.elim)⟩
theorem opI0{g:Int->Int->D}(h:OpR X F (rI0 gv))(hg:∀K μ H i j,Rp K μ H (g i j) (gv i j)):OpG X K Z F (pI (λ_ _=>true) g):=λhk=>⟨_,h,by
 intro μ H M x y v u Q hr rx ry p
 cases x with
 |ref i=>exact p.elim
 |ob _ _=>exact p.elim
 |nest _=>exact p.elim
 |d x=>cases y with
  |ref j=>cases x <;> exact p.elim
  |ob _ _=>cases x <;> exact p.elim
  |nest _=>cases x <;> exact p.elim
  |d y=>cases x <;> cases y <;> first
   |exact p.elim
   |(simp only[Rw,Rp]at rx ry
     exact⟨_,_,rx,ry,p μ H .refl hr _ (hg K μ H _ _)⟩)⟩
noncomputable section
abbrev pSub:=pI (λ_ _=>true) λi j=>.int (i - j)
abbrev pLt:=pI (λ_ _=>true) λi j=>.bl (decide (i < j))
abbrev pGt:=pI (λ_ _=>true) λi j=>.bl (decide (j < i))
abbrev pGe:=pI (λ_ _=>true) λi j=>.bl (decide (j<=i))
abbrev pMod:=pI (λ_ j=>decide (0 < j)) λi j=>.int (i % j)
abbrev pDiv:=pI (λ_ j=>decide (0 < j/\j < 18446744073709551616)) λi j=>.int (i / j)
abbrev pPow:=pI (λi j=>decide (0<=j/\j<=1000000/\i.natAbs < 18446744073709551616)) λi j=>.int (i ^ j.toNat)
theorem opSub:OpG X K Z (binaryOp .Sub) pSub:=opI0 aDv λ_ _ _ _ _=>by simp[Rp]
theorem opLt:OpG X K Z (compareOp .Lt) pLt:=opI0 aIc λ_ _ _ _ _=>by simp[Rp]
theorem opGt:OpG X K Z (compareOp .Gt) pGt:=opI0 aJc λ_ _ _ _ _=>by simp[Rp]
theorem opGe:OpG X K Z (compareOp .GtE) pGe:=opI0 aId λ_ _ _ _ _=>by simp[Rp]
theorem opMod:OpG X K Z (binaryOp .Mod) pMod:=opI aGf (λ_ _ h=>aEB h) λ_ _ _ _ _=>by simp[Rp]
theorem opDiv:OpG X K Z (binaryOp .FloorDiv) pDiv:=opI zU (λ_ _ h=>by simp only[aAU]at h;exact h) λ_ _ _ _ _=>by simp[Rp]
theorem opPow:OpG X K Z (binaryOp .Pow) pPow:=opI aDm (λ_ _ h=>by simp only[aAU]at h;exact h) λ_ _ _ _ _=>by simp[Rp]
def isN:W->Bool
 |.d .non=>true
 |_=>false
def pIs(x y:W)(M:Mm):Oc W:=match y with
 |.d .non=>.ok (.d (.bl (isN x))) M
 |_=>.bad
def pIsNot(x y:W)(M:Mm):Oc W:=match y with
 |.d .non=>.ok (.d (.bl (!isN x))) M
 |_=>.bad
end
theorem aDa{x:W}(r:Rw K μ H x v):decide (v=.non)=isN x:=by
 cases x with
 |ref i=>obtain⟨a,_,rfl,_⟩:=r;simp[isN]
 |ob c i=>obtain⟨a,_,rfl,_⟩:=r;simp[isN]
 |nest c=>obtain⟨a,_,rfl,_⟩:=r;simp[isN]
 |d x=>cases x with
  |non=>simp only[Rw,Rp]at r;subst r;simp[isN]
  |bl b=>simp only[Rw,Rp]at r;subst r;simp[isN]
  |int b=>simp only[Rw,Rp]at r;subst r;simp[isN]
  |str b=>simp only[Rw,Rp]at r;subst r;simp[isN]
  |tup b=>simp only[Rw,Rp]at r;obtain⟨a,vs,rfl,_⟩:=r;simp[isN]
  |lst b=>simp only[Rw,Rp]at r;obtain⟨a,vs,rfl,_⟩:=r;simp[isN]
  |fz b=>simp only[Rw,Rp]at r;obtain⟨a,vs,rfl,_⟩:=r;simp[isN]
  |exn c f b=>simp only[Rw,Rp]at r;obtain⟨a,vs,_,_,_,rfl,_⟩:=r;simp[isN]
theorem opIs:OpG X K Z (compareOp .Is) pIs:=λhk=>⟨_,aHj,by
 intro μ H M x y v u Q hr rx ry p
 cases y with
 |ref j=>exact p.elim
 |ob _ _=>exact p.elim
 |nest _=>exact p.elim
 |d y=>cases y with
  |non=>simp only[Rw,Rp]at ry;exact⟨ry,p μ H .refl hr _ (by simp only[Rw,Rp];rw[aDa rx])⟩
  |_=>exact p.elim⟩
theorem opIsNot:OpG X K Z (compareOp .IsNot) pIsNot:=λhk=>⟨_,aBa,by
 intro μ H M x y v u Q hr rx ry p
 cases y with
 |ref j=>exact p.elim
 |ob _ _=>exact p.elim
 |nest _=>exact p.elim
 |d y=>cases y with
  |non=>simp only[Rw,Rp]at ry;exact⟨ry,p μ H .refl hr _ (by simp only[Rw,Rp];rw[aDa rx])⟩
  |_=>exact p.elim⟩
variable{K:Frag}
mutual
noncomputable def eqD:D->D->Bool
 |.non,.non=>true
 |.bl a,.bl b=>a==b
 |.bl a,.int b=>(if a then 1 else 0)==b
 |.int a,.bl b=>a==(if b then 1 else 0)
 |.int a,.int b=>a==b
 |.str a,.str b=>a==b
 |.tup xs,.tup ys=>eqDs xs ys
 |.lst xs,.lst ys=>eqDs xs ys
 |.lst xs,.fz ys=>eqDs xs ys
 |.fz xs,.lst ys=>eqDs xs ys
 |.fz xs,.fz ys=>eqDs xs ys
 |.exn c f xs,.exn c' f' ys=>c==c'&&f==f'&&eqDs xs ys
 |_,_=>false
noncomputable def eqDs:List D->List D->Bool
 |[],[]=>true
 |x::xs,y::ys=>eqD x y&&eqDs xs ys
 |_,_=>false
end
mutual
noncomputable def dep:D->Nat
 |.tup xs=>deps xs+1
 |.lst xs=>deps xs+1
 |.fz xs=>deps xs+1
 |.exn _ _ _=>1000
 |_=>0
noncomputable def deps:List D->Nat
 |[]=>0
 |x::xs=>max (dep x) (deps xs)
end
theorem rH:∀{xs:List D} {i:Nat} {x:D},xs[i]?=some x->dep x<=deps xs
 |[],_,_,h=>by simp at h
 |y::xs,0,x,h=>by simp at h;subst h;simp only[deps];lia
 |y::xs,i+1,x,h=>by
  have:=rH (xs:=xs) (i:=i) (x:=x) (by simpa using h)
  simp only[deps];lia
theorem jO:∀(xs ys:List D),eqDs xs ys=((List.range (min xs.length ys.length)).all (λi=>eqD (xs.getD i .non) (ys.getD i .non))&&xs.length==ys.length)
 |[],[]=>rfl
 |[],y::ys=>by simp[eqDs]
 |x::xs,[]=>by simp[eqDs]
 |x::xs,y::ys=>by
  simp only[eqDs]
  rw[jO xs ys]
  have:min (x::xs).length (y::ys).length=min xs.length ys.length+1:=by simp
  rw[this,List.range_succ_eq_map,aFH]
  simp only[List.getD_cons_zero,List.all_map,Bool.and_assoc,aBA]
  congr 1
  congr 1
  rw[Bool.eq_iff_iff];simp
variable{σ:L2.St}
theorem uQ{ds:List D}(r:Rps K μ H ds vs)(rv:Vals vs its)(h:i < its.toArray.size):∃d v,ds[i]?=some d/\Rp K μ H d v/\RelV v its.toArray[i]:=by
 have h1:i < its.length:=by simpa using h
 have h2:i < vs.length:=by rw[rv.length];exact h1
 have h3:i < ds.length:=by rw[r.length];exact h2
 obtain⟨v,q1,q2⟩:=r.get (i:=i) (d:=ds[i]) (by simp[h3])
 obtain⟨u,q3,q4⟩:=rv.get q1
 refine⟨ds[i],v,by simp[h3],q2,?_⟩
 rw[List.getElem?_eq_getElem h1]at q3
 cases q3
 simpa using q4
theorem vA{ds:List D}{d:D}(h:ds[i]?=some d):ds.getD i .non=d:=by rw[List.getD_eq_getElem?_getD,h];rfl
noncomputable abbrev Eqs(K:Frag)(μ:List Addr)(H:Hp)(s:Shared)(A:Around)(xs:List D):Prop :=
 ∀(j:Nat) (d:D),xs[j]?=some d->∀(d2:D) (v1 v2:V) (u1 u2:Value),dep d2<=100->Rp K μ H d v1->Rp K μ H d2 v2->RelV v1 u1->RelV v2 u2->SeqAt.EqAt A s u1 u2 (eqD d d2)
variable{us:List V}
theorem jV{xs ys:List D}{its its2:List Value}(r1:Rps K μ H xs vs)(r2:Rps K μ H ys us)(q1:Vals vs its)(q2:Vals us its2)(n2:deps ys<=100)(ih:Eqs K μ H s A xs) :
  ∀j (h1:j < its.toArray.size) (h2:j < its2.toArray.size),SeqAt.EqAt A s its.toArray[j] its2.toArray[j] ((λi=>eqD (xs.getD i .non) (ys.getD i .non)) j):=by
 intro j h1 h2
 obtain⟨d,v,e1,e2,e3⟩:=uQ r1 q1 h1
 obtain⟨d',v',e1',e2',e3'⟩:=uQ r2 q2 h2
 simp only[vA e1,vA e1']
 exact ih j d e1 d' v v' _ _ (aAX (rH e1') n2) e2 e2' e3 e3'
theorem jY{xs ys:List D}{its2:List Value}(r1:Rps K μ H xs vs)(r2:Rps K μ H ys us)(q1:Vals vs its)(q2:Vals us its2):its.toArray.size=xs.length/\its2.toArray.size=ys.length:=by
 simp[r1.length,r2.length,q1.length,q2.length]
theorem aGj{xs ys:List D}{a b:Addr}(I:Inv X pins σ H s)(h1:SqT X.K H a vs)(h2:SqT X.K H b us)(r1:Rps K μ H xs vs)(r2:Rps K μ H ys us)(hu:A.units < cLine)(n2:deps ys<=100)(ih:Eqs K μ H s A.in1 xs) :
  SeqAt.RcAt A s (.ref a) (.ref b) (eqDs xs ys):=by
 obtain⟨its,q1,p1,_⟩:=I.tuple h1
 obtain⟨its2,q2,p2,_⟩:=I.tuple h2
 have:=SeqAt.RcAt.tuples p1 p2 hu (jV r1 r2 q1 q2 n2 ih)
 obtain⟨e1,e2⟩:=jY r1 r2 q1 q2
 rw[e1,e2]at this
 rw[jO];exact this
theorem wX{xs ys:List D}{a b:Addr}(I:Inv X pins σ H s)(h1:SqT X.K H a vs)(h2:SqT X.K H b us)(r1:Rps K μ H xs vs)(r2:Rps K μ H ys us)(hu:A.units < cLine)(n2:deps ys<=100)(ih:Eqs K μ H s A.in1 xs) :
  SeqAt.RcNeAt A s (.ref a) (.ref b) (!eqDs xs ys):=by
 obtain⟨its,q1,p1,_⟩:=I.tuple h1
 obtain⟨its2,q2,p2,_⟩:=I.tuple h2
 have:=SeqAt.RcNeAt.tuples p1 p2 hu (jV r1 r2 q1 q2 n2 ih)
 obtain⟨e1,e2⟩:=jY r1 r2 q1 q2
 rw[e1,e2]at this
 rw[jO];exact this
theorem rB{xs ys:List D}(h:xs.length≠ys.length):eqDs xs ys=false:=by
 rw[jO]
 have:(xs.length==ys.length)=false:=by simpa using h
 rw[this,aEC]
theorem nI{xs ys:List D}(h:xs.length=ys.length):eqDs xs ys=(List.range xs.length).all (λi=>eqD (xs.getD i .non) (ys.getD i .non)):=by
 rw[jO,<- h];simp
theorem pM{xs ys:List D}{a b:Addr}(I:Inv X pins σ H s)(h1:SqL X.K H a vs)(h2:SqL X.K H b us)(r1:Rps K μ H xs vs)(r2:Rps K μ H ys us)(hu:A.units < cLine)(n2:deps ys<=100)(ih:Eqs K μ H s A.in1 xs) :
  SeqAt.RcAt A s (.ref a) (.ref b) (eqDs xs ys):=by
 obtain⟨its,q1,p1,_⟩:=I.list h1
 obtain⟨its2,q2,p2,_⟩:=I.list h2
 obtain⟨e1,e2⟩:=jY r1 r2 q1 q2
 by_cases hl:xs.length=ys.length
 ·have:=SeqAt.RcAt.lists p1.isList p2.isList (by rw[e1,e2,hl]) hu (jV r1 r2 q1 q2 n2 ih)
  rw[e1]at this
  rw[nI hl];exact this
 ·rw[rB hl]
  exact SeqAt.RcAt.lists_lengths p1.isList p2.isList (by rw[e1,e2];simpa using hl) hu
theorem jQ{xs ys:List D}{a b:Addr}(I:Inv X pins σ H s)(h1:SqL X.K H a vs)(h2:SqL X.K H b us)(r1:Rps K μ H xs vs)(r2:Rps K μ H ys us)(hu:A.units < cLine)(n2:deps ys<=100)(ih:Eqs K μ H s A.in1 xs) :
  SeqAt.RcNeAt A s (.ref a) (.ref b) (!eqDs xs ys):=by
 obtain⟨its,q1,p1,_⟩:=I.list h1
 obtain⟨its2,q2,p2,_⟩:=I.list h2
 obtain⟨e1,e2⟩:=jY r1 r2 q1 q2
 by_cases hl:xs.length=ys.length
 ·have:=SeqAt.RcNeAt.lists p1.isList p2.isList (by rw[e1,e2,hl]) hu (jV r1 r2 q1 q2 n2 ih)
  rw[e1]at this
  rw[nI hl];exact this
 ·rw[rB hl]
  exact SeqAt.RcNeAt.lists_lengths p1.isList p2.isList (by rw[e1,e2];simpa using hl) hu
noncomputable def fv:D->Option V
 |.non=>some .non
 |.bl b=>some (.bl b)
 |.int i=>some (.int i)
 |.str x=>some (.str x)
 |_=>none
theorem xJ{d:D}(h:fv d=some u)(r:Rp K μ H d v):v=u/\flatV u=true:=by
 cases d <;> simp only[fv,aAJ,reduceCtorEq]at h <;> (simp only[Rp]at r;subst h;exact⟨r,rfl⟩)
variable{w:V}
theorem aDg{d e:D}(h:fv d=some u)(h':fv e=some w):eqV u w=eqD d e:=by
 cases d <;> simp only[fv,aAJ,reduceCtorEq]at h <;> (cases e <;> simp only[fv,aAJ,reduceCtorEq]at h' <;> (subst h;subst h';simp[eqV,eqD]))
theorem aIy{d:D}(r:Rp K μ H d v)(h:flatV v=true):fv d=some v:=by
 cases d with
 |non=>simp only[Rp]at r;subst r;rfl
 |bl b=>simp only[Rp]at r;subst r;rfl
 |int b=>simp only[Rp]at r;subst r;rfl
 |str b=>simp only[Rp]at r;subst r;rfl
 |tup b=>simp only[Rp]at r;obtain⟨a,vs,rfl,_⟩:=r;cases h
 |lst b=>simp only[Rp]at r;obtain⟨a,vs,rfl,_⟩:=r;cases h
 |fz b=>simp only[Rp]at r;obtain⟨a,vs,rfl,_⟩:=r;cases h
 |exn c f b=>simp only[Rp]at r;obtain⟨a,vs,_,_,_,rfl,_⟩:=r;cases h
theorem xI(h:flatV v=true):eqV v v=true:=by cases v <;> first|(cases h;done)|rfl|(simp[eqV];done)
theorem kC{d d':D}(hf:fv d=some u)(h:Rp K μ H d v)(h':Rp K μ H d' v):eqD d d'=true:=by
 obtain⟨rfl,fl⟩:=xJ hf h
 rw[<- aDg hf (aIy h' fl)]
 exact xI fl
inductive At(K:Frag)(μ:List Addr)(H:Hp):D->Addr->List D->Bool->Prop where
 |tup {a vs ds:_}:SqT K H a vs->Rps K μ H ds vs->At K μ H (.tup ds) a ds true
 |lst {a vs ds:_}:SqL K H a vs->Rps K μ H ds vs->At K μ H (.lst ds) a ds false
 |fz {a vs ds:_}:SqL K H a vs->Rps K μ H ds vs->At K μ H (.fz ds) a ds false
theorem lG{a:Addr}(I:Inv X pins σ H s)(h1:SqT X.K H a vs)(h2:SqL X.K H a us):False:=by
 obtain⟨its,q1,p1,_⟩:=I.tuple h1
 obtain⟨its2,q2,p2,_⟩:=I.list h2
 exact SeqAt.ne_of_list_tuple p2.isList p1 rfl
mutual
theorem xG(I:Inv X pins σ H s)(hk:X.K=K):∀(d d':D) (v:V),dep d<=100->dep d'<=100->Rp K μ H d v->Rp K μ H d' v->eqD d d'=true
 |.non,d',v,n,n',h,h'=>kC rfl h h'
 |.bl x,d',v,n,n',h,h'=>kC rfl h h'
 |.int x,d',v,n,n',h,h'=>kC rfl h h'
 |.str x,d',v,n,n',h,h'=>kC rfl h h'
 |.tup xs,d',v,n,n',h,h'=>by
  simp only[Rp]at h
  obtain⟨a,vs,rfl,h1,r1⟩:=h
  cases d' with
  |tup ys =>
   simp only[Rp]at h'
   obtain⟨b,us,e,h2,r2⟩:=h'
   cases e
   cases I.tuple_inj (SqT.of (K:=X.K) h1) (SqT.of h2)
   simp only[eqD]
   exact iI I hk xs ys vs (by simp only[dep]at n;lia) (by simp only[dep]at n';lia) r1 r2
  |lst ys=>simp only[Rp]at h';obtain⟨b,us,e,h2,_,r2⟩:=h';cases e;exact(lG I (SqT.of h1) (SqL.of h2)).elim
  |fz ys=>simp only[Rp]at h';obtain⟨b,us,e,h2,r2⟩:=h';cases e;exact(lG I (SqT.of h1) (hk▸h2.sq)).elim
  |exn c f ys=>simp[dep]at n'
  |_=>simp only[Rp]at h';cases h'
 |.lst xs,d',v,n,n',h,h'=>by
  simp only[Rp]at h
  obtain⟨a,vs,rfl,h1,_,r1⟩:=h
  cases d' with
  |tup ys=>simp only[Rp]at h';obtain⟨b,us,e,h2,r2⟩:=h';cases e;exact(lG I (SqT.of h2) (SqL.of h1)).elim
  |lst ys =>
   simp only[Rp]at h';obtain⟨b,us,e,h2,_,r2⟩:=h';cases e
   cases I.list_inj (SqL.of h1) (SqL.of h2)
   simp only[eqD]
   exact iI I hk xs ys vs (by simp only[dep]at n;lia) (by simp only[dep]at n';lia) r1 r2
  |fz ys =>
   simp only[Rp]at h';obtain⟨b,us,e,h2,r2⟩:=h';cases e
   cases I.list_inj (SqL.of h1) (hk▸h2.sq)
   simp only[eqD]
   exact iI I hk xs ys vs (by simp only[dep]at n;lia) (by simp only[dep]at n';lia) r1 r2
  |exn c f ys=>simp[dep]at n'
  |_=>simp only[Rp]at h';cases h'
 |.fz xs,d',v,n,n',h,h'=>by
  simp only[Rp]at h
  obtain⟨a,vs,rfl,h1,r1⟩:=h
  cases d' with
  |tup ys=>simp only[Rp]at h';obtain⟨b,us,e,h2,r2⟩:=h';cases e;exact(lG I (SqT.of h2) (hk▸h1.sq)).elim
  |lst ys =>
   simp only[Rp]at h';obtain⟨b,us,e,h2,_,r2⟩:=h';cases e
   cases I.list_inj (hk▸h1.sq) (SqL.of h2)
   simp only[eqD]
   exact iI I hk xs ys vs (by simp only[dep]at n;lia) (by simp only[dep]at n';lia) r1 r2
  |fz ys =>
   simp only[Rp]at h';obtain⟨b,us,e,h2,r2⟩:=h';cases e
   cases I.list_inj (hk▸h1.sq) (hk▸h2.sq)
   simp only[eqD]
   exact iI I hk xs ys vs (by simp only[dep]at n;lia) (by simp only[dep]at n';lia) r1 r2
  |exn c f ys=>simp[dep]at n'
  |_=>simp only[Rp]at h';cases h'
 |.exn c f xs,d',v,n,n',h,h'=>by simp[dep]at n
theorem iI(I:Inv X pins σ H s)(hk:X.K=K):∀(xs ys:List D) (vs:List V),deps xs<=100->deps ys<=100->Rps K μ H xs vs->Rps K μ H ys vs->eqDs xs ys=true
 |[],ys,vs,n,n',h,h'=>by simp only[Rps]at h;subst h;cases ys with|nil=>rfl|cons y ys=>simp only[Rps]at h';obtain⟨_,_,e,_⟩:=h';cases e
 |x::xs,ys,vs,n,n',h,h'=>by
  simp only[Rps]at h
  obtain⟨v,r,rfl,e2,e3⟩:=h
  cases ys with
  |nil=>simp only[Rps]at h';cases h'
  |cons y ys =>
   simp only[Rps]at h'
   obtain⟨v',r',e,e2',e3'⟩:=h'
   cases e
   simp only[deps]at n n'
   simp only[eqDs,xG I hk x y v (by lia) (by lia) e2 e2',iI I hk xs ys r (by lia) (by lia) e3 e3',Bool.and_self]
end
theorem jL{d:D}(h:fv d=none)(n:dep d<=100)(r:Rp K μ H d v):∃a ds k,v=.ref a/\At K μ H d a ds k:=by
 cases d with
 |tup xs=>simp only[Rp]at r;obtain⟨a,vs,e,q1,q2⟩:=r;exact⟨a,xs,true,e,.tup (SqT.of q1) q2⟩
 |lst xs=>simp only[Rp]at r;obtain⟨a,vs,e,q1,_,q2⟩:=r;exact⟨a,xs,false,e,.lst (SqL.of q1) q2⟩
 |fz xs=>simp only[Rp]at r;obtain⟨a,vs,e,q1,q2⟩:=r;exact⟨a,xs,false,e,.fz q1.sq q2⟩
 |exn c f xs=>simp[dep]at n
 |_=>simp[fv]at h
variable{v1 v2 w2:V}{u1:Value}
theorem aAq{d d2:D}(n1:fv d=some w)(n2:fv d2=some w2)(h1:Rp K μ H d v1)(h2:Rp K μ H d2 v2)(q1:RelV v1 u1)(q2:RelV v2 u2) :
  (SeqAt.RcAt A s u1 u2 (eqD d d2)/\SeqAt.RcNeAt A s u1 u2 (!eqD d d2)):=by
 cases d with
 |non =>
  simp only[Rp]at h1;subst h1;cases q1
  cases d2 with
  |non=>simp only[Rp]at h2;subst h2;cases q2;simp only[eqD];exact⟨SeqAt.RcAt.none_none,SeqAt.RcNeAt.none_none⟩
  |bl y=>simp only[Rp]at h2;subst h2;cases q2;simp only[eqD];exact⟨SeqAt.RcAt.none_bool y,SeqAt.RcNeAt.none_bool y⟩
  |int y=>simp only[Rp]at h2;subst h2;obtain⟨t2,rfl⟩:=q2;simp only[eqD];exact⟨SeqAt.RcAt.none_int y t2,SeqAt.RcNeAt.none_int y t2⟩
  |str y=>simp only[Rp]at h2;subst h2;obtain⟨t2,rfl⟩:=q2;simp only[eqD];exact⟨SeqAt.RcAt.none_str y t2,SeqAt.RcNeAt.none_str y t2⟩
  |_=>simp[fv]at n2
 |bl x =>
  simp only[Rp]at h1;subst h1;cases q1
  cases d2 with
  |non=>simp only[Rp]at h2;subst h2;cases q2;simp only[eqD];exact⟨SeqAt.RcAt.bool_none x,SeqAt.RcNeAt.bool_none x⟩
  |bl y=>simp only[Rp]at h2;subst h2;cases q2;simp only[eqD];exact⟨SeqAt.RcAt.bool_bool x y,SeqAt.RcNeAt.bool_bool x y⟩
  |int y=>simp only[Rp]at h2;subst h2;obtain⟨t2,rfl⟩:=q2;simp only[eqD];exact⟨SeqAt.RcAt.bool_int x y t2,SeqAt.RcNeAt.bool_int x y t2⟩
  |str y=>simp only[Rp]at h2;subst h2;obtain⟨t2,rfl⟩:=q2;simp only[eqD];exact⟨SeqAt.RcAt.bool_str x y t2,SeqAt.RcNeAt.bool_str x y t2⟩
  |_=>simp[fv]at n2
 |int x =>
  simp only[Rp]at h1;subst h1;obtain⟨t,rfl⟩:=q1
  cases d2 with
  |non=>simp only[Rp]at h2;subst h2;cases q2;simp only[eqD];exact⟨SeqAt.RcAt.int_none x t,SeqAt.RcNeAt.int_none x t⟩
  |bl y=>simp only[Rp]at h2;subst h2;cases q2;simp only[eqD];exact⟨SeqAt.RcAt.int_bool x t y,SeqAt.RcNeAt.int_bool x t y⟩
  |int y=>simp only[Rp]at h2;subst h2;obtain⟨t2,rfl⟩:=q2;simp only[eqD];exact⟨SeqAt.RcAt.int_int x t y t2,SeqAt.RcNeAt.int_int x t y t2⟩
  |str y=>simp only[Rp]at h2;subst h2;obtain⟨t2,rfl⟩:=q2;simp only[eqD];exact⟨SeqAt.RcAt.int_str x t y t2,SeqAt.RcNeAt.int_str x t y t2⟩
  |_=>simp[fv]at n2
 |str x =>
  simp only[Rp]at h1;subst h1;obtain⟨t,rfl⟩:=q1
  cases d2 with
  |non=>simp only[Rp]at h2;subst h2;cases q2;simp only[eqD];exact⟨SeqAt.RcAt.str_none x t,SeqAt.RcNeAt.str_none x t⟩
  |bl y=>simp only[Rp]at h2;subst h2;cases q2;simp only[eqD];exact⟨SeqAt.RcAt.str_bool x t y,SeqAt.RcNeAt.str_bool x t y⟩
  |int y=>simp only[Rp]at h2;subst h2;obtain⟨t2,rfl⟩:=q2;simp only[eqD];exact⟨SeqAt.RcAt.str_int x t y t2,SeqAt.RcNeAt.str_int x t y t2⟩
  |str y=>simp only[Rp]at h2;subst h2;obtain⟨t2,rfl⟩:=q2;simp only[eqD];exact⟨SeqAt.RcAt.str_str x t y t2,SeqAt.RcNeAt.str_str x t y t2⟩
  |_=>simp[fv]at n2
 |_=>simp[fv]at n1
variable{its:Array Value}
theorem tD{d2:D}{a:Addr}(pl:s.heap.IsTuple a its)(hu:A.units < cLine)(n2:fv d2=some w2)(h2:Rp K μ H d2 v2)(q2:RelV v2 u2) :
  SeqAt.EqAt A s (.ref a) u2 false/\SeqAt.EqAt A s u2 (.ref a) false/\SeqAt.RcAt A s (.ref a) u2 false/\SeqAt.RcNeAt A s (.ref a) u2 true/\SeqAt.RcAt A s u2 (.ref a) false/\SeqAt.RcNeAt A s u2 (.ref a) true:=by
 cases d2 with
 |non=>simp only[Rp]at h2;subst h2;cases q2;exact⟨SeqAt.EqAt.tuple_none pl hu,SeqAt.EqAt.none_tuple pl hu,SeqAt.RcAt.tuple_none pl hu,SeqAt.RcNeAt.tuple_none pl hu,SeqAt.RcAt.none_tuple pl hu,SeqAt.RcNeAt.none_tuple pl hu⟩
 |bl y=>simp only[Rp]at h2;subst h2;cases q2;exact⟨SeqAt.EqAt.tuple_bool y pl hu,SeqAt.EqAt.bool_tuple y pl hu,SeqAt.RcAt.tuple_bool y pl hu,SeqAt.RcNeAt.tuple_bool y pl hu,SeqAt.RcAt.bool_tuple y pl hu,SeqAt.RcNeAt.bool_tuple y pl hu⟩
 |int y=>simp only[Rp]at h2;subst h2;obtain⟨t2,rfl⟩:=q2;exact⟨SeqAt.EqAt.tuple_int y t2 pl hu,SeqAt.EqAt.int_tuple y t2 pl hu,SeqAt.RcAt.tuple_int y t2 pl hu,SeqAt.RcNeAt.tuple_int y t2 pl hu,SeqAt.RcAt.int_tuple y t2 pl hu,SeqAt.RcNeAt.int_tuple y t2 pl hu⟩
 |str y=>simp only[Rp]at h2;subst h2;obtain⟨t2,rfl⟩:=q2;exact⟨SeqAt.EqAt.tuple_str y t2 pl hu,SeqAt.EqAt.str_tuple y t2 pl hu,SeqAt.RcAt.tuple_str y t2 pl hu,SeqAt.RcNeAt.tuple_str y t2 pl hu,SeqAt.RcAt.str_tuple y t2 pl hu,SeqAt.RcNeAt.str_tuple y t2 pl hu⟩
 |_=>simp[fv]at n2
theorem nF{d2:D}{a:Addr}(pl:s.heap.IsList a its)(hu:A.units < cLine)(n2:fv d2=some w2)(h2:Rp K μ H d2 v2)(q2:RelV v2 u2) :
  SeqAt.EqAt A s (.ref a) u2 false/\SeqAt.EqAt A s u2 (.ref a) false/\SeqAt.RcAt A s (.ref a) u2 false/\SeqAt.RcNeAt A s (.ref a) u2 true/\SeqAt.RcAt A s u2 (.ref a) false/\SeqAt.RcNeAt A s u2 (.ref a) true:=by
 cases d2 with
 |non=>simp only[Rp]at h2;subst h2;cases q2;exact⟨SeqAt.EqAt.list_none pl hu,SeqAt.EqAt.none_list pl hu,SeqAt.RcAt.list_none pl hu,SeqAt.RcNeAt.list_none pl hu,SeqAt.RcAt.none_list pl hu,SeqAt.RcNeAt.none_list pl hu⟩
 |bl y=>simp only[Rp]at h2;subst h2;cases q2;exact⟨SeqAt.EqAt.list_bool y pl hu,SeqAt.EqAt.bool_list y pl hu,SeqAt.RcAt.list_bool y pl hu,SeqAt.RcNeAt.list_bool y pl hu,SeqAt.RcAt.bool_list y pl hu,SeqAt.RcNeAt.bool_list y pl hu⟩
 |int y=>simp only[Rp]at h2;subst h2;obtain⟨t2,rfl⟩:=q2;exact⟨SeqAt.EqAt.list_int y t2 pl hu,SeqAt.EqAt.int_list y t2 pl hu,SeqAt.RcAt.list_int y t2 pl hu,SeqAt.RcNeAt.list_int y t2 pl hu,SeqAt.RcAt.int_list y t2 pl hu,SeqAt.RcNeAt.int_list y t2 pl hu⟩
 |str y=>simp only[Rp]at h2;subst h2;obtain⟨t2,rfl⟩:=q2;exact⟨SeqAt.EqAt.list_str y t2 pl hu,SeqAt.EqAt.str_list y t2 pl hu,SeqAt.RcAt.list_str y t2 pl hu,SeqAt.RcNeAt.list_str y t2 pl hu,SeqAt.RcAt.str_list y t2 pl hu,SeqAt.RcNeAt.str_list y t2 pl hu⟩
 |_=>simp[fv]at n2
variable{k:Bool}
theorem lH{d d2:D}{a:Addr}{xs:List D}(I:Inv X pins σ H s)(hk:X.K=K)(hu:A.units < cLine)(h1:At K μ H d a xs k)(n2:fv d2=some w2)(h2:Rp K μ H d2 v2)(q2:RelV v2 u2) :
  SeqAt.EqAt A s (.ref a) u2 false/\SeqAt.EqAt A s u2 (.ref a) false/\SeqAt.RcAt A s (.ref a) u2 false/\SeqAt.RcNeAt A s (.ref a) u2 true/\SeqAt.RcAt A s u2 (.ref a) false/\SeqAt.RcNeAt A s u2 (.ref a) true:=by
 cases h1 with
 |tup h r=>obtain⟨its,r',pl,_⟩:=I.tuple (hk▸h);exact tD pl hu n2 h2 q2
 |lst h r=>obtain⟨its,r',pl,_⟩:=I.list (hk▸h);exact nF pl.isList hu n2 h2 q2
 |fz h r=>obtain⟨its,r',pl,_⟩:=I.list (hk▸h);exact nF pl.isList hu n2 h2 q2
theorem gO{d d2:D}(n1:fv d=none)(n2:fv d2=some w):eqD d d2=false/\eqD d2 d=false:=by
 cases d <;> simp only[fv,reduceCtorEq]at n1 <;> (cases d2 <;> simp only[fv,reduceCtorEq]at n2 <;> exact⟨rfl,rfl⟩)
theorem aDf{d d2:D}{a b:Addr}{xs ys:List D}{k2:Bool}(I:Inv X pins σ H s)(hk:X.K=K)(hu:A.units < cLine)(h1:At K μ H d a xs k)(h2:At K μ H d2 b ys k2)(n2:dep d2<=100)(ih:Eqs K μ H s A.in1 xs) :
  SeqAt.RcAt A s (.ref a) (.ref b) (eqD d d2)/\SeqAt.RcNeAt A s (.ref a) (.ref b) (!eqD d d2):=by
 cases h1 with
 |tup h r=>cases h2 with
  |tup h' r'=>exact⟨aGj I (hk▸h) (hk▸h') r r' hu (by simp only[dep]at n2;lia) ih,wX I (hk▸h) (hk▸h') r r' hu (by simp only[dep]at n2;lia) ih⟩
  |lst h' r' =>
   obtain⟨_,_,pl,_⟩:=I.tuple (hk▸h);obtain⟨_,_,pl',_⟩:=I.list (hk▸h')
   exact⟨.tuple_list pl pl'.isList hu,.tuple_list pl pl'.isList hu⟩
  |fz h' r' =>
   obtain⟨_,_,pl,_⟩:=I.tuple (hk▸h);obtain⟨_,_,pl',_⟩:=I.list (hk▸h')
   exact⟨.tuple_list pl pl'.isList hu,.tuple_list pl pl'.isList hu⟩
 |lst h r=>cases h2 with
  |tup h' r' =>
   obtain⟨_,_,pl,_⟩:=I.list (hk▸h);obtain⟨_,_,pl',_⟩:=I.tuple (hk▸h')
   exact⟨.list_tuple pl.isList pl' hu,.list_tuple pl.isList pl' hu⟩
  |lst h' r'=>exact⟨pM I (hk▸h) (hk▸h') r r' hu (by simp only[dep]at n2;lia) ih,jQ I (hk▸h) (hk▸h') r r' hu (by simp only[dep]at n2;lia) ih⟩
  |fz h' r'=>exact⟨pM I (hk▸h) (hk▸h') r r' hu (by simp only[dep]at n2;lia) ih,jQ I (hk▸h) (hk▸h') r r' hu (by simp only[dep]at n2;lia) ih⟩
 |fz h r=>cases h2 with
  |tup h' r' =>
   obtain⟨_,_,pl,_⟩:=I.list (hk▸h);obtain⟨_,_,pl',_⟩:=I.tuple (hk▸h')
   exact⟨.list_tuple pl.isList pl' hu,.list_tuple pl.isList pl' hu⟩
  |lst h' r'=>exact⟨pM I (hk▸h) (hk▸h') r r' hu (by simp only[dep]at n2;lia) ih,jQ I (hk▸h) (hk▸h') r r' hu (by simp only[dep]at n2;lia) ih⟩
  |fz h' r'=>exact⟨pM I (hk▸h) (hk▸h') r r' hu (by simp only[dep]at n2;lia) ih,jQ I (hk▸h) (hk▸h') r r' hu (by simp only[dep]at n2;lia) ih⟩
theorem gE{d d2:D}(I:Inv X pins σ H s)(hk:X.K=K)(hu:A.units < cLine)(h1:Rp K μ H d v1)(h2:Rp K μ H d2 v2)(q1:RelV v1 u1)(q2:RelV v2 u2)(m1:dep d<=100)(m2:dep d2<=100)
  (ih:∀a xs k,At K μ H d a xs k->Eqs K μ H s A.in1 xs):SeqAt.EqAt A s u1 u2 (eqD d d2):=by
 cases n1:fv d with
 |some w =>
  cases n2:fv d2 with
  |some w2 =>
   obtain⟨rfl,f1⟩:=xJ n1 h1
   obtain⟨rfl,f2⟩:=xJ n2 h2
   rw[<- aDg n1 n2]
   exact aHd q1 q2 f1 f2
  |none =>
   obtain⟨a,ds,k,rfl,at2⟩:=jL n2 m2 h2
   cases q2
   rw[(gO n2 n1).2]
   exact(lH I hk hu at2 n1 h1 q1).2.1
 |none =>
  cases n2:fv d2 with
  |some w2 =>
   obtain⟨a,ds,k,rfl,at1⟩:=jL n1 m1 h1
   cases q1
   rw[(gO n1 n2).1]
   exact(lH I hk hu at1 n2 h2 q2).1
  |none =>
   obtain⟨a,xs,k,rfl,at1⟩:=jL n1 m1 h1
   obtain⟨b,ys,k2,rfl,at2⟩:=jL n2 m2 h2
   cases q1
   cases q2
   by_cases hab:a=b
   ·subst hab
    rw[xG I hk d d2 _ m1 m2 h1 h2]
    exact .same _
   ·exact .of_refs hab (aDf I hk hu at1 at2 m2 (ih a xs k at1)).1
mutual
theorem aGv(I:Inv X pins σ H s)(hk:X.K=K):∀(d:D) (A:Around) (d2:D) (v1 v2:V) (u1 u2:Value),A.units+dep d < cLine->dep d<=100->dep d2<=100->Rp K μ H d v1->Rp K μ H d2 v2->RelV v1 u1->RelV v2 u2->SeqAt.EqAt A s u1 u2 (eqD d d2)
 |.non,A,d2,v1,v2,u1,u2,hu,m1,m2,h1,h2,q1,q2=>gE I hk (by lia) h1 h2 q1 q2 m1 m2 λa xs k z=>nomatch z
 |.bl x,A,d2,v1,v2,u1,u2,hu,m1,m2,h1,h2,q1,q2=>gE I hk (by lia) h1 h2 q1 q2 m1 m2 λa xs k z=>nomatch z
 |.int x,A,d2,v1,v2,u1,u2,hu,m1,m2,h1,h2,q1,q2=>gE I hk (by lia) h1 h2 q1 q2 m1 m2 λa xs k z=>nomatch z
 |.str x,A,d2,v1,v2,u1,u2,hu,m1,m2,h1,h2,q1,q2=>gE I hk (by lia) h1 h2 q1 q2 m1 m2 λa xs k z=>nomatch z
 |.tup xs,A,d2,v1,v2,u1,u2,hu,m1,m2,h1,h2,q1,q2=>gE I hk (by lia) h1 h2 q1 q2 m1 m2 λa ys k z=>by
  have e:xs=ys:=by cases z;rfl
  subst e
  exact kA I hk xs A.in1 (by simp only[dep]at hu;show A.units+1+deps xs < cLine;lia) (by simp only[dep]at m1;lia)
 |.lst xs,A,d2,v1,v2,u1,u2,hu,m1,m2,h1,h2,q1,q2=>gE I hk (by lia) h1 h2 q1 q2 m1 m2 λa ys k z=>by
  have e:xs=ys:=by cases z;rfl
  subst e
  exact kA I hk xs A.in1 (by simp only[dep]at hu;show A.units+1+deps xs < cLine;lia) (by simp only[dep]at m1;lia)
 |.fz xs,A,d2,v1,v2,u1,u2,hu,m1,m2,h1,h2,q1,q2=>gE I hk (by lia) h1 h2 q1 q2 m1 m2 λa ys k z=>by
  have e:xs=ys:=by cases z;rfl
  subst e
  exact kA I hk xs A.in1 (by simp only[dep]at hu;show A.units+1+deps xs < cLine;lia) (by simp only[dep]at m1;lia)
 |.exn c f xs,A,d2,v1,v2,u1,u2,hu,m1,m2,h1,h2,q1,q2=>by simp[dep]at m1
theorem kA(I:Inv X pins σ H s)(hk:X.K=K):∀(xs:List D) (A:Around),A.units+deps xs < cLine->deps xs<=100->Eqs K μ H s A xs
 |[],A,hu,m=>λj d h=>by simp at h
 |x::xs,A,hu,m=>λj d h=>match j,h with
  |0,h=>λd2 v1 v2 u1 u2 m2 r1 r2 q1 q2=>by
   have e:d=x:=by simpa using h.symm
   rw[e]at r1 ⊢
   exact aGv I hk x A d2 v1 v2 u1 u2 (by simp only[deps]at hu;lia) (by simp only[deps]at m;lia) m2 r1 r2 q1 q2
  |j+1,h=>λd2 v1 v2 u1 u2 m2 r1 r2 q1 q2=>kA I hk xs A (by simp only[deps]at hu;lia) (by simp only[deps]at m;lia) j d (by simpa using h) d2 v1 v2 u1 u2 m2 r1 r2 q1 q2
end
noncomputable section
def wd(M:Mm):W->Option D
 |.d x=>some x
 |.ref i=>(M[i]?).map D.lst
 |_=>none
def Rq(K:Frag)(μ:List Addr)(H:Hp)(d:D)(v:V):Prop:=Rp K μ H d v\/∃a ds vs,d=.lst ds/\v=.ref a/\H a=some (.lst vs)/\Rps K μ H ds vs
theorem uG{w:W}{d:D}(hr:HR K μ H M)(r:Rw K μ H w v)(h:wd M w=some d):Rq K μ H d v:=by
 cases w with
 |d x=>simp only[wd,aAJ]at h;subst h;exact .inl r
 |ref i =>
  simp only[wd,aBS]at h
  obtain⟨ds,h1,rfl⟩:=h
  obtain⟨a,q,rfl,il⟩:=r
  obtain⟨a',vs,q1,q2,q3⟩:=hr.at h1 q
  rw[q]at q1;cases q1
  exact .inr ⟨a,ds,vs,rfl,rfl,q2,q3⟩
 |ob _ _=>simp[wd]at h
 |nest _=>simp[wd]at h
theorem nX{d:D}(n:fv d=none)(m:dep d<=100)(h:Rq K μ H d v):∃a ds k,v=.ref a/\At K μ H d a ds k:=by
 rcases h with h|⟨a,ds,vs,rfl,rfl,q1,q2⟩
 ·exact jL n m h
 ·exact⟨a,ds,false,rfl,.lst (SqL.of q1) q2⟩
theorem yU{d:D}(n:fv d=some w)(h:Rq K μ H d v):Rp K μ H d v:=by
 rcases h with h|⟨a,ds,vs,rfl,rfl,q1,q2⟩
 ·exact h
 ·cases n
theorem aEm{d:D}{a:Addr}{xs:List D}(h:At K μ H d a xs k):dep d=deps xs+1:=by cases h <;> rfl
def pEq(x y:W)(M:Mm):Oc W:=match wd M x,wd M y with
 |some d,some e=>if dep d<=100/\dep e<=100 then .ok (.d (.bl (eqD d e))) M else .bad
 |_,_=>.bad
def pNe(x y:W)(M:Mm):Oc W:=match wd M x,wd M y with
 |some d,some e=>if dep d<=100/\dep e<=100 then .ok (.d (.bl (!eqD d e))) M else .bad
 |_,_=>.bad
def rEqD(K:Frag)(neg:Bool):R2:=λv u H Q=>∃μ d e,Rq K μ H d v/\Rq K μ H e u/\(dep d<=100/\dep e<=100)/\Q (.bl (if neg=true then !eqD d e else eqD d e)) H
end
theorem aJf(I:Inv X pins σ H s)(hk:X.K=K){d d2:D}(hu:A.units+dep d+1 < cLine)(m1:dep d<=100)(m2:dep d2<=100)(h1:Rq K μ H d v1)(h2:Rq K μ H d2 v2)(q1:RelV v1 u1)(q2:RelV v2 u2) :
  (SeqAt.RcAt A s u1 u2 (eqD d d2)/\SeqAt.RcNeAt A s u1 u2 (!eqD d d2)):=by
 have hu0:A.units < cLine:=by lia
 cases n1:fv d with
 |some w =>
  have h1:=yU n1 h1
  cases n2:fv d2 with
  |some w2=>exact aAq n1 n2 h1 (yU n2 h2) q1 q2
  |none =>
   obtain⟨b,ys,k2,rfl,at2⟩:=nX n2 m2 h2
   cases q2
   rw[(gO n2 n1).2]
   obtain⟨_,_,_,_,x,y⟩:=lH I hk hu0 at2 n1 h1 q1
   exact⟨x,y⟩
 |none =>
  obtain⟨a,xs,k,rfl,at1⟩:=nX n1 m1 h1
  cases q1
  cases n2:fv d2 with
  |some w2 =>
   rw[(gO n1 n2).1]
   obtain⟨_,_,x,y,_⟩:=lH I hk hu0 at1 n2 (yU n2 h2) q2
   exact⟨x,y⟩
  |none =>
   obtain⟨b,ys,k2,rfl,at2⟩:=nX n2 m2 h2
   cases q2
   have:=aEm at1
   exact aDf I hk hu0 at1 at2 m2 (kA I hk xs A.in1 (by show A.units+1+deps xs < cLine;lia) (by lia))
theorem aDs(hu:X.A.units+101 < cLine):OpR X (compareOp .Eq) (rEqD X.K false):=by
 intro pins s σ H x y v u Q I rx ry h
 obtain⟨μ,d,e,h1,h2,h3,q⟩:=h
 exact(aJf I rfl (A:=X.A) (by lia) h3.1 h3.2 h1 h2 rx ry).1 _ _ _ _ ⟨.bl _,H,I,rfl,q⟩
theorem aHf(hu:X.A.units+101 < cLine):OpR X (compareOp .NotEq) (rEqD X.K true):=by
 intro pins s σ H x y v u Q I rx ry h
 obtain⟨μ,d,e,h1,h2,h3,q⟩:=h
 exact(aJf I rfl (A:=X.A) (by lia) h3.1 h3.2 h1 h2 rx ry).2 _ _ _ _ ⟨.bl _,H,I,rfl,q⟩
theorem opEq(hu:X.A.units+101 < cLine):OpG X K Z (compareOp .Eq) pEq:=λhk=>⟨_,hk▸aDs hu,by
 intro μ H M x y v u Q hr rx ry p
 unfold pEq at p
 cases q1:wd M x with
 |none=>rw[q1]at p;exact p.elim
 |some d=>cases q2:wd M y with
  |none=>rw[q1,q2]at p;exact p.elim
  |some e =>
   rw[q1,q2]at p
   simp only at p
   split at p
   ·exact⟨μ,d,e,uG hr rx q1,uG hr ry q2,by assumption,p μ H .refl hr _ (by simp[Rw,Rp])⟩
   ·exact p.elim⟩
theorem opNe(hu:X.A.units+101 < cLine):OpG X K Z (compareOp .NotEq) pNe:=λhk=>⟨_,hk▸aHf hu,by
 intro μ H M x y v u Q hr rx ry p
 unfold pNe at p
 cases q1:wd M x with
 |none=>rw[q1]at p;exact p.elim
 |some d=>cases q2:wd M y with
  |none=>rw[q1,q2]at p;exact p.elim
  |some e =>
   rw[q1,q2]at p
   simp only at p
   split at p
   ·exact⟨μ,d,e,uG hr rx q1,uG hr ry q2,by assumption,p μ H .refl hr _ (by simp[Rw,Rp])⟩
   ·exact p.elim⟩
section
variable{K:Frag}{o:Expr}{fo:FE}
@[irreducible] noncomputable def lid:Nat:=2 ^ 4096
variable{i:Int}
theorem pP(h:i.natAbs < lid):Builtin.Int.intBits i<=4096:=by unfold lid at h;exact intBits_le_iff.mpr h
noncomputable section
def mulOk(i j:Int):Bool:=decide ((-18446744073709551616 < i/\i < 18446744073709551616)\/(-18446744073709551616 < j/\j < 18446744073709551616)\/(i.natAbs < lid/\j.natAbs < lid))
theorem aBn:OpR X (binaryOp .Mult) (rI (λi j=>CMul i j\/(i.natAbs < lid/\j.natAbs < lid)) λi j=>.int (i*j)):=L2.opI λ_ _ _ _ _ _ _ hc q=>mul_int q (by
 rcases hc with hc|⟨h1,h2⟩
 ·exact hc.ok
 ·exact mulOk_of_bits (pP h1) (pP h2) (by lia))
def pMul(x y:W)(M:Mm):Oc W:=match x,y with
 |.d (.int i),.d (.int j)=>if mulOk i j=true then .ok (.d (.int (i*j))) M else .bad
 |x,.d (.int k)=>match lv M x with
  |some xs=>if xs.length*k.toNat<=16777216/\k < 9223372036854775808 /\ -9223372036854775808<=k then .ok (.d (.lst (List.replicate k.toNat xs).flatten)) M else .bad
  |none=>.bad
 |_,_=>.bad
theorem jP{x:W}{k:Int}(hr:HR K μ H M)(rx:Rw K μ H x v)(p:Pst K Z μ H (match lv M x with
  |some xs=>if xs.length*k.toNat<=16777216/\k < 9223372036854775808 /\ -9223372036854775808<=k then .ok (.d (.lst (List.replicate k.toNat xs).flatten)) M else .bad
  |none=>.bad) (Wk K Q)):rRep v (.int k) H Q:=by
 cases q1:lv M x with
 |none=>rw[q1]at p;exact p.elim
 |some xs =>
  rw[q1]at p
  simp only at p
  split at p
  ·rename_i hz
   obtain⟨a,vs,rfl,h1,r1⟩:=qB hr rx q1
   exact⟨a,k,vs,rfl,rfl,h1,hz.2.2,hz.2.1,by rw[<- r1.length,aAT];exact hz.1,lD hr (r1.rep k.toNat) p⟩
  ·exact p.elim
theorem opMul:OpG X K Z (binaryOp .Mult) pMul:=λhk=>by
 refine⟨_,OpR.or aBn aDo,?_⟩
 intro μ H M x y v u Q hr rx ry p
 cases y with
 |ref j=>cases x with
  |d x=>cases x <;> exact p.elim
  |_=>exact p.elim
 |ob _ _=>cases x with
  |d x=>cases x <;> exact p.elim
  |_=>exact p.elim
 |nest _=>cases x with
  |d x=>cases x <;> exact p.elim
  |_=>exact p.elim
 |d y=>cases y with
  |int k =>
   have ry':u=.int k:=by simpa only[Rw,Rp]using ry
   subst ry'
   cases x with
   |ref i=>exact .inr (jP hr rx p)
   |ob _ _=>exact .inr (jP hr rx p)
   |nest _=>exact .inr (jP hr rx p)
   |d x=>cases x with
    |int i =>
     simp only[pMul]at p
     simp only[Rw,Rp]at rx
     split at p
     ·rename_i hz
      refine .inl ⟨i,k,rx,rfl,?_,p μ H .refl hr _ (by simp[Rw,Rp])⟩
      simp only[mulOk,aAU]at hz
      rcases hz with hz|hz|hz
      ·exact .inl (.inl hz)
      ·exact .inl (.inr hz)
      ·exact .inr hz
     ·exact p.elim
    |_=>exact .inr (jP hr rx p)
  |_=>cases x with
   |ref i=>exact p.elim
   |ob _ _=>exact p.elim
   |nest _=>exact p.elim
   |d x=>cases x <;> exact p.elim
def pNot(x:W)(M:Mm):Oc W:=match x with
 |.d (.bl b)=>.ok (.d (.bl (!b))) M
 |_=>.bad
theorem xU(ha:Ev X K Z a fa):Ev X K Z (.UnaryOp .Not a pos) (e1 pNot fa):=by
 refine⟨ha.k,cqE (aFx ha.h) ?_⟩
 rintro σ H Q ⟨μ,M,L,hr,lr,p⟩
 refine⟨μ,M,L,hr,lr,p.bind.imp λμ1 H1 M1 x e1 hr1 _ p1 v rx=>?_⟩
 cases x with
 |ref i=>exact p1.elim
 |ob _ _=>exact p1.elim
 |nest _=>exact p1.elim
 |d x=>cases x with
  |bl i=>simp only[Rw,Rp]at rx;exact⟨i,rx,p1 μ1 H1 .refl hr1 _ (by simp[Rw,Rp])⟩
  |_=>exact p1.elim
def eAnd(f g:FE):FE:=λL M=>(f L M).bind λx M1=>match x with
 |.d (.bl true)=>g L M1
 |.d (.bl false)=>.ok (.d (.bl false)) M1
 |_=>.bad
end
variable{rest:List Expr}
theorem pK{op}(ha:Ev X K Z a fa):Ev X K Z (.BoolOp op [a] pos) fa:=⟨ha.k,aHh ha.h⟩
theorem kK(ha:Ev X K Z a fa)(hb:Ev X K Z (.BoolOp .And (b::rest) pos) fb):Ev X K Z (.BoolOp .And (a::b::rest) pos) (eAnd fa fb):=by
 refine⟨ha.k,cqE (aHb ha.h hb.h) ?_⟩
 rintro σ H Q ⟨μ,M,L,hr,lr,p⟩
 refine⟨μ,M,L,hr,lr,p.bind.imp λμ1 H1 M1 x e1 hr1 _ p1 v rx=>?_⟩
 cases x with
 |ref i=>exact p1.elim
 |ob _ _=>exact p1.elim
 |nest _=>exact p1.elim
 |d x=>cases x with
  |bl i =>
   simp only[Rw,Rp]at rx
   refine⟨i,rx,?_⟩
   cases i with
   |true=>exact⟨μ1,M1,L,hr1,lr.ext hr.lsts e1,p1⟩
   |false=>exact p1 μ1 H1 .refl hr1 _ (by simp[Rw,Rp])
  |_=>exact p1.elim
noncomputable section
def pIx(x y:W)(M:Mm):Oc W:=match y with
 |.d (.int i)=>match x with
  |.d (.str z)=>match atI z.cps.toList i with
   |some c=>if z.length<=16777216 then .ok (.d (.str ⟨#[c]⟩)) M else .bad
   |none=>.bad
  |x=>match sv M x with
   |some xs=>match atI xs i with
    |some d=>.ok (.d d) M
    |none=>.bad
   |none=>.bad
 |_=>.bad
theorem aGz{ds:List D}{d:D}(r:Rps K μ H ds vs)(h:atI ds i=some d):∃v,atI vs i=some v/\Rp K μ H d v:=by
 unfold atI at h ⊢
 rw[r.length]at h
 cases q:ixN vs.length i with
 |none=>rw[q]at h;cases h
 |some j=>rw[q]at h;exact r.get h
theorem lM{x:W}(hr:HR K μ H M)(rx:Rw K μ H x v)(p:Pst K Z μ H (match sv M x with
   |some xs=>match atI xs i with
    |some d=>Oc.ok (.d d) M
    |none=>.bad
   |none=>.bad) (Wk K Q)):rIx K v (.int i) H Q:=by
 cases q1:sv M x with
 |none=>rw[q1]at p;exact p.elim
 |some xs =>
  rw[q1]at p
  cases q2:atI xs i with
  |none=>simp only[q2]at p;exact p.elim
  |some d =>
   simp only[q2]at p
   obtain⟨a,vs,rfl,h1,r1⟩:=pO hr rx q1
   obtain⟨v,h2,r2⟩:=aGz r1 q2
   have q:=p μ H .refl hr v r2
   rcases h1 with h1|h1
   ·exact .inl ⟨a,vs,i,v,rfl,rfl,h1,h2,q⟩
   ·exact .inr (.inl ⟨a,vs,i,v,rfl,rfl,h1,h2,q⟩)
theorem aHa:Op2 K Z (rIx K) pIx:=by
 intro μ H M x y v u Q hr rx ry p
 cases y with
 |ref j=>exact p.elim
 |ob _ _=>exact p.elim
 |nest _=>exact p.elim
 |d y=>cases y with
  |int i =>
   have:u=.int i:=by simpa only[Rw,Rp]using ry
   subst this
   cases x with
   |ref j=>exact lM hr rx p
   |ob _ _=>exact lM hr rx p
   |nest _=>exact lM hr rx p
   |d x=>cases x with
    |str z =>
     simp only[Rw,Rp]at rx
     simp only[pIx]at p
     cases q:atI z.cps.toList i with
     |none=>simp only[q]at p;exact p.elim
     |some c =>
      simp only[q]at p
      split at p
      ·exact .inr (.inr ⟨z,i,c,rx,rfl,by rw[aAT];assumption,q,p μ H .refl hr _ (by simp[Rw,Rp])⟩)
      ·exact p.elim
    |_=>exact lM hr rx p
  |_=>exact p.elim
theorem bG(ha:Ev X K Z a fa)(hb:Ev X K Z b fb)(hs:PlainIx b:=by intro _ _;rfl):Ev X K Z (.Subscript a b pos) (e2 pIx fa fb):=by
 have h:=aIf (pos:=pos) (aDw (X:=X)) ha.h hb.h hs
 rw[ha.k]at h
 exact⟨ha.k,cqE h (lift2 aHa)⟩
def aNil:FA:=λ_ M=>.ok [] M
def aCons(f:FE)(g:FA):FA:=λL M=>(f L M).bind λw M1=>(g L M1).bind λws M2=>.ok (w::ws) M2
theorem aE(hk:X.K=K:=by rfl):Ea X K Z [] aNil:=⟨hk,cqA fH λσ H Q ⟨μ,M,L,hr,lr,p⟩=>p μ H .refl hr [] rfl⟩
theorem aA(ha:Ev X K Z e fa)(hr:Ea X K Z es fs)(hs:starEach (e::es) X.env=(false,eval e X.env)::starEach es X.env:=by rfl):Ea X K Z (e::es) (aCons fa fs):=by
 refine⟨ha.k,cqA (cE ha.h hr.h hs) ?_⟩
 rintro σ H Q ⟨μ,M,L,hr,lr,p⟩
 refine⟨μ,M,L,hr,lr,p.bind.imp λμ1 H1 M1 x e1 hr1 _ p1 v rx=>?_⟩
 refine⟨μ1,M1,L,hr1,lr.ext hr.lsts e1,p1.bind.imp λμ2 H2 M2 y e2 hr2 _ p2 us ry=>?_⟩
 exact p2 μ2 H2 .refl hr2 (v::us) ⟨v,us,rfl,rx.ext hr1.lsts e2,ry⟩
def allD:List W->Option (List D)
 |[]=>some []
 |.d x::ws=>(allD ws).map (x::·)
 |_::_=>none
theorem jR:∀{ws:List W} {vs:List V} {ds:List D},Rws K μ H ws vs->allD ws=some ds->Rps K μ H ds vs
 |[],_,_,h,q=>by cases h;simp only[allD,aAJ]at q;subst q;exact .nil
 |.d x::ws,_,_,⟨v,r,e1,e2,e3⟩,q=>by
  simp only[allD,aBS]at q
  obtain⟨ds,q1,rfl⟩:=q
  subst e1
  exact .cons e2 (jR e3 q1)
 |.ref i::ws,_,_,_,q=>by simp[allD]at q
 |.ob _ i::ws,_,_,_,q=>by simp[allD]at q
 |.nest i::ws,_,_,_,q=>by simp[allD]at q
def mkT(ws:List W)(M:Mm):Oc W:=match allD ws with
 |some ds=>if ds.length<=16777216 then okD (.tup ds) M else .bad
 |none=>.bad
def mkL(ws:List W)(M:Mm):Oc W:=match allD ws with
 |some ds=>if ds.length<=16777216 then okD (.lst ds) M else .bad
 |none=>.bad
def mkR(ws:List W)(M:Mm):Oc W:=match allD ws with
 |some ds=>if ds.length<=16777216 then .ok (.ref M.length) (M++[ds])else .bad
 |none=>.bad
def eA(g:List W->Mm->Oc W)(fs:FA):FE:=λL M=>(fs L M).bind g
theorem cC{x1}(h:Ea X K Z es fs):Ev X K Z (.Tuple es x1 pos) (eA mkT fs):=by
 refine⟨h.k,cqE (yI h.h) ?_⟩
 rintro σ H Q ⟨μ,M,L,hr,lr,p⟩
 refine⟨μ,M,L,hr,lr,p.bind.imp λμ1 H1 M1 ws e1 hr1 _ p1 vs rx=>?_⟩
 unfold mkT at p1
 cases q:allD ws with
 |none=>rw[q]at p1;exact p1.elim
 |some ds =>
  rw[q]at p1
  simp only at p1
  split at p1
  ·have r:=jR rx q
   exact⟨by rw[<- r.length,aAT];assumption,lK hr1 r p1⟩
  ·exact p1.elim
theorem cP(h:Ea X K Z es fs):Ev X K Z (.List es pos) (eA mkL fs):=by
 refine⟨h.k,cqE (yP h.h) ?_⟩
 rintro σ H Q ⟨μ,M,L,hr,lr,p⟩
 refine⟨μ,M,L,hr,lr,p.bind.imp λμ1 H1 M1 ws e1 hr1 _ p1 vs rx=>?_⟩
 unfold mkL at p1
 cases q:allD ws with
 |none=>rw[q]at p1;exact p1.elim
 |some ds =>
  rw[q]at p1
  simp only at p1
  split at p1
  ·have r:=jR rx q
   exact⟨by rw[<- r.length,aAT];assumption,lD hr1 r p1⟩
  ·exact p1.elim
theorem uL(h:Ea X K Z es fs):Ev X K Z (.List es pos) (eA mkR fs):=by
 refine⟨h.k,cqE (yP h.h) ?_⟩
 rintro σ H Q ⟨μ,M,L,hr,lr,p⟩
 refine⟨μ,M,L,hr,lr,p.bind.imp λμ1 H1 M1 ws e1 hr1 _ p1 vs rx=>?_⟩
 unfold mkR at p1
 cases q:allD ws with
 |none=>rw[q]at p1;exact p1.elim
 |some ds =>
  rw[q]at p1
  simp only at p1
  split at p1
  ·have r:=jR rx q
   exact⟨by rw[<- r.length,aAT];assumption,aCl hr1 r p1⟩
  ·exact p1.elim
def Cl(K:Frag)(Z:Zt)(r:List V->Hp->VK->Prop)(g:List W->Mm->Oc W):Prop :=
 ∀(μ:List Addr) (H:Hp) (M:Mm) (ws:List W) (vs:List V) (Q:VK),HR K μ H M->Rws K μ H ws vs->Pst K Z μ H (g ws M) (Wk K Q)->r vs H Q
def ClG(X:Cx)(K:Frag)(Z:Zt)(f:Value)(g:List W->Mm->Oc W):Prop:=X.K=K->∃r,CallR X f r/\Cl K Z r g
end
theorem liftC{g:List W->Mm->Oc W}(h:Cl K Z r g):∀σ H Q,lift K Z (eA g fs) σ H Q->tCB r (liftA K Z fs) σ H Q:=by
 rintro σ H Q ⟨μ,M,L,hr,lr,p⟩
 exact⟨μ,M,L,hr,lr,p.bind.imp λμ1 H1 M1 ws e1 hr1 _ p1 vs rx=>h μ1 H1 M1 ws vs Q hr1 rx p1⟩
variable{p:Pos}
theorem bC{id:String}{g:List W->Mm->Oc W}(hc:ClG X K Z (.builtin id) g)(hg:Gl X x)(hm:X.mg x=none)(hv:bootBuiltins x=some (.builtin id))(ha:Ea X K Z (e::es) fs)
  (hn:x≠"__name__":=by decide)(hdb:(x==("__debug__":Str))=false:=by decide)(he:starEach (e::es) X.env=(false,eval e X.env)::starEach es X.env:=by rfl)
  (hpl:(backTo pos (starEach es X.env)).any (·.1)=false:=by rfl):Ev X K Z (.Call (.Name x p) (e::es) [] pos) (eA g fs):=by
 obtain⟨r,h1,h2⟩:=hc ha.k
 exact⟨ha.k,cqE (jN h1 hg hm hv ha.h hn hdb he hpl) (liftC h2)⟩
theorem bY{T:String}{g:List W->Mm->Oc W}(hc:ClG X K Z (.type T) g)(hg:Gl X x)(hm:X.mg x=none)(hv:bootBuiltins x=some (.type T))(ha:Ea X K Z (e::es) fs)
  (hn:x≠"__name__":=by decide)(hdb:(x==("__debug__":Str))=false:=by decide)(he:starEach (e::es) X.env=(false,eval e X.env)::starEach es X.env:=by rfl)
  (hpl:(backTo pos (starEach es X.env)).any (·.1)=false:=by rfl):Ev X K Z (.Call (.Name x p) (e::es) [] pos) (eA g fs):=by
 obtain⟨r,h1,h2⟩:=hc ha.k
 exact⟨ha.k,cqE (vQ h1 hg hm hv ha.h hn hdb he hpl) (liftC h2)⟩
noncomputable section
def cLen(ws:List W)(M:Mm):Oc W:=match ws with
 |[.d (.str z)]=>if z.length<=16777216 then .ok (.d (.int z.length)) M else .bad
 |[w]=>match sv M w with
  |some xs=>.ok (.d (.int xs.length)) M
  |none=>.bad
 |_=>.bad
theorem jZ{w:W}(hr:HR K μ H M)(rx:Rw K μ H w v)(p:Pst K Z μ H (match sv M w with
  |some xs=>Oc.ok (.d (.int xs.length)) M
  |none=>.bad) (Wk K Q)):∃p ys,[v]=[V.ref p]/\(SqL K H p ys\/SqT K H p ys)/\Q (.int ys.length) H:=by
 cases q1:sv M w with
 |none=>rw[q1]at p;exact p.elim
 |some xs =>
  rw[q1]at p
  obtain⟨a,vs,rfl,h1,r1⟩:=pO hr rx q1
  exact⟨a,vs,rfl,h1,p μ H .refl hr _ (by simp[Rw,Rp,r1.length])⟩
theorem callLen:ClG X K Z (.builtin "len") cLen:=λhk=>by
 refine⟨_,CallR.or (hk▸oN) pH,?_⟩
 intro μ H M ws vs Q hr rx p
 match ws,rx,p with
 |[],_,p=>exact p.elim
 |.ref i::[],⟨v,r,e1,e2,e3⟩,p=>cases e3;subst e1;exact .inl (jZ hr e2 p)
 |.ob _ i::[],⟨v,r,e1,e2,e3⟩,p=>cases e3;subst e1;exact .inl (jZ hr e2 p)
 |.nest i::[],⟨v,r,e1,e2,e3⟩,p=>cases e3;subst e1;exact .inl (jZ hr e2 p)
 |.d x::[],⟨v,r,e1,e2,e3⟩,p =>
  cases e3;subst e1
  cases x with
  |str z =>
   simp only[cLen]at p
   simp only[Rw,Rp]at e2
   subst e2
   split at p
   ·exact .inr ⟨z,rfl,by rw[aAT];assumption,p μ H .refl hr _ (by simp[Rw,Rp])⟩
   ·exact p.elim
  |_=>exact .inl (jZ hr e2 p)
 |.ref i::_::_,_,p=>exact p.elim
 |.ob _ i::_::_,_,p=>exact p.elim
 |.nest i::_::_,_,p=>exact p.elim
 |.d x::_::_,_,p=>cases x <;> exact p.elim
def cInt(ws:List W)(M:Mm):Oc W:=match ws with
 |[.d (.int i)]=>.ok (.d (.int i)) M
 |[.d (.bl k)]=>.ok (.d (.int (if k=true then 1 else 0))) M
 |_=>.bad
theorem callInt:ClG X K Z (.type "int") cInt:=λhk=>by
 refine⟨_,wJ,?_⟩
 intro μ H M ws vs Q hr rx p
 match ws,rx,p with
 |[],_,p=>exact p.elim
 |.ref i::_,_,p=>exact p.elim
 |.ob _ i::_,_,p=>exact p.elim
 |.nest i::_,_,p=>exact p.elim
 |.d x::[],⟨v,r,e1,e2,e3⟩,p =>
  cases e3;subst e1
  cases x with
  |int i=>simp only[Rw,Rp]at e2;subst e2;exact .inl ⟨i,rfl,p μ H .refl hr _ (by simp[Rw,Rp])⟩
  |bl k=>simp only[Rw,Rp]at e2;subst e2;exact .inr ⟨k,rfl,p μ H .refl hr _ (by simp[Rw,Rp])⟩
  |_=>exact p.elim
 |.d x::_::_,_,p=>cases x <;> exact p.elim
def cMax2(ws:List W)(M:Mm):Oc W:=match ws with
 |[.d (.int i),.d (.int j)]=>.ok (.d (.int (if j > i then j else i))) M
 |_=>.bad
end
theorem callMax2(hc:X.calm=true):ClG X K Z (.builtin "max") cMax2:=λhk=>by
 refine⟨_,wA hc,?_⟩
 intro μ H M ws vs Q hr rx p
 unfold cMax2 at p
 split at p
 ·obtain⟨v,r,e1,e2,v',r',e1',e2',e3⟩:=rx
  simp only[Rw,Rp]at e2 e2'
  cases e3;subst e1' e1 e2 e2'
  exact⟨_,_,rfl,p μ H .refl hr _ (by simp[Rw,Rp])⟩
 ·exact p.elim
end
section
variable{K:Frag}{o:Expr}{fo:FE}{rest:List Stmt}{F G:FS}
noncomputable section
def sNil:FS:=λL M=>.ok (.nx L) M
def sSeq(F G:FS):FS:=λL M=>(F L M).bind λo M1=>match o with
 |.nx L1=>G L1 M1
 |.bk L1=>.ok (.bk L1) M1
 |.ct L1=>.ok (.ct L1) M1
 |.rt w=>.ok (.rt w) M1
theorem aU(hk:X.K=K:=by rfl):Ess X K Z [] sNil:=⟨hk,cqSs aCc λE σ H ⟨μ,M,L,hr,lr,p⟩=>p μ H .refl hr σ lr⟩
theorem aC(h1:Es X K Z st F)(h2:Ess X K Z rest G):Ess X K Z (st::rest) (sSeq F G):=by
 refine⟨h1.k,cqSs (rF h1.h h2.h) ?_⟩
 rintro E σ H ⟨μ,M,L,hr,lr,p⟩
 refine⟨μ,M,L,hr,lr,p.bind.imp λμ1 H1 M1 o e1 hr1 _ p1=>?_⟩
 cases o with
 |nx L1=>exact λσ' lr'=>⟨μ1,M1,L1,hr1,lr',p1⟩
 |bk L1=>exact p1 μ1 H1 .refl hr1
 |ct L1=>exact p1 μ1 H1 .refl hr1
 |rt w=>exact p1 μ1 H1 .refl hr1
theorem aG(h1:Es X K Z st F):Ess X K Z [st] F:=⟨h1.k,uE h1.h⟩
def sEx(f:FE):FS:=λL M=>(f L M).bind λ_ M1=>.ok (.nx L) M1
theorem aCo(h:Ev X K Z e f)(hs:swapsWith e none pos.line X.env=pure false:=by rfl):Es X K Z (.Expr e pos) (sEx f):=by
 refine⟨h.k,cqS (uR h.h hs) ?_⟩
 rintro E σ H ⟨μ,M,L,hr,lr,p⟩
 exact⟨μ,M,L,hr,lr,p.bind.imp λμ1 H1 M1 x e1 hr1 _ p1 v rx=>p1 μ1 H1 .refl hr1 σ (lr.ext hr.lsts e1)⟩
def sRt(f:FE):FS:=λL M=>(f L M).bind λw M1=>.ok (.rt w) M1
theorem aO(h:Ev X K Z e f):Es X K Z (.Return (some e) pos) (sRt f):=by
 refine⟨h.k,cqS (aEo h.h) ?_⟩
 rintro E σ H ⟨μ,M,L,hr,lr,p⟩
 exact⟨μ,M,L,hr,lr,p.bind.imp λμ1 H1 M1 x e1 hr1 _ p1 v rx=>p1 μ1 H1 .refl hr1 v rx⟩
def sIf(t:FT)(F G:FS):FS:=λL M=>(t L M).bind λb M1=>if b=true then F L M1 else G L M1
theorem bH{c:Expr}{p q:List Stmt}{t:FT}(hc:Et X K Z c t)(ha:Ess X K Z p F)(hb:Ess X K Z q G):Es X K Z (.If c p q pos) (sIf t F G):=by
 refine⟨hc.k,cqS (aIw hc.h ha.h hb.h) ?_⟩
 rintro E σ H ⟨μ,M,L,hr,lr,p⟩
 refine⟨μ,M,L,hr,lr,p.bind.imp λμ1 H1 M1 x e1 hr1 _ p1=>?_⟩
 cases x with
 |true=>exact⟨μ1,M1,L,hr1,lr.ext hr.lsts e1,p1⟩
 |false=>exact⟨μ1,M1,L,hr1,lr.ext hr.lsts e1,p1⟩
def gN(i:Nat):FG:=λw L M=>.ok (L.set i (some w)) M
theorem LR.set{L:Lc}{σ:St}{i:Nat}{w:W}{v:V}(h:LR K μ H L σ)(r:Rw K μ H w v):LR K μ H (L.set i (some w)) (σ.set i (some v))where
 len:=by simp[h.len]
 ent:=λj u q=>by
  by_cases hj:i=j
  ·subst hj
   have hl:i < L.length:=by
    by_cases hl:i < L.length
    ·exact hl
    ·rw[List.set_eq_of_length_le (by lia)]at q
     rw[aDD (by lia)]at q;cases q
   rw[aBN hl]at q
   cases q
   exact⟨v,by rw[aBN (by rw[<- h.len];exact hl)],r⟩
  ·rw[aBQ hj]at q
   obtain⟨x,q1,q2⟩:=h.ent j u q
   exact⟨x,by rw[aBQ hj];exact q1,q2⟩
theorem bM(hN:X.N.Nodup)(hi:X.N[i]?=some x:=by rfl)(hx:Loc X.env.scope x:=by first|exact Or.inl rfl|exact Or.inr rfl)(hk:X.K=K:=by rfl)(hf:X.fn x=true\/X.env.scope.names.lookup x=some .local:=by first|exact .inl rfl|exact .inr rfl|assumption) :
  Eg X K Z (.Name x pos) (gN i):=⟨hk,cqG (aCf hN hi hx hf) λv σ H Q ⟨μ,M,L,w,hr,lr,rx,p⟩=>p μ H .refl hr _ (lr.set rx)⟩
def gsNil:FGs:=λds L M=>match ds with
 |[]=>.ok L M
 |_=>.bad
def gsCons(g:FG)(gs:FGs):FGs:=λds L M=>match ds with
 |d::r=>(g (.d d) L M).bind λL1 M1=>gs r L1 M1
 |[]=>.bad
end
theorem fD(hk:X.K=K:=by rfl):Egs X K Z [] gsNil:=⟨hk,cqGs aBo λvs σ H Q ⟨μ,M,L,ds,hr,lr,rx,p⟩=>by
 cases ds with
 |nil=>simp only[Rps]at rx;exact⟨rx,p μ H .refl hr σ lr⟩
 |cons d r=>exact p.elim⟩
variable{gs:FGs}
theorem bN{g:FG}(h1:Eg X K Z e g)(h2:Egs X K Z es gs)(hs:(assignEach (e::es) X.env).map (·.2)=assign e X.env::(assignEach es X.env).map (·.2):=by rfl):Egs X K Z (e::es) (gsCons g gs) :=
 ⟨h1.k,cqGs (yH h1.h h2.h hs) λvs σ H Q ⟨μ,M,L,ds,hr,lr,rx,p⟩=>by
  cases ds with
  |nil=>exact p.elim
  |cons d r =>
   simp only[Rps]at rx
   obtain⟨v,vr,e1,rd,rr⟩:=rx
   refine⟨v,vr,e1,μ,M,L,.d d,hr,lr,rd,p.bind.imp λμ1 H1 M1 L1 e1 hr1 _ p1 σ1 lr1=>?_⟩
   exact⟨μ1,M1,L1,r,hr1,lr1,Rps.ext hr.lsts e1 _ _ rr,p1⟩⟩
noncomputable section
def gT(n:Nat)(gs:FGs):FG:=λw L M=>match w with
 |.d (.tup xs)=>if xs.length=n then gs xs L M else .bad
 |_=>.bad
theorem hX{k:Nat}(hc:X.calm=true)(h:Egs X K Z es gs)(hn:(assignEach es X.env).length=n:=by rfl)(hst:(assignEach es X.env).findIdx? (·.1)=none:=by rfl):Eg X K Z (.Tuple es k pos) (gT n gs):=by
 have h':=aDi (k:=k) (pos:=pos) hc h.h hn hst
 rw[h.k]at h'
 refine⟨h.k,cqG h' λv σ H Q ⟨μ,M,L,w,hr,lr,rx,p⟩=>?_⟩
 cases w with
 |ref i=>exact p.elim
 |ob _ _=>exact p.elim
 |nest _=>exact p.elim
 |d x=>cases x with
  |tup xs =>
   simp only[gT]at p
   split at p
   ·simp only[Rw,Rp]at rx
    obtain⟨a,vs,e1,q1,r1⟩:=rx
    exact⟨a,vs,e1,SqT.of q1,by rw[<- r1.length];assumption,μ,M,L,xs,hr,lr,r1,p⟩
   ·exact p.elim
  |_=>exact p.elim
def gS(fo fi:FE):FG:=λw L M=>(fo L M).bind λo M1=>(fi L M1).bind λi M2=>match o,i,w with
 |.ref k,.d (.int j),.d x=>match M2[k]? with
  |some xs=>match ixN xs.length j with
   |some t=>.ok L (M2.set k (xs.set t x))
   |none=>.bad
  |none=>.bad
 |_,_,_=>.bad
theorem tQ{i:Expr}{fi:FE}(ho:Ev X K Z o fo)(hi:Ev X K Z i fi)(ha:∀v,assign (.Subscript o i pos) X.env v=(do
   let ov <- holding [v] (eval o X.env)
   let iv <- holding [v,ov] (eval i X.env)
   standAt pos
   holding [v,ov,iv] (setItem ov iv v)
   release [v,ov,iv] []):=by intro _;rfl):Eg X K Z (.Subscript o i pos) (gS fo fi):=by
 refine⟨ho.k,cqG (aGx ho.h hi.h yG ha) λv σ H Q ⟨μ,M,L,w,hr,lr,rx,p⟩=>?_⟩
 refine⟨μ,M,L,hr,lr,p.bind.imp λμ1 H1 M1 x e1 hr1 _ p1 vo ro=>?_⟩
 refine⟨μ1,M1,L,hr1,lr.ext hr.lsts e1,p1.bind.imp λμ2 H2 M2 y e2 hr2 _ p2 vi ri=>?_⟩
 cases x with
 |d x=>exact p2.elim
 |ob _ _=>exact p2.elim
 |nest _=>exact p2.elim
 |ref k=>cases y with
  |ref j=>exact p2.elim
  |ob _ _=>exact p2.elim
  |nest _=>exact p2.elim
  |d y=>cases y with
   |int j=>cases w with
    |ref q=>exact p2.elim
    |ob _ _=>exact p2.elim
    |nest _=>exact p2.elim
    |d z =>
     simp only at p2
     cases q1:M2[k]? with
     |none=>simp only[q1]at p2;exact p2.elim
     |some xs =>
      simp only[q1]at p2
      cases q2:ixN xs.length j with
      |none=>simp only[q2]at p2;exact p2.elim
      |some t =>
       simp only[q2]at p2
       have ro:=ro.ext hr1.lsts e2
       obtain⟨a,qa,rfl,il⟩:=ro
       obtain⟨a',vs,qa',h1,r1⟩:=hr2.at q1 qa
       rw[qa]at qa';cases qa'
       simp only[Rw,Rp]at ri
       subst ri
       have rz:=Rw.ext hr1.lsts e2 (Rw.ext hr.lsts e1 rx)
       refine⟨a,vs,j,t,rfl,rfl,h1,by rw[<- r1.length];exact q2,?_⟩
       exact p2 μ2 _ (dI qa) (hr2.set qa (Rps.set rz t r1)) σ ((lr.ext hr.lsts (e1.trans e2)).ext hr2.lsts (dI qa))
   |_=>exact p2.elim
def sAs(f:FE)(g:FG):FS:=λL M=>(f L M).bind λw M1=>(g w L M1).bind λL1 M2=>.ok (.nx L1) M2
theorem eR{tg:Expr}{g:FG}(he:Ev X K Z e f)(hg:Eg X K Z tg g)(hs:swapsWithSole [tg] e pos.line X.env=pure false:=by rfl)(hw:swappedStores [tg] e X.env=pure none:=by rfl)
  (h1:(assignEach [tg] X.env).map (·.2)=[assign tg X.env]:=by rfl):Es X K Z (.Assign [tg] e pos) (sAs f g):=by
 refine⟨he.k,cqS (aFz he.h hg.h hs hw h1) ?_⟩
 rintro E σ H ⟨μ,M,L,hr,lr,p⟩
 refine⟨μ,M,L,hr,lr,p.bind.imp λμ1 H1 M1 x e1 hr1 _ p1 v rx=>?_⟩
 exact⟨μ1,M1,L,x,hr1,lr.ext hr.lsts e1,rx,p1.bind.imp λμ2 H2 M2 L2 e2 hr2 _ p2 σ2 lr2=>p2 μ2 H2 .refl hr2 σ2 lr2⟩
theorem aK(hN:X.N.Nodup)(he:Ev X K Z e f)(hi:X.N[i]?=some x:=by rfl)(hx:Loc X.env.scope x:=by first|exact Or.inl rfl|exact Or.inr rfl)(hs:swapsWith e (some (.Name x pos')) pos.line X.env=pure false:=by rfl)
  (hf:X.fn x=true\/X.env.scope.names.lookup x=some .local:=by first|exact .inl rfl|exact .inr rfl|assumption):Es X K Z (.Assign [.Name x pos'] e pos) (sAs f (gN i)):=by
 refine⟨he.k,cqS (aDl hN hi hx he.h hs hf) ?_⟩
 rintro E σ H ⟨μ,M,L,hr,lr,p⟩
 refine⟨μ,M,L,hr,lr,p.bind.imp λμ1 H1 M1 x e1 hr1 _ p1 v rx=>?_⟩
 exact p1 μ1 H1 .refl hr1 _ (LR.set (lr.ext hr.lsts e1) rx)
def sPar(i j:Nat)(fs:FA):FS:=λL M=>(fs L M).bind λws M1=>match ws with
 |[v,w]=>.ok (.nx ((L.set i (some v)).set j (some w))) M1
 |_=>.bad
end
end
section
variable{K:Frag}{o:Expr}{fo:FE}{rest:List Stmt}{F G:FS}
theorem aHi{y:Str}{px py pt:Pos}{kt k2 pt2}(hc:X.calm=true)(hN:X.N.Nodup)(ha:Ea X K Z [a,b] fs)(hi:X.N[i]?=some x:=by rfl)(hj:X.N[j]?=some y:=by rfl)(hij:i≠j:=by decide)
  (hx:X.env.scope.names.lookup x=some .local:=by rfl)(hy:X.env.scope.names.lookup y=some .local:=by rfl)
  (hw:swappedStores [.Tuple [.Name x px,.Name y py] kt pt] (.Tuple [a,b] k2 pt2) X.env=pure (some [x,y]):=by rfl)
  (hs:swapsWithSole [.Tuple [.Name x px,.Name y py] kt pt] (.Tuple [a,b] k2 pt2) pos.line X.env=pure false:=by rfl) :
  Es X K Z (.Assign [.Tuple [.Name x px,.Name y py] kt pt] (.Tuple [a,b] k2 pt2) pos) (sPar i j fs):=by
 refine⟨ha.k,cqS (aGt hc hN hi hj hij hx hy ha.h hw hs) ?_⟩
 rintro E σ H ⟨μ,M,L,hr,lr,p⟩
 refine⟨μ,M,L,hr,lr,p.bind.imp λμ1 H1 M1 ws e1 hr1 _ p1 vs rx=>?_⟩
 match ws,rx,p1 with
 |[],_,p1=>exact p1.elim
 |[_],_,p1=>exact p1.elim
 |[v,w],⟨v1,r,q1,q2,v2,r',q1',q2',q3⟩,p1 =>
  cases q3;subst q1' q1
  exact⟨v1,v2,rfl,p1 μ1 H1 .refl hr1 _ (LR.set (LR.set (lr.ext hr.lsts e1) q2) q2')⟩
 |_::_::_::_,_,p1=>exact p1.elim
noncomputable section
def sAug(g:W->W->Mm->Oc W)(i:Nat)(f:FE):FS:=λL M=>(eV i L M).bind λx _=>(f L M).bind λy M1=>(g x y M1).bind λz M2=>.ok (.nx (L.set i (some z))) M2
theorem aCn{i:Nat}{g:Int->Int->Int}(hN:X.N.Nodup)(ho:PIp X op (ipI g))(he:Ev X K Z e f)(hi:X.N[i]?=some x:=by rfl)(hx:Loc X.env.scope x:=by first|exact Or.inl rfl|exact Or.inr rfl)
  (hf:X.fn x=true\/X.env.scope.names.lookup x=some .local:=by first|exact .inl rfl|exact .inr rfl|assumption):Es X K Z (.AugAssign (.Name x pos') op e pos) (sAug (pI (λ_ _=>true) λi j=>.int (g i j)) i f):=by
 refine⟨he.k,cqS (aGs hN hi hx he.h ho hf) ?_⟩
 rintro E σ H ⟨μ,M,L,hr,lr,p⟩
 unfold sAug eV at p
 cases q:L[i]? with
 |none=>rw[q]at p;exact p.elim
 |some o =>
  cases o with
  |none=>rw[q]at p;exact p.elim
  |some w =>
   rw[q]at p
   obtain⟨v,q1,q2⟩:=lr.ent i w q
   refine⟨v,q1,μ,M,L,hr,lr,(show Pst K Z μ H ((f L M).bind _) _ from p).bind.imp λμ1 H1 M1 y e1 hr1 _ p1 u ru=>?_⟩
   cases w with
   |ref i=>exact p1.elim
   |ob _ _=>exact p1.elim
   |nest _=>exact p1.elim
   |d w=>cases y with
    |ref j=>cases w <;> exact p1.elim
    |ob _ _=>cases w <;> exact p1.elim
    |nest _=>cases w <;> exact p1.elim
    |d y=>cases w <;> cases y <;> first
     |exact p1.elim
     |(simp only[Rw,Rp]at q2 ru
       exact⟨_,_,q2,ru,p1 μ1 H1 .refl hr1 _ (LR.set (lr.ext hr.lsts e1) (by simp[Rw,Rp]))⟩)
theorem xY{k:Nat}(hr:HR K μ H M)(r:Rw K μ H (.ref k) v):tyV K "list" v H:=by
 obtain⟨a,q,rfl,il⟩:=r
 obtain⟨vs,h⟩:=il
 exact .inl ⟨rfl,vs,SqL.of h⟩
def eM1(g:W->W->Mm->Oc W)(fo fe:FE):FE:=λL M=>(fo L M).bind λx M1=>match x with
 |.ref k=>(fe L M1).bind λy M2=>g (.ref k) y M2
 |_=>.bad
def pExtend(x y:W)(M:Mm):Oc W:=match x with
 |.ref k=>match M[k]?,lv M y with
  |some xs,some ys=>if xs.length+ys.length<=16777216 then .ok (.d .non) (M.set k (xs++ys))else .bad
  |_,_=>.bad
 |_=>.bad
def pPop(x:W)(M:Mm):Oc W:=match x with
 |.ref k=>match M[k]? with
  |some xs=>match xs.getLast? with
   |some d=>.ok (.d d) (M.set k xs.dropLast)
   |none=>.bad
  |none=>.bad
 |_=>.bad
theorem aFq(ho:Ev X K Z o fo)(hbase:attributeBase o "pop" X.env (eval o X.env)=eval o X.env:=by rfl)(hline:(apos.endLine==cpos.line)=true:=by rfl) :
  Ev X K Z (.Call (.Attribute o "pop" apos) [] [] cpos) (e1 pPop fo):=by
 have h:=aEk PySem.F.plainAttrs_list PySem.F.slot_list_pop PySem.F.type_list_pop aGb ho.h hbase hline
 rw[ho.k]at h
 refine⟨ho.k,cqE h ?_⟩
 rintro σ H Q ⟨μ,M,L,hr,lr,p⟩
 refine⟨μ,M,L,hr,lr,p.bind.imp λμ1 H1 M1 x e1 hr1 _ p1 v rx=>?_⟩
 cases x with
 |d x=>exact p1.elim
 |ob _ _=>exact p1.elim
 |nest _=>exact p1.elim
 |ref k =>
  refine⟨xY hr1 rx,?_⟩
  simp only[pPop]at p1
  cases q1:M1[k]? with
  |none=>simp only[q1]at p1;exact p1.elim
  |some xs =>
   simp only[q1]at p1
   cases q2:xs.getLast? with
   |none=>simp only[q2]at p1;exact p1.elim
   |some d =>
    simp only[q2]at p1
    obtain⟨a,qa,rfl,il⟩:=rx
    obtain⟨a',vs,qa',h1,r1⟩:=hr1.at q1 qa
    rw[qa]at qa';cases qa'
    rw[List.getLast?_eq_getElem?]at q2
    obtain⟨u,q3,q4⟩:=r1.get q2
    refine⟨a,vs,u,rfl,rfl,h1,by rw[<- r1.length];exact q3,?_⟩
    exact p1 μ1 _ (dI qa) (hr1.set qa r1.dropLast) u (Rp.ext hr1.lsts (dI qa) _ _ q4)
abbrev FO:=Lc->Mm->Oc (Option Int)
def liftO(K:Frag)(Z:Zt)(f:FO):TO:=λσ H Q=>∃μ M L,HR K μ H M/\LR K μ H L σ/\Pst K Z μ H (f L M) λμ' H' _ w=>Q w H'
end
structure Eo(X:Cx)(K:Frag)(Z:Zt)(e:Option Expr)(f:FO):Prop where
 k:X.K=K
 h:PO X e (liftO K Z f)
noncomputable section
def oNo:FO:=λ_ M=>.ok none M
def oAt(f:FE):FO:=λL M=>(f L M).bind λw M1=>match w with
 |.d (.int i)=>.ok (some i) M1
 |_=>.bad
theorem cqO{oe:Option Expr}{t t':TO}(h:PO X oe t)(i:∀σ H Q,t' σ H Q->t σ H Q):PO X oe t':=λpins s σ H Q I q=>h pins s σ H Q I (i _ _ _ q)
theorem fT(hk:X.K=K:=by rfl):Eo X K Z none oNo:=⟨hk,cqO aBx λσ H Q ⟨μ,M,L,hr,lr,p⟩=>p μ H .refl hr⟩
theorem bJ(h:Ev X K Z e f):Eo X K Z (some e) (oAt f):=by
 refine⟨h.k,cqO (aBs h.h) ?_⟩
 rintro σ H Q ⟨μ,M,L,hr,lr,p⟩
 refine⟨μ,M,L,hr,lr,p.bind.imp λμ1 H1 M1 x e1 hr1 _ p1 v rx=>?_⟩
 cases x with
 |ref i=>exact p1.elim
 |ob _ _=>exact p1.elim
 |nest _=>exact p1.elim
 |d x=>cases x with
  |int i=>simp only[Rw,Rp]at rx;exact⟨i,rx,p1 μ1 H1 .refl hr1⟩
  |_=>exact p1.elim
def cut(xs:List α)(lo hi:Option Int):List α:=(xs.drop (HT.sIx xs.length 0 lo)).take (HT.sIx xs.length xs.length hi - HT.sIx xs.length 0 lo)
def pSl(x:W)(lo hi:Option Int)(M:Mm):Oc W:=match x with
 |.d (.tup xs)=>okD (.tup (cut xs lo hi)) M
 |x=>match lr M x with
  |some xs=>okD (.lst (cut xs lo hi)) M
  |none=>.bad
end
theorem tZ{ds:List D}(r:Rps K μ H ds vs):Rps K μ H (cut ds lo hi) (cutV vs lo hi):=by
 unfold cut cutV
 rw[r.length]
 exact(r.drop _).take _
end
theorem kL:fillsNumberSlot (.type "tuple") "mul"=pure false :=
 PySem.fillsNumberSlot_seq (id:="tuple.__mul__") (r:=some (.builtin "tuple.__rmul__")) aEQ.lookup (by decide +kernel) F.slot_tuple_rmul.lookup (by decide +kernel)
theorem oS:seqRepeat? (.type "tuple")=pure (some (.builtin "tuple.__mul__")):=by
 unfold seqRepeat?
 rw[PySem.seqSlot_of (T:="tuple") (name:="__mul__") (id:="tuple.__mul__") aEQ.lookup (by decide +kernel),PySem.seqSlot_of (T:="tuple") (name:="__rmul__") (id:="tuple.__rmul__") F.slot_tuple_rmul.lookup (by decide +kernel)]
 rfl
theorem mH(a:Int)(t:Tok)(l:Addr)(items:Array Value)(n:Nat)(dd:Option Addr)(sl:Array (Option Value)) :
  Meets (Builtin.«int.__rmul__» ⟨[.int a t,.ref l],[]⟩) (λ_ R s=>s.heap.get? l=some {cls:=.type "tuple",dict:=dd,data:=.seq items n,slots:=sl}/\R (.ok (.ret Value.notImplemented)) s) :=
 .of_wp λprog w A R s h=>by obtain⟨hp,g,d,tk,os⟩:=s;obtain⟨hl,h⟩:=h;wp_walk using aBD hl;exact⟨_,rfl,h⟩
theorem sL(l:Addr)(items:Array Value)(n:Nat)(dd:Option Addr)(sl:Array (Option Value))(x:Int)(u:Tok)(h1:(decide (x < -(2 ^ 63)) || decide (x>=2 ^ 63))=false)(h2:(items.isEmpty || x==1)=true) :
  Meets (Builtin.«tuple.__mul__» ⟨[.ref l,.int x u],[]⟩) (λ_ R s=>s.heap.get? l=some {cls:=.type "tuple",dict:=dd,data:=.seq items n,slots:=sl}/\R (.ok (.ret (Value.ref l))) s) :=
 .of_wp λprog w A R s h=>by
  obtain⟨hp,g,d,tk,os⟩:=s;obtain⟨hl,h⟩:=h
  have f1:=aFJ
  wp_walk using aBD hl
  refine aFY (by rw[h1];rfl) ?_
  wp_walk using aBD hl
  exact⟨_,rfl,h⟩
theorem tE(l:Addr)(items:Array Value)(n:Nat)(dd:Option Addr)(sl:Array (Option Value))(x:Int)(u:Tok)(h1:(decide (x < -(2 ^ 63)) || decide (x>=2 ^ 63))=false)(h2:(items.isEmpty || x==1)=false)(h3:(decide (x<=0) || items.isEmpty)=true) :
  Meets (Builtin.«tuple.__mul__» ⟨[.ref l,.int x u],[]⟩) (λ_ R s=>s.heap.get? l=some {cls:=.type "tuple",dict:=dd,data:=.seq items n,slots:=sl}/\R (.ok (.ret (Value.ref s.heap.objs.size))) {s with heap:=s.heap.push {cls:=Value.type "tuple",data:=Data.seq #[]},toks:=s.toks}) :=
 .of_wp λprog w A R s h=>by
  obtain⟨hp,g,d,tk,os⟩:=s;obtain⟨hl,h⟩:=h
  have f1:=aFJ
  wp_walk using aBD hl
  refine aFY (by rw[h1];rfl) ?_
  wp_walk using aBD hl
  exact⟨_,rfl,h⟩
theorem tN(l:Addr)(items:Array Value)(n:Nat)(dd:Option Addr)(sl:Array (Option Value))(x:Int)(u:Tok)(h1:(decide (x < -(2 ^ 63)) || decide (x>=2 ^ 63))=false)(h2:(items.isEmpty || x==1)=false)(h3:(decide (x<=0) || items.isEmpty)=false)
  (h4:¬((items.size:Int)*x > (2 ^ 63 - 1) / 8))(h5:¬Builtin.Tuple.tupleTooMany (items.size*x)=true)(hsz:(List.foldl (λx1 x2=>x1++x2) #[] (List.replicate x.toNat items)).size<=sizeLine) :
  Meets (Builtin.«tuple.__mul__» ⟨[.ref l,.int x u],[]⟩) (λ_ R s=>s.heap.get? l=some {cls:=.type "tuple",dict:=dd,data:=.seq items n,slots:=sl}/\R (.ok (.ret (Value.ref s.heap.objs.size))) {s with heap:=s.heap.push {cls:=Value.type "tuple",data:=Data.seq (List.foldl (λx1 x2=>x1++x2) #[] (List.replicate x.toNat items))},toks:=s.toks}) :=
 .of_wp λprog w A R s h=>by
  obtain⟨hp,g,d,tk,os⟩:=s;obtain⟨hl,h⟩:=h
  have f1:=aFJ
  wp_walk using aBD hl
  refine aFY (by rw[h1];rfl) ?_
  wp_walk using aBD hl
  refine aFY (aAS h4) ?_
  wp_walk using aBD hl
  exact⟨_,rfl,h⟩
variable{K:Frag}
noncomputable def rRepT(K:Frag):R2:=λx y H Q=>∃a k xs,x=.ref a/\y=.int k/\SqT K H a xs /\ -(2 ^ 63)<=k/\k < 2 ^ 63/\xs.length*k.toNat<=sizeLine /\
 ((xs=[]\/k=1)->Q (.ref a) H)/\∀p,H p=none->Q (.ref p) (upd H p (.tup (List.replicate k.toNat xs).flatten))
theorem lU(its:List Value)(m:Nat):List.foldl (λx1 x2=>x1++x2) #[] (List.replicate m its.toArray)=(List.replicate m its).flatten.toArray:=by
 have:=kX its m []
 rw[List.nil_append]at this
 exact this
theorem aAc:OpR X (binaryOp .Mult) (rRepT X.K):=by
 intro pins s σ H x y v u Q I rx ry h
 obtain⟨l,k,xs,rfl,rfl,hH,h1,h2,hz,qs,q⟩:=h
 cases rx
 obtain⟨t,rfl⟩:=ry
 obtain⟨its,r,pl,hsz⟩:=I.tuple hH
 obtain⟨⟨cls,dd,data,sl⟩,ho,hc,n,hd⟩:=id pl
 simp only at hc hd
 subst hc hd
 have hl:=r.length
 have b1:(decide (k < -(2 ^ 63)) || decide (k>=2 ^ 63))=false:=by
  rw[aFT];exact⟨aAS (by lia),aAS (by lia)⟩
 refine wpAny_binaryOp_repeat_ref (T:="tuple") (U:="int") (by decide) ⟨_,ho,rfl⟩ (λs'=>aGO s' k t) kL F.fills_int_mul aFU oS F.slot_int_index.lookup
  (aDP aFU (aGO s k t) F.entry_int_rmul (F.args_int_rmul_2 _ _) (mH k t l its.toArray n dd sl) ⟨ho,rfl,⟨_,ho,rfl⟩,?_⟩)
 by_cases hs:xs=[]\/k=1
 ·refine aDP aEQ ⟨_,ho,rfl⟩ aGM (aGI _ _) (sL l its.toArray n dd sl k t b1 ?_) ⟨ho,⟨.ref l,H,I,rfl,qs hs⟩⟩
  rcases hs with hs|hs
  ·subst hs
   have:its=[]:=by simpa using hl.symm
   simp[this]
  ·simp[hs]
 ·have hne:its≠[]:=λz=>hs (.inl (by subst z;simpa using hl))
  have hn1:(its.toArray.isEmpty || k==1)=false:=by
   rw[aFT];exact⟨by simpa using hne,by simp;exact λz=>hs (.inr z)⟩
  by_cases h0:k<=0
  ·refine aDP aEQ ⟨_,ho,rfl⟩ aGM (aGI _ _) (tE l its.toArray n dd sl k t b1 hn1 (by simp[h0])) ⟨ho,?_⟩
   have e:(List.replicate k.toNat xs).flatten=[]:=by rw[show k.toNat=0 by lia];rfl
   have q:=q s.heap.objs.size I.fresh
   rw[e]at q
   refine⟨.ref s.heap.objs.size,_,I.laid (t':=s.toks) (o:=.tup []) (λb ob q=>aAA _ q) (aAH _) ?_,rfl,q⟩
   exact⟨aFF _,[],.nil,IsTup.new _ _⟩
  ·have hk:((k.toNat:Nat):Int)=k:=by lia
   have hz':its.length*k.toNat<=sizeLine:=by rw[<- hl];exact hz
   have hcast:((its.toArray.size:Nat):Int)*k=((its.length*k.toNat:Nat):Int):=by
    rw[aAK,Int.natCast_mul,hk]
   have hs24:(sizeLine:Nat)=16777216:=aAT
   refine aDP aEQ ⟨_,ho,rfl⟩ aGM (aGI _ _) (tN l its.toArray n dd sl k t b1 hn1 ?_ ?_ ?_ ?_) ⟨ho,?_⟩
   ·rw[aFT];exact⟨aAS h0,by simpa using hne⟩
   ·rw[hcast];lia
   ·unfold Builtin.Tuple.tupleTooMany
    rw[hcast]
    intro z
    have z:=aEB z
    lia
   ·rw[lU,aAK,oG,Nat.mul_comm];exact hz'
   ·rw[lU]
    refine⟨.ref s.heap.objs.size,_,I.laid (t':=s.toks) (o:=.tup (List.replicate k.toNat xs).flatten) (λb ob q=>aAA _ q) (aAH _) ?_,rfl,q _ I.fresh⟩
    exact⟨by rw[oG,Nat.mul_comm];exact hz,_,r.rep k.toNat,IsTup.new _ _⟩
noncomputable def pMulA(x y:W)(M:Mm):Oc W:=match x,y with
 |.d (.tup xs),.d (.int k)=>if xs.length*k.toNat<=16777216/\k < 9223372036854775808 /\ -9223372036854775808<=k then okD (.tup (List.replicate k.toNat xs).flatten) M else .bad
 |x,y=>pMul x y M
theorem opMulA:OpG X K Z (binaryOp .Mult) pMulA:=λhk=>by
 obtain⟨r,h1,h2⟩:=(opMul (X:=X) (K:=K) (Z:=Z)) hk
 refine⟨_,OpR.or (hk▸aAc) h1,?_⟩
 intro μ H M x y v u Q hr rx ry p
 have gen:=λp=>(Or.inr (h2 μ H M x y v u Q hr rx ry p):rRepT K v u H Q\/r v u H Q)
 cases x with
 |ref i=>exact gen (by cases y with|ref j=>exact p|ob _ _=>exact p|nest _=>exact p|d y=>cases y <;> exact p)
 |ob _ _=>exact gen (by cases y with|ref j=>exact p|ob _ _=>exact p|nest _=>exact p|d y=>cases y <;> exact p)
 |nest _=>exact gen (by cases y with|ref j=>exact p|ob _ _=>exact p|nest _=>exact p|d y=>cases y <;> exact p)
 |d x=>cases x with
  |tup xs=>cases y with
   |ref j=>exact gen p
   |ob _ _=>exact gen p
   |nest _=>exact gen p
   |d y=>cases y with
    |int k =>
     simp only[pMulA]at p
     split at p
     ·rename_i hz
      have rx':=rx
      simp only[Rw,Rp]at rx ry
      obtain⟨a,vs,rfl,q1,r1⟩:=rx
      refine .inl ⟨a,k,vs,rfl,ry,SqT.of q1,hz.2.2,hz.2.1,by rw[<- r1.length,aAT];exact hz.1,λe=>?_,lK hr (r1.rep k.toNat) p⟩
      refine p μ H .refl hr _ ?_
      have:(List.replicate k.toNat xs).flatten=xs:=by
       rcases e with e|e
       ·subst e
        have:xs=[]:=by have:=r1.length;simpa using this
        subst this;simp
       ·subst e;simp[List.replicate]
      rw[this];exact rx'
     ·exact p.elim
    |_=>exact gen p
  |_=>exact gen (by cases y with|ref j=>exact p|ob _ _=>exact p|nest _=>exact p|d y=>cases y <;> exact p)
end EV
end
variable{M:EV.Mm}{f fa fb fc fo fi:EV.FE}{L:EV.Lc}{Z:EV.Zt}{F G:EV.FS}{Fm:EV.Fn}{QS:EV.Out->EV.Mm->Prop}{QG:EV.Lc->EV.Mm->Prop}{QO:Option Int->EV.Mm->Prop}{EX:EV.Exn->EV.Mm->Prop}
section
open PySem PySem.Spec PyProof.Rows
namespace HT
variable{E:Value->Shared->Prop}
theorem getItem_tuple_whole{t sl:Addr}{vl vu:Value}(ht:IsTup s.heap t items)(hs:s.heap.IsSliceOf sl vl vu .none)(pl:IsPart vl lo)(pu:IsPart vu hi)
  (hw:sIx items.size 0 lo=0/\sIx items.size items.size hi=items.size)(h:Q (.ref t) s):wpAny (model prog w) A (getItem (.ref t) (.ref sl)) Q E s:=by
 obtain⟨os,hos,hcs,hds⟩:=id hs
 have hTs:s.TypeIs (.ref sl) "slice":=⟨os,hos,hcs⟩
 unfold getItem
 try with_reducible refine aBL ?_
 first|refine aAB (aAD ?_)|skip
 refine aAB (wpAny_sequenceKey ht.typeIs (by decide) ?_)
 refine aAB (aBP (name:=Str.ofString "__getitem__") ht.typeIs aBO
  (aCK aBO ht.typeIs entry_tuple_getitem ?_ (args_tuple_getitem _ _)))
 show wpAny _ _ (Builtin.Tuple.tupleItemsOf (.ref t) >>= _) _ _ s
 refine aAB (tupleItemsOf_ ht ?_)
 refine aAB (aFR hTs ?_)
 rw[aAG (by decide)]
 refine aAB (fQ hs pl pu ?_)
 have hyes:((((sIx items.size 0 lo:Nat):Int)==0&&(1:Int)==1&&(sIx items.size items.size hi - sIx items.size 0 lo)==items.size)=true):=by
  rw[hw.1,hw.2];simp
 show wpAny _ _ (if(((sIx items.size 0 lo:Nat):Int)==0&&(1:Int)==1&&(sIx items.size items.size hi - sIx items.size 0 lo)==items.size)=true then _ else _) _ _ s
 rw[aAG hyes]
 refine aAB (m:=Builtin.Tuple.tupleIsExact _) ?_
 unfold Builtin.Tuple.tupleIsExact
 refine aAB (aFR ht.typeIs (aAD ?_))
 show wpAny _ _ (if((Value.type "tuple"==Value.type "tuple")=true)then _ else _) _ _ s
 rw[aAG (by decide)]
 first
  |exact aAB (aEM (aAD ⟨_,rfl,aAD h⟩))
  |exact aAB (aEM (aAB (aAD ⟨_,rfl,aAD h⟩)))
  |exact aAB (aEM (aAB (aAD (aAD ⟨_,rfl,aAD h⟩))))
end HT
namespace EV
open L2
theorem kM(K:Frag):PySem.W.kitOne K (.type "NoneType") (.type "int")=some false:=by with_unfolding_all rfl
theorem jU(K:Frag):PySem.W.kitOne K (.type "NoneType") (.type "bool")=some false:=by with_unfolding_all rfl
theorem jB(K:Frag):PySem.W.kitOne K (.type "NoneType") (.type "tuple")=some false:=by with_unfolding_all rfl
theorem nZ(K:Frag):PySem.W.kitOne K (.type "bool") (.type "int")=some true:=by with_unfolding_all rfl
theorem mS(K:Frag):PySem.W.kitOne K (.type "bool") (.type "bool")=some true:=by with_unfolding_all rfl
theorem mQ(K:Frag):PySem.W.kitOne K (.type "bool") (.type "tuple")=some false:=by with_unfolding_all rfl
theorem qK(K:Frag):PySem.W.kitOne K (.type "int") (.type "int")=some true:=by with_unfolding_all rfl
theorem nY(K:Frag):PySem.W.kitOne K (.type "int") (.type "bool")=some false:=by with_unfolding_all rfl
theorem mW(K:Frag):PySem.W.kitOne K (.type "int") (.type "tuple")=some false:=by with_unfolding_all rfl
theorem qW(K:Frag):PySem.W.kitOne K (.type "str") (.type "int")=some false:=by with_unfolding_all rfl
theorem oB(K:Frag):PySem.W.kitOne K (.type "str") (.type "bool")=some false:=by with_unfolding_all rfl
theorem nB(K:Frag):PySem.W.kitOne K (.type "str") (.type "tuple")=some false:=by with_unfolding_all rfl
theorem pC(K:Frag):PySem.W.kitOne K (.type "list") (.type "int")=some false:=by with_unfolding_all rfl
theorem nD(K:Frag):PySem.W.kitOne K (.type "list") (.type "bool")=some false:=by with_unfolding_all rfl
theorem lT(K:Frag):PySem.W.kitOne K (.type "list") (.type "tuple")=some false:=by with_unfolding_all rfl
theorem mY(K:Frag):PySem.W.kitOne K (.type "tuple") (.type "int")=some false:=by with_unfolding_all rfl
theorem lN(K:Frag):PySem.W.kitOne K (.type "tuple") (.type "bool")=some false:=by with_unfolding_all rfl
theorem kZ(K:Frag):PySem.W.kitOne K (.type "tuple") (.type "tuple")=some true:=by with_unfolding_all rfl
section
variable{K:Frag}{e a b o:Expr}{es:List Expr}{pos:Pos}{fs:FA}{rest:List Stmt}
noncomputable section
def rSlA(K:Frag):V->Option Int->Option Int->Hp->VK->Prop:=λx lo hi H Q=>∃a xs,x=.ref a/\SqT K H a xs /\
 ((HT.sIx xs.length 0 lo=0/\HT.sIx xs.length xs.length hi=xs.length)->Q (.ref a) H)/\∀p,H p=none->Q (.ref p) (upd H p (.tup (cutV xs lo hi)))
theorem aAe:SlR X (rSlA X.K):=by
 intro pins s σ H x v vl vu lo hi sl Q I rx hs pl pu h
 obtain⟨a,xs,rfl,hx,q1,q2⟩:=h
 by_cases hw:HT.sIx xs.length 0 lo=0/\HT.sIx xs.length xs.length hi=xs.length
 ·cases rx
  obtain⟨its,r,ht,hz⟩:=I.tuple hx
  have hlen:its.toArray.size=xs.length:=by rw[aAK];exact r.length.symm
  refine⟨"tuple",_,aBO.lookup,ht.typeIs,?_⟩
  exact HT.getItem_tuple_whole ht hs pl pu (by rw[hlen];exact hw) ⟨.ref a,H,I,rfl,q1 hw⟩
 ·exact aGu pins s σ H _ v vl vu lo hi sl Q I rx hs pl pu ⟨a,xs,rfl,hx,hw,q2⟩
theorem wQ{xs:List D}(h:HT.sIx xs.length 0 lo=0/\HT.sIx xs.length xs.length hi=xs.length):cut xs lo hi=xs:=by
 unfold cut;rw[h.1,h.2];simp
theorem jK{x:W}{Q:VK}(hr:HR K μ H M)(rx:Rw K μ H x v)(p:Pst K Z μ H (match lr M x with
  |some xs=>okD (.lst (cut xs lo hi)) M
  |none=>.bad) (Wk K Q)):rSlL K v lo hi H Q:=by
 cases q1:lr M x with
 |none=>rw[q1]at p;exact p.elim
 |some xs =>
  rw[q1]at p
  obtain⟨a,vs,rfl,h1,r1⟩:=aDc hr rx q1
  exact⟨a,vs,rfl,h1,lD hr (tZ r1) p⟩
def isT(T:String)(M:Mm):W->Option Bool
 |.d .non=>some false
 |.d (.bl _)=>some (T=="bool" || T=="int")
 |.d (.int _)=>some (T=="int")
 |.d (.str _)=>some (T=="str")
 |.d (.tup _)=>some (T=="tuple")
 |.d (.lst _)=>some (T=="list")
 |.d (.fz _)=>none
 |.d (.exn _ _ _)=>none
 |.ref _=>some (T=="list")
 |.ob _ _=>none
 |.nest _=>none
def pIsI(T:String)(x:W)(M:Mm):Oc W:=match isT T M x with
 |some b=>.ok (.d (.bl b)) M
 |none=>.bad
end
structure KitT(T:String):Prop where
 non:∀K,PySem.W.kitOne K (.type "NoneType") (.type T)=some false
 bl:∀K,PySem.W.kitOne K (.type "bool") (.type T)=some (T=="bool" || T=="int")
 int:∀K,PySem.W.kitOne K (.type "int") (.type T)=some (T=="int")
 str:∀K,PySem.W.kitOne K (.type "str") (.type T)=some (T=="str")
 tup:∀K,PySem.W.kitOne K (.type "tuple") (.type T)=some (T=="tuple")
 lst:∀K,PySem.W.kitOne K (.type "list") (.type T)=some (T=="list")
theorem yB:KitT "int":=⟨kM,nZ,qK,qW,mY,pC⟩
theorem oM:KitT "bool":=⟨jU,mS,nY,oB,lN,nD⟩
theorem mR:KitT "tuple":=⟨jB,mQ,mW,nB,kZ,lT⟩
theorem aDx{T:String}(k:KitT T){x:W}{c:Bool}(hr:HR K μ H M)(rx:Rw K μ H x v)(h:isT T M x=some c):∃t,TyOf K H v t/\PySem.W.kitOne K t (.type T)=some c:=by
 cases x with
 |ref i =>
  simp only[isT,aAJ]at h;subst h
  obtain⟨a,q,rfl,il⟩:=rx
  obtain⟨vs,h⟩:=il
  exact⟨_,.lst h,k.lst K⟩
 |ob _ _=>simp[isT]at h
 |nest _=>simp[isT]at h
 |d x=>cases x with
  |non=>simp only[isT,aAJ]at h;subst h;simp only[Rw,Rp]at rx;subst rx;exact⟨_,.non,k.non K⟩
  |bl y=>simp only[isT,aAJ]at h;subst h;simp only[Rw,Rp]at rx;subst rx;exact⟨_,.bl y,k.bl K⟩
  |int y=>simp only[isT,aAJ]at h;subst h;simp only[Rw,Rp]at rx;subst rx;exact⟨_,.int y,k.int K⟩
  |str y=>simp only[isT,aAJ]at h;subst h;simp only[Rw,Rp]at rx;subst rx;exact⟨_,.str y,k.str K⟩
  |tup y=>simp only[isT,aAJ]at h;subst h;simp only[Rw,Rp]at rx;obtain⟨a,vs,rfl,q1,_⟩:=rx;exact⟨_,.tup q1,k.tup K⟩
  |lst y=>simp only[isT,aAJ]at h;subst h;simp only[Rw,Rp]at rx;obtain⟨a,vs,rfl,q1,_⟩:=rx;exact⟨_,.lst q1,k.lst K⟩
  |fz y=>simp[isT]at h
  |exn c f y=>simp[isT]at h
theorem hV{T:String}(kt:KitT T)(hm:X.mg "isinstance"=none)(hmT:X.mg x=none)(hvT:bootBuiltins x=some (.type T))(he:Ev X K Z e f)(hg:Gl X "isinstance":=by rfl)(hgT:Gl X x:=by rfl)(hn:x≠"__name__":=by decide)(hd:(x==("__debug__":Str))=false:=by decide)
  (hs:starEach [e,.Name x q] X.env=(false,eval e X.env)::starEach [.Name x q] X.env:=by rfl)(hs2:starEach [.Name x q] X.env=(false,eval (.Name x q) X.env)::starEach [] X.env:=by rfl)(hpl:(backTo pos (starEach [.Name x q] X.env)).any (·.1)=false:=by rfl) :
  Ev X K Z (.Call (.Name "isinstance" p) [e,.Name x q] [] pos) (e1 (pIsI T) f):=by
 have h:=jN (pos:=pos) (p:=p) qO hg hm fF (cE he.h (cE (uD (v:=.ty T) hgT hmT hvT rfl hn hd) fH hs2) hs) (by decide) (by decide) hs hpl
 rw[he.k]at h
 refine⟨he.k,cqE h ?_⟩
 rintro σ H Q ⟨μ,M,L,hr,lr,p⟩
 refine⟨μ,M,L,hr,lr,p.bind.imp λμ1 H1 M1 x e1 hr1 _ p1 v rx=>?_⟩
 unfold pIsI at p1
 cases q:isT T M1 x with
 |none=>rw[q]at p1;exact p1.elim
 |some c =>
  rw[q]at p1
  obtain⟨t,h1,h2⟩:=aDx kt hr1 rx q
  exact⟨v,T,t,c,rfl,h1,h2,p1 μ1 H1 .refl hr1 _ (by simp[Rw,Rp])⟩
end
noncomputable def whileD(t:FT)(B:FS):Nat->FS
 |0=>λ_ _=>.bad
 |n+1=>λL M=>(t L M).bind λb M1=>if b=true then(B L M1).bind λo M2=>match o with
   |.nx L2=>whileD t B n L2 M2
   |.ct L2=>whileD t B n L2 M2
   |.bk L2=>.ok (.nx L2) M2
   |.rt w=>.ok (.rt w) M2
  else .ok (.nx L) M1
inductive Ck
 |one (t:Nat)
 |two (t:Nat) (ys:List D)
noncomputable instance:Coe Nat Ck:=⟨.one⟩
noncomputable def Ck.ok(ds:List D)(M:Mm):Ck->Prop
 |.one t=>M[t]?=some ds
 |.two t ys=>M[t]?=some ys
structure Src where
 ds:List D
 k:Option Ck
noncomputable abbrev FI:=Lc->Mm->Oc Src
noncomputable def Chk(s:Src)(M:Mm):Prop:=∀t,s.k=some t->t.ok s.ds M
open Classical in
noncomputable def forD(s:Src)(g:FG)(B:FS):List D->FS
 |[]=>λL M=>if Chk s M then .ok (.nx L) M else .bad
 |d::r=>λL M=>if Chk s M then(g (.d d) L M).bind λL1 M1=>(B L1 M1).bind λo M2=>match o with
   |.nx L2=>forD s g B r L2 M2
   |.ct L2=>forD s g B r L2 M2
   |.bk L2=>.ok (.nx L2) M2
   |.rt w=>.ok (.rt w) M2
  else .bad
noncomputable section
def sFor(fi:FI)(g:FG)(B:FS):FS:=λL M=>(fi L M).bind λs M1=>forD s g B s.ds L M1
def ItOk(K:Frag)(μ:List Addr)(H:Hp)(s:Src)(J:It):Prop :=
 ∃S:List Addr->Hp->Prop,S μ H/\(∀μ1 H1 μ2 H2,Lsts μ1 H1->S μ1 H1->Ext μ1 H1 μ2 H2->S μ2 H2) /\
  ∀μ1 H1 M1 i,HR K μ1 H1 M1->S μ1 H1->Chk s M1 ->
   (∀d,s.ds[i]?=some d->J.go i H1/\∀x H2,J.yld i H1 x H2->Ext μ1 H1 μ1 H2/\HR K μ1 H2 M1/\Rp K μ1 H2 d x)/\(s.ds.length<=i->J.stop i H1)
def liftI(K:Frag)(Z:Zt)(fi:FI):TI:=λσ H R=>∃μ M L,HR K μ H M/\LR K μ H L σ/\Pst K Z μ H (fi L M) λμ' H' _ s=>∀J,ItOk K μ' H' s J->R J H'
end
structure Ei(X:Cx)(K:Frag)(Z:Zt)(tg iter:Expr)(fi:FI):Prop where
 k:X.K=K
 h:PI X tg iter (liftI K Z fi)
variable{tg iter:Expr}
theorem cqI{t t':TI}(h:PI X tg iter t)(i:∀σ H Q,t' σ H Q->t σ H Q):PI X tg iter t':=λpins s σ H Q I q=>h pins s σ H Q I (i _ _ _ q)
section
variable{K:Frag}{e a b o:Expr}{es:List Expr}{pos:Pos}{fs:FA}{rest:List Stmt}{B:FS}
theorem lR{c:Expr}{t:FT}(n:Nat)(hp:PassesOwn (model X.prog X.w) X.A X.env X.xe)(hc:Et X K Z c t)(hb:Ess X K Z body B):Es X K Z (.While c body [] pos) (whileD t B n):=by
 refine⟨hc.k,cqS (xB hp hc.h hb.h) ?_⟩
 rintro E σ H ⟨μ,M,L,hr,lr,p⟩
 refine⟨λm σ H=>∃μ M L,HR K μ H M/\LR K μ H L σ/\Pst K Z μ H (whileD t B m L M) (Sk K E),⟨n,μ,M,L,hr,lr,p⟩,?_⟩
 rintro m σ H ⟨μ,M,L,hr,lr,p⟩
 cases m with
 |zero=>exact p.elim
 |succ m =>
  refine⟨μ,M,L,hr,lr,(show Pst K Z μ H ((t L M).bind _) _ from p).bind.imp λμ1 H1 M1 b e1 hr1 _ p1=>?_⟩
  cases b with
  |false=>exact p1 μ1 H1 .refl hr1 σ (lr.ext hr.lsts e1)
  |true =>
   refine⟨λσ' H'=>∃μ M L,HR K μ H' M/\LR K μ H' L σ'/\Pst K Z μ H' (whileD t B m L M) (Sk K E),λσ' H' q=>⟨m,aER m,q⟩,?_⟩
   refine⟨μ1,M1,L,hr1,lr.ext hr.lsts e1,(show Pst K Z μ1 H1 ((B L M1).bind _) _ from p1).bind.imp λμ2 H2 M2 o e2 hr2 _ p2=>?_⟩
   cases o with
   |nx L2=>exact λσ' lr'=>⟨μ2,M2,L2,hr2,lr',p2⟩
   |ct L2=>exact λσ' lr'=>⟨μ2,M2,L2,hr2,lr',p2⟩
   |bk L2=>exact p2 μ2 H2 .refl hr2
   |rt w=>exact p2 μ2 H2 .refl hr2
theorem sR{fi:FI}{g:FG}(hp:PassesOwn (model X.prog X.w) X.A X.env X.xe)(hc:X.calm=true)(hi:Ei X K Z tg iter fi)(hg:Eg X K Z tg g)(hb:Ess X K Z body B)
  (hs:∀x,foldedSetIterable iter X.env x=pure x:=by intro _;rfl):Es X K Z (.For tg iter body [] pos) (sFor fi g B):=by
 refine⟨hi.k,cqS (aFf hp hc hi.h hg.h hb.h hs) ?_⟩
 rintro E σ H ⟨μ,M,L,hr,lr,p⟩
 refine⟨μ,M,L,hr,lr,p.bind.imp λμ1 H1 M1 s e1 hr1 _ p1 J hJ=>?_⟩
 obtain⟨S,s0,sx,step⟩:=hJ
 refine⟨λi m σ H=>m=s.ds.length - i/\i<=s.ds.length/\∃μ M L,HR K μ H M/\LR K μ H L σ/\S μ H/\Pst K Z μ H (forD s g B (s.ds.drop i) L M) (Sk K E),⟨s.ds.length,by simp,aFF _,μ1,M1,L,hr1,lr.ext hr.lsts e1,s0,by simpa using p1⟩,?_⟩
 rintro i m σ H ⟨rfl,hi,μ,M,L,hr,lr,sS,p⟩
 by_cases hlt:i < s.ds.length
 ·rw[aDN hlt]at p
  unfold forD at p
  split at p
  ·rename_i hch
   obtain⟨go,yl⟩:=(step μ H M i hr sS hch).1 s.ds[i] (by simp[hlt])
   refine .inr ⟨go,λσ' H'=>i+1<=s.ds.length/\∃μ M L,HR K μ H' M/\LR K μ H' L σ'/\S μ H'/\Pst K Z μ H' (forD s g B (s.ds.drop (i+1)) L M) (Sk K E),λσ' H' q=>⟨s.ds.length - (i+1),by lia,rfl,q.1,q.2⟩,λx H2 y=>?_⟩
   obtain⟨e2,hr2,rx⟩:=yl x H2 y
   have lr2:=lr.ext hr.lsts e2
   have s2:=sx _ _ _ _ hr.lsts sS e2
   refine⟨μ,M,L,.d s.ds[i],hr2,lr2,rx,(Pst.mono e2 p).bind.imp λμ3 H3 M3 L3 e3 hr3 _ p3 σ3 lr3=>?_⟩
   refine⟨μ3,M3,L3,hr3,lr3,p3.bind.imp λμ4 H4 M4 o e4 hr4 _ p4=>?_⟩
   have s4:=sx _ _ _ _ hr3.lsts (sx _ _ _ _ hr2.lsts s2 e3) e4
   cases o with
   |nx L4=>exact λσ' lr'=>⟨hlt,μ4,M4,L4,hr4,lr',s4,p4⟩
   |ct L4=>exact λσ' lr'=>⟨hlt,μ4,M4,L4,hr4,lr',s4,p4⟩
   |bk L4=>exact p4 μ4 H4 .refl hr4
   |rt w=>exact p4 μ4 H4 .refl hr4
  ·exact p.elim
 ·have e:i=s.ds.length:=by lia
  subst e
  rw[aCM (aAH _)]at p
  unfold forD at p
  split at p
  ·rename_i hch
   exact .inl ⟨(step μ H M _ hr sS hch).2 (aAH _),p μ H .refl hr σ lr⟩
  ·exact p.elim
theorem rM{ds:List D}:Chk ⟨ds,none⟩ M:=λt h=>by cases h
@[simp]theorem aAf{ds:List D}:Chk ⟨ds,none⟩ M ↔ True:=⟨λ_=>trivial,λ_=>rM⟩
@[simp]theorem aBb{ds:List D}{t:Nat}:Chk ⟨ds,some t⟩ M ↔ M[t]?=some ds:=⟨λh=>h t rfl,λh t' e=>by cases e;exact h⟩
noncomputable def iSq(K:Frag)(tl:TE):TI:=λσ H R=>tl σ H λx H1=>∃a,x=.ref a/\(((∃xs,SqL K H1 a xs)/\R (Itl K a) H1)\/((∃xs,SqT K H1 a xs)/\R (Itt K a) H1))
theorem aIk{l:Expr}{tl:TE}(hl:PE X l tl):PI X tg l (iSq X.K tl):=by
 intro pins s σ H R I h
 refine thn (hl pins s σ H _ I h) λv s1 ⟨x,H1,I1,r1,q1⟩=>?_
 obtain⟨a,e,⟨⟨xs,hq⟩,q⟩|⟨⟨xs,hq⟩,q⟩⟩:=q1
 ·subst e
  cases r1
  obtain⟨its,rv,p,hz⟩:=I1.list hq
  refine aDJ p.isList ?_
  refine⟨s1.heap.objs.size,[s1.heap.objs.size],_,_,H1,rfl,I1.kept (t':=s1.toks) λb o e=>aAA _ e,vI a _,⟨_,aAI _ rfl,rfl,rfl⟩,λb hb=>?_,q⟩
  have e:b=s1.heap.objs.size:=by simpa using hb
  subst e
  exact I1.fpOk (aAH _) (I1.hok.fresh (aAH _))
 ·subst e
  cases r1
  obtain⟨its,rv,p,hz⟩:=I1.tuple hq
  refine aDA (show s1.heap.IsTuple a its.toArray from p) ?_
  refine⟨s1.heap.objs.size,[s1.heap.objs.size],_,_,H1,rfl,I1.kept (t':=s1.toks) λb o e=>aAA _ e,sC a _,⟨_,aAI _ rfl,rfl,rfl⟩,λb hb=>?_,q⟩
  have e:b=s1.heap.objs.size:=by simpa using hb
  subst e
  exact I1.fpOk (aAH _) (I1.hok.fresh (aAH _))
noncomputable def srcOf(M:Mm):W->Option Src
 |.d (.tup xs)=>some ⟨xs,none⟩
 |.d (.lst xs)=>some ⟨xs,none⟩
 |.d (.fz xs)=>some ⟨xs,none⟩
 |.ref t=>(M[t]?).map λxs=>⟨xs,some t⟩
 |_=>none
noncomputable def iE(f:FE):FI:=λL M=>(f L M).bind λw M1=>match srcOf M1 w with
 |some s=>.ok s M1
 |none=>.bad
variable{s:Src}
theorem sB{a:Addr}(S:List Addr->Hp->Prop)(s0:S μ H)(sx:∀μ1 H1 μ2 H2,Lsts μ1 H1->S μ1 H1->Ext μ1 H1 μ2 H2->S μ2 H2)
  (rd:∀μ1 H1 M1,HR K μ1 H1 M1->S μ1 H1->Chk s M1->∃vs,SqL K H1 a vs/\Rps K μ1 H1 s.ds vs):ItOk K μ H s (Itl K a):=by
 refine⟨S,s0,sx,λμ1 H1 M1 i hr hS hc=>?_⟩
 obtain⟨vs,h1,r1⟩:=rd μ1 H1 M1 hr hS hc
 refine⟨λd hd=>?_,λhl=>⟨vs,h1,by rw[<- r1.length];exact hl⟩⟩
 obtain⟨v,q1,q2⟩:=r1.get hd
 refine⟨⟨vs,v,h1,q1⟩,λx H2 y=>?_⟩
 obtain⟨rfl,y⟩:=y
 have:=y vs h1
 rw[q1]at this
 cases this
 exact⟨.refl,hr,q2⟩
theorem aDz{a:Addr}(S:List Addr->Hp->Prop)(s0:S μ H)(sx:∀μ1 H1 μ2 H2,Lsts μ1 H1->S μ1 H1->Ext μ1 H1 μ2 H2->S μ2 H2)
  (rd:∀μ1 H1 M1,HR K μ1 H1 M1->S μ1 H1->Chk s M1->∃vs,SqT K H1 a vs/\Rps K μ1 H1 s.ds vs):ItOk K μ H s (Itt K a):=by
 refine⟨S,s0,sx,λμ1 H1 M1 i hr hS hc=>?_⟩
 obtain⟨vs,h1,r1⟩:=rd μ1 H1 M1 hr hS hc
 refine⟨λd hd=>?_,λhl=>⟨vs,h1,by rw[<- r1.length];exact hl⟩⟩
 obtain⟨v,q1,q2⟩:=r1.get hd
 refine⟨⟨vs,v,h1,q1⟩,λx H2 y=>?_⟩
 obtain⟨rfl,y⟩:=y
 have:=y vs h1
 rw[q1]at this
 cases this
 exact⟨.refl,hr,q2⟩
theorem iY{d:D}:∀μ1 H1 μ2 H2,Lsts μ1 H1->Rp K μ1 H1 d v->Ext μ1 H1 μ2 H2->Rp K μ2 H2 d v:=λμ1 H1 μ2 H2 l h e=>Rp.ext l e d v h
theorem aJi(h:Ev X K Z e f):Ei X K Z tg e (iE f):=by
 have h':=aIk (tg:=tg) h.h
 rw[h.k]at h'
 refine⟨h.k,cqI h' ?_⟩
 rintro σ H R ⟨μ,M,L,hr,lr,p⟩
 refine⟨μ,M,L,hr,lr,p.bind.imp λμ1 H1 M1 w e1 hr1 _ p1 v rw'=>?_⟩
 cases w with
 |ref t =>
  simp only[srcOf]at p1
  cases q:M1[t]? with
  |none=>simp only[q,Option.map_none]at p1;exact p1.elim
  |some xs =>
   simp only[q,Option.map_some]at p1
   obtain⟨a,qa,rfl,il⟩:=rw'
   obtain⟨a',vs,qa',h1,r1⟩:=hr1.at q qa
   rw[qa]at qa';cases qa'
   refine⟨a,rfl,.inl ⟨⟨vs,SqL.of h1⟩,p1 μ1 H1 .refl hr1 _ ?_⟩⟩
   refine sB (λμ2 H2=>μ2[t]?=some a/\IsL H2 a) ⟨qa,il⟩ (λμ1 H1 μ2 H2 _ z e=>⟨e.pre _ _ z.1,z.2.ext e⟩) λμ2 H2 M2 hr2 z c=>?_
   obtain⟨a',vs,qa',h1,r1⟩:=hr2.at (c t rfl) z.1 z.2
   rw[z.1]at qa';cases qa'
   exact⟨vs,SqL.of h1,r1⟩
 |ob _ _=>exact p1.elim
 |nest _=>exact p1.elim
 |d x =>
  cases x with
  |tup xs =>
   have rw2:=rw'
   simp only[Rw,Rp]at rw'
   obtain⟨a,vs,rfl,h1,r1⟩:=rw'
   refine⟨a,rfl,.inr ⟨⟨vs,SqT.of h1⟩,p1 μ1 H1 .refl hr1 _ ?_⟩⟩
   refine aDz (λμ2 H2=>Rp K μ2 H2 (.tup xs) (.ref a)) rw2 iY λμ2 H2 M2 hr2 z c=>?_
   simp only[Rp]at z
   obtain⟨a',vs,e,h1,r1⟩:=z
   cases e
   exact⟨vs,SqT.of h1,r1⟩
  |lst xs =>
   have rw2:=rw'
   simp only[Rw,Rp]at rw'
   obtain⟨a,vs,rfl,h1,_,r1⟩:=rw'
   refine⟨a,rfl,.inl ⟨⟨vs,SqL.of h1⟩,p1 μ1 H1 .refl hr1 _ ?_⟩⟩
   refine sB (λμ2 H2=>Rp K μ2 H2 (.lst xs) (.ref a)) rw2 iY λμ2 H2 M2 hr2 z c=>?_
   simp only[Rp]at z
   obtain⟨a',vs,e,h1,_,r1⟩:=z
   cases e
   exact⟨vs,SqL.of h1,r1⟩
  |fz xs =>
   have rw2:=rw'
   simp only[Rw,Rp]at rw'
   obtain⟨a,vs,rfl,h1,r1⟩:=rw'
   refine⟨a,rfl,.inl ⟨⟨vs,h1.sq⟩,p1 μ1 H1 .refl hr1 _ ?_⟩⟩
   refine sB (λμ2 H2=>Rp K μ2 H2 (.fz xs) (.ref a)) rw2 iY λμ2 H2 M2 hr2 z c=>?_
   simp only[Rp]at z
   obtain⟨a',vs,e,h1,r1⟩:=z
   cases e
   exact⟨vs,h1.sq,r1⟩
  |_=>exact p1.elim
noncomputable def rngD(lo:Int)(n:Nat):List D:=(List.range n).map λk=>D.int (lo+(k:Nat))
variable{lo:Int}
theorem mI{d:D}(h:(rngD lo n)[i]?=some d):i < n/\d=.int (lo+i):=by
 unfold rngD at h
 rw[aCB]at h
 by_cases hi:i < n
 ·rw[List.getElem?_range hi]at h;simp at h;exact⟨hi,h.symm⟩
 ·rw[aDD (by simpa using hi)]at h;cases h
theorem aHl :ItOk K μ H ⟨rngD lo n,none⟩ (Itr lo n):=by
 refine⟨λ_ _=>True,trivial,λ_ _ _ _ _ _ _=>trivial,λμ1 H1 M1 i hr _ _=>⟨λd hd=>?_,λhl=>by simp only[rngD,aBB,List.length_range]at hl;exact hl⟩⟩
 obtain⟨hi,rfl⟩:=mI hd
 refine⟨hi,λx H2 y=>?_⟩
 obtain⟨rfl,rfl⟩:=y
 exact⟨.refl,hr,by simp[Rp]⟩
noncomputable def in62(i:Int):Bool:=decide (-4611686018427387904<=i/\i < 4611686018427387904)
noncomputable def iR1(f:FE):FI:=λL M=>(f L M).bind λw M1=>match w with
 |.d (.int j)=>if in62 j=true then .ok ⟨rngD 0 j.toNat,none⟩ M1 else .bad
 |_=>.bad
theorem nT(hm:X.mg "range"=none)(ha:Ev X K Z a f)(hg:Gl X "range":=by rfl)(hs:starEach [a] X.env=[(false,eval a X.env)]:=by rfl):Ei X K Z tg (.Call (.Name "range" p) [a] [] pos) (iR1 f):=by
 refine⟨ha.k,cqI (vM hg hm (cE ha.h fH hs) hs) ?_⟩
 rintro σ H R ⟨μ,M,L,hr,lr,p⟩
 refine⟨μ,M,L,hr,lr,p.bind.imp λμ1 H1 M1 w e1 hr1 _ p1 v rw'=>?_⟩
 cases w with
 |ref i=>exact p1.elim
 |ob _ _=>exact p1.elim
 |nest _=>exact p1.elim
 |d x=>cases x with
  |int j =>
   simp only at p1
   split at p1
   ·rename_i hz
    simp only[in62,aAU]at hz
    simp only[Rw,Rp]at rw'
    subst rw'
    exact⟨j,rfl,hz.1,hz.2,p1 μ1 H1 .refl hr1 _ aHl⟩
   ·exact p1.elim
  |_=>exact p1.elim
end
section
variable{K:Frag}{μ2:List Addr}{M2:Mm}
theorem Ext.back(e:Ext μ H μ2 H2):Ext μ H μ H2:=⟨e.keep,λa h=>.inl h,λ_ _ h=>h,e.kin⟩
theorem Ext.take(e:Ext μ H μ2 H2):μ2.take μ.length=μ:=by
 apply List.ext_getElem?
 intro i
 rw[aGG]
 split
 ·rename_i hi
  have:=e.pre i μ[i] (by simp[hi])
  rw[this];simp[hi]
 ·rename_i hi
  rw[aDD (by lia)]
mutual
theorem Rp.sub(hs:∀a,a∈μ1->a∈μ):∀(d:D) (v:V),Rp K μ H d v->Rp K μ1 H d v
 |.non,v,h=>by simpa[Rp]using h
 |.bl b,v,h=>by simpa[Rp]using h
 |.int b,v,h=>by simpa[Rp]using h
 |.str b,v,h=>by simpa[Rp]using h
 |.tup ds,v,h=>by simp only[Rp]at h ⊢;obtain⟨a,vs,e1,e2,e3⟩:=h;exact⟨a,vs,e1,e2,Rps.sub hs ds vs e3⟩
 |.lst ds,v,h=>by simp only[Rp]at h ⊢;obtain⟨a,vs,e1,e2,n,e3⟩:=h;exact⟨a,vs,e1,e2,λz=>n (hs a z),Rps.sub hs ds vs e3⟩
 |.fz ds,v,h=>by simp only[Rp]at h ⊢;obtain⟨a,vs,e1,e2,e3⟩:=h;exact⟨a,vs,e1,e2,Rps.sub hs ds vs e3⟩
 |.exn c f ds,v,h=>by simp only[Rp]at h ⊢;obtain⟨a,vs,C,LE,d,e1,e2,e3,e4,e5⟩:=h;exact⟨a,vs,C,LE,d,e1,e2,e3,e4,Rps.sub hs ds vs e5⟩
theorem Rps.sub(hs:∀a,a∈μ1->a∈μ):∀(ds:List D) (vs:List V),Rps K μ H ds vs->Rps K μ1 H ds vs
 |[],vs,h=>by simpa[Rps]using h
 |d::ds,vs,h=>by simp only[Rps]at h ⊢;obtain⟨v,r,e1,e2,e3⟩:=h;exact⟨v,r,e1,Rp.sub hs d v e2,Rps.sub hs ds r e3⟩
end
theorem Frs.sub(hs:∀a,a∈μ1->a∈μ):∀{ds:List D} {fs:List (Str×V)},Frs K μ H ds fs->Frs K μ1 H ds fs
 |[],_,h=>h
 |_::_,_,⟨f,x,v,r,e1,e2,e3,e4⟩=>⟨f,x,v,r,e1,e2,Rp.sub hs _ _ e3,Frs.sub hs e4⟩
theorem Krs.sub(hs:∀a,a∈μ1->a∈μ):∀{ds:List D} {fs:List (List Key×V)},Krs K μ H ds fs->Krs K μ1 H ds fs
 |[],_,h=>h
 |_::_,_,⟨f,x,v,r,e1,e2,e3,e4⟩=>⟨f,x,v,r,e1,e2,Rp.sub hs _ _ e3,Krs.sub hs e4⟩
theorem CelO.sub(hs:∀a,a∈μ1->a∈μ){o:HO}{ds:List D}(h:CelO K μ H o ds):CelO K μ1 H o ds:=by
 cases o <;> first|exact h.elim|skip
 ·exact Rps.sub hs _ _ h
 ·exact Krs.sub hs h
 ·exact Frs.sub hs h
theorem HR.back(h:HR K μ2 H2 M2)(e:Ext μ H μ2 H2):HR K μ H2 (M2.take μ.length):=by
 have ht:=e.take
 have hsub:∀a,a∈μ->a∈μ2:=λa ha=>by rw[<- ht]at ha;exact aBC ha
 have hlen:μ.length<=μ2.length:=by have:=congrArg List.length ht;simp at this;lia
 refine⟨by rw[aCX,<- h.len];lia,by rw[<- ht];exact h.nd.sublist (List.take_sublist _ _),λi a ds q1 q2=>?_⟩
 rw[aGG]at q2
 split at q2
 ·obtain⟨vs,q3,q4⟩:=h.ent i a ds (e.pre i a q1) q2
  exact⟨vs,q3,CelO.sub hsub q4⟩
 ·cases q2
noncomputable def nestD(n:Nat)(M:Mm):List Nat->Option (List D)
 |[]=>some []
 |j::js=>if j < n then none else match M[j]?,nestD n M js with
  |some xs,some r=>some (.lst xs::r)
  |_,_=>none
noncomputable def retc(n:Nat)(w:W)(M:Mm):Oc W:=match w with
 |.d x=>.ok (.d x) (M.take n)
 |.ref i=>if i < n then .ok (.ref i) (M.take n)else match M[i]? with
  |some ds=>.ok (.d (.lst ds)) (M.take n)
  |none=>.bad
 |.ob c i=>if i < n then .ok (.ob c i) (M.take n)else .bad
 |.nest js=>match nestD n M js with
  |some ds=>.ok (.d (.lst ds)) (M.take n)
  |none=>.bad
theorem HR.fresh(hr1:HR K μ2 H2 M2)(e1:Ext μ H μ2 H2)(qa:μ2[i]?=some a)(hi:¬i < μ.length):a∉μ:=λha=>by
 obtain⟨j,hj,ej⟩:=aDM.mp ha
 have h2:=e1.pre j a (by rw[<- ej];simp[hj])
 have l1:=(aAC.mp qa).1
 have l2:=(aAC.mp h2).1
 have g1:=(aAC.mp qa).2
 have g2:=(aAC.mp h2).2
 have pw:=aCR.mp hr1.nd
 exact pw j i l2 l1 (by lia) (g2.trans g1.symm)
theorem nJ{n:Nat}(hn:n=μ.length)(e1:Ext μ H μ2 H2)(hr1:HR K μ2 H2 M2)(hsub:∀a,a∈μ->a∈μ2):∀{js:List Nat} {vs:List V} {ds:List D},Rjs μ2 H2 js vs->nestD n M2 js=some ds->Rps K μ H2 ds vs
 |[],vs,ds,h,q=>by cases h;simp only[nestD,aAJ]at q;subst q;exact .nil
 |j::js,vs,ds,⟨a,r,e1',e2,e3,e4⟩,q=>by
  subst e1'
  simp only[nestD]at q
  split at q
  ·cases q
  ·rename_i hj
   cases q1:M2[j]? with
   |none=>rw[q1]at q;cases q
   |some xs =>
    cases q2:nestD n M2 js with
    |none=>rw[q1,q2]at q;cases q
    |some r' =>
     rw[q1,q2]at q;cases q
     obtain⟨a',us,qa',h1,r1⟩:=hr1.at q1 e2 e3
     rw[e2]at qa';cases qa'
     refine .cons ?_ (nJ hn e1 hr1 hsub e4 q2)
     simp only[Rp]
     exact⟨a,us,rfl,h1,hr1.fresh e1 e2 (by lia),Rps.sub hsub _ _ r1⟩
theorem iJ{w:W}{Q:VK}(hr:HR K μ H M)(e1:Ext μ H μ2 H2)(hr1:HR K μ2 H2 M2)(hw:(∃c i,w=.ob c i)\/∃js,w=.nest js)(rv:Rw K μ2 H2 w v)(p:Pst K Z μ H (retc M.length w M2) (Wk K Q)):Q v H2:=by
 have hb:=hr1.back e1
 rw[hr.len]at hb
 have hsub:∀a,a∈μ->a∈μ2:=λa ha=>by rw[<- e1.take]at ha;exact aBC ha
 rcases hw with⟨c,i,rfl⟩|⟨js,rfl⟩
 ·simp only[retc]at p
  split at p
  ·rename_i hi
   obtain⟨a,qa,rfl,il⟩:=rv
   refine p μ H2 e1.back hb _ ⟨a,?_,rfl,il⟩
   rw[<- hr.len]at hi
   have:=e1.pre i μ[i] (by simp[hi])
   rw[qa]at this;cases this
   simp[hi]
  ·exact p.elim
 ·simp only[retc]at p
  cases q:nestD M.length M2 js with
  |none=>rw[q]at p;exact p.elim
  |some ds =>
   rw[q]at p
   obtain⟨a,vs,rfl,h1,hna,hj⟩:=rv
   refine p μ H2 e1.back hb _ ?_
   simp only[Rw,Rp]
   exact⟨a,vs,rfl,h1,λz=>hna (hsub a z),nJ hr.len.symm e1 hr1 hsub hj q⟩
end
noncomputable def outL(js:List (Option Nat))(L:Lc):Lc:=js.map λo=>o.bind λj=>(L[j]?).join
open Classical in
noncomputable def compD(t:Nat)(s:Src)(g:FG)(c:FT)(f:FE):List D->Lc->Mm->Oc Unit
 |[]=>λ_ M=>if Chk s M then .ok () M else .bad
 |d::r=>λL M=>if Chk s M then(g (.d d) L M).bind λL1 M1=>(c L1 M1).bind λb M2=>if b=true then(f L1 M2).bind λw M3=>match w,M3[t]? with
   |.d x,some acc=>if acc.length < 16777216 then compD t s g c f r L1 (M3.set t (acc++[x]))else .bad
   |_,_=>.bad
   else compD t s g c f r L1 M2
  else .bad
noncomputable section
def compT(js:List (Option Nat))(fi:FI)(g:FG)(c:FT)(f:FE)(L:Lc)(M:Mm):Oc (List D):=(fi L M).bind λs M1=>match compD M1.length s g c f s.ds (outL js L) (M1++[[]])with
 |.ok _ M2=>match M2[M1.length]? with
  |some acc=>.ok acc (M2.take M1.length)
  |none=>.bad
 |_=>.bad
def eComp(js:List (Option Nat))(fi:FI)(g:FG)(c:FT)(f:FE):FE:=λL M=>(compT js fi g c f L M).bind λacc M1=>.ok (.d (.lst acc)) M1
def tYes:FT:=λ_ M=>.ok true M
end
structure Eif(X:Cx)(K:Frag)(Z:Zt)(ifs:List Expr)(t:FT):Prop where
 k:X.K=K
 h:PIf X ifs (liftT K Z t)
section
variable{K:Frag}{e a b o:Expr}{es:List Expr}{pos:Pos}{fs:FA}{rest:List Stmt}
theorem aCg(hk:X.K=K:=by rfl):Eif X K Z [] tYes:=⟨hk,λpins s σ H Q I ⟨μ,M,L,hr,lr,p⟩=>aAw pins s σ H Q I (p μ H .refl hr)⟩
variable{σ:St}
theorem LR.out(h:LR K μ H L σ):LR K μ H (outL js L) (outσ js σ)where
 len:=by simp[outL,outσ]
 ent:=λi w q=>by
  unfold outL at q
  unfold outσ
  rw[aCB]at q ⊢
  cases e:js[i]? with
  |none=>rw[e]at q;cases q
  |some oj =>
   rw[e]at q
   cases oj with
   |none=>simp at q
   |some j =>
    simp only[Option.map_some,aFL,aAJ]at q ⊢
    cases e2:L[j]? with
    |none=>rw[e2]at q;cases q
    |some ow =>
     rw[e2]at q
     simp at q
     subst q
     obtain⟨v,q1,q2⟩:=h.ent j w e2
     exact⟨v,by rw[q1];rfl,q2⟩
variable{c:FT}
theorem zI{Zi:Zt}{s:Src}{g:FG}{J:It}{Dt:Addr}{Q:Hp->Prop}(n:Nat)(μ0:List Addr)(H0:Hp)(e0:Ext μ0 H0 μ H)(hn:μ0.length=n)(hD:μ[n]?=some Dt)(hIL:IsL H Dt)
  (hr:HR K μ H M)(lr:LR K μ H L σ)(hJ:ItOk K μ H s J)
  (p:match compD n s g c f s.ds L M with
   |.ok _ M2=>∀μ2 H2,Ext μ H μ2 H2->HR K μ2 H2 M2->Q H2
   |.ex z M2=>Zi.z z M2 μ H
   |.bad=>False):tTurns J (liftG K Zi g) (liftT K Zi c) (lift K Zi f) Dt σ H Q:=by
 obtain⟨S,s0,sx,step⟩:=hJ
 let R:List Addr->Hp->Lc->Mm->List D->Prop:=λμ1 H1 L M rest=>match compD n s g c f rest L M with
   |.ok _ M2=>∀μ2 H2,Ext μ1 H1 μ2 H2->HR K μ2 H2 M2->Q H2
   |.ex z M2=>Zi.z z M2 μ1 H1
   |.bad=>False
 refine⟨λi m σ H1=>m=s.ds.length - i/\i<=s.ds.length/\∃μ1 M L,Ext μ0 H0 μ1 H1/\(μ1[n]?=some Dt/\IsL H1 Dt)/\HR K μ1 H1 M/\LR K μ1 H1 L σ/\S μ1 H1/\R μ1 H1 L M (s.ds.drop i),⟨s.ds.length,by simp,aFF _,μ,M,L,e0,⟨hD,hIL⟩,hr,lr,s0,by simpa[R]using p⟩,?_⟩
 rintro i m σ H1 ⟨rfl,hi,μ1,M,L,e1,⟨hD1,hI1⟩,hr,lr,sS,p⟩
 by_cases hlt:i < s.ds.length
 ·simp only[R]at p
  rw[aDN hlt]at p
  unfold compD at p
  by_cases hch:Chk s M
  ·rw[aAG hch]at p
   obtain⟨go,yl⟩:=(step μ1 H1 M i hr sS hch).1 s.ds[i] (by simp[hlt])
   refine .inr ⟨go,λσ' H'=>i+1<=s.ds.length/\∃μ1 M L,Ext μ0 H0 μ1 H'/\(μ1[n]?=some Dt/\IsL H' Dt)/\HR K μ1 H' M/\LR K μ1 H' L σ'/\S μ1 H'/\R μ1 H' L M (s.ds.drop (i+1)),λσ' H' q=>⟨s.ds.length - (i+1),by lia,rfl,q.1,q.2⟩,λx H2 y=>?_⟩
   obtain⟨e2,hr2,rx⟩:=yl x H2 y
   have lr2:=lr.ext hr.lsts e2
   have s2:=sx _ _ _ _ hr.lsts sS e2
   refine⟨μ1,M,L,.d s.ds[i],hr2,lr2,rx,?_⟩
   cases q3:g (.d s.ds[i]) L M with
   |bad=>rw[q3]at p;exact p.elim
   |ex z M2=>rw[q3]at p;exact Zi.mono e2 p
   |ok L3 M3 =>
    rw[q3]at p
    intro μ3 H3 e3 hr3 σ3 lr3
    refine⟨μ3,M3,L3,hr3,lr3,?_⟩
    simp only[dR]at p
    have s3:=sx _ _ _ _ hr2.lsts s2 e3
    cases q4:c L3 M3 with
    |bad=>rw[q4]at p;exact p.elim
    |ex z M2=>rw[q4]at p;exact Zi.mono (e2.trans e3) p
    |ok b M4 =>
     rw[q4]at p
     intro μ4 H4 e4 hr4
     simp only[dR]at p
     have s4:=sx _ _ _ _ hr3.lsts s3 e4
     have lr4:=lr3.ext hr3.lsts e4
     have E4:=((e1.trans e2).trans e3).trans e4
     have D4:=e4.pre _ _ (e3.pre _ _ (e2.pre _ _ hD1))
     cases b with
     |false =>
      refine⟨hlt,μ4,M4,L3,E4,⟨D4,hI1.ext ((e2.trans e3).trans e4)⟩,hr4,lr4,s4,?_⟩
      simp only[R]
      simp only[aBI,aCO]at p
      cases q5:compD n s g c f (s.ds.drop (i+1)) L3 M4 with
      |ok u M5=>rw[q5]at p;exact λμ5 H5 e5 hr5=>p μ5 H5 (((e2.trans e3).trans e4).trans e5) hr5
      |ex z M5=>rw[q5]at p;exact Zi.mono ((e2.trans e3).trans e4) p
      |bad=>rw[q5]at p;exact p
     |true =>
      simp only[aDE]at p
      refine⟨μ4,M4,L3,hr4,lr4,?_⟩
      cases q5:f L3 M4 with
      |bad=>rw[q5]at p;exact p.elim
      |ex z M2=>rw[q5]at p;exact Zi.mono ((e2.trans e3).trans e4) p
      |ok w M5 =>
       rw[q5]at p
       intro μ5 H5 e5 hr5 v rw'
       simp only[dR]at p
       cases w with
       |ref k=>exact p.elim
       |ob _ _=>exact p.elim
       |nest _=>exact p.elim
       |d x =>
        cases q6:M5[n]? with
        |none=>rw[q6]at p;exact p.elim
        |some acc =>
         rw[q6]at p
         simp only at p
         by_cases hz:acc.length < 16777216
         ·rw[aAG hz]at p
          have D5:=e5.pre _ _ D4
          have I5:=hI1.ext (((e2.trans e3).trans e4).trans e5)
          obtain⟨a',vs,qa',h1,r1⟩:=hr5.at q6 D5
          rw[D5]at qa';cases qa'
          refine⟨vs,h1,by rw[<- r1.length,aAT];exact hz,hlt,μ5,M5.set n (acc++[x]),L3,(E4.trans e5).trans (dI D5),⟨D5,_,aW⟩,hr5.set D5 (r1.append (.cons rw' .nil)),?_,?_,?_⟩
          ·exact(lr4.ext hr4.lsts e5).ext hr5.lsts (dI D5)
          ·exact sx _ _ _ _ hr5.lsts (sx _ _ _ _ hr4.lsts s4 e5) (dI D5)
          ·simp only[R]
           cases q7:compD n s g c f (s.ds.drop (i+1)) L3 (M5.set n (acc++[x]))with
           |ok u M6=>rw[q7]at p;exact λμ6 H6 e6 hr6=>p μ6 H6 (((((e2.trans e3).trans e4).trans e5).trans (dI D5)).trans e6) hr6
           |ex z M6=>rw[q7]at p;exact Zi.mono ((((e2.trans e3).trans e4).trans e5).trans (dI D5)) p
           |bad=>rw[q7]at p;exact p
         ·rw[aAL hz]at p;exact p.elim
  ·rw[aAL hch]at p;exact p.elim
 ·have e:i=s.ds.length:=by lia
  subst e
  simp only[R]at p
  rw[aCM (aAH _)]at p
  unfold compD at p
  by_cases hch:Chk s M
  ·rw[aAG hch]at p
   exact .inl ⟨(step μ1 H1 M _ hr sS hch).2 (aAH _),p μ1 H1 .refl hr⟩
  ·rw[aAL hch]at p;exact p.elim
variable{fi:FI}
theorem wY{g:FG}{Q:VK}(h:∃μ M L,HR K μ H M/\LR K μ H L σ/\Pst K Z μ H (compT js fi g c f L M) λμ' H' M' acc=>∀q vs,H' q=some (.lst vs)->q∉μ'->Rps K μ' H' acc vs->Q (.ref q) H') :
  tComp js (liftI K Z fi) (liftG K Z0 g) (liftT K Z0 c) (lift K Z0 f) σ H Q:=by
 obtain⟨μ,M,L,hr,lr,p⟩:=h
 refine⟨μ,M,L,hr,lr,p.bind.imp λμ1 H1 M1 s e1 hr1 _ p1 J hJ Dt hDt=>?_⟩
 have x:=uS (vs:=[]) hr1 hDt
 have hlen:=hr1.len
 obtain⟨S,s0,sx,step⟩:=hJ
 refine zI (M:=M1++[[]]) M1.length μ1 H1 x hr1.len (by rw[<- hlen];simp) ⟨_,aW⟩ (hr1.new hDt .nil) (LR.out ((lr.ext hr.lsts e1).ext hr1.lsts x)) ⟨S,sx _ _ _ _ hr1.lsts s0 x,sx,step⟩ ?_
 cases q:compD M1.length s g c f s.ds (outL js L) (M1++[[]])with
 |bad=>simp only[q]at p1;exact p1.elim
 |ex z M2=>simp only[q]at p1;exact p1.elim
 |ok u M2 =>
  simp only[q]at p1
  intro μ2 H2 e2 hr2
  cases q2:M2[M1.length]? with
  |none=>simp only[q2]at p1;exact p1.elim
  |some acc =>
   simp only[q2]at p1
   have E:=x.trans e2
   have hb:=hr2.back E
   rw[hlen]at hb
   have hD2:μ2[M1.length]?=some Dt:=e2.pre _ _ (by rw[<- hlen];simp)
   obtain⟨a',vs,qa',h1,r1⟩:=hr2.at q2 hD2 (IsL.ext e2 ⟨_,aW⟩)
   rw[hD2]at qa';cases qa'
   exact p1 μ1 H2 E.back hb Dt vs h1 (hr1.out hDt) (Rps.sub (λa ha=>by rw[<- E.take]at ha;exact aBC ha) _ _ r1)
theorem xQ{g:FG} :∀σ H Q,lift K Z (eComp js fi g c f) σ H Q->tComp js (liftI K Z fi) (liftG K Z0 g) (liftT K Z0 c) (lift K Z0 f) σ H Q:=by
 rintro σ H Q ⟨μ,M,L,hr,lr,p⟩
 refine wY ⟨μ,M,L,hr,lr,p.bind.imp λμ1 H1 M1 acc e1 hr1 _ p1 q vs h1 h2 h3=>?_⟩
 exact p1 μ1 H1 .refl hr1 _ (by simp only[Rw,Rp];exact⟨q,vs,rfl,h1,h2,h3⟩)
theorem aCp{elt:Expr}{ifs:List Expr}{scope:Scope}{g:FG}(hc:X.calm=true)(T:CompOk X.N X.env.scope scope Nc js)(hit:Ei X K Z tg iter fi)
  (hg:∀cl C fp pins s₂ H₂,Eg (compCx X Nc scope cl C fp pins s₂ H₂) K Z0 tg g)(hi:∀cl C fp pins s₂ H₂,Eif (compCx X Nc scope cl C fp pins s₂ H₂) K Z0 ifs c)(he:∀cl C fp pins s₂ H₂,Ev (compCx X Nc scope cl C fp pins s₂ H₂) K Z0 elt f)
  (hs:∀x,foldedSetIterable iter X.env x=pure x:=by intro _;rfl):Ev X K Z (.ListComp elt [⟨tg,iter,ifs,0⟩] scope pos) (eComp js fi g c f) :=
 ⟨hit.k,cqE (aBh hc T hit.h (λ_ _ _ _ _ _=>(hg _ _ _ _ _ _).h) (λ_ _ _ _ _ _=>(hi _ _ _ _ _ _).h) (λ_ _ _ _ _ _=>(he _ _ _ _ _ _).h) hs) xQ⟩
noncomputable section
def fnD(m n:Nat)(F:FS):Fn:=λws M=>if ws.length=m then(F (ws.map some++List.replicate (n - ws.length) none) M).bind λo M'=>match o with
  |.rt w=>retc M.length w M'
  |.nx _=>.ok (.d .non) (M'.take M.length)
  |_=>.bad
 else .bad
def fnR(m n:Nat)(F:FS):Fn:=λws M=>if ws.length=m then(F (ws.map some++List.replicate (n - ws.length) none) M).bind λo M'=>match o with
  |.rt (.ref i)=>if M.length<=i then(match M'[i]? with
   |some ds=>.ok (.ref M.length) (M'.take M.length++[ds])
   |none=>.bad)else .bad
  |_=>.bad
 else .bad
def spF(K:Frag)(Z:Zt)(m:Nat)(Fm:Fn):Sp:=λvs H Q E=>vs.length=m/\∃μ M ws,HR K μ H M/\Rws K μ H ws vs/\Pst K Z μ H (Fm ws M) (Wk K Q)
end
theorem lS{ws:List W}(r:Rws K μ H ws vs):LR K μ H (ws.map some++List.replicate (N.length - ws.length) none) (L2.start N vs):=by
 have hl:=r.length
 refine⟨by simp[L2.start,hl],λi w q=>?_⟩
 by_cases hi:i < ws.length
 ·rw[aAW (by simpa using hi),aCB]at q
  cases e:ws[i]? with
  |none=>rw[e]at q;cases q
  |some w' =>
   rw[e]at q;cases q
   obtain⟨v,q1,q2⟩:=r.get e
   refine⟨v,?_,q2⟩
   unfold L2.start
   rw[aAW (by simp;lia),aCB,q1];rfl
 ·rw[aBZ (by simpa using hi),List.getElem?_replicate]at q
  split at q <;> cases q
variable{k:Nat}
theorem fZ{fa:Addr}(hf:Fun K x qual st fa fd)(S:FnScope N ps (defScope st))
  (hb:∀(cdv:Value) (A:Around) (outer:List Env) (s:Shared) (H:Hp) (E:XK),Room k (A.deeper (envOfC qual (defScope st) s.heap.objs.size fa cdv))->Ess (cxOf CX0 P w K mg base N qual (defScope st) fa cdv A outer s H E).nox K Z0 (defBody st) F) :
  FnOk P w K mg base CX0 (k+1) fa fd ps (spF K Z0 ps.length (fnD ps.length N.length F)):=by
 refine hf.ok S (λvs H Q E h=>h.1) λcdv A outer s H vs Q E hr hsp=>⟨_,(hb cdv A outer s H E hr).h,?_⟩
 obtain⟨hv,μ,M,ws,hr,rx,p⟩:=hsp
 refine⟨μ,M,_,hr,lS rx,?_⟩
 unfold fnD at p
 rw[aAG (by rw[rx.length];exact hv)]at p
 cases q:F (ws.map some++List.replicate (N.length - ws.length) none) M with
 |bad=>rw[q]at p;exact p
 |ex z M'=>rw[q]at p;exact p
 |ok o M' =>
  rw[q]at p
  simp only[dR]at p
  intro μ1 H1 e1 hr1
  have hb:=hr1.back e1
  rw[hr.len]at hb
  cases o with
  |nx L'=>exact λσ' lr'=>p μ H1 e1.back hb _ (by simp[Rw,Rp])
  |bk L'=>exact p.elim
  |ct L'=>exact p.elim
  |rt w =>
   intro v rv
   have hsub:∀a,a∈μ->a∈μ1:=λa ha=>by rw[<- e1.take]at ha;exact aBC ha
   cases w with
   |ob c i=>exact iJ hr e1 hr1 (.inl ⟨_,_,rfl⟩) rv p
   |nest c=>exact iJ hr e1 hr1 (.inr ⟨_,rfl⟩) rv p
   |d x=>exact p μ H1 e1.back hb v (Rp.sub hsub x v rv)
   |ref i =>
    simp only[retc]at p
    split at p
    ·rename_i hi
     obtain⟨a,qa,rfl,il⟩:=rv
     refine p μ H1 e1.back hb _ ⟨a,?_,rfl,il⟩
     rw[<- hr.len]at hi
     have:=e1.pre i μ[i] (by simp[hi])
     rw[qa]at this;cases this
     simp[hi]
    ·rename_i hi
     cases q2:M'[i]? with
     |none=>simp only[q2]at p;exact p.elim
     |some ds =>
      simp only[q2]at p
      obtain⟨a,qa,rfl,il⟩:=rv
      obtain⟨a',vs',qa',h1,r1⟩:=hr1.at q2 qa
      rw[qa]at qa';cases qa'
      refine p μ H1 e1.back hb _ ?_
      simp only[Rw,Rp]
      refine⟨a,vs',rfl,h1,λha=>?_,Rps.sub hsub _ _ r1⟩
      obtain⟨j,hj,ej⟩:=aDM.mp ha
      have h2:=e1.pre j a (by rw[<- ej];simp[hj])
      have l1:=(aAC.mp qa).1
      have l2:=(aAC.mp h2).1
      have g1:=(aAC.mp qa).2
      have g2:=(aAC.mp h2).2
      have pw:=aCR.mp hr1.nd
      rw[hr.len]at hj
      exact pw j i l2 l1 (by lia) (g2.trans g1.symm)
theorem aDn{fa:Addr}(hf:Fun K x qual st fa fd)(S:FnScope N ps (defScope st))
  (hb:∀(cdv:Value) (A:Around) (outer:List Env) (s:Shared) (H:Hp) (E:XK),Room k (A.deeper (envOfC qual (defScope st) s.heap.objs.size fa cdv))->Ess (cxOf CX0 P w K mg base N qual (defScope st) fa cdv A outer s H E).nox K Z0 (defBody st) F) :
  FnOk P w K mg base CX0 (k+1) fa fd ps (spF K Z0 ps.length (fnR ps.length N.length F)):=by
 refine hf.ok S (λvs H Q E h=>h.1) λcdv A outer s H vs Q E hr hsp=>⟨_,(hb cdv A outer s H E hr).h,?_⟩
 obtain⟨hv,μ,M,ws,hr,rx,p⟩:=hsp
 refine⟨μ,M,_,hr,lS rx,?_⟩
 unfold fnR at p
 rw[aAG (by rw[rx.length];exact hv)]at p
 cases q:F (ws.map some++List.replicate (N.length - ws.length) none) M with
 |bad=>rw[q]at p;exact p
 |ex z M'=>rw[q]at p;exact p
 |ok o M' =>
  rw[q]at p
  simp only[dR]at p
  intro μ1 H1 e1 hr1
  have hb:=hr1.back e1
  rw[hr.len]at hb
  cases o with
  |nx L'=>exact p.elim
  |bk L'=>exact p.elim
  |ct L'=>exact p.elim
  |rt w =>
   intro v rv
   have hsub:∀a,a∈μ->a∈μ1:=λa ha=>by rw[<- e1.take]at ha;exact aBC ha
   cases w with
   |d x=>exact p.elim
   |ob _ _=>exact p.elim
   |nest _=>exact p.elim
   |ref i =>
    simp only at p
    split at p
    ·rename_i hi
     cases q2:M'[i]? with
     |none=>simp only[q2]at p;exact p.elim
     |some ds =>
      simp only[q2]at p
      obtain⟨a,qa,rfl,il⟩:=rv
      obtain⟨a',vs',qa',h1,r1⟩:=hr1.at q2 qa
      rw[qa]at qa';cases qa'
      have hna:a∉μ:=λha=>by
       obtain⟨j,hj,ej⟩:=aDM.mp ha
       have h2:=e1.pre j a (by rw[<- ej];simp[hj])
       have l1:=(aAC.mp qa).1
       have l2:=(aAC.mp h2).1
       have g1:=(aAC.mp qa).2
       have g2:=(aAC.mp h2).2
       have pw:=aCR.mp hr1.nd
       rw[hr.len]at hj
       exact pw j i l2 l1 (by lia) (g2.trans g1.symm)
      have hsub2:∀b,b∈μ++[a]->b∈μ1:=λb hb=>by
       rcases aCE.mp hb with hb|hb
       ·exact hsub b hb
       ·rw[aCG]at hb;subst hb;exact aDO qa
      refine p (μ++[a]) H1 ⟨e1.keep,λb hb=>e1.new b (hsub2 b hb),λj b hj=>by rw[aAW (aAC.mp hj).1];exact hj,e1.kin⟩ ?_ _ ⟨a,by rw[<- hr.len];simp,rfl,_,h1⟩
      refine⟨by simp[hb.len],List.nodup_append.mpr ⟨hb.nd,by simp,λb hb' c hc=>by rw[aCG]at hc;subst hc;rintro rfl;exact hna hb'⟩,λj b es q1 q3=>?_⟩
      by_cases hj:j < μ.length
      ·rw[aAW hj]at q1
       rw[aAW (by rw[<- hb.len];exact hj),aGG]at q3
       split at q3
       ·obtain⟨us,q4,q5⟩:=hr1.ent j b es (e1.pre j b q1) q3
        exact⟨us,q4,CelO.sub hsub2 q5⟩
       ·cases q3
      ·have hj':j=μ.length:=by have:=(aAC.mp q1).1;simp at this;lia
       subst hj'
       rw[aBZ (aAH _)]at q1
       rw[hb.len,aBZ (aAH _)]at q3
       simp at q1 q3
       subst q1 q3
       exact⟨_,h1,Rps.sub hsub2 _ _ r1⟩
    ·exact p.elim
theorem aX{fa:Addr}(Gf:FnOk X.prog X.w X.K X.mg X.base CX0 k fa fd ps (spF K Z0 m Fm))(hr:Room k X.A)(hm:X.mg x=some (.ref fa))(hk:keepIn X.K (.ref fa)=true)(hb:Binds X.K fd ps [])
  (ha:Ea X K Z0 (e::es) fs)(hl:ps.length=m:=by rfl)(hg:Gl X x:=by rfl)(hdb:(x==("__debug__":Str))=false:=by decide)(he:starEach (e::es) X.env=(false,eval e X.env)::starEach es X.env:=by rfl)(hpl:(backTo pos (starEach es X.env)).any (·.1)=false:=by rfl)
  (hlen:∀ws M,ws.length≠m->Fm ws M=.bad:=by intro ws M h;first|exact aAL h|rfl):Ev X K Z0 (.Call (.Name x p) (e::es) [] pos) (eA Fm fs):=by
 refine⟨ha.k,cqE (lF Gf hr hg hm hk hb .nil pass0 ha.h hdb he hpl) ?_⟩
 rintro σ H Q ⟨μ,M,L,hr,lr,p⟩
 refine⟨μ,M,L,hr,lr,p.bind.imp λμ1 H1 M1 ws e1 hr1 _ p1 vs rx=>?_⟩
 show spF K Z0 m Fm (vs++[]) H1 Q E0
 rw[aDH]
 refine⟨?_,μ1,M1,ws,hr1,rx,p1⟩
 by_cases hw:ws.length=m
 ·rw[<- rx.length];exact hw
 ·rw[hlen ws M1 hw]at p1;exact p1.elim
theorem aEu{a:Addr}(hO:Only H)(hS:SqL K H a (ns.map V.int))(h:∃M',Fm [.d (.fz (ns.map D.int))] []=.ok (.d (.bl true)) M'):spF K Z0 1 Fm [.ref a] H (λv _=>v=.bl true) λ_ _ _=>False:=by
 obtain⟨M',h⟩:=h
 refine⟨rfl,[],[],[.d (.fz (ns.map D.int))],⟨rfl,List.nodup_nil,λi a ds q=>by simp at q⟩,⟨.ref a,[],rfl,?_,rfl⟩,?_⟩
 ·simp only[Rw,Rp]
  refine⟨a,ns.map V.int,rfl,?_,Rps.ints⟩
  rcases hS with(z|z)|z
  ·rcases hO a with q|⟨o,xs,q⟩ <;> rw[z]at q <;> cases q
  ·exact .inl z
  ·exact .inr z
 ·rw[h]
  intro μ' H' _ _ v rv
  simpa only[Rw,Rp]using rv
end
@[irreducible] noncomputable def NW:Nat:=18446744073709551616
theorem zG:NW=18446744073709551616:=by unfold NW;rfl
variable{k:Nat}
theorem aY(hr:Room k A):A.units+101 < cLine:=by have:=hr.un;lia
theorem oR{f:Addr}(hl:ps.length=m):FnOk P w K mg base CX k f fd ps (spF K Z m (λ_ _=>.bad)) :=
 ⟨λvs H Q E h=>by rw[h.1,hl],λA outer s H args us vs Q E _ _ _ _ h=>by obtain⟨_,μ,M,ws,_,_,p⟩:=h;exact p.elim⟩
section
variable{K:Frag}{e a b o:Expr}{es:List Expr}{pos:Pos}{fs:FA}{rest:List Stmt}
end
end EV
namespace ZP
variable{E:Value->Shared->Prop}{x:Value}
theorem kD{l:Addr}(hit:s.heap.IsTupleIter it l i)
  (hl:s.heap.IsTuple l items)(hx:items[i]?=some x)
  (hQ:∀h',h'.IsTupleIter it l (i+1)->Heap.SameBut it s.heap h'->Q x {s with heap:=h'}) :
  wpAny (model prog w) A (Builtin.SmallTypes.nextOf (.ref it)) Q E s:=by
 obtain⟨o,ho,hc,hd⟩:=id hit
 obtain⟨ol,hol,_,nl,hdl⟩:=hl
 unfold Builtin.SmallTypes.nextOf
 refine aAB (aBP (name:=Str.ofString "__next__") hit.typeIs aDI
  (aCK aDI hit.typeIs F.entry_tuple_iterator_next ?_ (F.args_tuple_iterator_next_1 _)))
 show wpAny _ _ (field (.ref it) 0 >>= _) _ _ s
 refine aAB (aAZ ho hd (x:=.ref l) rfl ?_)
 show wpAny _ _ (if(Value.ref l==Value.none)=true then _ else _) _ _ s
 rw[aAL (show ¬((Value.ref l==Value.none)=true)from aBF)]
 show wpAny _ _ (field (.ref it) 1 >>= _) _ _ s
 refine aAB (aAZ ho hd (x:=.int i 0) rfl ?_)
 show wpAny _ _ (seqItems? (.ref l) >>= _) _ _ s
 refine aAB (aCP hol hdl ?_)
 simp only[aDK,hx]
 refine aAB (aCY ho hd (by simp) (aAD ⟨x,rfl,aAD (hQ _ ?_ (Heap.SameBut.update ..))⟩))
 exact⟨_,aBW _ ho (Obj.isFreed_of_fields (Obj.data_mapFields hd _)),(Obj.cls_mapFields ..).trans hc,by
  rw[Obj.data_mapFields hd];simp[rawInt]⟩
theorem kJ{l:Addr}(hh:A.handled=none)
  (hit:s.heap.IsTupleIter it l i)(hl:s.heap.IsTuple l items)(hx:items[i]?=none)
  (hE:∀h' e,Heap.ExtBut it s.heap h'->(∃o,h'.get? e=some o/\o.cls=.type "StopIteration")->E (.ref e) {s with heap:=h'}) :
  wpAny (model prog w) A (Builtin.SmallTypes.nextOf (.ref it)) Q E s:=by
 obtain⟨o,ho,hc,hd⟩:=id hit
 obtain⟨ol,hol,_,nl,hdl⟩:=hl
 unfold Builtin.SmallTypes.nextOf
 refine aAB (aBP (name:=Str.ofString "__next__") hit.typeIs aDI
  (aCK aDI hit.typeIs F.entry_tuple_iterator_next ?_ (F.args_tuple_iterator_next_1 _)))
 show wpAny _ _ (field (.ref it) 0 >>= _) _ _ s
 refine aAB (aAZ ho hd (x:=.ref l) rfl ?_)
 show wpAny _ _ (if(Value.ref l==Value.none)=true then _ else _) _ _ s
 rw[aAL (show ¬((Value.ref l==Value.none)=true)from aBF)]
 show wpAny _ _ (field (.ref it) 1 >>= _) _ _ s
 refine aAB (aAZ ho hd (x:=.int i 0) rfl ?_)
 show wpAny _ _ (seqItems? (.ref l) >>= _) _ _ s
 refine aAB (aCP hol hdl ?_)
 simp only[aDK,hx]
 refine aAB (aEM (aAB (aCY ho hd (by simp) ?_)))
 show wpAny _ _ (newExc (.type "StopIteration") [] >>= _) _ _ _
 refine aAB ?_
 simp only[newExc,newTuple]
 refine aAB (aCC ?_ (by size_fits))
 refine aAB (m:=firstArgMember _ _) (wpAny_of_eq (a:=Value.none) (by first|rfl|(simp only[firstArgMember];rfl)) ?_)
 refine aCC ?_ (by size_fits)
 simp only[raiseNew]
 refine aAB (wpAny_handled ?_)
 first|rw[show A.in1.handled=none from hh]|rw[hh]
 refine aAB (aAD (wpAny_throw ?_))
 exact hE _ _ (((Heap.SameBut.update ..).extBut.push _).push _) ⟨_,aAI _ rfl,rfl⟩
noncomputable def It1(h:Heap)(it src:Addr)(i:Nat)(xs:Array Value):Prop:=(h.IsListIter it src i/\h.IsList src xs)\/(h.IsTupleIter it src i/\h.IsTuple src xs)
theorem It1.at{h h':Heap}{it src:Addr}{i:Nat}{xs:Array Value}(x:It1 h it src i xs)(k1:∀o,h.get? it=some o->h'.get? it=some o)(k2:∀o,h.get? src=some o->h'.get? src=some o):It1 h' it src i xs:=by
 rcases x with⟨a,b⟩|⟨a,b⟩
 ·exact .inl ⟨a.at k1,b.at k2⟩
 ·refine .inr ⟨a.at k1,?_⟩
  obtain⟨o,ho,r⟩:=b
  exact⟨o,k2 o ho,r⟩
theorem It1.lt(x:It1 h it src i xs):it < h.objs.size:=by
 rcases x with⟨⟨_,e,_⟩,_⟩|⟨⟨_,e,_⟩,_⟩ <;> exact aAF e
theorem It1.ne(x:It1 h it src i xs):src≠it:=by
 rintro rfl
 rcases x with⟨⟨o,e,c,_⟩,⟨o',e',c',_⟩⟩|⟨⟨o,e,c,_⟩,⟨o',e',c',_⟩⟩ <;> (rw[e]at e';cases e';rw[c]at c';simp at c')
theorem It1.next(h:It1 s.heap it src i xs)(hx:xs[i]?=some x)(hQ:∀h',It1 h' it src (i+1) xs->Heap.SameBut it s.heap h'->Q x {s with heap:=h'}) :
  wpAny (model prog w) A (Builtin.SmallTypes.nextOf (.ref it)) Q E s:=by
 have hn:=h.ne
 rcases h with⟨a,b⟩|⟨a,b⟩
 ·exact wpAny_nextOf_list_item a b hx λh' a' sb=>hQ h' (.inl ⟨a',b.extBut sb.extBut hn⟩) sb
 ·exact kD a b hx λh' a' sb=>hQ h' (.inr ⟨a',b.extBut sb.extBut hn⟩) sb
theorem It1.stop(hh:A.handled=none)(h:It1 s.heap it src i xs)(hx:xs[i]?=none)
  (hE:∀h' e,Heap.ExtBut it s.heap h'->(∃o,h'.get? e=some o/\o.cls=.type "StopIteration")->E (.ref e) {s with heap:=h'}):wpAny (model prog w) A (Builtin.SmallTypes.nextOf (.ref it)) Q E s:=by
 rcases h with⟨a,b⟩|⟨a,b⟩
 ·exact wpAny_nextOf_list_end hh a b hx hE
 ·exact kJ hh a b hx hE
theorem loadAlive{Q:Option Obj->Shared->Prop}(h:Q (s.heap.get? a) s):wpAny (model prog w) A (loadIfAlive a) Q E s:=by
 intro Γ p hΓ
 show Sem.wp _ _ (Sem.loadIfAlive a _) _ _ _ _
 rw[Sem.wp_loadIfAlive]
 simpa using h
noncomputable abbrev zobj(TI TO:Addr)(f0 f1:Value):Obj:={cls:=.type "zip",dict:=none,data:=.fields #[f0,f1,.bool false,.ref TI,.ref TO],slots:=#[]}
structure Ap(z TI TO i1 i2 l1 l2:Addr):Prop where
 TIz:TI≠z
 TOz:TO≠z
 i1z:i1≠z
 i2z:i2≠z
 TITO:TI≠TO
 TIi1:TI≠i1
 TIi2:TI≠i2
 TOi1:TO≠i1
 TOi2:TO≠i2
 i12:i1≠i2
 l1z:l1≠z
 l1TO:l1≠TO
 l1i1:l1≠i1
 l1i2:l1≠i2
 l2z:l2≠z
 l2TO:l2≠TO
 l2i1:l2≠i1
 l2i2:l2≠i2
structure Zs(h:Heap)(z TI TO i1 i2 l1 l2:Addr)(i:Nat)(xs ys:Array Value):Prop where
 z:∃f0 f1,h.get? z=some (zobj TI TO f0 f1)/\(f0=.none\/∃T:Nat,f0=rawInt T)
 ti:IsPair h TI (.ref i1) (.ref i2)
 to:∃a b,IsPair h TO a b
 a:It1 h i1 l1 i xs
 b:It1 h i2 l2 i ys
variable{TI TO:Addr}
theorem uH{f0 f1:Value}{Q:Bool->Shared->Prop}(hz:s.heap.get? z=some (zobj TI TO f0 f1))(hf:f0=.none\/∃T:Nat,f0=rawInt T)(h1:Q true s)(h2:∀h' f1',h'.get? z=some (zobj TI TO f0 f1')->Heap.SameBut z s.heap h'->Q false {s with heap:=h'}) :
  wpAny (model prog w) A (Builtin.SmallTypes.ownedTupleIsFree (.ref z)) Q E s:=by
 unfold Builtin.SmallTypes.ownedTupleIsFree
 refine aAB (aAZ hz rfl (x:=f0) rfl ?_)
 rcases hf with rfl|⟨T,rfl⟩
 ·exact aAD h1
 ·show wpAny _ _ (loadIfAlive _ >>= _) _ _ _
  refine aAB (loadAlive ?_)
  cases q:s.heap.get? ((T:Int).toNat)with
  |none=>exact aAD h1
  |some o =>
   show wpAny _ _ (field (.ref z) 1 >>= _) _ _ _
   refine aAB (aAZ hz rfl (x:=f1) rfl ?_)
   by_cases hb:(f1 != .bool true)=true
   ·rw[aAG hb]
    refine aAB (aCQ hz (by simp) λh1 hz1 hs1=>aAD (h2 h1 _ hz1 hs1))
   ·rw[aAL hb]
    exact aAD (h2 s.heap f1 hz ⟨rfl,λ_ _=>rfl⟩)
variable{k:Nat}
theorem iR{i1 i2:Addr}{y:Value}(D:Ap z TI TO i1 i2 l1 l2)(Z:Zs s.heap z TI TO i1 i2 l1 l2 k xs ys)(hx:xs[k]?=some x)(hy:ys[k]?=some y)
  (hQ:∀h' T,Zs h' z TI TO i1 i2 l1 l2 (k+1) xs ys->IsPair h' T x y->s.heap.objs.size<=T->(∀c o,c≠z->c≠TO->c≠i1->c≠i2->s.heap.get? c=some o->h'.get? c=some o)->Q (.ref T) {s with heap:=h'}) :
  wpAny (model prog w) A (Builtin.«zip.__next__» ⟨[.ref z],[]⟩) (λfin s'=>∃v,fin=.done (.ret v)/\Q v s') E s:=by
 obtain⟨⟨f0,f1,hz,hf⟩,hTI,⟨a,b,hTO⟩,h1,h2⟩:=Z
 show wpAny _ _ (field (.ref z) 2 >>= _) _ _ _
 refine aAB (aAZ hz rfl (x:=.bool false) rfl ?_)
 show wpAny _ _ (field (.ref z) 3 >>= _) _ _ _
 refine aAB (aAZ hz rfl (x:=.ref TI) rfl ?_)
 refine aAB (aCP hTI rfl ?_)
 show wpAny _ _ (Builtin.SmallTypes.ownedTupleIsFree (.ref z) >>= _) _ _ _
 refine aAB (uH hz hf ?_ λh₁ f1' hz₁ hs₁=>?_)
 ·simp only[aDE]
  refine aAB (aEM ?_)
  refine aAB (aAZ hz rfl (x:=.ref TO) rfl ?_)
  refine aAB (aCQ hz (by simp) λh₁ hz₁ hs₁=>?_)
  replace hz₁:h₁.get? z=some (zobj TI TO .ellipsis f1):=hz₁
  refine aAB ?_
  simp only[List.zipIdx_cons,List.zipIdx_nil,aDX,aGD]
  refine aAB (aAB (aGK ?_))
  show wpAny _ _ (Builtin.SmallTypes.nextOf (.ref i1) >>= _) _ _ _
  refine aAB (It1.next (h1.at (λo e=>hs₁.extBut _ _ D.i1z e) λo e=>hs₁.extBut _ _ D.l1z e) hx λh₂ h1₂ hs₂=>aAD ?_)
  have hTO₂:IsPair h₂ TO a b:=hs₂.extBut _ _ D.TOi1 (hs₁.extBut _ _ D.TOz hTO)
  refine aAB (aCP hTO₂ rfl ?_)
  refine aAB (aFV hTO₂ λh₃ hTO₃ hs₃=>?_)
  replace hTO₃:IsPair h₃ TO x b:=hTO₃
  refine aAB (wpAny_letGo (aAD ?_))
  refine aAB (aAB (aGK ?_))
  show wpAny _ _ (Builtin.SmallTypes.nextOf (.ref i2) >>= _) _ _ _
  refine aAB (It1.next (h2.at (λo e=>hs₃.extBut _ _ D.TOi2.symm (hs₂.extBut _ _ D.i12.symm (hs₁.extBut _ _ D.i2z e))) λo e=>hs₃.extBut _ _ D.l2TO (hs₂.extBut _ _ D.l2i1 (hs₁.extBut _ _ D.l2z e))) hy λh₄ h2₄ hs₄=>aAD ?_)
  have hTO₄:IsPair h₄ TO x b:=hs₄.extBut _ _ D.TOi2 hTO₃
  refine aAB (aCP hTO₄ rfl ?_)
  refine aAB (aFV hTO₄ λh₅ hTO₅ hs₅=>?_)
  replace hTO₅:IsPair h₅ TO x y:=hTO₅
  refine aAB (wpAny_letGo (aAD (aAD ?_)))
  refine aAB (aCP hTO₅ rfl ?_)
  refine aAB (wpAny_newTuple ?_)
  have hsz:h₅.objs.size=s.heap.objs.size:=by rw[hs₅.1,hs₄.1,hs₃.1,hs₂.1,hs₁.1]
  have hz₅:h₅.get? z=some (zobj TI TO .ellipsis f1):=hs₅.extBut _ _ D.TOz.symm (hs₄.extBut _ _ D.i2z.symm (hs₃.extBut _ _ D.TOz.symm (hs₂.extBut _ _ D.i1z.symm hz₁)))
  have hk₅:∀c o,c≠z->c≠TO->c≠i1->c≠i2->s.heap.get? c=some o->h₅.get? c=some o:=λc o c1 c2 c3 c4 e =>
   hs₅.extBut _ _ c2 (hs₄.extBut _ _ c4 (hs₃.extBut _ _ c2 (hs₂.extBut _ _ c3 (hs₁.extBut _ _ c1 e))))
  have h1₅:It1 h₅ i1 l1 (k+1) xs:=h1₂.at (λo e=>hs₅.extBut _ _ D.TOi1.symm (hs₄.extBut _ _ D.i12 (hs₃.extBut _ _ D.TOi1.symm e))) λo e=>hs₅.extBut _ _ D.l1TO (hs₄.extBut _ _ D.l1i2 (hs₃.extBut _ _ D.l1TO e))
  have h2₅:It1 h₅ i2 l2 (k+1) ys:=h2₄.at (λo e=>hs₅.extBut _ _ D.TOi2.symm e) λo e=>hs₅.extBut _ _ D.l2TO e
  have hzlt:z < h₅.objs.size:=aAF hz₅
  show wpAny _ _ (Builtin.SmallTypes.ownedTupleHandOut (.ref z) (.ref h₅.objs.size) >>= _) _ _ _
  refine aAB ?_
  unfold Builtin.SmallTypes.ownedTupleHandOut
  have hz₆:(h₅.push {cls:=.type "tuple",data:=.seq #[x,y]}).get? z=some (zobj TI TO .ellipsis f1):=aAA _ hz₅
  refine aAB (aCQ hz₆ (by simp) λh₇ hz₇ hs₇=>?_)
  replace hz₇:h₇.get? z=some (zobj TI TO (rawInt h₅.objs.size) f1):=hz₇
  refine aCQ hz₇ (by simp) λh₈ hz₈ hs₈=>?_
  replace hz₈:h₈.get? z=some (zobj TI TO (rawInt h₅.objs.size) (.bool false)):=hz₈
  have up:∀c o,c≠z->h₅.get? c=some o->h₈.get? c=some o:=λc o c1 e=>hs₈.extBut _ _ c1 (hs₇.extBut _ _ c1 (aAA _ e))
  have hT₈:IsPair h₈ h₅.objs.size x y:=hs₈.extBut _ _ (aBG hzlt) (hs₇.extBut _ _ (aBG hzlt) (aAI _ rfl))
  refine aAD ⟨_,rfl,hQ h₈ h₅.objs.size ⟨⟨_,_,hz₈,.inr ⟨_,rfl⟩⟩,up _ _ D.TIz (hk₅ _ _ D.TIz D.TITO D.TIi1 D.TIi2 hTI),⟨_,_,up _ _ D.TOz hTO₅⟩,h1₅.at (λo e=>up _ o D.i1z e) λo e=>up _ o D.l1z e,h2₅.at (λo e=>up _ o D.i2z e) λo e=>up _ o D.l2z e⟩ hT₈ (by rw[hsz];exact aAH _) λc o c1 c2 c3 c4 e=>up c o c1 (hk₅ c o c1 c2 c3 c4 e)⟩
 ·simp only[aBI,aCO]
  refine aAB ?_
  simp only[List.forIn_toArray,aDX,aGD]
  refine aAB (aAB (aBL ?_))
  show wpAny _ _ (Builtin.SmallTypes.nextOf (.ref i1) >>= _) _ _ _
  refine aAB (It1.next (h1.at (λo e=>hs₁.extBut _ _ D.i1z e) λo e=>hs₁.extBut _ _ D.l1z e) hx λh₂ h1₂ hs₂=>aAD (aAD ?_))
  refine aAB (aAB (aBL ?_))
  show wpAny _ _ (Builtin.SmallTypes.nextOf (.ref i2) >>= _) _ _ _
  refine aAB (It1.next (h2.at (λo e=>hs₂.extBut _ _ D.i12.symm (hs₁.extBut _ _ D.i2z e)) λo e=>hs₂.extBut _ _ D.l2i1 (hs₁.extBut _ _ D.l2z e)) hy λh₃ h2₃ hs₃=>aAD (aAD (aAD ?_)))
  show wpAny _ _ (newTuple [x,y] >>= _) _ _ _
  refine aAB (wpAny_newTuple ?_)
  have hsz:h₃.objs.size=s.heap.objs.size:=by rw[hs₃.1,hs₂.1,hs₁.1]
  have kp:∀c o,c≠z->c≠i1->c≠i2->s.heap.get? c=some o->(h₃.push {cls:=.type "tuple",data:=.seq #[x,y]}).get? c=some o:=λc o c1 c2 c3 e=>aAA _ (hs₃.extBut _ _ c3 (hs₂.extBut _ _ c2 (hs₁.extBut _ _ c1 e)))
  refine aAD ⟨_,rfl,hQ _ h₃.objs.size ⟨⟨f0,f1',aAA _ (hs₃.extBut _ _ D.i2z.symm (hs₂.extBut _ _ D.i1z.symm hz₁)),hf⟩,kp _ _ D.TIz D.TIi1 D.TIi2 hTI,⟨_,_,kp _ _ D.TOz D.TOi1 D.TOi2 hTO⟩,?_,?_⟩ (aAI _ rfl) (by rw[hsz];exact aAH _) λc o c1 c2 c3 c4 e=>kp c o c1 c3 c4 e⟩
  ·exact h1₂.at (λo e=>aAA _ (hs₃.extBut _ _ D.i12 e)) λo e=>aAA _ (hs₃.extBut _ _ D.l1i2 e)
  ·exact h2₃.at (λo e=>aAA _ e) λo e=>aAA _ e
theorem kB{i1 i2:Addr}{Q:Fin->Shared->Prop}(hh:A.handled=none)(D:Ap z TI TO i1 i2 l1 l2)(Z:Zs s.heap z TI TO i1 i2 l1 l2 k xs ys)(hend:xs[k]?=none\/ys[k]?=none)
  (hE:∀h' e,(∀c o,c≠z->c≠TO->c≠i1->c≠i2->s.heap.get? c=some o->h'.get? c=some o)->(∃o,h'.get? e=some o/\o.cls=.type "StopIteration")->E (.ref e) {s with heap:=h'}) :
  wpAny (model prog w) A (Builtin.«zip.__next__» ⟨[.ref z],[]⟩) Q E s:=by
 obtain⟨⟨f0,f1,hz,hf⟩,hTI,⟨a,b,hTO⟩,h1,h2⟩:=Z
 show wpAny _ _ (field (.ref z) 2 >>= _) _ _ _
 refine aAB (aAZ hz rfl (x:=.bool false) rfl ?_)
 show wpAny _ _ (field (.ref z) 3 >>= _) _ _ _
 refine aAB (aAZ hz rfl (x:=.ref TI) rfl ?_)
 refine aAB (aCP hTI rfl ?_)
 show wpAny _ _ (Builtin.SmallTypes.ownedTupleIsFree (.ref z) >>= _) _ _ _
 refine aAB (uH hz hf ?_ λh₁ f1' hz₁ hs₁=>?_)
 ·simp only[aDE]
  refine aAB (aEM ?_)
  refine aAB (aAZ hz rfl (x:=.ref TO) rfl ?_)
  refine aAB (aCQ hz (by simp) λh₁ hz₁ hs₁=>?_)
  replace hz₁:h₁.get? z=some (zobj TI TO .ellipsis f1):=hz₁
  refine aAB ?_
  simp only[List.zipIdx_cons,List.zipIdx_nil,aDX,aGD]
  refine aAB (aAB (aGK ?_))
  show wpAny _ _ (Builtin.SmallTypes.nextOf (.ref i1) >>= _) _ _ _
  have h1':=h1.at (h':=h₁) (λo e=>hs₁.extBut _ _ D.i1z e) λo e=>hs₁.extBut _ _ D.l1z e
  cases hx:xs[k]? with
  |none =>
   refine aAB (It1.stop hh h1' hx λh₂ e hs₂ he=>?_)
   obtain⟨oe,hoe,hce⟩:=he
   have hz₂:h₂.get? z=some (zobj TI TO .ellipsis f1):=hs₂ _ _ D.i1z.symm hz₁
   have hez:e≠z:=λx=>by subst x;rw[hz₂]at hoe;cases hoe;simp at hce
   exact aCQ hz₂ (by simp) λh₃ _ hs₃=>hE h₃ e (λc o c1 _ c3 _ x=>hs₃.extBut _ _ c1 (hs₂ _ _ c3 (hs₁.extBut _ _ c1 x))) ⟨oe,hs₃.extBut _ _ hez hoe,hce⟩
  |some x =>
   have hy:ys[k]?=none:=by rcases hend with h|h;rw[hx]at h;cases h;exact h
   refine aAB (It1.next h1' hx λh₂ h1₂ hs₂=>aAD ?_)
   have hTO₂:IsPair h₂ TO a b:=hs₂.extBut _ _ D.TOi1 (hs₁.extBut _ _ D.TOz hTO)
   refine aAB (aCP hTO₂ rfl ?_)
   refine aAB (aFV hTO₂ λh₃ hTO₃ hs₃=>?_)
   refine aAB (wpAny_letGo (aAD ?_))
   refine aAB (aAB (aGK ?_))
   show wpAny _ _ (Builtin.SmallTypes.nextOf (.ref i2) >>= _) _ _ _
   refine aAB (It1.stop hh (h2.at (λo e=>hs₃.extBut _ _ D.TOi2.symm (hs₂.extBut _ _ D.i12.symm (hs₁.extBut _ _ D.i2z e))) λo e=>hs₃.extBut _ _ D.l2TO (hs₂.extBut _ _ D.l2i1 (hs₁.extBut _ _ D.l2z e))) hy λh₄ e hs₄ he=>?_)
   obtain⟨oe,hoe,hce⟩:=he
   have hz₄:h₄.get? z=some (zobj TI TO .ellipsis f1):=hs₄ _ _ D.i2z.symm (hs₃.extBut _ _ D.TOz.symm (hs₂.extBut _ _ D.i1z.symm hz₁))
   have hez:e≠z:=λx=>by subst x;rw[hz₄]at hoe;cases hoe;simp at hce
   exact aCQ hz₄ (by simp) λh₅ _ hs₅=>hE h₅ e (λc o c1 c2 c3 c4 x=>hs₅.extBut _ _ c1 (hs₄ _ _ c4 (hs₃.extBut _ _ c2 (hs₂.extBut _ _ c3 (hs₁.extBut _ _ c1 x))))) ⟨oe,hs₅.extBut _ _ hez hoe,hce⟩
 ·simp only[aBI,aCO]
  refine aAB ?_
  simp only[List.forIn_toArray,aDX,aGD]
  refine aAB (aAB (aBL ?_))
  show wpAny _ _ (Builtin.SmallTypes.nextOf (.ref i1) >>= _) _ _ _
  have h1':=h1.at (h':=h₁) (λo e=>hs₁.extBut _ _ D.i1z e) λo e=>hs₁.extBut _ _ D.l1z e
  cases hx:xs[k]? with
  |none=>exact aAB (It1.stop hh h1' hx λh₂ e hs₂ he=>hE h₂ e (λc o c1 _ c3 _ x=>hs₂ _ _ c3 (hs₁.extBut _ _ c1 x)) he)
  |some x =>
   have hy:ys[k]?=none:=by rcases hend with h|h;rw[hx]at h;cases h;exact h
   refine aAB (It1.next h1' hx λh₂ h1₂ hs₂=>aAD (aAD ?_))
   refine aAB (aAB (aBL ?_))
   show wpAny _ _ (Builtin.SmallTypes.nextOf (.ref i2) >>= _) _ _ _
   exact aAB (It1.stop hh (h2.at (λo e=>hs₂.extBut _ _ D.i12.symm (hs₁.extBut _ _ D.i2z e)) λo e=>hs₂.extBut _ _ D.l2i1 (hs₁.extBut _ _ D.l2z e)) hy λh₃ e hs₃ he=>hE h₃ e (λc o c1 _ c3 c4 x=>hs₃ _ _ c4 (hs₂.extBut _ _ c3 (hs₁.extBut _ _ c1 x))) he)
theorem walksZip(hh:A.handled=none)(z TI TO i1 i2 l1 l2:Addr)(D:Ap z TI TO i1 i2 l1 l2)(xs ys:Array Value) :
  WalksS prog w A z [z,TI,TO,i1,i2,l1,l2] [z,TO,i1,i2] (λa b=>b=a) (min xs.size ys.size) (λi v=>True)
   (λi s=>Zs s.heap z TI TO i1 i2 l1 l2 i xs ys)where
 sub:=λc hc=>by simp at hc ⊢;rcases hc with rfl|rfl|rfl|rfl <;> simp
 grefl:=λ_=>rfl
 gtrans:=λ_ _ _ h1 h2=>h2.trans h1
 frame:=λi s h' tk st _ hk=>by
  obtain⟨⟨f0,f1,hz,hf⟩,hTI,⟨a,b,hTO⟩,h1,h2⟩:=st
  exact⟨⟨f0,f1,hk z (by simp) _ hz,hf⟩,hk TI (by simp) _ hTI,⟨a,b,hk TO (by simp) _ hTO⟩,h1.at (λo e=>hk i1 (by simp) o e) λo e=>hk l1 (by simp) o e,h2.at (λo e=>hk i2 (by simp) o e) λo e=>hk l2 (by simp) o e⟩
 item:=λi s Q E hi st hQ=>by
  have hT:s.TypeIs (.ref z) "zip":=let⟨f0,f1,hz,_⟩:=st.z;⟨_,hz,rfl⟩
  have hix:i < xs.size:=aAN hi (Nat.min_le_left ..)
  have hiy:i < ys.size:=aAN hi (Nat.min_le_right ..)
  unfold pyNext
  refine aAB (aDV (aBP (name:=Str.ofString "__next__") hT aCL
   (aCK aCL hT aFK
    (iR D st (aBT hix) (aBT hiy) λh' T z' p' n' k'=>aAD (hQ _ _ trivial z' ⟨λb o hb e=>k' b o (λx=>hb (by simp[x])) (λx=>hb (by simp[x])) (λx=>hb (by simp[x])) (λx=>hb (by simp[x])) e,rfl,rfl,rfl,aAH _⟩)) (aFC _))))
 done:=λs Q E st hQ=>by
  have hT:s.TypeIs (.ref z) "zip":=let⟨f0,f1,hz,_⟩:=st.z;⟨_,hz,rfl⟩
  have hend:xs[min xs.size ys.size]?=none\/ys[min xs.size ys.size]?=none:=by
   rcases Nat.le_total xs.size ys.size with h|h
   ·exact .inl (by rw[aEX h];simp)
   ·exact .inr (by rw[aEP h];simp)
  unfold pyNext
  refine aAB (aDV (aBP (name:=Str.ofString "__next__") hT aCL
   (aCK aCL hT aFK (kB hh D st hend λh' e hk he=>?_) (aFC _))))
  obtain⟨o,ho,hc⟩:=he
  refine aAB (wpAny_isInstance (T:="StopIteration") (b:=true) ⟨o,ho,hc⟩ isSubtype_stop ?_)
  exact aAD (hQ _ ⟨λb o hb e=>hk b o (λx=>hb (by simp[x])) (λx=>hb (by simp[x])) (λx=>hb (by simp[x])) (λx=>hb (by simp[x])) e,rfl,rfl,rfl,aAH _⟩)
 self:=λi s Q E st hQ=>by
  obtain⟨f0,f1,hz,_⟩:=st.z
  have hT:s.TypeIs (.ref z) "zip":=⟨_,hz,rfl⟩
  refine wpAny_pyIter_slot hT F.slot_zip_iter (aCK F.slot_zip_iter hT F.entry_zip_iter ?_ (F.args_zip_iter_1 _))
  show wpAny _ _ (ret (.ref z)) _ _ s
  exact aAD ⟨_,rfl,"zip",_,hT,aCL.lookup,hQ⟩
noncomputable section
abbrev zH1LL(h:Heap)(l1:Addr):Heap:=h.push {cls:=.type "list_iterator",data:=.fields #[.ref l1,.int 0 0]}
abbrev zH2LL(h:Heap)(l1 l2:Addr):Heap:=(zH1LL h l1).push {cls:=.type "list_iterator",data:=.fields #[.ref l2,.int 0 0]}
abbrev zH3LL(h:Heap)(l1 l2:Addr):Heap:=(zH2LL h l1 l2).push {cls:=.type "tuple",data:=.seq #[.ref h.objs.size,.ref (zH1LL h l1).objs.size]}
abbrev zH4LL(h:Heap)(l1 l2:Addr):Heap:=(zH3LL h l1 l2).push {cls:=.type "tuple",data:=.seq #[.none,.none]}
abbrev zH5LL(h:Heap)(l1 l2:Addr):Heap:=(zH4LL h l1 l2).push {cls:=.type "zip",data:=.fields #[.none,.bool false,.bool false,.ref (zH2LL h l1 l2).objs.size,.ref (zH3LL h l1 l2).objs.size]}
theorem rK(l1 l2:Addr)(xs ys:Array Value) :
  Meets (Builtin.«zip.__new__» ⟨[.type "zip",.ref l1,.ref l2],[]⟩) (λ_ R s=>s.heap.IsList l1 xs/\s.heap.IsList l2 ys /\
   R (.ok (.ret (.ref (zH4LL s.heap l1 l2).objs.size))) {s with heap:=zH5LL s.heap l1 l2}) :=
 .of_wp λprog w A R s h=>by
  obtain⟨hp,g,d,tk,os⟩:=s;obtain⟨hl1,hl2,h⟩:=h
  have hsub:=sub_zip
  have hL1:Heap.IsList (Shared.heap ⟨hp,g,d,tk,os⟩) l1 xs:=hl1
  have hL2:Heap.IsList (Shared.heap ⟨hp.push {cls:=.type "list_iterator",data:=.fields #[.ref l1,.int 0 0]},g,d,tk,os⟩) l2 ys:=by
   obtain⟨o,ho,r⟩:=hl2
   exact⟨o,aAA _ ho,r⟩
  wp_walk using aDJ hL1,aDJ hL2
  exact⟨_,rfl,h⟩
theorem sH(hl1:s.heap.IsList l1 xs)(hl2:s.heap.IsList l2 ys)
  (h:∀h',Zs h' (s.heap.objs.size+4) (s.heap.objs.size+2) (s.heap.objs.size+3) s.heap.objs.size (s.heap.objs.size+1) l1 l2 0 xs ys->h'.objs.size=s.heap.objs.size+5 ->
   (∀c o,s.heap.get? c=some o->h'.get? c=some o)->Q (.ref (s.heap.objs.size+4)) {s with heap:=h'}) :
  wpAny (model prog w) A (call (.type "zip") [.ref l1,.ref l2]) Q E s:=by
 refine callType_new F.called_zip (by decide) (aFM _ _) (aFS _ _) (λobj=>aEI obj _ _) aFP
  (rK l1 l2 xs ys) ⟨hl1,hl2,?_⟩
 have z1:(zH1LL s.heap l1).objs.size=s.heap.objs.size+1:=aAR ..
 have z2:(zH2LL s.heap l1 l2).objs.size=s.heap.objs.size+2:=by rw[aAR,z1]
 have z3:(zH3LL s.heap l1 l2).objs.size=s.heap.objs.size+3:=by rw[aAR,z2]
 have z4:(zH4LL s.heap l1 l2).objs.size=s.heap.objs.size+4:=by rw[aAR,z3]
 have z5:(zH5LL s.heap l1 l2).objs.size=s.heap.objs.size+5:=by rw[aAR,z4]
 have g5:(zH5LL s.heap l1 l2).get? (zH4LL s.heap l1 l2).objs.size=some _:=aAI _ rfl
 have g4:(zH5LL s.heap l1 l2).get? (zH3LL s.heap l1 l2).objs.size=some _:=aAA _ (aAI _ rfl)
 have g3:(zH5LL s.heap l1 l2).get? (zH2LL s.heap l1 l2).objs.size=some _:=aAA _ (aAA _ (aAI _ rfl))
 have g2:(zH5LL s.heap l1 l2).get? (zH1LL s.heap l1).objs.size=some _:=aAA _ (aAA _ (aAA _ (aAI _ rfl)))
 have g1:(zH5LL s.heap l1 l2).get? s.heap.objs.size=some _:=aAA _ (aAA _ (aAA _ (aAA _ (aAI _ rfl))))
 have kp:∀c o,s.heap.get? c=some o->(zH5LL s.heap l1 l2).get? c=some o:=λc o x =>
  aAA _ (aAA _ (aAA _ (aAA _ (aAA _ x))))
 show _/\_
 rw[z2,z3,z4]at g5
 rw[z1,z2]at g3
 rw[z3]at g4
 rw[z1]at g2
 rw[z4]
 refine⟨⟨_,g5,rfl⟩,h _ ⟨⟨_,_,g5,.inl rfl⟩,g3,⟨_,_,g4⟩,.inl ⟨⟨_,g1,rfl,rfl⟩,?_⟩,.inl ⟨⟨_,g2,rfl,rfl⟩,?_⟩⟩ z5 kp⟩
 ·obtain⟨o,ho,r⟩:=hl1;exact⟨o,kp _ _ ho,r⟩
 ·obtain⟨o,ho,r⟩:=hl2;exact⟨o,kp _ _ ho,r⟩
abbrev zH1LT(h:Heap)(l1:Addr):Heap:=h.push {cls:=.type "list_iterator",data:=.fields #[.ref l1,.int 0 0]}
abbrev zH2LT(h:Heap)(l1 l2:Addr):Heap:=(zH1LT h l1).push {cls:=.type "tuple_iterator",data:=.fields #[.ref l2,.int 0 0]}
abbrev zH3LT(h:Heap)(l1 l2:Addr):Heap:=(zH2LT h l1 l2).push {cls:=.type "tuple",data:=.seq #[.ref h.objs.size,.ref (zH1LT h l1).objs.size]}
abbrev zH4LT(h:Heap)(l1 l2:Addr):Heap:=(zH3LT h l1 l2).push {cls:=.type "tuple",data:=.seq #[.none,.none]}
abbrev zH5LT(h:Heap)(l1 l2:Addr):Heap:=(zH4LT h l1 l2).push {cls:=.type "zip",data:=.fields #[.none,.bool false,.bool false,.ref (zH2LT h l1 l2).objs.size,.ref (zH3LT h l1 l2).objs.size]}
theorem qJ(l1 l2:Addr)(xs ys:Array Value) :
  Meets (Builtin.«zip.__new__» ⟨[.type "zip",.ref l1,.ref l2],[]⟩) (λ_ R s=>s.heap.IsList l1 xs/\s.heap.IsTuple l2 ys /\
   R (.ok (.ret (.ref (zH4LT s.heap l1 l2).objs.size))) {s with heap:=zH5LT s.heap l1 l2}) :=
 .of_wp λprog w A R s h=>by
  obtain⟨hp,g,d,tk,os⟩:=s;obtain⟨hl1,hl2,h⟩:=h
  have hsub:=sub_zip
  have hL1:Heap.IsList (Shared.heap ⟨hp,g,d,tk,os⟩) l1 xs:=hl1
  have hL2:Heap.IsTuple (Shared.heap ⟨hp.push {cls:=.type "list_iterator",data:=.fields #[.ref l1,.int 0 0]},g,d,tk,os⟩) l2 ys:=by
   obtain⟨o,ho,r⟩:=hl2
   exact⟨o,aAA _ ho,r⟩
  wp_walk using aDJ hL1,aDA hL2
  exact⟨_,rfl,h⟩
theorem tR(hl1:s.heap.IsList l1 xs)(hl2:s.heap.IsTuple l2 ys)
  (h:∀h',Zs h' (s.heap.objs.size+4) (s.heap.objs.size+2) (s.heap.objs.size+3) s.heap.objs.size (s.heap.objs.size+1) l1 l2 0 xs ys->h'.objs.size=s.heap.objs.size+5 ->
   (∀c o,s.heap.get? c=some o->h'.get? c=some o)->Q (.ref (s.heap.objs.size+4)) {s with heap:=h'}) :
  wpAny (model prog w) A (call (.type "zip") [.ref l1,.ref l2]) Q E s:=by
 refine callType_new F.called_zip (by decide) (aFM _ _) (aFS _ _) (λobj=>aEI obj _ _) aFP
  (qJ l1 l2 xs ys) ⟨hl1,hl2,?_⟩
 have z1:(zH1LT s.heap l1).objs.size=s.heap.objs.size+1:=aAR ..
 have z2:(zH2LT s.heap l1 l2).objs.size=s.heap.objs.size+2:=by rw[aAR,z1]
 have z3:(zH3LT s.heap l1 l2).objs.size=s.heap.objs.size+3:=by rw[aAR,z2]
 have z4:(zH4LT s.heap l1 l2).objs.size=s.heap.objs.size+4:=by rw[aAR,z3]
 have z5:(zH5LT s.heap l1 l2).objs.size=s.heap.objs.size+5:=by rw[aAR,z4]
 have g5:(zH5LT s.heap l1 l2).get? (zH4LT s.heap l1 l2).objs.size=some _:=aAI _ rfl
 have g4:(zH5LT s.heap l1 l2).get? (zH3LT s.heap l1 l2).objs.size=some _:=aAA _ (aAI _ rfl)
 have g3:(zH5LT s.heap l1 l2).get? (zH2LT s.heap l1 l2).objs.size=some _:=aAA _ (aAA _ (aAI _ rfl))
 have g2:(zH5LT s.heap l1 l2).get? (zH1LT s.heap l1).objs.size=some _:=aAA _ (aAA _ (aAA _ (aAI _ rfl)))
 have g1:(zH5LT s.heap l1 l2).get? s.heap.objs.size=some _:=aAA _ (aAA _ (aAA _ (aAA _ (aAI _ rfl))))
 have kp:∀c o,s.heap.get? c=some o->(zH5LT s.heap l1 l2).get? c=some o:=λc o x =>
  aAA _ (aAA _ (aAA _ (aAA _ (aAA _ x))))
 show _/\_
 rw[z2,z3,z4]at g5
 rw[z1,z2]at g3
 rw[z3]at g4
 rw[z1]at g2
 rw[z4]
 refine⟨⟨_,g5,rfl⟩,h _ ⟨⟨_,_,g5,.inl rfl⟩,g3,⟨_,_,g4⟩,.inl ⟨⟨_,g1,rfl,rfl⟩,?_⟩,.inr ⟨⟨_,g2,rfl,rfl⟩,?_⟩⟩ z5 kp⟩
 ·obtain⟨o,ho,r⟩:=hl1;exact⟨o,kp _ _ ho,r⟩
 ·obtain⟨o,ho,r⟩:=hl2;exact⟨o,kp _ _ ho,r⟩
abbrev zH1TL(h:Heap)(l1:Addr):Heap:=h.push {cls:=.type "tuple_iterator",data:=.fields #[.ref l1,.int 0 0]}
abbrev zH2TL(h:Heap)(l1 l2:Addr):Heap:=(zH1TL h l1).push {cls:=.type "list_iterator",data:=.fields #[.ref l2,.int 0 0]}
abbrev zH3TL(h:Heap)(l1 l2:Addr):Heap:=(zH2TL h l1 l2).push {cls:=.type "tuple",data:=.seq #[.ref h.objs.size,.ref (zH1TL h l1).objs.size]}
abbrev zH4TL(h:Heap)(l1 l2:Addr):Heap:=(zH3TL h l1 l2).push {cls:=.type "tuple",data:=.seq #[.none,.none]}
abbrev zH5TL(h:Heap)(l1 l2:Addr):Heap:=(zH4TL h l1 l2).push {cls:=.type "zip",data:=.fields #[.none,.bool false,.bool false,.ref (zH2TL h l1 l2).objs.size,.ref (zH3TL h l1 l2).objs.size]}
theorem pS(l1 l2:Addr)(xs ys:Array Value) :
  Meets (Builtin.«zip.__new__» ⟨[.type "zip",.ref l1,.ref l2],[]⟩) (λ_ R s=>s.heap.IsTuple l1 xs/\s.heap.IsList l2 ys /\
   R (.ok (.ret (.ref (zH4TL s.heap l1 l2).objs.size))) {s with heap:=zH5TL s.heap l1 l2}) :=
 .of_wp λprog w A R s h=>by
  obtain⟨hp,g,d,tk,os⟩:=s;obtain⟨hl1,hl2,h⟩:=h
  have hsub:=sub_zip
  have hL1:Heap.IsTuple (Shared.heap ⟨hp,g,d,tk,os⟩) l1 xs:=hl1
  have hL2:Heap.IsList (Shared.heap ⟨hp.push {cls:=.type "tuple_iterator",data:=.fields #[.ref l1,.int 0 0]},g,d,tk,os⟩) l2 ys:=by
   obtain⟨o,ho,r⟩:=hl2
   exact⟨o,aAA _ ho,r⟩
  wp_walk using aDA hL1,aDJ hL2
  exact⟨_,rfl,h⟩
theorem sA(hl1:s.heap.IsTuple l1 xs)(hl2:s.heap.IsList l2 ys)
  (h:∀h',Zs h' (s.heap.objs.size+4) (s.heap.objs.size+2) (s.heap.objs.size+3) s.heap.objs.size (s.heap.objs.size+1) l1 l2 0 xs ys->h'.objs.size=s.heap.objs.size+5 ->
   (∀c o,s.heap.get? c=some o->h'.get? c=some o)->Q (.ref (s.heap.objs.size+4)) {s with heap:=h'}) :
  wpAny (model prog w) A (call (.type "zip") [.ref l1,.ref l2]) Q E s:=by
 refine callType_new F.called_zip (by decide) (aFM _ _) (aFS _ _) (λobj=>aEI obj _ _) aFP
  (pS l1 l2 xs ys) ⟨hl1,hl2,?_⟩
 have z1:(zH1TL s.heap l1).objs.size=s.heap.objs.size+1:=aAR ..
 have z2:(zH2TL s.heap l1 l2).objs.size=s.heap.objs.size+2:=by rw[aAR,z1]
 have z3:(zH3TL s.heap l1 l2).objs.size=s.heap.objs.size+3:=by rw[aAR,z2]
 have z4:(zH4TL s.heap l1 l2).objs.size=s.heap.objs.size+4:=by rw[aAR,z3]
 have z5:(zH5TL s.heap l1 l2).objs.size=s.heap.objs.size+5:=by rw[aAR,z4]
 have g5:(zH5TL s.heap l1 l2).get? (zH4TL s.heap l1 l2).objs.size=some _:=aAI _ rfl
 have g4:(zH5TL s.heap l1 l2).get? (zH3TL s.heap l1 l2).objs.size=some _:=aAA _ (aAI _ rfl)
 have g3:(zH5TL s.heap l1 l2).get? (zH2TL s.heap l1 l2).objs.size=some _:=aAA _ (aAA _ (aAI _ rfl))
 have g2:(zH5TL s.heap l1 l2).get? (zH1TL s.heap l1).objs.size=some _:=aAA _ (aAA _ (aAA _ (aAI _ rfl)))
 have g1:(zH5TL s.heap l1 l2).get? s.heap.objs.size=some _:=aAA _ (aAA _ (aAA _ (aAA _ (aAI _ rfl))))
 have kp:∀c o,s.heap.get? c=some o->(zH5TL s.heap l1 l2).get? c=some o:=λc o x =>
  aAA _ (aAA _ (aAA _ (aAA _ (aAA _ x))))
 show _/\_
 rw[z2,z3,z4]at g5
 rw[z1,z2]at g3
 rw[z3]at g4
 rw[z1]at g2
 rw[z4]
 refine⟨⟨_,g5,rfl⟩,h _ ⟨⟨_,_,g5,.inl rfl⟩,g3,⟨_,_,g4⟩,.inr ⟨⟨_,g1,rfl,rfl⟩,?_⟩,.inl ⟨⟨_,g2,rfl,rfl⟩,?_⟩⟩ z5 kp⟩
 ·obtain⟨o,ho,r⟩:=hl1;exact⟨o,kp _ _ ho,r⟩
 ·obtain⟨o,ho,r⟩:=hl2;exact⟨o,kp _ _ ho,r⟩
abbrev zH1TT(h:Heap)(l1:Addr):Heap:=h.push {cls:=.type "tuple_iterator",data:=.fields #[.ref l1,.int 0 0]}
abbrev zH2TT(h:Heap)(l1 l2:Addr):Heap:=(zH1TT h l1).push {cls:=.type "tuple_iterator",data:=.fields #[.ref l2,.int 0 0]}
abbrev zH3TT(h:Heap)(l1 l2:Addr):Heap:=(zH2TT h l1 l2).push {cls:=.type "tuple",data:=.seq #[.ref h.objs.size,.ref (zH1TT h l1).objs.size]}
abbrev zH4TT(h:Heap)(l1 l2:Addr):Heap:=(zH3TT h l1 l2).push {cls:=.type "tuple",data:=.seq #[.none,.none]}
abbrev zH5TT(h:Heap)(l1 l2:Addr):Heap:=(zH4TT h l1 l2).push {cls:=.type "zip",data:=.fields #[.none,.bool false,.bool false,.ref (zH2TT h l1 l2).objs.size,.ref (zH3TT h l1 l2).objs.size]}
theorem qA(l1 l2:Addr)(xs ys:Array Value) :
  Meets (Builtin.«zip.__new__» ⟨[.type "zip",.ref l1,.ref l2],[]⟩) (λ_ R s=>s.heap.IsTuple l1 xs/\s.heap.IsTuple l2 ys /\
   R (.ok (.ret (.ref (zH4TT s.heap l1 l2).objs.size))) {s with heap:=zH5TT s.heap l1 l2}) :=
 .of_wp λprog w A R s h=>by
  obtain⟨hp,g,d,tk,os⟩:=s;obtain⟨hl1,hl2,h⟩:=h
  have hsub:=sub_zip
  have hL1:Heap.IsTuple (Shared.heap ⟨hp,g,d,tk,os⟩) l1 xs:=hl1
  have hL2:Heap.IsTuple (Shared.heap ⟨hp.push {cls:=.type "tuple_iterator",data:=.fields #[.ref l1,.int 0 0]},g,d,tk,os⟩) l2 ys:=by
   obtain⟨o,ho,r⟩:=hl2
   exact⟨o,aAA _ ho,r⟩
  wp_walk using aDA hL1,aDA hL2
  exact⟨_,rfl,h⟩
theorem sX(hl1:s.heap.IsTuple l1 xs)(hl2:s.heap.IsTuple l2 ys)
  (h:∀h',Zs h' (s.heap.objs.size+4) (s.heap.objs.size+2) (s.heap.objs.size+3) s.heap.objs.size (s.heap.objs.size+1) l1 l2 0 xs ys->h'.objs.size=s.heap.objs.size+5 ->
   (∀c o,s.heap.get? c=some o->h'.get? c=some o)->Q (.ref (s.heap.objs.size+4)) {s with heap:=h'}) :
  wpAny (model prog w) A (call (.type "zip") [.ref l1,.ref l2]) Q E s:=by
 refine callType_new F.called_zip (by decide) (aFM _ _) (aFS _ _) (λobj=>aEI obj _ _) aFP
  (qA l1 l2 xs ys) ⟨hl1,hl2,?_⟩
 have z1:(zH1TT s.heap l1).objs.size=s.heap.objs.size+1:=aAR ..
 have z2:(zH2TT s.heap l1 l2).objs.size=s.heap.objs.size+2:=by rw[aAR,z1]
 have z3:(zH3TT s.heap l1 l2).objs.size=s.heap.objs.size+3:=by rw[aAR,z2]
 have z4:(zH4TT s.heap l1 l2).objs.size=s.heap.objs.size+4:=by rw[aAR,z3]
 have z5:(zH5TT s.heap l1 l2).objs.size=s.heap.objs.size+5:=by rw[aAR,z4]
 have g5:(zH5TT s.heap l1 l2).get? (zH4TT s.heap l1 l2).objs.size=some _:=aAI _ rfl
 have g4:(zH5TT s.heap l1 l2).get? (zH3TT s.heap l1 l2).objs.size=some _:=aAA _ (aAI _ rfl)
 have g3:(zH5TT s.heap l1 l2).get? (zH2TT s.heap l1 l2).objs.size=some _:=aAA _ (aAA _ (aAI _ rfl))
 have g2:(zH5TT s.heap l1 l2).get? (zH1TT s.heap l1).objs.size=some _:=aAA _ (aAA _ (aAA _ (aAI _ rfl)))
 have g1:(zH5TT s.heap l1 l2).get? s.heap.objs.size=some _:=aAA _ (aAA _ (aAA _ (aAA _ (aAI _ rfl))))
 have kp:∀c o,s.heap.get? c=some o->(zH5TT s.heap l1 l2).get? c=some o:=λc o x =>
  aAA _ (aAA _ (aAA _ (aAA _ (aAA _ x))))
 show _/\_
 rw[z2,z3,z4]at g5
 rw[z1,z2]at g3
 rw[z3]at g4
 rw[z1]at g2
 rw[z4]
 refine⟨⟨_,g5,rfl⟩,h _ ⟨⟨_,_,g5,.inl rfl⟩,g3,⟨_,_,g4⟩,.inr ⟨⟨_,g1,rfl,rfl⟩,?_⟩,.inr ⟨⟨_,g2,rfl,rfl⟩,?_⟩⟩ z5 kp⟩
 ·obtain⟨o,ho,r⟩:=hl1;exact⟨o,kp _ _ ho,r⟩
 ·obtain⟨o,ho,r⟩:=hl2;exact⟨o,kp _ _ ho,r⟩
theorem call_zipG(h1:s.heap.IsList l1 xs\/s.heap.IsTuple l1 xs)(h2:s.heap.IsList l2 ys\/s.heap.IsTuple l2 ys)
  (h:∀h',Zs h' (s.heap.objs.size+4) (s.heap.objs.size+2) (s.heap.objs.size+3) s.heap.objs.size (s.heap.objs.size+1) l1 l2 0 xs ys->h'.objs.size=s.heap.objs.size+5 ->
   (∀c o,s.heap.get? c=some o->h'.get? c=some o)->Q (.ref (s.heap.objs.size+4)) {s with heap:=h'}) :
  wpAny (model prog w) A (call (.type "zip") [.ref l1,.ref l2]) Q E s:=by
 rcases h1 with h1|h1 <;> rcases h2 with h2|h2
 ·exact sH h1 h2 h
 ·exact tR h1 h2 h
 ·exact sA h1 h2 h
 ·exact sX h1 h2 h
theorem sP:typeLookup (.type "zip") "__len__"=pure none:=by rw[typeLookup_type,builtinLookup_eq_fast];kernel_rfl
theorem rO:typeLookup (.type "zip") "__length_hint__"=pure none:=by rw[typeLookup_type,builtinLookup_eq_fast];kernel_rfl
def Prs(h:Heap)(z TO i1 i2 S:Addr)(acc:Array Value)(i:Nat)(xs ys:Array Value):Prop :=
 acc.size=i/\∀j (hj:j < i),∃T x y,acc[j]?=some (.ref T)/\xs[j]?=some x/\ys[j]?=some y/\IsPair h T x y/\T≠z/\T≠TO/\T≠i1/\T≠i2/\T≠S
end
variable{R:Result->Shared->Prop}
theorem zC(hh:A.handled=none){i1 i2:Addr}(D:Ap z TI TO i1 i2 l1 l2)(hn:n=min xs.size ys.size)(hsz:n<=sizeLine)(S:Addr)(hSf:S∉[z,TI,TO,i1,i2,l1,l2])(res:Value) :
  ∀(k i:Nat) (s:Shared) (acc:Array Value) (c N0:Nat),n - i=k->i<=n->N0<=s.heap.objs.size->Zs s.heap z TI TO i1 i2 l1 l2 i xs ys->s.heap.get? S=some {cls:=.type "list",dict:=none,data:=.seq acc c,slots:=#[]}->Prs s.heap z TO i1 i2 S acc i xs ys ->
  (∀(j:Nat) (v:Value),acc[j]?=some v->∃T:Addr,v=Value.ref T/\N0<=T) ->
  (∀h' acc' c',(∀b o,b≠S->b≠z->b≠TO->b≠i1->b≠i2->s.heap.get? b=some o->h'.get? b=some o)->h'.get? S=some {cls:=.type "list",dict:=none,data:=.seq acc' c',slots:=#[]}->Prs h' z TO i1 i2 S acc' n xs ys ->
   (∀(j:Nat) (v:Value),acc'[j]?=some v->∃T:Addr,v=Value.ref T/\N0<=T)->R (.ok (.ret res)) {s with heap:=h'}) ->
  codeAny (model prog w) A (.builtin "list.extend.loop" ⟨[.ref S,.ref z,res],[]⟩) R s:=by
 simp only[aBH,aDQ,or_false,not_or]at hSf
 obtain⟨sz,sTI,sTO,s1,s2,sl1,sl2⟩:=hSf
 intro k
 induction k with
 |zero =>
  intro i s acc c N0 hk hi _ hst hS hacc hN hR
  have hin:i=n:=by lia
  subst hin
  refine codeAny_builtin F.entry_extend_loop ?_
  rw[Around.under_plainId aEV _]
  show wpAny _ A.in1 (pyNext (.ref z) >>= _) _ _ s
  have hT:s.TypeIs (.ref z) "zip":=let⟨f0,f1,hz,_⟩:=hst.z;⟨_,hz,rfl⟩
  have hend:xs[i]?=none\/ys[i]?=none:=by
   rcases Nat.le_total xs.size ys.size with h|h
   ·exact .inl (by rw[hn,aEX h];simp)
   ·exact .inr (by rw[hn,aEP h];simp)
  refine aAB ?_
  unfold pyNext
  refine aAB (aDV (aBP (name:=Str.ofString "__next__") hT aCL
   (aCK aCL hT aFK (kB (A:=A.in1.in1) hh D hst hend λh' e hk he=>?_) (aFC _))))
  obtain⟨o,ho,hc⟩:=he
  refine aAB (wpAny_isInstance (T:="StopIteration") (b:=true) ⟨o,ho,hc⟩ isSubtype_stop ?_)
  refine aAD (aAD (hR h' acc c (λb o b0 b1 b2 b3 b4 e=>hk b o b1 b2 b3 b4 e) (hk S _ sz sTO s1 s2 hS) ⟨hacc.1,λj hj=>?_⟩ hN))
  obtain⟨T,x,y,e1,e2,e3,e4,n1,n2,n3,n4,n5⟩:=hacc.2 j hj
  exact⟨T,x,y,e1,e2,e3,hk T _ n1 n2 n3 n4 e4,n1,n2,n3,n4,n5⟩
 |succ k ih =>
  intro i s acc c N0 hk hi hN0 hst hS hacc hN hR
  have hlt:i < n:=by lia
  have hix:i < xs.size:=by have:=Nat.min_le_left xs.size ys.size;lia
  have hiy:i < ys.size:=by have:=Nat.min_le_right xs.size ys.size;lia
  refine codeAny_builtin F.entry_extend_loop ?_
  rw[Around.under_plainId aEV _]
  show wpAny _ A.in1 (pyNext (.ref z) >>= _) _ _ s
  have hT:s.TypeIs (.ref z) "zip":=let⟨f0,f1,hz,_⟩:=hst.z;⟨_,hz,rfl⟩
  refine aAB ?_
  unfold pyNext
  refine aAB (aDV (aBP (name:=Str.ofString "__next__") hT aCL
   (aCK aCL hT aFK
    (iR D hst (aBT hix) (aBT hiy) λh' T z' p' n' k'=>aAD ?_) (aFC _))))
  have hS':=k' S _ sz sTO s1 s2 hS
  show wpAny _ A.in1 (updateSeq S (·.push (.ref T)) >>= _) _ _ _
  refine aAB ?_
  have lt:∀{c o},s.heap.get? c=some o->T≠c:=λ{c o} e=>aBG (aAN (aAF e) n')
  have TS:T≠S:=lt hS
  obtain⟨f0,f1,hz,hf⟩:=id hst.z
  obtain⟨aa,bb,hTO⟩:=id hst.to
  have up:∀b o,b≠S->h'.get? b=some o->(h'.update S (Obj.mapSeq λx=>x.push (.ref T))).get? b=some o:=λb o hb e=>(aCA _ _ (Ne.symm hb)).trans e
  have Ti1:T≠i1:=aBG (aAN hst.a.lt n')
  have Ti2:T≠i2:=aBG (aAN hst.b.lt n')
  refine aEY hS' rfl (aAD ⟨plainId_quiet aEV _,ih (i+1) _ (acc.push (.ref T)) _ N0 (by lia) hlt ?_ ?_ (aBW _ hS' rfl) ?_ ?_ λh'' acc' c' hk'' hS'' hacc' hN'=>?_⟩)
   (by rw[hacc.1];lia) (by show(acc.push (.ref T)).size<=sizeLine+1;rw[Array.size_push,hacc.1];lia)
  ·show N0<=(h'.update S _).objs.size
   have:h'.objs.size=(h'.update S (Obj.mapSeq λx=>x.push (.ref T))).objs.size:=by simp[Heap.update]
   rw[<- this]
   exact aAX hN0 (aAX n' (Nat.le_of_lt (aAF p')))
  ·obtain⟨⟨g0,g1,gz,gf⟩,gTI,⟨ga,gb,gTO⟩,g1',g2'⟩:=z'
   exact⟨⟨g0,g1,up _ _ (Ne.symm sz) gz,gf⟩,up _ _ (Ne.symm sTI) gTI,⟨ga,gb,up _ _ (Ne.symm sTO) gTO⟩,g1'.at (λo e=>up _ o (Ne.symm s1) e) λo e=>up _ o (Ne.symm sl1) e,g2'.at (λo e=>up _ o (Ne.symm s2) e) λo e=>up _ o (Ne.symm sl2) e⟩
  ·refine⟨by rw[Array.size_push,hacc.1],λj hj=>?_⟩
   by_cases hj':j < i
   ·obtain⟨T',x,y,e1,e2,e3,e4,m1,m2,m3,m4,m5⟩:=hacc.2 j hj'
    refine⟨T',x,y,?_,e2,e3,up _ _ m5 (k' _ _ m1 m2 m3 m4 e4),m1,m2,m3,m4,m5⟩
    rw[aGB,aAL (by rw[hacc.1];lia)];exact e1
   ·have:j=i:=by lia
    subst this
    refine⟨T,xs[j],ys[j],?_,aBT hix,aBT hiy,up _ _ TS p',lt hz,lt hTO,Ti1,Ti2,TS⟩
    rw[aGB,aAG (by rw[hacc.1])]
  ·intro j v hv
   rw[aGB]at hv
   split at hv
   ·cases hv;exact⟨T,rfl,aAX hN0 n'⟩
   ·exact hN j v hv
  ·exact hR h'' acc' c' (λb o b0 b1 b2 b3 b4 e=>hk'' b o b0 b1 b2 b3 b4 (up b o b0 (k' b o b1 b2 b3 b4 e))) hS'' hacc' hN'
theorem ap_of{l1 l2:Nat}(h1:l1 < n)(h2:l2 < n):Ap (n+4) (n+2) (n+3) n (n+1) l1 l2:=by
 constructor <;> (show(_:Nat)≠(_:Nat);lia)
theorem call_listzip{i1 i2:Addr}(hh:A.handled=none)(D:Ap z TI TO i1 i2 l1 l2)(Z:Zs s.heap z TI TO i1 i2 l1 l2 0 xs ys)(hn:min xs.size ys.size<=sizeLine)
  (hQ:∀h' acc' c',(∀b o,b≠z->b≠TO->b≠i1->b≠i2->s.heap.get? b=some o->h'.get? b=some o)->h'.get? s.heap.objs.size=some {cls:=.type "list",dict:=none,data:=.seq acc' c',slots:=#[]} ->
   Prs h' z TO i1 i2 s.heap.objs.size acc' (min xs.size ys.size) xs ys->(∀(j:Nat) (v:Value),acc'[j]?=some v->∃T:Addr,v=Value.ref T/\s.heap.objs.size+1<=T)->Q (.ref s.heap.objs.size) {s with heap:=h'}) :
  wpAny (model prog w) A (call (.type "list") [.ref z]) Q E s:=by
 refine callType_codes (Q₁:=λobj s₁=>obj=.ref s.heap.objs.size/\s₁={s with heap:=s.heap.push {cls:=.type "list",data:=.seq #[]}}) F.called_list (F.typeCall_list_1 _) F.entry_list_init
  (code_list_new _ ⟨rfl,rfl⟩) λobj s₁ h₁=>?_
 obtain⟨rfl,rfl⟩:=h₁
 have hS:(s.heap.push {cls:=.type "list",data:=.seq #[]}).get? s.heap.objs.size=some {cls:=.type "list",data:=.seq #[]}:=aAI _ rfl
 obtain⟨f0,f1,hz,hf⟩:=id Z.z
 obtain⟨ta,tb,hTO⟩:=id Z.to
 have l1lt:l1 < s.heap.objs.size:=by rcases Z.a with⟨_,o,e,_⟩|⟨_,o,e,_⟩ <;> exact aAF e
 have l2lt:l2 < s.heap.objs.size:=by rcases Z.b with⟨_,o,e,_⟩|⟨_,o,e,_⟩ <;> exact aAF e
 have hSf:s.heap.objs.size∉[z,TI,TO,i1,i2,l1,l2]:=by
  simp only[aBH,aDQ,or_false,not_or]
  exact⟨aBG (aAF hz),aBG (aAF Z.ti),aBG (aAF hTO),aBG Z.a.lt,aBG Z.b.lt,aBG l1lt,aBG l2lt⟩
 have hSz:s.heap.objs.size≠z:=aBG (aAF hz)
 refine⟨⟨_,hS,rfl⟩,F.args_list_init_2 _ _,?_⟩
 show wpAny _ A.in1.in1 (do let old <- Builtin.List.listItems (.ref s.heap.objs.size);Builtin.List.listUpdate (.ref s.heap.objs.size) (λ_=>#[]);letGo old.toList.reverse;Builtin.List.listExtendWith (.ref s.heap.objs.size) (.ref z) .none) _ _ _
 refine aAB ?_
 unfold Builtin.List.listItems
 refine aAB (aCP hS rfl (aAD ?_))
 show wpAny _ _ (updateSeq s.heap.objs.size (λ_=>#[]) >>= λ_=>letGo (#[]:Array Value).toList.reverse >>= λ_=>Builtin.List.listExtendWith (.ref s.heap.objs.size) (.ref z) .none) _ _ _
 refine aAB (aEY hS rfl ?_)
 have hS₂:=aBW (Obj.mapSeq (λ_=>(#[]:Array Value))) hS rfl
 refine aAB (wpAny_letGo ?_)
 have kp:∀b o,b≠s.heap.objs.size->s.heap.get? b=some o->((s.heap.push {cls:=.type "list",data:=.seq #[]}).update s.heap.objs.size (Obj.mapSeq (λ_=>(#[]:Array Value)))).get? b=some o :=
  λb o hb e=>(aCA _ _ (Ne.symm hb)).trans (aAA _ e)
 have mv:∀h',(∀b o,b≠s.heap.objs.size->s.heap.get? b=some o->h'.get? b=some o)->Zs h' z TI TO i1 i2 l1 l2 0 xs ys:=λh' k=>by
  refine⟨⟨f0,f1,k _ _ hSz.symm hz,hf⟩,k _ _ (aAO (aAF Z.ti)) Z.ti,⟨ta,tb,k _ _ (aAO (aAF hTO)) hTO⟩,Z.a.at (λo e=>k _ o (aAO Z.a.lt) e) λo e=>k _ o (aAO l1lt) e,Z.b.at (λo e=>k _ o (aAO Z.b.lt) e) λo e=>k _ o (aAO l2lt) e⟩
 unfold Builtin.List.listExtendWith
 refine aAB (aFR (T:="zip") ⟨_,kp z _ hSz.symm hz,rfl⟩ ?_)
 have e1:Builtin.List.listSameRef (.ref s.heap.objs.size) (.ref z)=false:=by simp[Builtin.List.listSameRef,hSz]
 have e2:(Value.type "zip"==Value.type "list")=false:=by decide
 have e3:(Value.type "zip"==Value.type "tuple")=false:=by decide
 simp only[e1,e2,e3,aGL,aBI,aCO]
 refine aAB ((walksZip (A:=A.in1.in1) hh z TI TO i1 i2 l1 l2 D xs ys).self 0 _ _ _ (mv _ kp) ?_)
 refine aAB (aBL ?_)
 unfold Builtin.List.listLengthHint
 refine aAB (wpAny_specialOf (T:="zip") ⟨_,kp z _ hSz.symm hz,rfl⟩ sP ?_)
 show wpAny _ _ (specialOf (Value.ref z) (Str.ofString "__length_hint__") >>= _) _ _ _
 refine aAB (wpAny_specialOf (T:="zip") ⟨_,kp z _ hSz.symm hz,rfl⟩ rO ?_)
 refine aAD ?_
 show wpAny _ _ (rule "list.extend.makes-room" >>= λ_=>Builtin.List.listTouch (.ref s.heap.objs.size) >>= λ_ =>
  again (.builtin "list.extend.loop" ⟨[.ref s.heap.objs.size,.ref z,.none],[]⟩)) _ _ _
 refine aAB (aEM ?_)
 refine aAB ?_
 show wpAny _ _ (updateSeq s.heap.objs.size (·.push .none) >>= λ_=>updateSeq s.heap.objs.size (·.pop)) _ _ _
 refine aAB (aEY hS₂ rfl ?_)
 have hS₃:=aBW (Obj.mapSeq (·.push Value.none)) hS₂ rfl
 refine aEY (hz:=by seq_fits) hS₃ rfl ?_
 have hS₄:=aBW (Obj.mapSeq (·.pop)) hS₃ rfl
 have kp2:∀b o,b≠s.heap.objs.size->s.heap.get? b=some o->((((s.heap.push {cls:=.type "list",data:=.seq #[]}).update s.heap.objs.size (Obj.mapSeq (λ_=>(#[]:Array Value)))).update s.heap.objs.size (Obj.mapSeq (·.push Value.none))).update s.heap.objs.size (Obj.mapSeq (·.pop))).get? b=some o :=
  λb o hb e=>(aCA _ _ (Ne.symm hb)).trans ((aCA _ _ (Ne.symm hb)).trans (kp b o hb e))
 refine aAD ⟨plainId_quiet aEV _,zC (A:=A.in1) hh D rfl hn s.heap.objs.size hSf .none (min xs.size ys.size) 0 _ _ _ (s.heap.objs.size+1) (by lia) (aFF _) ?_ (mv _ kp2) hS₄ ⟨rfl,λj hj=>absurd hj (Nat.not_lt_zero _)⟩ (λj v h=>by simp at h) λh' acc' c' hk hS' hacc hN=>?_⟩
 ·exact aAF hS₄
 ·exact⟨rfl,hQ h' acc' c' (λb o b1 b2 b3 b4 e=>hk b o (aAO (aAF e)) b1 b2 b3 b4 (kp2 b o (aAO (aAF e)) e)) hS' hacc hN⟩
end ZP
namespace EV
open L2
variable{σ:L2.St}
theorem zL(I:Inv X pins σ H s)(k:∀b u,s.heap.get? b=some u->h'.get? b=some u)(old:∀b o,H b=some o->H' b=some o)(new:∀b o,H' b=some o->H b=none->s.heap.objs.size<=b)
  (hok:HOk X.prog X.w H' h'):Inv X pins σ H' {s with heap:=h',toks:=t'}:=by
 refine I.un ⟨λb u q _ _ _=>k b u q,λb u q _ _ _=>⟨u.slots,k b u q⟩,λb u q n _=>?_,λb u q _=>⟨u,k b u q⟩,λb xs q=>old b _ q,λb o u q=>old b _ q,λb ps q=>⟨#[],by rw[old b _ q];simp⟩⟩ hok
 cases e:H' b with
 |none=>rfl
 |some o=>exact absurd (aAF q) (Nat.not_lt.mpr (new b o e n))
noncomputable def rZip(K:Frag):R2:=λx y H Q=>∃a b xs ys,x=.ref a/\y=.ref b/\(SqL K H a xs\/SqT K H a xs)/\(SqL K H b ys\/SqT K H b ys) /\
 ∀(H':Hp) (p:Addr) (Ts:List Addr),(∀b o,H b=some o->H' b=some o)->H p=none->H' p=some (.lst (Ts.map V.ref))->Ts.length=min xs.length ys.length ->
  (∀(j:Nat) (T:Addr) (x y:V),Ts[j]?=some T->xs[j]?=some x->ys[j]?=some y->H' T=some (.tup [x,y]))->Q (.ref p) H'
variable{K:Frag}{a b:Expr}{pos:Pos}
theorem xA{a:Addr}{xs:List V}(I:Inv X pins σ H s)(h:SqL X.K H a xs\/SqT X.K H a xs):∃its:List Value,Vals xs its/\(s.heap.IsList a its.toArray\/s.heap.IsTuple a its.toArray)/\xs.length<=sizeLine:=by
 rcases h with h|h
 ·obtain⟨its,r,pl,hz⟩:=I.list h;exact⟨its,r,.inl pl.isList,hz⟩
 ·obtain⟨its,r,pl,hz⟩:=I.tuple h;exact⟨its,r,.inr pl,hz⟩
theorem sM(hc:X.calm=true)(h1:X.mg "list"=none)(h2:X.mg "zip"=none)(ha:PE X a ta)(hb:PE X b tb)(g1:Gl X "list":=by rfl)(g2:Gl X "zip":=by rfl)
  (hs:starEach [.Call (.Name "zip" q) [a,b] [] pos2] X.env=(false,eval (.Call (.Name "zip" q) [a,b] [] pos2) X.env)::starEach [] X.env:=by rfl)(hpl:(backTo pos (starEach [] X.env)).any (·.1)=false:=by rfl)
  (hs2:starEach [a,b] X.env=(false,eval a X.env)::starEach [b] X.env:=by rfl)(hs3:starEach [b] X.env=(false,eval b X.env)::starEach [] X.env:=by rfl)(hpl2:(backTo pos2 (starEach [b] X.env)).any (·.1)=false:=by rfl) :
  PE X (.Call (.Name "list" p) [.Call (.Name "zip" q) [a,b] [] pos2] [] pos) (tOp (rZip X.K) ta tb):=by
 intro pins s σ H Q I h
 refine aCI (kO I g1 h1 aCa ?_)
 refine aDB ?_ hs hpl
 rw[hs]
 show wpAny _ _ (spliced ((false,eval (.Call (.Name "zip" q) [a,b] [] pos2) X.env)::backTo pos (starEach [] X.env))) _ _ s
 refine aFA ?_
 refine aCI (kO I g2 h2 aEj ?_)
 refine aDB (thn (cE ha (cE hb fH hs3) hs2 pos2 pins s σ H (λvs H2=>match vs with|[x,y]=>rZip X.K x y H2 Q|_=>False) I h) λus s1 ⟨vs,H1,I1,r1,hr⟩=>?_) hs2 hpl2
 match vs,r1,hr with
 |[],_,hr=>exact hr.elim
 |[_],_,hr=>exact hr.elim
 |_::_::_::_,_,hr=>exact hr.elim
 |[x,y],r1,hr =>
 obtain⟨u1,u2,rfl,rx,ry⟩:=r1.two
 obtain⟨aa,bb,xs,ys,rfl,rfl,sx,sy,hq⟩:=hr
 cases rx
 cases ry
 obtain⟨its,q1,p1,z1⟩:=xA I1 sx
 obtain⟨its2,q2,p2,z2⟩:=xA I1 sy
 have hl1:aa < s1.heap.objs.size:=by rcases p1 with⟨o,e,_⟩|⟨o,e,_⟩ <;> exact aAF e
 have hl2:bb < s1.heap.objs.size:=by rcases p2 with⟨o,e,_⟩|⟨o,e,_⟩ <;> exact aAF e
 have hsA:its.toArray.size=xs.length:=by simp[q1.length]
 have hsB:its2.toArray.size=ys.length:=by simp[q2.length]
 refine ZP.call_zipG p1 p2 λh1 Zs1 hsz kp=>?_
 refine aFD ?_
 refine ZP.call_listzip (I1.ok.hd hc) (ZP.ap_of hl1 hl2) Zs1 (by rw[hsA,hsB];lia) λh2 acc c kp2 hS hacc hN=>?_
 have kp3:∀b o,s1.heap.get? b=some o->h2.get? b=some o:=λb o e=>by
  have:(b:Nat) < s1.heap.objs.size:=aAF e
  exact kp2 b o (aAO (Nat.lt_add_right 4 this)) (aAO (Nat.lt_add_right 3 this)) (aAO this) (aAO (Nat.lt_add_right 1 this)) (kp b o e)
 have hT:∀j:Nat,j < acc.size->∃T:Addr,acc[j]?=some (.ref T):=λj hj=>by
  obtain⟨T,_,_,e,_⟩:=hacc.2 j (by rw[<- hacc.1];exact hj)
  exact⟨T,e⟩
 obtain⟨Ts,hTs⟩:∃Ts:List Addr,acc.toList=Ts.map Value.ref:=by
  have:∀l:List Value,(∀j:Nat,j < l.length->∃T:Addr,l[j]?=some (.ref T))->∃Ts:List Addr,l=Ts.map Value.ref:=by
   intro l
   induction l with
   |nil=>exact λ_=>⟨[],rfl⟩
   |cons v r ih =>
    intro hh
    obtain⟨T,e⟩:=hh 0 (by simp)
    obtain⟨Ts,e2⟩:=ih λj hj=>by have:=hh (j+1) (by simpa using hj);simpa using this
    exact⟨T::Ts,by simp at e;rw[e,e2];rfl⟩
  exact this acc.toList λj hj=>by obtain⟨T,e⟩:=hT j (by simpa using hj);exact⟨T,by simpa using e⟩
 have hlen:Ts.length=min xs.length ys.length:=by
  have:=congrArg List.length hTs
  rw[aBB]at this
  rw[<- this,aEU,hacc.1,hsA,hsB]
 have hat:∀(j:Nat) (T:Addr),Ts[j]?=some T->acc[j]?=some (.ref T):=λj T e=>by
  rw[<- aFN,hTs,aCB,e];rfl
 have hfr:∀(j:Nat) (T:Addr),Ts[j]?=some T->h1.objs.size+1<=T:=λj T e=>by
  obtain⟨T',e',l⟩:=hN j _ (hat j T e)
  cases e';exact l
 have hpr:∀(j:Nat) (T:Addr) (x y:V),Ts[j]?=some T->xs[j]?=some x->ys[j]?=some y->∃u v,RelV x u/\RelV y v/\IsPair h2 T u v:=λj T x y e ex ey=>by
  obtain⟨u,qu,ru⟩:=q1.get ex
  obtain⟨v,qv,rv⟩:=q2.get ey
  have hj:j < min its.toArray.size its2.toArray.size:=by
   have h1:=(aAC.mp ex).1
   have h2:=(aAC.mp ey).1
   lia
  obtain⟨T',x',y',e1,e2,e3,e4,_⟩:=hacc.2 j hj
  rw[hat j T e]at e1;cases e1
  have f2:its[j]?=some x':=by simpa using e2
  have f3:its2[j]?=some y':=by simpa using e3
  rw[qu]at f2;rw[qv]at f3
  cases f2;cases f3
  exact⟨u,v,ru,rv,e4⟩
 let Pr:Addr->V×V->Prop:=λb xy=>∃j:Nat,Ts[j]?=some b/\xs[j]?=some xy.1/\ys[j]?=some xy.2
 have Pru:∀b xy xy',Pr b xy->Pr b xy'->xy=xy':=by
  rintro b ⟨x,y⟩ ⟨x',y'⟩ ⟨j,e1,e2,e3⟩ ⟨j',e1',e2',e3'⟩
  obtain⟨u,v,ru,rv,ip⟩:=hpr j b x y e1 e2 e3
  obtain⟨u',v',ru',rv',ip'⟩:=hpr j' b x' y' e1' e2' e3'
  have ip2:=(show h2.get? b=some _ from ip).symm.trans (show h2.get? b=some _ from ip')
  simp at ip2
  obtain⟨rfl,rfl⟩:=ip2
  rw[ru.inj ru',rv.inj rv']
 have sS:s1.heap.objs.size<=h1.objs.size:=by rw[hsz];lia
 have Sfr:H1 h1.objs.size=none:=I1.hok.fresh sS
 have Tfr:∀b xy,Pr b xy->s1.heap.objs.size<=b/\H1 b=none/\b≠h1.objs.size:=λb xy ⟨j,e,_⟩=>by
  have:=hfr j b e
  have l:s1.heap.objs.size<=b:=aAX sS (Nat.le_of_succ_le this)
  exact⟨l,I1.hok.fresh l,aBG this⟩
 classical
 let H':Hp:=λb=>if b=h1.objs.size then some (.lst (Ts.map V.ref))else if hh:∃xy,Pr b xy then some (.tup [hh.choose.1,hh.choose.2])else H1 b
 have HS:H' h1.objs.size=some (.lst (Ts.map V.ref)):=aAG rfl
 have HT:∀b xy,Pr b xy->H' b=some (.tup [xy.1,xy.2]):=λb xy hp=>by
  show(if b=h1.objs.size then _ else _)=_
  rw[aAL (Tfr b xy hp).2.2,dif_pos ⟨xy,hp⟩]
  have hx:∃xy,Pr b xy:=⟨xy,hp⟩
  rw[Pru b _ _ hx.choose_spec hp]
 have Hold:∀b o,H1 b=some o->H' b=some o:=λb o e=>by
  show(if b=h1.objs.size then _ else _)=_
  rw[aAL (λz=>by rw[z,Sfr]at e;cases e),dif_neg (λ⟨xy,hp⟩=>by rw[(Tfr b xy hp).2.1]at e;cases e)]
  exact e
 have Hcase:∀b o,H' b=some o->(b=h1.objs.size/\o=.lst (Ts.map V.ref))\/(∃xy,Pr b xy/\o=.tup [xy.1,xy.2])\/H1 b=some o:=λb o e=>by
  by_cases hb:b=h1.objs.size
  ·subst hb;rw[HS]at e;cases e;exact .inl ⟨rfl,rfl⟩
  ·by_cases hx:∃xy,Pr b xy
   ·obtain⟨xy,hp⟩:=hx
    rw[HT b xy hp]at e;cases e
    exact .inr (.inl ⟨xy,hp,rfl⟩)
   ·have:H' b=H1 b:=by
     show(if b=h1.objs.size then _ else _)=_
     rw[aAL hb,dif_neg hx]
    rw[this]at e;exact .inr (.inr e)
 refine⟨.ref h1.objs.size,H',?_,rfl,hq H' h1.objs.size Ts Hold Sfr HS hlen λj T x y e ex ey=>HT T (x,y) ⟨j,e,ex,ey⟩⟩
 have fin:Inv X pins σ H' {s1 with heap:=h2,toks:=s1.toks}:=by
  refine zL (s:=s1) (h':=h2) (t':=s1.toks) I1 kp3 Hold (λb o e n=>?_) λb o e=>?_
  ·rcases Hcase b o e with⟨rfl,_⟩|⟨xy,hp,_⟩|e'
   ·exact sS
   ·exact(Tfr b xy hp).1
   ·rw[n]at e';cases e'
  ·rcases Hcase b o e with⟨rfl,rfl⟩|⟨xy,hp,rfl⟩|e'
   ·refine⟨by rw[aBB,hlen];lia,Ts.map Value.ref,c,?_,?_⟩
    ·clear hTs hlen hat hfr hpr Pru Tfr HS HT Hold Hcase e H' Pr
     induction Ts with
     |nil=>exact .nil
     |cons T r ih=>exact .cons rfl ih
    ·rw[hS,<- hTs]
   ·obtain⟨j,e1,e2,e3⟩:=hp
    obtain⟨u,v,ru,rv,ip⟩:=hpr j b xy.1 xy.2 e1 e2 e3
    exact⟨by rw[aAT];show 2<=16777216;decide,[u,v],.cons ru (.cons rv .nil),⟨_,ip,rfl,_,rfl⟩⟩
   ·exact(I1.hok b o e').stay (λc u _ q=>kp3 c u q) (λc q=>Hold c _ q) λc xs q=>Hold c _ q
 exact fin
noncomputable def zipT(xs ys:List D):List D:=(xs.zip ys).map λp=>.tup [p.1,p.2]
noncomputable def pZip(x y:W)(M:Mm):Oc W:=match sv M x,sv M y with
 |some xs,some ys=>okD (.lst (zipT xs ys)) M
 |_,_=>.bad
theorem aAm:Op2 K Z (rZip K) pZip:=by
 intro μ H M x y v u Q hr rx ry p
 unfold pZip at p
 cases q1:sv M x with
 |none=>rw[q1]at p;exact p.elim
 |some xs =>
  cases q2:sv M y with
  |none=>rw[q1,q2]at p;exact p.elim
  |some ys =>
   rw[q1,q2]at p
   obtain⟨a,vs,rfl,h1,r1⟩:=pO hr rx q1
   obtain⟨b,us,rfl,h2,r2⟩:=pO hr ry q2
   refine⟨a,b,vs,us,rfl,rfl,h1,h2,λH' q Ts old hq hS hl hT=>?_⟩
   have ex:Ext μ H μ H':=⟨λa o _ h=>old a o h,λa h=>.inl h,λ_ _ h=>h,λa o h=>⟨o,old a o h,.refl⟩⟩
   have hr':HR K μ H' M:=⟨hr.len,hr.nd,λi a ds e1 e2=>by
    obtain⟨vs,e3,e4⟩:=hr.ent i a ds e1 e2
    exact⟨vs,old _ _ e3,CelO.ext hr.lsts ex e4⟩⟩
   refine p μ H' ex hr' _ ?_
   simp only[Rw,Rp]
   refine⟨q,Ts.map V.ref,rfl,hS,hr.out hq,?_⟩
   have r1':=Rps.ext hr.lsts ex _ _ r1
   have r2':=Rps.ext hr.lsts ex _ _ r2
   clear p q1 q2 rx ry h1 h2 hS hq r1 r2
   unfold zipT
   induction Ts generalizing xs ys vs us with
   |nil =>
    have:(xs.zip ys).length=0:=by rw[List.length_zip,r1'.length,r2'.length,<- hl];rfl
    rw[List.length_eq_zero_iff.mp this]
    exact .nil
   |cons T r ih =>
    cases xs with
    |nil=>simp only[Rps]at r1';subst r1';simp at hl
    |cons x xs =>
     cases ys with
     |nil=>simp only[Rps]at r2';subst r2';simp at hl
     |cons y ys =>
      simp only[Rps]at r1' r2'
      obtain⟨v,vr,rfl,e1,t1⟩:=r1'
      obtain⟨u,ur,rfl,e2,t2⟩:=r2'
      refine .cons ?_ (ih xs ys vr ur (by simpa using hl) (λj T x y a b c=>hT (j+1) T x y (by simpa using a) (by simpa using b) (by simpa using c)) t1 t2)
      simp only[Rp]
      exact⟨T,[v,u],rfl,hT 0 T v u rfl rfl rfl,.cons e1 (.cons e2 .nil)⟩
theorem sW(hc:X.calm=true)(h1:X.mg "list"=none)(h2:X.mg "zip"=none)(ha:Ev X K Z a fa)(hb:Ev X K Z b fb)(g1:Gl X "list":=by rfl)(g2:Gl X "zip":=by rfl)
  (hs:starEach [.Call (.Name "zip" q) [a,b] [] pos2] X.env=(false,eval (.Call (.Name "zip" q) [a,b] [] pos2) X.env)::starEach [] X.env:=by rfl)(hpl:(backTo pos (starEach [] X.env)).any (·.1)=false:=by rfl)
  (hs2:starEach [a,b] X.env=(false,eval a X.env)::starEach [b] X.env:=by rfl)(hs3:starEach [b] X.env=(false,eval b X.env)::starEach [] X.env:=by rfl)(hpl2:(backTo pos2 (starEach [b] X.env)).any (·.1)=false:=by rfl) :
  Ev X K Z (.Call (.Name "list" p) [.Call (.Name "zip" q) [a,b] [] pos2] [] pos) (e2 pZip fa fb):=by
 have h:=sM (p:=p) (q:=q) (pos:=pos) (pos2:=pos2) hc h1 h2 ha.h hb.h g1 g2 hs hpl hs2 hs3 hpl2
 rw[ha.k]at h
 exact⟨ha.k,cqE h (lift2 aAm)⟩
end EV
namespace RT
variable{E:Value->Shared->Prop}
noncomputable def IsRvT(h:Heap)(a l:Addr)(i:Int):Prop:=∃o,h.get? a=some o/\o.cls=.type "reversed"/\o.data=.fields #[.ref l,rawInt i]
theorem IsRvT.at{l:Addr}{i:Int}(x:IsRvT h a l i)(e:∀o,h.get? a=some o->h'.get? a=some o):IsRvT h' a l i:=let⟨o,ho,r⟩:=x;⟨o,e _ ho,r⟩
end RT
namespace L2
end L2
namespace EV
open L2
variable{K:Frag}{a:Expr}{pos:Pos}{tg:Expr}{K:Frag}
end EV
end
variable{QI:EV.Src->EV.Mm->Prop}
namespace EV
open PySem L2
@[irreducible] noncomputable def Okx(EX:D->Mm->Prop)(o:Oc α)(Q:α->Mm->Prop):Prop:=match o with
 |.ok a M=>Q a M
 |.ex x M=>EX x M
 |.bad=>False
noncomputable abbrev NX:D->Mm->Prop:=λ_ _=>False
noncomputable abbrev Ok(o:Oc α)(Q:α->Mm->Prop):Prop:=Okx NX o Q
variable{α β:Type}{EX EX':D->Mm->Prop}{o o':Oc α}{Q Q':α->Mm->Prop}{a:α}
theorem fB:Okx EX o Q ↔ (∃a M,o=.ok a M/\Q a M)\/∃x M,o=.ex x M/\EX x M:=by
 unfold Okx
 cases o with
 |ok a M=>exact⟨λh=>.inl ⟨a,M,rfl,h⟩,λh=>by rcases h with⟨_,_,e,q⟩|⟨_,_,e,q⟩ <;> cases e;exact q⟩
 |ex x M=>exact⟨λh=>.inr ⟨x,M,rfl,h⟩,λh=>by rcases h with⟨_,_,e,q⟩|⟨_,_,e,q⟩ <;> cases e;exact q⟩
 |bad=>exact⟨λh=>h.elim,λh=>by rcases h with⟨_,_,e,q⟩|⟨_,_,e,q⟩ <;> cases e⟩
theorem jD:Ok o Q ↔ ∃a M,o=.ok a M/\Q a M:=by
 refine Iff.trans (fB (EX:=NX)) ⟨λh=>?_,.inl⟩
 rcases h with h|⟨_,_,_,q⟩
 ·exact h
 ·exact q.elim
theorem aI(q:Q a M):Okx EX (.ok a M) Q:=fB.mpr (.inl ⟨a,M,rfl,q⟩)
theorem gX{x:D}(q:EX x M):Okx EX (.ex x M:Oc α) Q:=fB.mpr (.inr ⟨x,M,rfl,q⟩)
theorem aJ{k:α->Mm->Oc β}{Q:β->Mm->Prop}(h:Okx EX o λa M=>Okx EX (k a M) Q):Okx EX (o.bind k) Q:=by
 rcases fB.mp h with⟨a,M,rfl,q⟩|⟨x,M,rfl,q⟩
 ·exact q
 ·exact gX q
theorem Okx.mono(h:Okx EX o Q)(f:∀a M,Q a M->Q' a M):Okx EX o Q':=by
 rcases fB.mp h with⟨a,M,rfl,q⟩|⟨x,M,rfl,q⟩
 ·exact aI (f _ _ q)
 ·exact gX q
theorem Okx.monoX(h:Okx EX o Q)(f:∀a M,Q a M->Q' a M)(g:∀x M,EX x M->EX' x M):Okx EX' o Q':=by
 rcases fB.mp h with⟨a,M,rfl,q⟩|⟨x,M,rfl,q⟩
 ·exact aI (f _ _ q)
 ·exact gX (g _ _ q)
theorem Ok.mono(h:Ok o Q)(f:∀a M,Q a M->Q' a M):Okx EX o Q':=Okx.monoX h f λ_ _ z=>z.elim
variable{EX:D->Mm->Prop}{c:Bool}
theorem rC{a b:Oc α}{Q:α->Mm->Prop}(h1:c=true->Okx EX a Q)(h2:c=false->Okx EX b Q):Okx EX (if c=true then a else b) Q:=by cases c <;> simp_all
theorem dL{p:Prop}[Decidable p]{a b:Oc α}{Q:α->Mm->Prop}(h1:p->Okx EX a Q)(h2:¬p->Okx EX b Q):Okx EX (if decide p=true then a else b) Q:=by by_cases h:p <;> simp_all
theorem wV{a b:Oc α}{Q:α->Mm->Prop}(h:c=true)(h1:Okx EX a Q):Okx EX (if c=true then a else b) Q:=by rw[aAG h];exact h1
theorem eY{a b:Oc α}{Q:α->Mm->Prop}(h:c=false)(h1:Okx EX b Q):Okx EX (if c=true then a else b) Q:=by rw[aAL (by simp[h])];exact h1
section
variable{i j:Nat}{w x y:W}{Q:W->Mm->Prop}{QA:List W->Mm->Prop}{QT:Bool->Mm->Prop}{g h:FE}{t u:FT}{fs:FA}{gg:FG}
theorem aHu(h:L[i]?=some (some w))(q:Q w M):Okx EX (eV i L M) Q:=by unfold eV;rw[h];exact aI q
theorem aJh{d:D}(q:Q (.d d) M):Okx EX (eC d L M) Q:=aI q
theorem aIb{p:W->Mm->Oc W}(h:Okx EX (f L M) λx M1=>Okx EX (p x M1) Q):Okx EX (e1 p f L M) Q:=aJ h
theorem aHt{p:W->W->Mm->Oc W}(h:Okx EX (f L M) λx M1=>Okx EX (g L M1) λy M2=>Okx EX (p x y M2) Q):Okx EX (e2 p f g L M) Q:=aJ (h.mono λ_ _ z=>aJ z)
theorem aJk{p:List W->Mm->Oc W}(h:Okx EX (fs L M) λws M1=>Okx EX (p ws M1) Q):Okx EX (eA p fs L M) Q:=aJ h
theorem aIl(q:QA [] M):Okx EX (aNil L M) QA:=aI q
theorem aIs(h:Okx EX (f L M) λw M1=>Okx EX (fs L M1) λws M2=>QA (w::ws) M2):Okx EX (aCons f fs L M) QA:=aJ (h.mono λ_ _ z=>aJ (z.mono λ_ _ z=>aI z))
theorem aGc(h:Okx EX (f L M) λw M1=>∃b,w=.d (.bl b)/\(b=true->Okx EX (g L M1) Q)/\(b=false->Q (.d (.bl false)) M1)):Okx EX (eAnd f g L M) Q:=by
 refine aJ (h.mono λw M1 ⟨b,e,h1,h2⟩=>?_)
 subst e
 cases b with
 |true=>exact h1 rfl
 |false=>exact aI (h2 rfl)
theorem aHy(h:Okx EX (f L M) λw M1=>∃b,w=.d (.bl b)/\QT b M1):Okx EX (EV.tB f L M) QT:=aJ (h.mono λw M1 ⟨b,e,q⟩=>by subst e;exact aI q)
theorem aIn(h:Okx EX (f L M) λw M1=>∃b,tru M1 w=some b/\QT b M1):Okx EX (tV f L M) QT:=aJ (h.mono λw M1 ⟨b,e,q⟩=>by rw[e];exact aI q)
theorem aBv(h:Okx EX (t L M) λb M1=>QT (!b) M1):Okx EX (EV.tNot t L M) QT:=aJ (h.mono λ_ _ z=>aI z)
theorem aBw(h:Okx EX (t L M) λb M1=>(b=true->Okx EX (u L M1) QT)/\(b=false->QT false M1)):Okx EX (EV.tAnd t u L M) QT:=aJ (h.mono λb M1 ⟨h1,h2⟩=>by cases b with|true=>exact h1 rfl|false=>exact aI (h2 rfl))
theorem aFl(h:Okx EX (t L M) λb M1=>(b=true->QT true M1)/\(b=false->Okx EX (u L M1) QT)):Okx EX (EV.tOr t u L M) QT:=aJ (h.mono λb M1 ⟨h1,h2⟩=>by cases b with|true=>exact aI (h1 rfl)|false=>exact h2 rfl)
theorem sG(q:QS (.nx L) M):Okx EX (sNil L M) QS:=aI q
theorem gD(h:Okx EX (F L M) λo M1=>match o with
 |.nx L1=>Okx EX (G L1 M1) QS
 |.bk L1=>QS (.bk L1) M1
 |.ct L1=>QS (.ct L1) M1
 |.rt w=>QS (.rt w) M1):Okx EX (sSeq F G L M) QS:=aJ (h.mono λo M1 z=>by cases o with|nx L1=>exact z|bk L1=>exact aI z|ct L1=>exact aI z|rt w=>exact aI z)
theorem aJe(h:Okx EX (f L M) λ_ M1=>QS (.nx L) M1):Okx EX (sEx f L M) QS:=aJ (h.mono λ_ _ z=>aI z)
theorem aIo(h:Okx EX (f L M) λw M1=>QS (.rt w) M1):Okx EX (sRt f L M) QS:=aJ (h.mono λ_ _ z=>aI z)
theorem jF(h:Okx EX (t L M) λb M1=>Okx EX (if b=true then F L M1 else G L M1) QS):Okx EX (sIf t F G L M) QS:=aJ h
theorem aFc(h:Okx EX (f L M) λw M1=>Okx EX (gg w L M1) λL1 M2=>QS (.nx L1) M2):Okx EX (sAs f gg L M) QS:=aJ (h.mono λ_ _ z=>aJ (z.mono λ_ _ z=>aI z))
theorem aCb(h:Okx EX (fs L M) λws M1=>∃v w,ws=[v,w]/\QS (.nx ((L.set i (some v)).set j (some w))) M1):Okx EX (sPar i j fs L M) QS:=aJ (h.mono λws M1 ⟨v,w,e,q⟩=>by subst e;exact aI q)
theorem aBj{p:W->W->Mm->Oc W}(h:L[i]?=some (some x))(z:Okx EX (f L M) λy M1=>Okx EX (p x y M1) λz M2=>QS (.nx (L.set i (some z))) M2):Okx EX (sAug p i f L M) QS:=by
 unfold sAug eV;rw[h];exact aJ (aI (aJ (z.mono λ_ _ z=>aJ (z.mono λ_ _ z=>aI z))))
theorem mM(q:QG (L.set i (some w)) M):Okx EX (gN i w L M) QG:=aI q
variable{gs:FGs}
theorem aHo{xs:List D}(hn:xs.length=n)(h:Okx EX (gs xs L M) QG):Okx EX (gT n gs (.d (.tup xs)) L M) QG:=by unfold gT;simp only;rw[aAG hn];exact h
theorem aDu(q:QG L M):Okx EX (gsNil [] L M) QG:=aI q
theorem aEp{d:D}{ds:List D}(h:Okx EX (gg (.d d) L M) λL1 M1=>Okx EX (gs ds L1 M1) QG):Okx EX (gsCons gg gs (d::ds) L M) QG:=aJ h
theorem aJa{d:D}(h:Okx EX (f L M) λo M1=>Okx EX (g L M1) λi M2=>∃k j xs t,o=.ref k/\i=.d (.int j)/\M2[k]?=some xs/\ixN xs.length j=some t/\QG L (M2.set k (xs.set t d))):Okx EX (gS f g (.d d) L M) QG:=by
 refine aJ (h.mono λo M1 z=>aJ (z.mono λi M2 ⟨k,j,xs,t,e1,e2,e3,e4,q⟩=>?_))
 subst e1 e2
 simp only[e3,e4]
 exact aI q
theorem aDb{c:Int->Int->Bool}{gg:Int->Int->D}{i j:Int}(hc:c i j=true)(q:Q (.d (gg i j)) M):Okx EX (pI c gg (.d (.int i)) (.d (.int j)) M) Q:=by unfold pI;simp only;rw[aAG hc];exact aI q
theorem aFb{i j:Int}(q:Q (.d (.int (i+j))) M):Okx EX (pAdd (.d (.int i)) (.d (.int j)) M) Q:=aI q
variable{a:Str}
theorem gA{b:Str}(hz:a.length+b.length<=16777216)(q:Q (.d (.str (a++b))) M):Okx EX (pAdd (.d (.str a)) (.d (.str b)) M) Q:=by unfold pAdd;simp only;rw[aAG hz];exact aI q
theorem gP{xs ys:List D}(h1:lv M x=some xs)(h2:lv M y=some ys)(hz:xs.length+ys.length<=16777216)(q:Q (.d (.lst (xs++ys))) M):Okx EX (pAdd x y M) Q:=by
 have:pAdd x y M=.ok (.d (.lst (xs++ys))) M:=by
  cases x with
  |ref i=>simp only[pAdd,h1,h2];rw[aAG hz]
  |ob _ i=>simp only[pAdd,h1,h2];rw[aAG hz]
  |nest i=>simp only[pAdd,h1,h2];rw[aAG hz]
  |d a=>cases a <;> simp only[lv,reduceCtorEq]at h1
        cases y with
        |ref i=>cases h1;simp only[lv]at h2;simp only[pAdd,lv,h2];rw[aAG hz]
        |ob _ i=>simp[lv]at h2
        |nest i=>simp[lv]at h2
        |d b=>cases b <;> simp only[lv,reduceCtorEq]at h2
              simp only[pAdd,lv];cases h1;cases h2;rw[aAG hz]
 rw[this];exact aI q
theorem aGn{i j:Int}(hz:mulOk i j=true)(q:Q (.d (.int (i*j))) M):Okx EX (pMulA (.d (.int i)) (.d (.int j)) M) Q:=by unfold pMulA pMul;simp only;rw[aAG hz];exact aI q
theorem aEc{b:Bool}(q:Q (.d (.bl (!b))) M):Okx EX (pNot (.d (.bl b)) M) Q:=aI q
theorem aCw{a b:D}(h1:wd M x=some a)(h2:wd M y=some b)(hd:dep a<=100/\dep b<=100)(q:Q (.d (.bl (eqD a b))) M):Okx EX (pEq x y M) Q:=by unfold pEq;rw[h1,h2];simp only;rw[aAG hd];exact aI q
theorem uC{a b:D}(h1:wd M x=some a)(h2:wd M y=some b)(hd:dep a<=100/\dep b<=100)(q:Q (.d (.bl (!eqD a b))) M):Okx EX (pNe x y M) Q:=by unfold pNe;rw[h1,h2];simp only;rw[aAG hd];exact aI q
theorem aHe{i j:Int}(q:Q (.d (.bl (decide (i=j)))) M):Okx EX (pEq (.d (.int i)) (.d (.int j)) M) Q:=aCw rfl rfl (by simp[dep]) (by simp only[eqD];exact q)
theorem aHk{i j:Int}(q:Q (.d (.bl (!decide (i=j)))) M):Okx EX (pNe (.d (.int i)) (.d (.int j)) M) Q:=uC rfl rfl (by simp[dep]) (by simp only[eqD];exact q)
theorem aEs{b:Str}(q:Q (.d (.bl (a==b))) M):Okx EX (pEq (.d (.str a)) (.d (.str b)) M) Q:=aCw rfl rfl (by simp[dep]) (by simpa only[eqD]using q)
theorem aGp{b:Str}(q:Q (.d (.bl (!(a==b)))) M):Okx EX (pNe (.d (.str a)) (.d (.str b)) M) Q:=uC rfl rfl (by simp[dep]) (by simpa only[eqD]using q)
theorem aGy{a b:Bool}(q:Q (.d (.bl (!(a==b)))) M):Okx EX (pNe (.d (.bl a)) (.d (.bl b)) M) Q:=uC rfl rfl (by simp[dep]) (by simpa only[eqD]using q)
theorem aIm(q:Q (.d (.bl (isN x))) M):Okx EX (pIs x (.d .non) M) Q:=aI q
theorem yD(q:Q (.d (.bl (!isN x))) M):Okx EX (pIsNot x (.d .non) M) Q:=aI q
variable{k:Int}
theorem aGo{xs:List D}{d:D}(h:atI xs k=some d)(q:Q (.d d) M):Okx EX (pIx (.d (.tup xs)) (.d (.int k)) M) Q:=by unfold pIx;simp only[sv,h];exact aI q
theorem yL{xs:List D}{d:D}(hs:∀z,x≠.d (.str z))(h1:sv M x=some xs)(h:atI xs k=some d)(q:Q (.d d) M):Okx EX (pIx x (.d (.int k)) M) Q:=by
 have:pIx x (.d (.int k)) M=.ok (.d d) M:=by
  cases x with
  |ref i=>simp only[pIx,h1,h]
  |ob _ i=>simp only[pIx,h1,h]
  |nest i=>simp only[pIx,h1,h]
  |d a=>cases a <;> first|(exact(hs _ rfl).elim)|(simp only[pIx,h1,h])
 rw[this];exact aI q
theorem eW{xs:List D}{d:D}(h:atI xs k=some d)(q:Q (.d d) M):Okx EX (pIx (.d (.lst xs)) (.d (.int k)) M) Q:=yL (by simp) rfl h q
theorem rP{xs:List D}{d:D}(h:atI xs k=some d)(q:Q (.d d) M):Okx EX (pIx (.d (.fz xs)) (.d (.int k)) M) Q:=yL (by simp) rfl h q
variable{b:Nat}
theorem xX{xs:List D}{d:D}(h1:M[b]?=some xs)(h:atI xs k=some d)(q:Q (.d d) M):Okx EX (pIx (.ref b) (.d (.int k)) M) Q:=yL (by simp) h1 h q
theorem aEv{ws:List W}{ds:List D}(h:allD ws=some ds)(hz:ds.length<=16777216)(q:Q (.d (.tup ds)) M):Okx EX (mkT ws M) Q:=by unfold mkT;rw[h];simp only;rw[aAG hz];exact aI q
theorem aGi{ws:List W}{ds:List D}(h:allD ws=some ds)(hz:ds.length<=16777216)(q:Q (.d (.lst ds)) M):Okx EX (mkL ws M) Q:=by unfold mkL;rw[h];simp only;rw[aAG hz];exact aI q
theorem aFo{ws:List W}{ds:List D}(h:allD ws=some ds)(hz:ds.length<=16777216)(q:Q (.ref M.length) (M++[ds])):Okx EX (mkR ws M) Q:=by unfold mkR;rw[h];simp only;rw[aAG hz];exact aI q
theorem aFk{xs:List D}(hs:∀z,x≠.d (.str z))(h:sv M x=some xs)(q:Q (.d (.int xs.length)) M):Okx EX (cLen [x] M) Q:=by
 have:cLen [x] M=.ok (.d (.int xs.length)) M:=by
  cases x with
  |ref i=>simp only[cLen,h]
  |ob _ i=>simp only[cLen,h]
  |nest i=>simp only[cLen,h]
  |d a=>cases a <;> first|(exact(hs _ rfl).elim)|(simp only[cLen,h])
 rw[this];exact aI q
theorem aBk{xs:List D}(q:Q (.d (.int xs.length)) M):Okx EX (cLen [.d (.tup xs)] M) Q:=aI q
theorem aCk{xs:List D}(q:Q (.d (.int xs.length)) M):Okx EX (cLen [.d (.lst xs)] M) Q:=aI q
theorem aAz{xs:List D}(q:Q (.d (.int xs.length)) M):Okx EX (cLen [.d (.fz xs)] M) Q:=aI q
theorem aBm{xs:List D}(h:M[b]?=some xs)(q:Q (.d (.int xs.length)) M):Okx EX (cLen [.ref b] M) Q:=aFk (by simp) h q
theorem aFi{l:Int}(q:Q (.d (.int (if l > k then l else k))) M):Okx EX (cMax2 [.d (.int k),.d (.int l)] M) Q:=aI q
theorem aDt{T:String}{b:Bool}(h:isT T M x=some b)(q:Q (.d (.bl b)) M):Okx EX (pIsI T x M) Q:=by unfold pIsI;rw[h];exact aI q
theorem aJg{p:W->W->Mm->Oc W}(h:Okx EX (f L M) λx M1=>∃k,x=.ref k/\Okx EX (g L M1) λy M2=>Okx EX (p (.ref k) y M2) Q):Okx EX (eM1 p f g L M) Q:=aJ (h.mono λx M1 ⟨k,e,z⟩=>by subst e;exact aJ z)
variable{k:Nat}
theorem wC{xs ys:List D}(h:M[k]?=some xs)(h2:lv M y=some ys)(hz:xs.length+ys.length<=16777216)(q:Q (.d .non) (M.set k (xs++ys))):Okx EX (pExtend (.ref k) y M) Q:=by unfold pExtend;simp only[h,h2];rw[aAG hz];exact aI q
theorem aFd{xs:List D}{d:D}(h:M[k]?=some (xs++[d]))(q:Q (.d d) (M.set k xs)):Okx EX (pPop (.ref k) M) Q:=by
 unfold pPop;simp only[h,List.getLast?_concat,List.dropLast_concat];exact aI q
theorem aFp(q:QO none M):Okx EX (oNo L M) QO:=aI q
theorem aGa(h:Okx EX (f L M) λw M1=>∃k,w=.d (.int k)/\QO (some k) M1):Okx EX (oAt f L M) QO:=aJ (h.mono λw M1 ⟨k,e,q⟩=>by subst e;exact aI q)
theorem aHm{xs:List D}(hs:∀z,x≠.d (.tup z))(h:lr M x=some xs)(q:Q (.d (.lst (cut xs lo hi))) M):Okx EX (pSl x lo hi M) Q:=by
 have:pSl x lo hi M=okD (.lst (cut xs lo hi)) M:=by
  cases x with
  |ref i=>simp only[pSl,h]
  |ob _ i=>simp only[pSl,h]
  |nest i=>simp only[pSl,h]
  |d a=>cases a <;> first|(exact(hs _ rfl).elim)|(simp only[pSl,h])
 rw[this];exact aI q
variable{fi:FI}{B:FS}
theorem aEh(h:Okx EX (fi L M) λs M1=>Okx EX (forD s gg B s.ds L M1) QS):Okx EX (sFor fi gg B L M) QS:=aJ h
theorem aHv{s:Src}(h:Okx EX (f L M) λw M1=>∃s,srcOf M1 w=some s/\QI s M1):Okx EX (iE f L M) QI:=aJ (h.mono λw M1 ⟨s,e,q⟩=>by rw[e];exact aI q)
theorem aEa(h:Okx EX (f L M) λw M1=>∃j,w=.d (.int j)/\in62 j=true/\QI ⟨rngD 0 j.toNat,none⟩ M1):Okx EX (iR1 f L M) QI:=aJ (h.mono λw M1 ⟨j,e,hz,q⟩=>by subst e;simp only;rw[aAG hz];exact aI q)
theorem mK{s:Src}(I:Nat->Lc->Mm->Prop)(h0:I 0 L M)(hc:∀i L M,i<=s.ds.length->I i L M->Chk s M)
  (hs:∀i d L M,s.ds[i]?=some d->I i L M->Okx EX (gg (.d d) L M) λL1 M1=>Okx EX (B L1 M1) λo M2=>match o with
   |.nx L2=>I (i+1) L2 M2
   |.ct L2=>I (i+1) L2 M2
   |.bk L2=>QS (.nx L2) M2
   |.rt w=>QS (.rt w) M2)(hd:∀L M,I s.ds.length L M->QS (.nx L) M):Okx EX (forD s gg B s.ds L M) QS:=by
 have key:∀k i L M,s.ds.length - i=k->i<=s.ds.length->I i L M->Okx EX (forD s gg B (s.ds.drop i) L M) QS:=by
  intro k
  induction k with
  |zero =>
   intro i L M e hi hI
   have:i=s.ds.length:=by lia
   subst this
   rw[aCM (aAH _)]
   unfold forD
   rw[aAG (hc _ L M (aAH _) hI)]
   exact aI (hd L M hI)
  |succ k ih =>
   intro i L M e hi hI
   have hlt:i < s.ds.length:=by lia
   rw[aDN hlt]
   unfold forD
   rw[aAG (hc _ L M hi hI)]
   refine aJ ((hs i s.ds[i] L M (by simp[hlt]) hI).mono λL1 M1 z=>aJ (z.mono λo M2 z=>?_))
   cases o with
   |nx L2=>exact ih (i+1) L2 M2 (by lia) (by lia) z
   |ct L2=>exact ih (i+1) L2 M2 (by lia) (by lia) z
   |bk L2=>exact aI z
   |rt w=>exact aI z
 simpa using key s.ds.length 0 L M (by lia) (by lia) h0
theorem kG(I:Nat->Lc->Mm->Prop)(hs:∀m L M,I m L M->Okx EX (t L M) λb M1=>(b=true->Okx EX (B L M1) λo M2=>match o with
   |.nx L2=>∃m',m' < m/\I m' L2 M2
   |.ct L2=>∃m',m' < m/\I m' L2 M2
   |.bk L2=>QS (.nx L2) M2
   |.rt w=>QS (.rt w) M2)/\(b=false->QS (.nx L) M1)):∀(n m:Nat) (L:Lc) (M:Mm),I m L M->m < n->Okx EX (whileD t B n L M) QS:=by
 intro n
 induction n with
 |zero=>intro m L M _ h;lia
 |succ n ih =>
  intro m L M hI hm
  unfold whileD
  refine aJ ((hs m L M hI).mono λb M1 ⟨h1,h2⟩=>?_)
  cases b with
  |false=>exact aI (h2 rfl)
  |true =>
   refine aJ ((h1 rfl).mono λo M2 z=>?_)
   cases o with
   |nx L2=>obtain⟨m',l,z⟩:=z;exact ih m' L2 M2 z (by lia)
   |ct L2=>obtain⟨m',l,z⟩:=z;exact ih m' L2 M2 z (by lia)
   |bk L2=>exact aI z
   |rt w=>exact aI z
theorem zR{c:FT}(I:Nat->List D->Lc->Mm->Prop)
  (h:Okx EX (fi L M) λs M1=>(I 0 [] (outL js L) M1/\(∀i acc L M,i<=s.ds.length->I i acc L M->M.length=M1.length/\Chk s (M++[acc])/\acc.length<=i)/\s.ds.length<=16777216 /\
   (∀i d acc L M,s.ds[i]?=some d->I i acc L M->Ok (gg (.d d) L (M++[acc])) λL1 M2=>Ok (c L1 M2) λb M3=>(b=true->Ok (f L1 M3) λw M4=>∃x M5,w=.d x/\M4=M5++[acc]/\I (i+1) (acc++[x]) L1 M5)/\(b=false->∃M5,M3=M5++[acc]/\I (i+1) acc L1 M5)) /\
   (∀acc L M,I s.ds.length acc L M->Q (.d (.lst acc)) M))):Okx EX (eComp js fi gg c f L M) Q:=by
 unfold eComp compT
 refine aJ (aJ (h.mono λs M1 ⟨h0,hc,hz,hs,hd⟩=>?_))
 have key:∀k i acc L M,s.ds.length - i=k->i<=s.ds.length->I i acc L M->∃acc' L' M',compD M1.length s gg c f (s.ds.drop i) L (M++[acc])=.ok () (M'++[acc'])/\I s.ds.length acc' L' M':=by
  intro k
  induction k with
  |zero =>
   intro i acc L M e hi hI
   have:i=s.ds.length:=by lia
   subst this
   rw[aCM (aAH _)]
   unfold compD
   rw[aAG (hc _ acc L M (aAH _) hI).2.1]
   exact⟨acc,L,M,rfl,hI⟩
  |succ k ih =>
   intro i acc L M e hi hI
   have hlt:i < s.ds.length:=by lia
   rw[aDN hlt]
   unfold compD
   obtain⟨hl,hch,hal⟩:=hc _ acc L M hi hI
   rw[aAG hch]
   obtain⟨L1,M2,e1,hh⟩:=jD.mp (hs i s.ds[i] acc L M (by simp[hlt]) hI)
   obtain⟨L1',M3,e2,h1,h2⟩:=jD.mp hh
   rw[e1]
   simp only[dR]
   rw[e2]
   simp only[dR]
   cases L1' with
   |false =>
    obtain⟨M5,e3,hI'⟩:=h2 rfl
    subst e3
    simp only[aBI,aCO]
    exact ih (i+1) acc L1 M5 (by lia) (by lia) hI'
   |true =>
    obtain⟨w,M4,e3,x,M5,rfl,rfl,hI'⟩:=jD.mp (h1 rfl)
    simp only[aDE]
    rw[e3]
    simp only[dR]
    have hl5:=(hc _ _ _ _ (by lia) hI').1
    have g1:(M5++[acc])[M1.length]?=some acc:=by rw[<- hl5];simp
    rw[g1]
    simp only
    rw[aAG (by lia)]
    have g2:(M5++[acc]).set M1.length (acc++[x])=M5++[acc++[x]]:=by rw[<- hl5];simp
    rw[g2]
    exact ih (i+1) (acc++[x]) L1 M5 (by lia) (by lia) hI'
 obtain⟨acc,L',M',e,hI⟩:=key s.ds.length 0 [] (outL js L) M1 (by lia) (by lia) h0
 rw[aBV]at e
 rw[e]
 have hl:=(hc _ _ _ _ (aAH _) hI).1
 have g1:(M'++[acc])[M1.length]?=some acc:=by rw[<- hl];simp
 have g2:(M'++[acc]).take M1.length=M':=by rw[<- hl];simp
 simp only[g1,g2]
 exact aI (aI (hd acc L' M' hI))
theorem eE{ws:List W}(hm:ws.length=m)(h:Okx EX (F (ws.map some++List.replicate (n - ws.length) none) M) λo M'=>match o with
  |.rt w=>Okx EX (retc M.length w M') Q
  |.nx _=>Q (.d .non) (M'.take M.length)
  |_=>False):Okx EX (fnD m n F ws M) Q:=by
 unfold fnD
 rw[aAG hm]
 refine aJ (h.mono λo M' z=>?_)
 cases o with
 |rt w=>exact z
 |nx L=>exact aI z
 |bk L=>exact z.elim
 |ct L=>exact z.elim
theorem aAu{d:D}(q:Q (.d d) (M.take n)):Okx EX (retc n (.d d) M) Q:=aI q
theorem aEn{ws:List W}(hm:ws.length=m)(h:Okx EX (F (ws.map some++List.replicate (n - ws.length) none) M) λo M'=>∃i ds,o=.rt (.ref i)/\M.length<=i/\M'[i]?=some ds/\Q (.ref M.length) (M'.take M.length++[ds])):Okx EX (fnR m n F ws M) Q:=by
 unfold fnR
 rw[aAG hm]
 refine aJ (h.mono λo M' ⟨i,ds,e,hi,e2,q⟩=>?_)
 subst e
 simp only[e2]
 rw[aAG hi]
 exact aI q
end
noncomputable def Bx(M:Mm)(b:Nat):Prop:=∃x y z,M[b]?=some [.int x,.int y,.int z]
noncomputable def Nx(b:Nat)(M M':Mm):Prop:=∃x y z,M'=M.set b [.int x,.int y,.int z]
variable{b:Nat}
theorem Bx.lt(h:Bx M b):b < M.length:=by obtain⟨x,y,z,e⟩:=h;exact(aAC.mp e).1
theorem Nx.len{M':Mm}(h:Nx b M M'):M'.length=M.length:=by obtain⟨x,y,z,rfl⟩:=h;simp
theorem Nx.bx{M':Mm}(h:Nx b M M')(l:Bx M b):Bx M' b:=by
 obtain⟨x,y,z,rfl⟩:=h
 exact⟨x,y,z,aBN l.lt⟩
theorem Nx.trans{M1 M2:Mm}(h:Nx b M M1)(h':Nx b M1 M2):Nx b M M2:=by
 obtain⟨x,y,z,rfl⟩:=h
 obtain⟨x',y',z',rfl⟩:=h'
 exact⟨x',y',z',by rw[List.set_set]⟩
theorem Nx.refl(h:Bx M b):Nx b M M:=by
 obtain⟨x,y,z,e⟩:=h
 refine⟨x,y,z,?_⟩
 apply List.ext_getElem?
 intro i
 by_cases hi:b=i
 ·subst hi;rw[aBN (aAC.mp e).1,e]
 ·rw[aBQ hi]
theorem Nx.take{M M':Mm}{b:Nat}(h:Nx b M M'):M'.take M.length=M':=by rw[<- h.len,aAE]
mutual
noncomputable def sz:D->Nat
 |.tup xs=>szs xs+1
 |.lst xs=>szs xs+1
 |.fz xs=>szs xs+1
 |.exn _ _ xs=>szs xs+1
 |_=>1
noncomputable def szs:List D->Nat
 |[]=>0
 |x::xs=>sz x+szs xs
end
mutual
noncomputable def noL:D->Bool
 |.tup xs=>noLs xs
 |.lst _=>false
 |.fz _=>false
 |.exn _ _ _=>false
 |_=>true
noncomputable def noLs:List D->Bool
 |[]=>true
 |x::xs=>noL x&&noLs xs
end
theorem zV(d:D):0 < sz d:=by cases d <;> simp[sz]
theorem iX:∀xs ys:List D,szs (xs++ys)=szs xs+szs ys
 |[],ys=>by simp[szs]
 |x::xs,ys=>by simp[szs,iX xs ys];lia
theorem oA:∀xs:List D,xs.length<=szs xs
 |[]=>by simp[szs]
 |x::xs=>by have:=oA xs;have:=zV x;simp[szs];lia
theorem pN:∀{xs:List D},noLs xs=true->∀{x},x∈xs->noL x=true
 |[],_,_,h=>by cases h
 |y::ys,h,x,hx=>by
  simp only[noLs,aBR]at h
  rcases aBH.mp hx with rfl|hx
  ·exact h.1
  ·exact pN h.2 hx
theorem aAn{xs:List D}(h:noL (.tup xs)=true){x:D}(hx:x∈xs):noL x=true:=pN (by simpa[noL]using h) hx
theorem aFw{x y:W}{xs ys:List D}{Q:W->Mm->Prop}(h1:sv M x=some xs)(h2:sv M y=some ys)(q:Q (.d (.lst (zipT xs ys))) M):Okx EX (pZip x y M) Q:=by unfold pZip;rw[h1,h2];exact aI q
theorem atBox(c:Int):atI [D.int 0,D.int c] (if decide ((10:Int) ^ (Int.toNat 18)<=c)=true then 1 else 0)=some (.int (if(1000000000000000000:Int)<=c then c else 0)):=by
 by_cases hc:(1000000000000000000:Int)<=c <;> simp[hc,atI,ixN]
end EV
section
open PySem PySem.Spec PyProof.Rows
namespace EV
open L2
variable{EX:D->Mm->Prop}{K:Frag}{pos:Pos}{Q:W->Mm->Prop}
end EV
namespace EV
open L2
variable{EX:D->Mm->Prop}{K:Frag}{a b c:Expr}{pos:Pos}{fs:FA}
noncomputable def intsOf:List D->Option (List Int)
 |[]=>some []
 |.int i::r=>(intsOf r).map (i::·)
 |_::_=>none
theorem zY{σ:St}{p:Addr}{ys:List V}(hc:X.calm=true)(I:Inv X pins σ H s)(hq:SqL X.K H p ys\/SqT X.K H p ys)
  (h:∀(s2:Shared) (J:Addr) (fp:List Addr) (its:Array Value) (St:Nat->Heap->Prop),Vals ys its.toList->Walks X.prog X.w X.A.in1 J fp [J] its.size (λi v=>its[i]?=some v) St->St 0 s2.heap->(∀b∈fp,b < s2.heap.objs.size) ->
   (∀h' tk,(∀b o,b∉[J]->s2.heap.get? b=some o->h'.get? b=some o)->Inv X pins σ H {s2 with heap:=h',toks:=tk})->Q (.ref J) s2):wpAny (model X.prog X.w) X.A.in1 (pyIter (.ref p)) Q X.xe s:=by
 rcases hq with hq|hq
 ·obtain⟨its,rv,pl,hz⟩:=I.list hq
  have hp:p < s.heap.objs.size:=by
   obtain⟨o,e,_⟩:=pl.isList
   exact aAF e
  have I1:Inv X pins σ H {s with heap:=s.heap.push {cls:=.type "list_iterator",data:=.fields #[.ref p,rawInt 0]}}:=I.kept (t':=s.toks) λb o e=>aAA _ e
  refine aDJ pl.isList (h _ s.heap.objs.size [s.heap.objs.size,p] its.toArray _ (by simpa using rv) (Walks.list (by show X.A.in1.handled=none;exact I.ok.hd hc) s.heap.objs.size p (aAO hp) its.toArray) ⟨⟨_,aAI _ rfl,rfl,rfl⟩,pl.isList.at λo e=>aAA _ e⟩ (λb hb=>?_) λh' tk hk=>?_)
  ·show b < (s.heap.push _).objs.size
   rw[aAR]
   simp only[aBH,aDQ,or_false]at hb
   rcases hb with rfl|rfl
   ·exact aER _
   ·exact aGN hp
  ·obtain⟨f0,f1,f2,f3,f4,f5⟩:=I.fpOk (H':=H) (aAH _) (I.hok.fresh (aAH _))
   exact I1.turned (t':=tk) (it:=s.heap.objs.size) (λb o hb e=>hk b o (by simpa using hb) e) f0 f1 f3 f4 f5
 ·obtain⟨its,rv,pl,hz⟩:=I.tuple hq
  have pl:s.heap.IsTuple p its.toArray:=pl
  have hp:p < s.heap.objs.size:=by
   obtain⟨o,e,_⟩:=pl
   exact aAF e
  have I1:Inv X pins σ H {s with heap:=s.heap.push {cls:=.type "tuple_iterator",data:=.fields #[.ref p,rawInt 0]}}:=I.kept (t':=s.toks) λb o e=>aAA _ e
  refine aDA pl (h _ s.heap.objs.size [s.heap.objs.size,p] its.toArray _ (by simpa using rv) (Walks.tuple (by show X.A.in1.handled=none;exact I.ok.hd hc) s.heap.objs.size p (aAO hp) its.toArray) ⟨⟨_,aAI _ rfl,rfl,rfl⟩,pl.at λo e=>aAA _ e⟩ (λb hb=>?_) λh' tk hk=>?_)
  ·show b < (s.heap.push _).objs.size
   rw[aAR]
   simp only[aBH,aDQ,or_false]at hb
   rcases hb with rfl|rfl
   ·exact aER _
   ·exact aGN hp
  ·obtain⟨f0,f1,f2,f3,f4,f5⟩:=I.fpOk (H':=H) (aAH _) (I.hok.fresh (aAH _))
   exact I1.turned (t':=tk) (it:=s.heap.objs.size) (λb o hb e=>hk b o (by simpa using hb) e) f0 f1 f3 f4 f5
noncomputable def blsOf:List D->Option (List Bool)
 |[]=>some []
 |.bl i::r=>(blsOf r).map (i::·)
 |_::_=>none
theorem wM(ns:List Bool):blsOf (ns.map D.bl)=some ns:=by
 induction ns with
 |nil=>rfl
 |cons n r ih=>simp only[aBM,blsOf,ih,Option.map_some]
theorem rE:∀{ds:List D} {ns:List Bool},blsOf ds=some ns->ds=ns.map D.bl
 |[],ns,h=>by cases h;rfl
 |.bl i::r,ns,h=>by
  simp only[blsOf,aBS]at h
  obtain⟨ms,h1,rfl⟩:=h
  rw[rE h1];rfl
 |.non::_,_,h=>by cases h
 |.int _::_,_,h=>by cases h
 |.str _::_,_,h=>by cases h
 |.tup _::_,_,h=>by cases h
 |.lst _::_,_,h=>by cases h
 |.fz _::_,_,h=>by cases h
 |.exn _ _ _::_,_,h=>by cases h
theorem uT:∀{ns:List Bool} {vs:List V},Rps K μ H (ns.map D.bl) vs->vs=ns.map V.bl
 |[],vs,h=>by simpa[Rps]using h
 |n::r,vs,h=>by
  simp only[aBM,Rps,Rp]at h
  obtain⟨v,t,rfl,rfl,h3⟩:=h
  rw[uT h3];rfl
variable{bs:List Bool}
theorem aJd{its:Array Value}(rv:Vals (bs.map V.bl) its.toList){v:Value}(hv:its[i]?=some v):v=.bool (bs.getD i false):=by
 have hv:its.toList[i]?=some v:=by simpa using hv
 have hlt:i < bs.length:=by have:=(aAC.mp hv).1;have h2:=rv.length;simp at h2 this;lia
 obtain⟨w',hw,rw'⟩:=rv.get (show(bs.map V.bl)[i]?=some (.bl (bs.getD i false)) by simp[hlt])
 rw[hv]at hw
 cases hw
 exact rw'
theorem vP(bs:List Bool):(List.range bs.length).all (λi=>bs.getD i false)=bs.all id:=by
 rw[Bool.eq_iff_iff,aBE,aBE]
 constructor
 ·intro h x hx
  obtain⟨i,hi,rfl⟩:=aDM.mp hx
  have:=h i (List.mem_range.mpr hi)
  simpa[hi]using this
 ·intro h i hi
  have hi:=List.mem_range.mp hi
  have:=h bs[i] (List.getElem_mem hi)
  simpa[hi]using this
theorem vR(hc:X.calm=true):CallR X (.builtin "all") (λxs H Q=>∃(p:Addr) (bs:List Bool),xs=[.ref p]/\(SqL X.K H p (bs.map V.bl)\/SqT X.K H p (bs.map V.bl))/\Q (.bl (bs.all id)) H):=by
 intro pins s σ H xs us Q I r h
 obtain⟨p,bs,rfl,hq,q⟩:=h
 obtain⟨u,rfl,rx⟩:=vals1 r
 cases rx
 refine call_all_walk (zY hc I hq λs2 J fp its St rv W st0 hfp hI=>?_)
 have hl:bs.length=its.size:=by have:=rv.length;simpa using this
 refine⟨J,fp,[J],_,_,St,λi=>bs.getD i false,rfl,W,st0,λi v s3 Q3 E3 hv q3=>?_,λh' tk hk=>?_⟩
 ·rw[aJd rv hv];exact aDZ q3
 ·rw[<- hl,vP]
  exact⟨.bl _,H,hI h' tk hk,rfl,q⟩
noncomputable def cBls(g:List Bool->Bool)(ws:List W)(M:Mm):Oc W:=match ws with
 |[w]=>match sv M w with
  |some xs=>match blsOf xs with
   |some bs=>okD (.bl (g bs)) M
   |none=>.bad
  |none=>.bad
 |_=>.bad
noncomputable abbrev cAllB:=cBls λbs=>bs.all id
theorem clBls{g:List Bool->Bool}:Cl K Z (λxs H Q=>∃(p:Addr) (bs:List Bool),xs=[.ref p]/\(SqL K H p (bs.map V.bl)\/SqT K H p (bs.map V.bl))/\Q (.bl (g bs)) H) (cBls g):=by
 intro μ H M ws vs Q hr rx p
 match ws,rx,p with
 |[],_,p=>exact p.elim
 |[w],⟨v,r,e1,e2,e3⟩,p =>
  cases e3;subst e1
  simp only[cBls]at p
  cases q:sv M w with
  |none=>rw[q]at p;exact p.elim
  |some xs =>
   rw[q]at p
   simp only at p
   cases q2:blsOf xs with
   |none=>rw[q2]at p;exact p.elim
   |some ns =>
    rw[q2]at p
    obtain⟨a,us,rfl,h1,r1⟩:=pO hr e2 q
    have e:=rE q2
    subst e
    have e:=uT r1
    subst e
    exact⟨a,ns,rfl,h1,p μ H .refl hr _ (by simp[Rw,Rp])⟩
 |_::_::_,_,p=>exact p.elim
theorem callAllB(hc:X.calm=true):ClG X K Z (.builtin "all") cAllB:=λhk=>⟨_,hk▸vR hc,clBls⟩
variable{w x:W}{Q:W->Mm->Prop}
theorem aGr{g:List Bool->Bool}{ds:List D}(h:sv M x=some ds)(e:ds=bs.map D.bl)(q:Q (.d (.bl (g bs))) M):Okx EX (cBls g [x] M) Q:=by
 subst e
 unfold cBls;simp only[h,wM];exact aI q
end EV
namespace EV
open L2
variable{EX:D->Mm->Prop}{K:Frag}{a b c o i e:Expr}{pos:Pos}{fs:FA}{fe:FE}
end EV
namespace L2
variable{σ:St}
noncomputable def It0(b:Bool)(h:Heap)(it src:Addr)(i:Nat):Prop:=if b=true then h.IsListIter it src i else h.IsTupleIter it src i
noncomputable def IsB(b:Bool)(h:Heap)(a:Addr)(xs:Array Value):Prop:=if b=true then h.IsList a xs else h.IsTuple a xs
theorem It0.at{b:Bool}{h h':Heap}{it src:Addr}{i:Nat}(x:It0 b h it src i)(k:∀o,h.get? it=some o->h'.get? it=some o):It0 b h' it src i:=by
 cases b
 ·exact Heap.IsTupleIter.at x k
 ·exact Heap.IsListIter.at x k
theorem IsB.at{b:Bool}(x:IsB b h a xs)(k:∀o,h.get? a=some o->h'.get? a=some o):IsB b h' a xs:=by
 cases b
 ·obtain⟨o,e,r⟩:=(show h.IsTuple a xs from x);exact⟨o,k o e,r⟩
 ·obtain⟨o,e,r⟩:=(show h.IsList a xs from x);exact⟨o,k o e,r⟩
variable{E:Value->Shared->Prop}
end L2
namespace EV
open L2
variable{EX:D->Mm->Prop}
section
variable{K:Frag}{a b:Expr}{pos:Pos}{g:FE}{tg:Expr}
end
section
variable{g:FE}
end
end EV
namespace L2
variable{E:Value->Shared->Prop}
end L2
namespace L2
open AutoSeq1 (wpAny_loadPart')
variable{E:Value->Shared->Prop}
end L2
namespace EV
open L2
variable{EX:D->Mm->Prop}
section
variable{K:Frag}{a b:Expr}{pos:Pos}{g:FE}{tg:Expr}
end
section
variable{g:FE}
end
end EV
namespace L2
open AutoSeq1 (wpAny_loadPart')
theorem sN(l b:Addr)(xs ys:Array Value)(n n2:Nat)(dd:Option Addr)(sl:Array (Option Value))(h0:¬(!xs.isEmpty&&Builtin.List.listTooLong (xs.size+ys.size))=true)(h1:xs.size<=sizeLine)(h2:xs.size+ys.size<=sizeLine+1) :
  Meets (Builtin.«list.extend» ⟨[.ref l,.ref b],[]⟩) (λ_ R s=>s.heap.get? l=some {cls:=.type "list",dict:=none,data:=.seq xs n,slots:=#[]}/\s.heap.get? b=some {cls:=.type "tuple",dict:=dd,data:=.seq ys n2,slots:=sl}/\R (.ok (.ret Value.none)) {s with heap:=s.heap.update l (Obj.mapSeq λx=>x++ys),toks:=s.toks}) :=
 .of_wp λprog w A R s h=>by
  obtain⟨hp,g,d,tk,os⟩:=s;obtain⟨hl,hb,h⟩:=h
  have f1:=aFJ;have f2:=AutoSeq1.sub_tuple_tuple;have f3:=AutoSeq1.sub_list_list;have f4:=AutoSeq1.sub_tuple_list;have f5:=AutoSeq1.sub_list_tuple
  have hz':(xs++ys).size<=sizeLine+1:=by rw[Array.size_append];exact h2
  wp_walk using(aEY hl rfl (hz:=h1) (_hz':=hz')),aBD hl,aBD hb
  exact⟨_,rfl,h⟩
noncomputable def rExtendT(K:Frag):V->List V->Hp->VK->Prop:=λx vs H Q=>∃l b xs zs,x=.ref l/\vs=[.ref b]/\H l=some (.lst xs)/\SqT K H b zs/\xs.length+zs.length<=sizeLine/\Q .non (upd H l (.lst (xs++zs)))
theorem sU:MtM X "list.extend" (λx vs H Q=>rExtend x vs H Q\/rExtendT X.K x vs H Q):=by
 intro pins s σ H x vs v us Q I rx rv h
 rcases h with h|h
 ·exact wH pins s σ H x vs v us Q I rx rv h
 obtain⟨l,b,xs,zs,rfl,rfl,hH,hB,hz,q⟩:=h
 cases rx
 obtain⟨u,rfl,ru⟩:=rv.one
 cases ru
 obtain⟨z,its,n,r,hl,e⟩:=I.lstM hH
 obtain⟨its2,r2,⟨o,e2,c2,n2,d2⟩,z2⟩:=I.tuple hB
 obtain⟨oc,od,odt,osl⟩:=o
 have c2:oc=.type "tuple":=c2
 have d2:odt=.seq its2.toArray n2:=d2
 subst c2 d2
 have l1:=r.length
 have l2:=r2.length
 have hsz:its.toArray.size+its2.toArray.size<=sizeLine:=by rw[aAK,aAK];lia
 have hlong:¬(!its.toArray.isEmpty&&Builtin.List.listTooLong (its.toArray.size+its2.toArray.size))=true:=by
  rw[notLongL hsz,aEC]
  exact aBF
 refine aDP F.slot_list_extend ⟨_,e,rfl⟩ F.entry_list_extend (F.args_list_extend_2 _ _) (sN l b its.toArray its2.toArray n n2 od osl hlong (by rw[aAK];lia) (by lia)) ⟨e,e2,?_⟩
 refine⟨.non,_,I.lset (its':=its++its2) hH e (by simp) (r.append r2) ?_,rfl,q⟩
 rw[aAV]
 lia
end L2
namespace EV
open L2
variable{EX:D->Mm->Prop}{K:Frag}{a b c o e i:Expr}{es:List Expr}{pos:Pos}{fs:FA}{fe:FE}{tg:Expr}
noncomputable def pExtendA(x y:W)(M:Mm):Oc W:=match x,y with
 |.ref k,.d (.tup ys)=>match M[k]? with
  |some xs=>if xs.length+ys.length<=16777216 then .ok (.d .non) (M.set k (xs++ys))else .bad
  |_=>.bad
 |x,y=>pExtend x y M
theorem rW(ho:Ev X K Z o fo)(he:Ev X K Z e fa)(hbase:attributeBase o "extend" X.env (eval o X.env)=eval o X.env:=by rfl)
  (hfew:((backTo cpos (starEach [e] X.env)).all (λx=>!x.1)&&(backToKw cpos (keywordEach [] X.env)).all (λx=>x.1.isSome)&&decide ([e].length+([]:List Keyword).length+(if([]:List Keyword).isEmpty then 0 else 1) < 30))=true:=by rfl)
  (hline:(apos.endLine==cpos.line)=true:=by rfl)(hs:starEach [e] X.env=(false,eval e X.env)::starEach [] X.env:=by rfl)(hplain:(backTo cpos (starEach [] X.env)).any (·.1)=false:=by rfl) :
  Ev X K Z (.Call (.Attribute o "extend" apos) [e] [] cpos) (eM1 pExtendA fo fa):=by
 have h:=aHp PySem.F.plainAttrs_list PySem.F.slot_list_extend PySem.F.type_list_extend sU ho.h (cE he.h fH hs) hbase hfew hline hs hplain
 rw[ho.k]at h
 refine⟨ho.k,cqE h ?_⟩
 rintro σ H Q ⟨μ,M,L,hr,lr,p⟩
 refine⟨μ,M,L,hr,lr,p.bind.imp λμ1 H1 M1 x e1 hr1 _ p1 v rx=>?_⟩
 cases x with
 |d x=>exact p1.elim
 |ob _ _=>exact p1.elim
 |nest _=>exact p1.elim
 |ref k =>
  refine⟨xY hr1 rx,μ1,M1,L,hr1,lr.ext hr.lsts e1,p1.bind.imp λμ2 H2 M2 y e2 hr2 _ p2 u ry=>?_⟩
  have lst:Pst K Z μ2 H2 (pExtend (.ref k) y M2) (λμ' H' _ w=>∀v,Rw K μ' H' w v->Q v H')->rExtend v [u] H2 Q:=λp2=>by
   simp only[pExtend]at p2
   cases q1:M2[k]? with
   |none=>simp only[q1]at p2;exact p2.elim
   |some xs =>
    cases q2:lv M2 y with
    |none=>simp only[q1,q2]at p2;exact p2.elim
    |some ys =>
     simp only[q1,q2]at p2
     split at p2
     ·rename_i hz
      obtain⟨a,qa,rfl,il⟩:=rx.ext hr1.lsts e2
      obtain⟨a',vs,qa',h1,r1⟩:=hr2.at q1 qa
      rw[qa]at qa';cases qa'
      obtain⟨b,us,rfl,h2,r2⟩:=qB hr2 ry q2
      refine⟨a,b,vs,us,rfl,rfl,h1,h2,by rw[<- r1.length,<- r2.length,aAT];exact hz,?_⟩
      exact p2 μ2 _ (dI qa) (hr2.set qa (r1.append r2)) _ (by simp[Rw,Rp])
     ·exact p2.elim
  cases y with
  |ref j=>exact .inl (lst p2)
  |ob _ _=>exact .inl (lst p2)
  |nest _=>exact .inl (lst p2)
  |d y=>cases y with
   |tup ys =>
    simp only[pExtendA]at p2
    cases q1:M2[k]? with
    |none=>simp only[q1]at p2;exact p2.elim
    |some xs =>
     simp only[q1]at p2
     split at p2
     ·rename_i hz
      obtain⟨a,qa,rfl,il⟩:=rx.ext hr1.lsts e2
      obtain⟨a',vs,qa',h1,r1⟩:=hr2.at q1 qa
      rw[qa]at qa';cases qa'
      simp only[Rw,Rp]at ry
      obtain⟨b,us,rfl,h2,r2⟩:=ry
      refine .inr ⟨a,b,vs,us,rfl,rfl,h1,SqT.of h2,by rw[<- r1.length,<- r2.length,aAT];exact hz,?_⟩
      exact p2 μ2 _ (dI qa) (hr2.set qa (r1.append r2)) _ (by simp[Rw,Rp])
     ·exact p2.elim
   |_=>exact .inl (lst p2)
variable{x y:W}{Q:W->Mm->Prop}
end EV
namespace L2
variable{E:Value->Shared->Prop}{pos:Pos}
end L2
namespace EV
open L2
variable{EX:D->Mm->Prop}{K:Frag}{es:List Expr}{pos:Pos}
end EV
namespace L2
end L2
namespace EV
open L2
variable{EX:D->Mm->Prop}{K:Frag}{x:W}{Q:W->Mm->Prop}
end EV
namespace EV
open L2
variable{EX:D->Mm->Prop}{K:Frag}{a tg:Expr}{pos:Pos}
end EV
namespace EV
open L2
variable{EX:D->Mm->Prop}{K:Frag}{pos:Pos}{Q:W->Mm->Prop}
end EV
namespace EV
open L2
noncomputable section
def ZR(K:Frag)(R:Addr->Hp->Prop):Zt:=⟨λx M μ H=>∀μ' H',Ext μ H μ' H'->HR K μ' H' M->∀a,Rp K μ' H' x (.ref a)->R a H',λe h μ' H' e' hr a ra=>h μ' H' (e.trans e') hr a ra⟩
abbrev wishR(E:XK):Addr->Hp->Prop:=λa H'=>E (.ref a) none H'
def spX(K:Frag)(m:Nat)(Fm:Fn):Sp:=λvs H Q E=>vs.length=m/\∃μ M ws,HR K μ H M/\Rws K μ H ws vs/\Pst K (ZR K (wishR E)) μ H (Fm ws M) (Wk K Q)
end
section
variable{K:Frag}{e a b:Expr}{es:List Expr}{pos:Pos}{fs:FA}{rest:List Stmt}
theorem Pst.never{o:Oc α}{Q:List Addr->Hp->Mm->α->Prop}(h:Pst K Z0 μ H o Q):Pst K Z μ H o Q:=by
 cases o with
 |ok a M=>exact h
 |ex x M=>exact h.elim
 |bad=>exact h
noncomputable def fnX(m n:Nat)(F:FS):Fn:=λws M=>match fnD m n F ws M with
 |.ok w M'=>.ok w M'
 |.ex x M'=>.ex x (M'.take M.length)
 |.bad=>.bad
structure FunG(K:Frag)(x qual:Str)(st:Stmt)(f:Addr)(fd:FuncData):Prop where
 ex:∃(oc:Value) (od:Option Addr) (dV kV doc pm:Value) (an:Option Addr) (cdv ct:Value) (osl:Array (Option Value)),
  fd=fnOf x qual (defArgs st) (defBody st) (defScope st) dV kV doc pm an cdv ct/\K.lookup f=some ⟨oc,od,.func fd,osl⟩/\codeIn K cdv qual=true
theorem _root_.L2.Fun.g{f:Addr}(F:Fun K x qual st f fd):FunG K x qual st f fd:=by
 obtain⟨oc,od,kV,doc,pm,an,cdv,ct,osl,h⟩:=F.ex
 exact⟨oc,od,_,kV,doc,pm,an,cdv,ct,osl,h⟩
structure FunD(K:Frag)(x qual:Str)(st:Stmt)(f:Addr)(fd:FuncData)(d:Value):Prop where
 ex:∃(T:Addr) (oc:Value) (od:Option Addr) (kV doc pm:Value) (an:Option Addr) (cdv ct:Value) (osl:Array (Option Value)),
  fd=fnOf x qual (defArgs st) (defBody st) (defScope st) (.ref T) kV doc pm an cdv ct/\K.lookup f=some ⟨oc,od,.func fd,osl⟩/\codeIn K cdv qual=true/\∃c dd n sl,K.lookup T=some ⟨c,dd,.seq #[d] n,sl⟩
theorem FunD.g{f:Addr}{d:Value}(F:FunD K x qual st f fd d):FunG K x qual st f fd:=by
 obtain⟨T,oc,od,kV,doc,pm,an,cdv,ct,osl,h1,h2,h3,_⟩:=F.ex
 exact⟨oc,od,_,kV,doc,pm,an,cdv,ct,osl,h1,h2,h3⟩
theorem gM{ws:List W}(h:ws.length≠m):fnX m n F ws M=.bad:=by unfold fnX fnD;rw[aAL h]
variable{k:Nat}
theorem gZ{fa:Addr}(hf:FunG K x qual st fa fd)(S:FnScope N ps (defScope st))
  (hb:∀(cdv:Value) (A:Around) (outer:List Env) (s:Shared) (H:Hp) (E:XK),Room k (A.deeper (envOfC qual (defScope st) s.heap.objs.size fa cdv))->Xz (cxOf (CX1 P w) P w K mg base N qual (defScope st) fa cdv A outer s H E) (wishR E) ->
   Ess (cxOf (CX1 P w) P w K mg base N qual (defScope st) fa cdv A outer s H E) K (ZR K (wishR E)) (defBody st) F) :
  FnOk P w K mg base (CX1 P w) (k+1) fa fd ps (spX K ps.length (fnX ps.length N.length F)):=by
 obtain⟨oc,od,dV,kV,doc,pm,an,cdv,ct,osl,rfl,lk,hcd⟩:=hf.ex
 refine xK lk hcd S (λvs H Q E h=>h.1) λA outer s H vs Q E hr hsp=>⟨_,(hb cdv A outer s H E hr aIi).h,?_⟩
 obtain⟨hv,μ,M,ws,hr,rx,p⟩:=hsp
 refine⟨μ,M,_,hr,lS rx,?_⟩
 unfold fnX fnD at p
 rw[aAG (by rw[rx.length];exact hv)]at p
 cases q:F (ws.map some++List.replicate (N.length - ws.length) none) M with
 |bad=>rw[q]at p;exact p
 |ex z M' =>
  rw[q]at p
  intro μ1 H1 e1 hr1 a ra
  have hb:=hr1.back e1
  rw[hr.len]at hb
  have hsub:∀a,a∈μ->a∈μ1:=λa ha=>by rw[<- e1.take]at ha;exact aBC ha
  exact p μ H1 e1.back hb a (Rp.sub hsub z _ ra)
 |ok o M' =>
  rw[q]at p
  simp only[dR]at p
  intro μ1 H1 e1 hr1
  have hb:=hr1.back e1
  rw[hr.len]at hb
  cases o with
  |nx L'=>exact λσ' lr'=>p μ H1 e1.back hb _ (by simp[Rw,Rp])
  |bk L'=>exact p.elim
  |ct L'=>exact p.elim
  |rt w =>
   intro v rv
   have hsub:∀a,a∈μ->a∈μ1:=λa ha=>by rw[<- e1.take]at ha;exact aBC ha
   cases w with
   |ob c i=>exact iJ (Z:=ZR K (wishR E)) hr e1 hr1 (.inl ⟨_,_,rfl⟩) rv (by revert p;simp only[retc];by_cases hi:i < M.length <;> simp only[hi,aDE,aCO] <;> exact λp=>p)
   |nest c=>exact iJ (Z:=ZR K (wishR E)) hr e1 hr1 (.inr ⟨_,rfl⟩) rv (by revert p;simp only[retc];cases nestD M.length M' c <;> exact λp=>p)
   |d x=>exact p μ H1 e1.back hb v (Rp.sub hsub x v rv)
   |ref i =>
    simp only[retc]at p
    by_cases hi:i < M.length
    ·rw[aAG hi]at p
     obtain⟨a,qa,rfl,il⟩:=rv
     refine p μ H1 e1.back hb _ ⟨a,?_,rfl,il⟩
     rw[<- hr.len]at hi
     rw[<- e1.take,List.getElem?_take_of_lt hi];exact qa
    ·rw[aAL hi]at p
     cases q2:M'[i]? with
     |none=>rw[q2]at p;exact p.elim
     |some ds =>
      rw[q2]at p
      obtain⟨a,qa,rfl,il⟩:=rv
      obtain⟨a',vs',qa',h1,r1⟩:=hr1.at q2 qa
      rw[qa]at qa';cases qa'
      have hna:a∉μ:=λz=>by
       obtain⟨j,h2⟩:=List.mem_iff_getElem?.mp z
       have hj:=(aAC.mp h2).1
       have h2:=e1.pre j a h2
       have l1:=(aAC.mp qa).1
       have l2:=(aAC.mp h2).1
       have g1:=(aAC.mp qa).2
       have g2:=(aAC.mp h2).2
       have pw:=aCR.mp hr1.nd
       rw[hr.len]at hj
       exact pw j i l2 l1 (by lia) (g2.trans g1.symm)
      refine p μ H1 e1.back hb _ ?_
      simp only[Rw,Rp]
      exact⟨a,vs',rfl,h1,hna,Rps.sub hsub _ _ r1⟩
theorem uZ{f:Addr}(hl:ps.length=m):FnOk P w K mg base CX k f fd ps (spX K m (λ_ _=>.bad)) :=
 ⟨λvs H Q E h=>by rw[h.1,hl],λA outer s H args us vs Q E _ _ _ _ h=>by obtain⟨_,μ,M,ws,_,_,p⟩:=h;exact p.elim⟩
theorem rT{ws:List W}{M1:Mm}{Q:VK}{E:XK}(hlen:∀ws M,ws.length≠m->Fm ws M=.bad)(hr1:HR K μ1 H1 M1)(rx:Rws K μ1 H1 ws vs)(p1:Pst K (ZR K (wishR E)) μ1 H1 (Fm ws M1) (Wk K Q)):spX K m Fm vs H1 Q E:=by
 refine⟨?_,μ1,M1,ws,hr1,rx,p1⟩
 by_cases hw:ws.length=m
 ·rw[<- rx.length];exact hw
 ·rw[hlen ws M1 hw]at p1;exact p1.elim
noncomputable section
abbrev EofR(R:Addr->Hp->Prop):XK:=λv _ H'=>∃a,v=.ref a/\R a H'
theorem ZR.to(h:∀a H,R a H->wishR (EofR R) a H:=λa H h=>⟨a,rfl,h⟩){o:Oc α}{Q:List Addr->Hp->Mm->α->Prop}(p:Pst K (ZR K R) μ H o Q):Pst K (ZR K (wishR (EofR R))) μ H o Q:=by
 cases o with
 |ok a M=>exact p
 |ex x M=>exact λμ' H' e hr a ra=>h a H' (p μ' H' e hr a ra)
 |bad=>exact p
theorem dZ{fa:Addr}(hz:Xz X R)(Gf:FnOk X.prog X.w X.K X.mg X.base (CX1 X.prog X.w) k fa fd ps (spX K m Fm))(hr:Room k X.A)(hm:X.mg x=some (.ref fa))(hk:keepIn X.K (.ref fa)=true)(hb:Binds X.K fd ps [])
  (ha:Ea X K (ZR K R) (e::es) fs)(hg:Gl X x:=by rfl)(hdb:(x==("__debug__":Str))=false:=by decide)(he:starEach (e::es) X.env=(false,eval e X.env)::starEach es X.env:=by rfl)(hpl:(backTo pos (starEach es X.env)).any (·.1)=false:=by rfl)
  (hlen:∀ws M,ws.length≠m->Fm ws M=.bad:=by intro ws M h;first|exact aAL h|rfl):Ev X K (ZR K R) (.Call (.Name x p) (e::es) [] pos) (eA Fm fs):=by
 refine⟨ha.k,cqE (lF (E:=EofR R) Gf hr hg hm hk hb .nil (kR rfl rfl ⟨λpins σ ev s' h=>hz.go pins σ ev s' (h.imp λa H ⟨a',q1,q2⟩=>by cases q1;exact q2)⟩) ha.h hdb he hpl) ?_⟩
 rintro σ H Q ⟨μ,M,L,hr,lr,p⟩
 refine⟨μ,M,L,hr,lr,p.bind.imp λμ1 H1 M1 ws e1 hr1 _ p1 vs rx=>?_⟩
 show spX K m Fm (vs++[]) H1 Q (EofR R)
 rw[aDH]
 exact rT hlen hr1 rx (ZR.to (p:=p1))
theorem yZ{fa:Addr}(Gf:FnOk X.prog X.w X.K X.mg X.base (CX1 X.prog X.w) k fa fd ps (spX K m Fm))(hr:Room k X.A)(hm:X.mg x=some (.ref fa))(hk:keepIn X.K (.ref fa)=true)(hb:Binds X.K fd ps [])
  (ha:Ea X K Z0 (e::es) fs)(hg:Gl X x:=by rfl)(hdb:(x==("__debug__":Str))=false:=by decide)(he:starEach (e::es) X.env=(false,eval e X.env)::starEach es X.env:=by rfl)(hpl:(backTo pos (starEach es X.env)).any (·.1)=false:=by rfl)
  (hlen:∀ws M,ws.length≠m->Fm ws M=.bad:=by intro ws M h;first|exact aAL h|rfl):Ev X K Z0 (.Call (.Name x p) (e::es) [] pos) (eA Fm fs):=by
 refine⟨ha.k,cqE (lF (E:=E0) Gf hr hg hm hk hb .nil (kR rfl rfl (qM λ_ _ z=>z)) ha.h hdb he hpl) ?_⟩
 rintro σ H Q ⟨μ,M,L,hr,lr,p⟩
 refine⟨μ,M,L,hr,lr,p.bind.imp λμ1 H1 M1 ws e1 hr1 _ p1 vs rx=>?_⟩
 show spX K m Fm (vs++[]) H1 Q E0
 rw[aDH]
 exact rT hlen hr1 rx (Pst.never p1)
def aDef(fs:FA)(ds:List D):FA:=λL M=>(fs L M).bind λws M1=>.ok (ws++ds.map W.d) M1
theorem Rws.append:∀{ws us:List W} {vs zs:List V},Rws K μ H ws vs->Rws K μ H us zs->Rws K μ H (ws++us) (vs++zs)
 |[],_,_,_,h,t=>by cases h;exact t
 |_::_,_,_,_,⟨v,r,e1,e2,e3⟩,t=>by subst e1;exact⟨v,_,rfl,e2,Rws.append e3 t⟩
def nx(Fm:Fn):Fn:=λws M=>match Fm ws M with
 |.ok w M'=>.ok w M'
 |_=>.bad
theorem bO{fa:Addr}(Gf:FnOk X.prog X.w X.K X.mg X.base CX0 k fa fd ps (spF K Z0 m Fm))(hr:Room k X.A)(hm:X.mg x=some (.ref fa))(hk:keepIn X.K (.ref fa)=true)(hb:Binds X.K fd ps [])
  (ha:Ea X K Z (e::es) fs)(hg:Gl X x:=by rfl)(hdb:(x==("__debug__":Str))=false:=by decide)(he:starEach (e::es) X.env=(false,eval e X.env)::starEach es X.env:=by rfl)(hpl:(backTo pos (starEach es X.env)).any (·.1)=false:=by rfl)
  (hlen:∀ws M,ws.length≠m->Fm ws M=.bad:=by intro ws M h;first|exact aAL h|rfl):Ev X K Z (.Call (.Name x p) (e::es) [] pos) (eA (nx Fm) fs):=by
 refine⟨ha.k,cqE (lF Gf hr hg hm hk hb .nil pass0 ha.h hdb he hpl) ?_⟩
 rintro σ H Q ⟨μ,M,L,hr,lr,p⟩
 refine⟨μ,M,L,hr,lr,p.bind.imp λμ1 H1 M1 ws e1 hr1 _ p1 vs rx=>?_⟩
 show spF K Z0 m Fm (vs++[]) H1 Q E0
 rw[aDH]
 have p2:Pst K Z0 μ1 H1 (Fm ws M1) (Wk K Q):=by
  unfold nx at p1
  cases q:Fm ws M1 with
  |ok w M'=>rw[q]at p1;exact p1
  |ex z M'=>rw[q]at p1;exact p1.elim
  |bad=>rw[q]at p1;exact p1.elim
 refine⟨?_,μ1,M1,ws,hr1,rx,p2⟩
 by_cases hw:ws.length=m
 ·rw[<- rx.length];exact hw
 ·rw[hlen ws M1 hw]at p2;exact p2.elim
theorem uJ(hr:HR K μ H M){p:Addr}{o:HO}(hp:H p=none):Ext μ H μ (upd H p o)/\HR K μ (upd H p o) M:=⟨eK hr hp,hr.lay hp⟩
def sRaise(c f:Str)(fe:FE):FS:=λL M=>(fe L M).bind λw M1=>match w with
 |.d d=>.ex (.exn c f [d]) M1
 |_=>.bad
end
theorem fX{c:Str}(hz:Xz X R)(F:Xc K c C LE)(hO:xcB X.K C (.ref LE::vb) (some (.ref fI))=true)(hF:LeF X.K LE)(hf:PySem.W.typeIn X.K (.ref fI)=some (.type "function"))
  (G:FnOk X.prog X.w X.K X.mg X.base (CX1 X.prog X.w) k fI fd ps (spXI C ff))(hn:PySem.W.findIn K (.ref C) ff=some none)(hr:Room (k+1) X.A)(hb:Binds X.K fd ps [])(hm:X.mg c=some (.ref C))(hk:keepIn X.K (.ref C)=true)(hc:X.calm=true)(ha:Ev X K (ZR K R) a fa)
  (hg:Gl X c:=by rfl)(hdb:(c==("__debug__":Str))=false:=by decide)(he:starEach [a] X.env=[(false,eval a X.env)]:=by rfl):Es X K (ZR K R) (.Raise (some (.Call (.Name c p) [a] [] cpos)) none pos) (sRaise c ff fa):=by
 refine⟨ha.k,cqS (zQ (pos:=pos) (R:=R) (ini:=some (.ref fI)) hO hc hz (zB (E:=E0) hO hF hf G hr hb (kR rfl rfl (qM λ_ _ z=>z)) hm hk (cE ha.h fH he) hg hdb he)) ?_⟩
 rintro E σ H ⟨μ,M,L,hr,lr,p⟩
 refine⟨μ,M,L,hr,lr,p.bind.imp λμ1 H1 M1 w e1 hr1 _ p1 y ry=>?_⟩
 cases w with
 |ref i=>exact p1.elim
 |ob _ _=>exact p1.elim
 |nest _=>exact p1.elim
 |d d =>
  refine⟨y,rfl,λe dx he hd ne=>⟨e,some dx,upd H1 dx (.xd [(ff,y)]),rfl,rfl,?_⟩⟩
  obtain⟨x1,h1⟩:=uJ (o:=.xd [(ff,y)]) hr1 hd
  have he':upd H1 dx (.xd [(ff,y)]) e=none:=by rw[aP (Ne.symm ne)];exact he
  obtain⟨x2,h2⟩:=uJ (o:=XO e C (some dx)) h1 he'
  have x3:=x1.trans x2
  refine p1 μ1 _ x3 h2 e ?_
  simp only[Rp]
  exact⟨e,[y],C,LE,some dx,rfl,aW,F,.inr ⟨dx,y,rfl,rfl,by rw[aP ne];exact aW,hn⟩,.cons (Rp.ext hr1.lsts x3 _ _ ry) .nil⟩
end
noncomputable section
def noX(f:Lc->Mm->Oc α):Lc->Mm->Oc α:=λL M=>match f L M with
 |.ok a M1=>.ok a M1
 |_=>.bad
theorem Pst.noX{α:Type}{K:Frag}{Z:Zt}{μ:List Addr}{H:Hp}{f:Lc->Mm->Oc α}{L:Lc}{M:Mm}{Q:List Addr->Hp->Mm->α->Prop}(p:Pst K Z μ H (noX f L M) Q):Pst K Z0 μ H (f L M) Q:=by
 unfold EV.noX at p
 cases q:f L M with
 |ok a M'=>rw[q]at p;exact p
 |ex x M'=>rw[q]at p;exact p.elim
 |bad=>rw[q]at p;exact p
def liftX(K:Frag)(f:FE)(σ:L2.St)(H:Hp)(Q:VK)(R:Addr->Hp->Prop):Prop:=∃μ M L,HR K μ H M/\LR K μ H L σ/\Pst K (ZR K R) μ H (f L M) (Wk K Q)
def liftB(K:Frag)(F:FS)(D:Ends)(R:Addr->Hp->Prop)(σ:L2.St)(H:Hp):Prop:=∃μ M L,HR K μ H M/\LR K μ H L σ/\Pst K (ZR K R) μ H (F L M) (Sk K D)
end
structure Exx(X:Cx)(K:Frag)(e:Expr)(f:FE):Prop where
 k:X.K=K
 h:PEx X e (liftX K f)
structure Tb(X:Cx)(K:Frag)(b:List Stmt)(F:FS):Prop where
 k:X.K=K
 h:PBx X b (liftB K F)
section
variable{K:Frag}{e a b:Expr}{es:List Expr}{pos:Pos}{fs:FA}{rest:List Stmt}{k:Nat}
theorem zD{fa:Addr}{dvs:List V}{dd:List D}(Gf:FnOk X.prog X.w X.K X.mg X.base (CX1 X.prog X.w) k fa fd ps (spX K m Fm))(hr:Room k X.A)(hm:X.mg x=some (.ref fa))(hk:keepIn X.K (.ref fa)=true)(hb:Binds X.K fd ps ds)(hd:Vals dvs ds)(hdd:∀μ H,Rws K μ H (dd.map W.d) dvs)
  (ha:Ea X.nox K Z0 (e::es) fs)(hg:Gl X x:=by rfl)(hdb:(x==("__debug__":Str))=false:=by decide)(he:starEach (e::es) X.env=(false,eval e X.env)::starEach es X.env:=by rfl)(hpl:(backTo pos (starEach es X.env)).any (·.1)=false:=by rfl)
  (hlen:∀ws M,ws.length≠m->Fm ws M=.bad:=by intro ws M h;first|exact aAL h|rfl):Exx X K (.Call (.Name x p) (e::es) [] pos) (eA Fm (aDef (noX fs) dd)):=by
 refine⟨ha.k,?_⟩
 rintro pins s σ H Q R I ⟨μ,M,L,hr0,lr,p⟩
 refine aCI (gH I hg hm ?_ hdb)
 have p:Pst K (ZR K R) μ H ((noX fs L M).bind λws M1=>Fm (ws++dd.map W.d) M1) (Wk K Q):=by
  unfold eA aDef at p
  cases q:noX fs L M with
  |ok ws M1=>rw[q]at p;exact p
  |ex x M1=>rw[q]at p;exact p
  |bad=>rw[q]at p;exact p
 have hA:=ha.h pos pins s σ H (λvs H1=>spX K m Fm (vs++dvs) H1 Q (EofR R)) (I.wish _) ⟨μ,M,L,hr0,lr,(p.bind.noX).imp λμ1 H1 M1 ws e1 hr1 _ p1 vs rx=>rT hlen hr1 (rx.append (hdd μ1 H1)) (ZR.to (p:=p1))⟩
 refine aGJ (h₀:=X.base) I.ok.mod.kin hk (aCF hA (λus s1 ⟨vs,H1,I1,r,q⟩=>?_) λ_ _ z=>z.elim) he hpl
 have I1:=I1.unwish
 refine⟨I1.kIn,?_⟩
 have r2:Vals (vs++dvs) (us++ds):=r.append hd
 have hl:(us++ds).length=ps.length:=by rw[<- r2.length];exact Gf.len _ _ _ _ q
 refine aEJ (aFX (Gf.run X.A X.stack s1 H1 ⟨us,[]⟩ (us++ds) (vs++dvs) Q (EofR R) hr I1.env0 (hb s1 us I1.kIn hl) r2 q) λrr s' hq=>?_)
 cases rr with
 |error ev=>exact(XE.call I1 hq).imp λa H ⟨a',q1,q2⟩=>by cases q1;exact q2
 |ok fl =>
  cases fl with
  |ret u=>exact I1.after hq
  |next=>exact False.elim hq
  |brk=>exact False.elim hq
  |cont=>exact False.elim hq
theorem aCd{fa:Addr}(Gf:FnOk X.prog X.w X.K X.mg X.base (CX1 X.prog X.w) k fa fd ps (spX K m Fm))(hr:Room k X.A)(hm:X.mg x=some (.ref fa))(hk:keepIn X.K (.ref fa)=true)(hb:Binds X.K fd ps [])
  (ha:Ea X.nox K Z0 (e::es) fs)(hg:Gl X x:=by rfl)(hdb:(x==("__debug__":Str))=false:=by decide)(he:starEach (e::es) X.env=(false,eval e X.env)::starEach es X.env:=by rfl)(hpl:(backTo pos (starEach es X.env)).any (·.1)=false:=by rfl)
  (hlen:∀ws M,ws.length≠m->Fm ws M=.bad:=by intro ws M h;first|exact aAL h|rfl):Exx X K (.Call (.Name x p) (e::es) [] pos) (eA Fm (aDef (noX fs) [])) :=
 zD Gf hr hm hk hb .nil (λ_ _=>rfl) ha hg hdb he hpl hlen
theorem aCj(he:Exx X K e f)(hs:swapsWith e none pos.line X.env=pure false:=by rfl):Tb X K [.Expr e pos] (sEx f):=by
 refine⟨he.k,?_⟩
 rintro pins s σ H D R I ⟨μ,M,L,hr0,lr,p⟩
 refine wpAny_execs_cons (wpAny_Expr_any (thn (he.h pins s σ H (λ_ H1=>D.nx σ H1) R I ⟨μ,M,L,hr0,lr,p.bind.imp λμ1 H1 M1 w e1 hr1 _ p1 v rv=>p1 μ1 H1 .refl hr1 σ (lr.ext hr0.lsts e1)⟩) λv s1 ⟨x,H1,I1,r1,q1⟩=>?_) I.quiet hs)
 exact aDY ⟨σ,H1,I1,q1⟩
end
noncomputable def mt(cn c:Str):Bool:=c==cn || cn=="LentError" || cn=="ValueError"
noncomputable def mtD(cn:Str):D->Bool
 |.exn c _ _=>mt cn c
 |_=>false
variable{K:Frag}
noncomputable def CtD(K:Frag)(cn:Str)(Dc:Addr):Prop:=∀c C LE,Xc K c C LE->mt cn c=true->XM K C Dc
noncomputable def Ct(K:Frag)(cn:Str)(cv:Value):Prop:=∀c C LE,Xc K c C LE->PySem.W.kitOne K (.ref C) cv=some (mt cn c)
variable{c:Str}
theorem uY{C' LE':Addr}(F:Xc K c C LE)(G:Xc K c C' LE'):C=C':=by
 have:=F.nm.symm.trans G.nm
 cases this;rfl
theorem aHq{c':Str}{C' LE':Addr}(F:Xc K c C LE)(G:Xc K c' C' LE')(n:c≠c'):C≠C':=by
 rintro rfl
 obtain⟨d1,a1,a2,_⟩:=F.cd
 obtain⟨d2,b1,b2,_⟩:=G.cd
 rw[a1]at b1;cases b1
 exact n (a2.symm.trans b2)
theorem yA{c':Str}{C' LE':Addr}(F:Xc K c C LE)(G:Xc K c' C' LE'):LE≠C':=by
 rintro rfl
 obtain⟨d1,a1,a2⟩:=F.le
 obtain⟨d2,b1,b2,_⟩:=G.cd
 rw[a1]at b1;cases b1
 exact G.ne (b2.symm.trans a2)
theorem aCx(q:xcB K C bm ini=true):PySem.W.typeIn K (.ref C)=some (.type "type")/\(PySem.W.clsIn K C).isSome=true:=by
 unfold xcB at q
 split at q
 ·rename_i dd cd sl ho
  exact⟨by simp[PySem.W.typeIn,ho],by simp[PySem.W.clsIn,ho]⟩
 ·cases q
theorem aAt(G:Xc K cn Dc LE)(hv:cn≠"ValueError":=by decide):CtD K cn Dc:=λc C LE' F h=>by
 have hc:c=cn:=by
  simp only[mt,Bool.or_eq_true,aDL]at h
  rcases h with(h|h)|h
  ·exact h
  ·exact(G.ne h).elim
  ·exact(hv h).elim
 subst hc
 cases uY F G
 obtain⟨ini,ob⟩:=G.ob
 exact⟨⟨_,ini,ob,by simp⟩,⟨_,ini,ob,rfl⟩⟩
theorem gY(G:Xc K cn Dc LE)(hv:cn≠"ValueError":=by decide):Ct K cn (.ref Dc):=λc C LE' F=>by
 have e1:(cn==("LentError":Str))=false:=by simpa using G.ne
 have e2:(cn==("ValueError":Str))=false:=by simpa using hv
 unfold PySem.W.kitOne mt
 rw[e1,e2,aGL,aGL]
 by_cases hc:c=cn
 ·subst hc
  cases uY F G
  rw[aAG (by simp)];simp
 ·have n:=aHq F G hc
  have n2:=yA F G
  obtain⟨ini,ob⟩:=G.ob
  obtain⟨t1,t2⟩:=aCx ob
  rw[aAL (by simpa using n)]
  unfold PySem.W.kitCls
  dsimp only
  rw[aAG (by rw[t1,t2];decide)]
  show PySem.W.mroIn K C (.ref Dc)=_
  rw[F.mro]
  have hcc:(c==cn)=false:=by simpa using hc
  rw[hcc]
  simp[n,n2]
  exact⟨λz=>n z.symm,λz=>n2 z.symm⟩
theorem aIa(h:nsIn K mainGlobals "LentError"=some (some (.ref Dc))):Ct K "LentError" (.ref Dc):=λc C LE F=>by
 have:=h.symm.trans F.leN
 cases this
 obtain⟨t1,t2⟩:=aCx F.leO
 unfold PySem.W.kitOne
 have e:mt "LentError" c=true:=by simp[mt]
 rw[e]
 split
 ·rfl
 ·unfold PySem.W.kitCls
  dsimp only
  rw[aAG (by rw[t1,t2];decide)]
  show PySem.W.mroIn K C (.ref Dc)=_
  rw[F.mro]
  simp
theorem aAi:PySem.W.kitMeta "ValueError"=true:=by decide +kernel
theorem aIv:Ct K "ValueError" (.type "ValueError"):=λc C LE F=>by
 unfold PySem.W.kitOne
 have e:mt "ValueError" c=true:=by simp[mt]
 rw[e,aAL (by simp)]
 unfold PySem.W.kitCls
 dsimp only
 rw[aAG aAi]
 show PySem.W.mroIn K C (.type "ValueError")=_
 rw[F.mro]
 rfl
structure Ecs(X:Cx)(K:Frag)(es:List Expr)(cns:List Str):Prop where
 k:X.K=K
 h:∃ys cvs,PA X es (λ_ H Q=>Q ys H)/\ys.map clV=cvs.map some/\ys.length<=es.length/\∀c C LE,Xc K c C LE->PySem.W.kitAny K (.ref C) cvs=some (cns.any λn=>mt n c)
section
variable{K:Frag}{e a b:Expr}{es:List Expr}{pos:Pos}{fs:FA}{rest:List Stmt}
theorem aBg(hk:X.K=K:=by rfl):Ecs X K [] []:=⟨hk,[],[],fH,rfl,aAH _,λ_ _ _ _=>rfl⟩
theorem eB(ct:Ct K cn (.ref Dc))(hm:X.mg cn=some (.ref Dc))(h:Ecs X K es cns)(hg:Gl X cn:=by rfl)(hd:(cn==("__debug__":Str))=false:=by decide)
  (hs:starEach (.Name cn q::es) X.env=(false,eval (.Name cn q) X.env)::starEach es X.env:=by rfl):Ecs X K (.Name cn q::es) (cn::cns):=by
 obtain⟨ys,cvs,h1,h2,h3,h4⟩:=h.h
 refine⟨h.k,.ref Dc::ys,.ref Dc::cvs,?_,by simp[clV,h2],by simpa using h3,λc C LE F=>?_⟩
 ·exact cqA (cE (iF (v:=.ref Dc) hg hm rfl hd) h1 hs) λσ H Q q=>q
 ·unfold PySem.W.kitAny
  rw[ct c C LE F]
  rw[List.any_cons]
  cases mt cn c with
  |true=>rfl
  |false=>exact h4 c C LE F
noncomputable section
def pIsX(cns:List Str)(w:W)(M:Mm):Oc W:=match w with
 |.d (.exn c _ _)=>.ok (.d (.bl (cns.any λn=>mt n c))) M
 |_=>.bad
theorem aDd{f:Str}(h:XFl K H C f d vs):d=none\/∃dx fs,d=some dx/\H dx=some (.xd fs):=by
 rcases h with h|⟨dx,u,h1,_,h3,_⟩
 ·exact .inl h.1
 ·exact .inr ⟨dx,_,h1,h3⟩
theorem uM{cv:Value}(hy:clV y=some cv)(ct:Ct K cn cv)(hp:PE X (.Name cn q) (tC y))(hm:X.mg "isinstance"=none)(he:Ev X K Z e f)(hg:Gl X "isinstance":=by rfl)
  (hs:starEach [e,.Name cn q] X.env=(false,eval e X.env)::starEach [.Name cn q] X.env:=by rfl)(hs2:starEach [.Name cn q] X.env=(false,eval (.Name cn q) X.env)::starEach [] X.env:=by rfl)(hpl:(backTo pos (starEach [.Name cn q] X.env)).any (·.1)=false:=by rfl) :
  Ev X K Z (.Call (.Name "isinstance" p) [e,.Name cn q] [] pos) (e1 (pIsX [cn]) f):=by
 have h:=jN (pos:=pos) (p:=p) zH hg hm fF (cE he.h (cE hp fH hs2) hs) (by decide) (by decide) hs hpl
 rw[he.k]at h
 refine⟨he.k,cqE h ?_⟩
 rintro σ H Q ⟨μ,M,L,hr,lr,p⟩
 refine⟨μ,M,L,hr,lr,p.bind.imp λμ1 H1 M1 x e1 hr1 _ p1 v rx=>?_⟩
 cases x with
 |ref i=>exact p1.elim
 |ob _ _=>exact p1.elim
 |nest _=>exact p1.elim
 |d x=>cases x with
  |exn c ff xs =>
   simp only[Rw,Rp]at rx
   obtain⟨a,vs,C,LE,d,rfl,hx,F,xf,rs⟩:=rx
   exact⟨a,C,LE,c,d,y,cv,_,rfl,hx,aDd xf,F,hy,ct c C LE F,p1 μ1 H1 .refl hr1 _ (by simp[Rw,Rp])⟩
  |_=>exact p1.elim
theorem aGd(ct:Ct K cn (.ref Dc))(hmc:X.mg cn=some (.ref Dc))(hm:X.mg "isinstance"=none)(he:Ev X K Z e f)(hg:Gl X "isinstance":=by rfl)(hgc:Gl X cn:=by rfl)(hd:(cn==("__debug__":Str))=false:=by decide)
  (hs:starEach [e,.Name cn q] X.env=(false,eval e X.env)::starEach [.Name cn q] X.env:=by rfl)(hs2:starEach [.Name cn q] X.env=(false,eval (.Name cn q) X.env)::starEach [] X.env:=by rfl)(hpl:(backTo pos (starEach [.Name cn q] X.env)).any (·.1)=false:=by rfl) :
  Ev X K Z (.Call (.Name "isinstance" p) [e,.Name cn q] [] pos) (e1 (pIsX [cn]) f):=uM (y:=.ref Dc) rfl ct (iF (v:=.ref Dc) hgc hmc rfl hd) hm he hg hs hs2 hpl
theorem aIq:bootBuiltins "ValueError"=some (.type "ValueError"):=PyProof.Rows.Boot.«ValueError»
theorem aBd(hmc:X.mg "ValueError"=none)(hm:X.mg "isinstance"=none)(he:Ev X K Z e f)(hg:Gl X "isinstance":=by rfl)(hgc:Gl X "ValueError":=by rfl)
  (hs:starEach [e,.Name "ValueError" q] X.env=(false,eval e X.env)::starEach [.Name "ValueError" q] X.env:=by rfl)(hs2:starEach [.Name "ValueError" q] X.env=(false,eval (.Name "ValueError" q) X.env)::starEach [] X.env:=by rfl)(hpl:(backTo pos (starEach [.Name "ValueError" q] X.env)).any (·.1)=false:=by rfl) :
  Ev X K Z (.Call (.Name "isinstance" p) [e,.Name "ValueError" q] [] pos) (e1 (pIsX ["ValueError"]) f):=uM (y:=.ty "ValueError") rfl aIv (uD (v:=.ty "ValueError") hgc hmc aIq rfl) hm he hg hs hs2 hpl
theorem aAy{x1}(hc:Ecs X K es cns)(hm:X.mg "isinstance"=none)(he:Ev X K Z e f)(hl:es.length<=100:=by decide)(hg:Gl X "isinstance":=by rfl)
  (hs:starEach [e,.Tuple es x1 q] X.env=(false,eval e X.env)::starEach [.Tuple es x1 q] X.env:=by rfl)(hs2:starEach [.Tuple es x1 q] X.env=(false,eval (.Tuple es x1 q) X.env)::starEach [] X.env:=by rfl)(hpl:(backTo pos (starEach [.Tuple es x1 q] X.env)).any (·.1)=false:=by rfl) :
  Ev X K Z (.Call (.Name "isinstance" p) [e,.Tuple es x1 q] [] pos) (e1 (pIsX cns) f):=by
 obtain⟨ys,cvs,h1,h2,h3,h4⟩:=hc.h
 have h:=jN (pos:=pos) (p:=p) vE hg hm fF (cE he.h (cE (yI h1) fH hs2) hs) (by decide) (by decide) hs hpl
 rw[he.k]at h
 refine⟨he.k,cqE h ?_⟩
 rintro σ H Q ⟨μ,M,L,hr,lr,p⟩
 refine⟨μ,M,L,hr,lr,p.bind.imp λμ1 H1 M1 x e1 hr1 _ p1 v rx=>⟨?_,λt ht=>?_⟩⟩
 ·have:(100:Nat)<=sizeLine:=by decide
  lia
 cases x with
 |ref i=>exact p1.elim
 |ob _ _=>exact p1.elim
 |nest _=>exact p1.elim
 |d x=>cases x with
  |exn c ff xs =>
   have x:=eK (o:=.tup ys) hr1 ht
   have rx:=Rp.ext hr1.lsts x _ _ rx
   simp only[Rp]at rx
   obtain⟨a,vs,C,LE,d,rfl,hx,F,xf,rs⟩:=rx
   exact⟨a,C,LE,c,d,t,ys,cvs,_,rfl,hx,aDd xf,F,aW,h2,h4 c C LE F,p1 μ1 _ x (hr1.lay ht) _ (by simp[Rw,Rp])⟩
  |_=>exact p1.elim
def pFld(ff:Str)(w:W)(M:Mm):Oc W:=match w with
 |.d (.exn _ g [d])=>if g=ff then .ok (.d d) M else .bad
 |_=>.bad
theorem aCs{d:D}(h:Rp K μ H d v):∀i,v≠.ty i:=by
 cases d <;> simp only[Rp]at h <;> first|(subst h;intro i z;cases z)|(obtain⟨a,vs,rfl,_⟩:=h;intro i z;cases z)|(obtain⟨a,vs,_,_,_,rfl,_⟩:=h;intro i z;cases z)
theorem zS(he:Ev X K Z e f)(hb:attributeBase e ff X.env (eval e X.env)=eval e X.env:=by rfl):Ev X K Z (.Attribute e ff p) (e1 (pFld ff) f):=by
 have h:=aAr (pos:=p) he.h hb
 rw[he.k]at h
 refine⟨he.k,cqE h ?_⟩
 rintro σ H Q ⟨μ,M,L,hr,lr,p⟩
 refine⟨μ,M,L,hr,lr,p.bind.imp λμ1 H1 M1 x e1 hr1 _ p1 v rx=>?_⟩
 cases x with
 |ref i=>exact p1.elim
 |ob _ _=>exact p1.elim
 |nest _=>exact p1.elim
 |d x=>cases x with
  |exn c g xs =>
   rcases xs with _|⟨d,_|⟨d2,xs⟩⟩
   ·exact p1.elim
   ·simp only[pFld]at p1
    split at p1
    ·rename_i hg
     subst hg
     simp only[Rw,Rp]at rx
     obtain⟨a,vs,C,LE,dd,rfl,hx,F,xf,rs⟩:=rx
     rcases xf with⟨_,rfl⟩|⟨dx,u,rfl,rfl,h3,h4⟩
     ·simp[Rps]at rs
     ·simp only[Rps]at rs
      obtain⟨v',r',e1',e2',e3'⟩:=rs
      cases e1'
      exact⟨a,C,LE,c,dx,u,rfl,hx,h3,F,h4,aCs e2',p1 μ1 H1 .refl hr1 u e2'⟩
    ·exact p1.elim
   ·exact p1.elim
  |_=>exact p1.elim
def unset(i:Nat):Out->Out
 |.nx L=>.nx (L.set i none)
 |.bk L=>.bk (L.set i none)
 |.ct L=>.ct (L.set i none)
 |.rt w=>.rt w
theorem LR.unset{σ:L2.St}(h:LR K μ H L σ):LR K μ H (L.set i none) (σ.set i none)where
 len:=by simp[h.len]
 ent:=λj w q=>by
  by_cases hj:i=j
  ·subst hj
   rw[List.getElem?_set_self']at q
   cases z:L[i]? <;> rw[z]at q <;> cases q
  ·rw[aBQ hj]at q
   obtain⟨v,a,b⟩:=h.ent j w q
   exact⟨v,by rw[aBQ hj];exact a,b⟩
def sTryAs(i:Nat)(cn:Str)(FB FH:FS):FS:=λL M=>match FB L M with
 |.ok o M'=>.ok o M'
 |.ex x M'=>if mtD cn x=true then(noX FH (L.set i (some (.d x))) M').bind λo M2=>.ok (unset i o) M2 else .bad
 |.bad=>.bad
end
theorem aIj{x:D}{a:Addr}(ct:CtD K cn Dc)(hm:mtD cn x=true)(r:Rp K μ H x (.ref a)):∃C d,H a=some (XO a C d)/\XM K C Dc:=by
 cases x with
 |exn c f xs =>
  simp only[Rp]at r
  obtain⟨a',vs,C,LE,d,e,hx,F,_⟩:=r
  cases e
  exact⟨C,d,hx,ct c C LE F hm⟩
 |_=>cases hm
theorem xW{suite:List Stmt}{b₀:Stmt}{n:Str}{np hpos:Pos}{FB FH:FS}(ct:CtD K cn Dc)(hm:X.mg cn=some (.ref Dc))(hN:X.N.Nodup)(hb:Tb X K body FB)(hs:∀a,Ess (X.hnd a) K Z0 (b₀::suite) FH)
  (hi:X.N[i]?=some n:=by rfl)(hl:X.env.scope.names.lookup n=some .local:=by rfl)(hg:Gl X cn:=by rfl)(hst:X.stack=X.env::X.outer:=by rfl)(hfm:X.env.frame=some X.env.locals:=by rfl)(hdb:(cn==("__debug__":Str))=false:=by decide) :
  Es X K Z (.Try body [.ExceptHandler (some (.Name cn np)) (some n) (b₀::suite) hpos] [] [] pos) (sTryAs i cn FB FH):=by
 have h:=zP (np:=np) (pos:=pos) (hpos:=hpos) hN hb.h (λa=>(hs a).h) hm hi hl hg hst hfm hdb
 rw[hb.k]at h
 refine⟨hb.k,cqS h ?_⟩
 rintro E σ H ⟨μ,M,L,hr,lr,p⟩
 refine⟨μ,M,L,hr,lr,?_⟩
 unfold sTryAs at p
 cases q:FB L M with
 |bad=>rw[q]at p;exact p
 |ok o M'=>rw[q]at p;exact p
 |ex x M' =>
  rw[q]at p
  simp only at p
  split at p
  ·rename_i hmt
   intro μ1 H1 e1 hr1 a ra
   refine⟨aIj ct hmt ra,μ1,M',_,hr1,LR.set (lr.ext hr.lsts e1) (w:=.d x) ra,((Pst.mono e1 p).bind.noX).imp λμ2 H2 M2 o e2 hr2 _ p2=>?_⟩
   have p2:=p2 μ2 H2 .refl hr2
   cases o with
   |nx L'=>exact λσ' l'=>p2 _ l'.unset
   |bk L'=>exact λσ' l'=>p2 _ l'.unset
   |ct L'=>exact λσ' l'=>p2 _ l'.unset
   |rt w=>exact p2
  ·exact p.elim
theorem aAd{a:Addr}(hO:Only H)(hS:SqL K H a (ns.map V.int))(h:∃M',Fm [.d (.fz (ns.map D.int))] []=.ok (.d (.bl true)) M'):spX K 1 Fm [.ref a] H (λv _=>v=.bl true) λ_ _ _=>False:=by
 obtain⟨h1,μ,M,ws,h2,h3,h4⟩:=aEu (K:=K) hO hS h
 exact⟨h1,μ,M,ws,h2,h3,Pst.never h4⟩
end
end EV
end
namespace EV
open PySem L2
section
variable{EX:D->Mm->Prop}{i j:Nat}{w x y:W}{Q:W->Mm->Prop}{QA:List W->Mm->Prop}{g h:FE}{FB FH:FS}{fs:FA}{ws:List W}
theorem aIe(h:Ok (Fm ws M) Q):Okx EX (nx Fm ws M) Q:=by
 obtain⟨a,M',e,q⟩:=jD.mp h
 unfold nx;rw[e];exact aI q
theorem zK{f:Lc->Mm->Oc α}{Q:α->Mm->Prop}(h:Ok (f L M) Q):Okx EX (noX f L M) Q:=by
 obtain⟨a,M',e,q⟩:=jD.mp h
 unfold noX;rw[e];exact aI q
theorem aCe{ds:List D}(h:Okx EX (fs L M) λws M1=>QA (ws++ds.map W.d) M1):Okx EX (aDef fs ds L M) QA:=aJ (h.mono λ_ _ z=>aI z)
theorem eQ(hm:ws.length=m)(h:Okx (λx M'=>EX x (M'.take M.length)) (F (ws.map some++List.replicate (n - ws.length) none) M) λo M'=>match o with
  |.rt w=>Ok (retc M.length w M') Q
  |.nx _=>Q (.d .non) (M'.take M.length)
  |_=>False):Okx EX (fnX m n F ws M) Q:=by
 unfold fnX fnD
 rw[aAG hm]
 rcases fB.mp h with⟨o,M',e,q⟩|⟨x,M',e,q⟩
 ·rw[e]
  simp only[dR]
  cases o with
  |rt w =>
   obtain⟨a,M2,e2,q2⟩:=jD.mp q
   simp only[e2]
   exact aI q2
  |nx L=>exact aI q
  |bk L=>exact q.elim
  |ct L=>exact q.elim
 ·rw[e]
  simp only[aBr]
  exact gX q
variable{c:Str}
theorem wG(h:Okx EX (f L M) λw M1=>∃d,w=.d d/\EX (.exn c ff [d]) M1):Okx EX (sRaise c ff f L M) QS:=aJ (h.mono λw M1 ⟨d,e,q⟩=>by subst e;exact gX q)
theorem vF(h:Okx (λx M'=>mtD cn x=true/\Ok (FH (L.set i (some (.d x))) M') λo M2=>QS (unset i o) M2) (FB L M) QS):Okx EX (sTryAs i cn FB FH L M) QS:=by
 unfold sTryAs
 rcases fB.mp h with⟨o,M',e,q⟩|⟨x,M',e,hm,q⟩
 ·rw[e];exact aI q
 ·rw[e]
  simp only
  rw[aAG hm]
  exact aJ (zK (q.mono λ_ _ z=>aI z))
theorem aEe{xs:List D}(q:Q (.d (.bl (cns.any λn=>mt n c))) M):Okx EX (pIsX cns (.d (.exn c ff xs)) M) Q:=aI q
theorem aEd{d:D}(q:Q (.d d) M):Okx EX (pFld ff (.d (.exn c ff [d])) M) Q:=by
 have:pFld ff (.d (.exn c ff [d])) M=.ok (.d d) M:=aAG rfl
 rw[this];exact aI q
end
end EV
section
open PySem PySem.Spec PyProof.Rows
namespace EV
open PySem.W L2
noncomputable def xkB(K:Frag)(c:Str)(C LE:Addr):Bool:=(match clsIn K C with
  |some cd=>cd.name==c&&cd.mro==.ref C::.ref LE::vb&&cd.hasDict
  |none=>false)&&(match clsIn K LE with
  |some cl=>cl.name==("LentError":Str)
  |none=>false)&&findIn K (.ref C) "__getattribute__"==some (some (.builtin "BaseException.__getattribute__"))&&findIn K (.ref C) "__getattr__"==some none&&findIn K (.ref C) "__class__"==some (some (.builtin "object.__class__"))
variable{c:Str}
theorem jH(nm:nsIn K mainGlobals c=some (some (.ref C)))(leN:nsIn K mainGlobals "LentError"=some (some (.ref LE)))(q:xkB K c C LE=true)(ob:xcB K C (.ref LE::vb) ini=true)(leO:xcB K LE vb none=true)(ne:c≠"LentError"):Xc K c C LE:=by
 unfold xkB at q
 simp only[aBR,aDL]at q
 obtain⟨⟨⟨⟨q1,q2⟩,q3⟩,q4⟩,q5⟩:=q
 cases h1:clsIn K C with
 |none=>rw[h1]at q1;cases q1
 |some cd =>
  rw[h1]at q1
  simp only[aBR,aDL]at q1
  cases h2:clsIn K LE with
  |none=>rw[h2]at q2;cases q2
  |some cl =>
   rw[h2]at q2
   simp only[aDL]at q2
   exact⟨nm,⟨cd,h1,q1.1.1,q1.1.2⟩,⟨cl,h2,q2⟩,leN,ne,by unfold hasDictIn;rw[h1];exact q1.2,q3,q4,q5,⟨ini,ob⟩,leO⟩
variable{K:Frag}{pos:Pos}{tk:Tok}
theorem xF{i:Int}(hm:X.mg x=some (.int i tk))(hk:X.K=K:=by rfl)(hg:Gl X x:=by rfl)(hd:(x==("__debug__":Str))=false:=by decide):Ev X K Z (.Name x pos) (eC (.int i)):=wE (λ_ _ _=>by simp[Rp]) hk (iF (v:=.int i) hg hm ⟨tk,rfl⟩ hd)
theorem aIh{y:Str}(hm:X.mg x=some (.str y tk))(hk:X.K=K:=by rfl)(hg:Gl X x:=by rfl)(hd:(x==("__debug__":Str))=false:=by decide):Ev X K Z (.Name x pos) (eC (.str y)):=wE (λ_ _ _=>by simp[Rp]) hk (iF (v:=.str y) hg hm ⟨tk,rfl⟩ hd)
theorem aHw(xc:Xc K c C LE)(hc:clsIn K C=some cd):cd.hasDict=true:=by have:=xc.hd;unfold hasDictIn at this;rw[hc]at this;exact this
end EV
end
namespace LS
open PySem L2 EV
noncomputable def Cg(n a b:Int):Prop:=∃k,a=b+n*k
variable{n a:Int}
theorem Cg.rfl:Cg n a a:=⟨0,by simp⟩
variable{b:Int}
theorem Cg.symm(h:Cg n a b):Cg n b a:=by obtain⟨k,rfl⟩:=h;exact⟨-k,by grind⟩
theorem Cg.trans{c:Int}(h:Cg n a b)(g:Cg n b c):Cg n a c:=by obtain⟨k,rfl⟩:=h;obtain⟨l,rfl⟩:=g;exact⟨k+l,by grind⟩
variable{d:Int}
theorem Cg.add{c:Int}(h:Cg n a b)(g:Cg n c d):Cg n (a+c) (b+d):=by obtain⟨k,rfl⟩:=h;obtain⟨l,rfl⟩:=g;exact⟨k+l,by grind⟩
theorem Cg.mul{c:Int}(h:Cg n a b)(g:Cg n c d):Cg n (a*c) (b*d):=by obtain⟨k,rfl⟩:=h;obtain⟨l,rfl⟩:=g;exact⟨b*l+d*k+n*k*l,by grind⟩
theorem Cg.mod:Cg n (a % n) a:=⟨-(a / n),by have:=Int.emod_def a n;grind⟩
theorem Cg.emod(h:Cg n a b):a % n=b % n:=by obtain⟨k,rfl⟩:=h;simp[Int.add_mul_emod_self_left]
theorem Cg.of(h:a % n=b % n):Cg n a b:=Cg.mod.symm.trans (h▸Cg.mod)
theorem Cg.of_eq(h:a=b):Cg n a b:=h▸Cg.rfl
inductive Dd
 |add (s:Nat) (c:Int) (gs ts:List Nat)
 |scale (s:Nat) (u:Int)
noncomputable def Rs(n:Int)(cs:List Int):Prop:=∀c∈cs,0<=c/\c < n
theorem Rs.getD{n:Int}{cs:List Int}(h:Rs n cs){i:Nat}(hi:i < cs.length):0<=cs.getD i 0/\cs.getD i 0 < n:=h _ (by simp[hi])
noncomputable def IsIv(n u v:Int):Prop:=0<=v/\v < n/\(u*v) % n=1 % n
variable{u:Int}
theorem IsIv.uniq{v w:Int}(h:IsIv n u v)(g:IsIv n u w):v=w:=by
 obtain⟨l,k,e⟩:=h
 obtain⟨l',k',e'⟩:=g
 have e1:Cg n (u*v) 1:=Cg.of e
 have e2:Cg n (u*w) 1:=Cg.of e'
 have:Cg n v w:=by
  have h1:Cg n v (v*(u*w)):=by simpa using Cg.mul (Cg.rfl (a:=v)) e2.symm
  have h2:Cg n ((u*v)*w) (1*w):=Cg.mul e1 Cg.rfl
  exact h1.trans ((Cg.of_eq (by grind)).trans (h2.trans (Cg.of_eq (by grind))))
 have:=this.emod
 rwa[Int.emod_eq_of_lt l k,Int.emod_eq_of_lt l' k']at this
open Classical in
noncomputable def iv(n u:Int):Int:=if h:∃v,IsIv n u v then Classical.choose h else 0
theorem aHz{v:Int}(h:IsIv n u v):iv n u=v:=by
 have hx:∃v,IsIv n u v:=⟨v,h⟩
 unfold iv
 rw[dif_pos hx]
 exact(Classical.choose_spec hx).uniq h
theorem aCm(h:∃v,IsIv n u v):IsIv n u (iv n u):=by obtain⟨v,h⟩:=h;rw[aHz h];exact h
noncomputable def Un(n u:Int):Prop:=0<=u/\u < n/\∃v,IsIv n u v
theorem Un.iv{n u:Int}(h:Un n u):Un n (iv n u):=by
 have h':=aCm h.2.2
 exact⟨h'.1,h'.2.1,u,h.1,h.2.1,by rw[Int.mul_comm];exact h'.2.2⟩
inductive Wd|sum|less|times
noncomputable def Wd.str:Wd->Str
 |.sum=>"sum"
 |.less=>"less"
 |.times=>"times"
noncomputable def Wd.ev(n:Int):Wd->Int->Int->Int
 |.sum,x,y=>(x+y) % n
 |.less,x,y=>(x - y) % n
 |.times,x,y=>x*y % n
inductive E
 |num (c:Int)
 |giv (i:Nat)
 |op (w:Wd) (a b:E)
noncomputable section
def enc:E->D
 |.num c=>.tup [.str "num",.int c]
 |.giv i=>.tup [.str "given",.int i]
 |.op w a b=>.tup [.str w.str,enc a,enc b]
def val(n:Int)(gs:List Int):E->Int
 |.num c=>c % n
 |.giv i=>gs.getD i 0
 |.op w a b=>w.ev n (val n gs a) (val n gs b)
def dp:E->Nat
 |.num _=>0
 |.giv _=>0
 |.op _ a b=>max (dp a) (dp b)+1
def wf(m:Nat):E->Prop
 |.num c=>0<=c/\c < 1000000
 |.giv i=>i < m
 |.op _ a b=>wf m a/\wf m b
def many:E->Nat
 |.num _=>1
 |.giv _=>1
 |.op .times a b=>2*(many a+many b)
 |.op _ a b=>many a+many b
end
variable{EX:D->Mm->Prop}
theorem at2I(x y:Int)(c:Bool):atI [D.int x,D.int y] (if c=true then 1 else 0)=some (D.int (if c=true then y else x)):=by cases c <;> rfl
theorem at4(l:0<=d)(u:d < 4)(x y z t:D):∃w,atI [x,y,z,t] d=some w/\(w=x\/w=y\/w=z\/w=t):=by
 have:d=0\/d=1\/d=2\/d=3:=by lia
 rcases this with rfl|rfl|rfl|rfl
 ·exact⟨x,rfl,by simp⟩
 ·exact⟨y,rfl,by simp⟩
 ·exact⟨z,rfl,by simp⟩
 ·exact⟨t,rfl,by simp⟩
theorem aCv{xs:List D}{d:D}(h:d∈cut xs lo hi):d∈xs:=List.mem_of_mem_drop (aBC h)
theorem tX{xs:List D}:(cut xs lo hi).length<=xs.length:=by unfold cut;simp only[aCX,aCW];lia
mutual
theorem yY:∀d:D,eqD d d=true
 |.non=>by simp[eqD]
 |.bl b=>by simp[eqD]
 |.int i=>by simp[eqD]
 |.str x=>by simp[eqD]
 |.tup xs=>by simp only[eqD];exact fN xs
 |.lst xs=>by simp only[eqD];exact fN xs
 |.fz xs=>by simp only[eqD];exact fN xs
 |.exn c f xs=>by simp only[eqD];rw[fN xs];simp
theorem fN:∀ds:List D,eqDs ds ds=true
 |[]=>by simp[eqDs]
 |d::ds=>by simp only[eqDs,yY d,fN ds,Bool.and_true]
end
variable{x y:W}{Q:W->Mm->Prop}
end LS
namespace LS
open PySem L2 EV
variable{EX:D->Mm->Prop}
end LS
namespace LS
open PySem L2 EV
variable{EX:D->Mm->Prop}
end LS
namespace LS
open PySem L2 EV
variable{EX:D->Mm->Prop}
noncomputable def pl(ps:List Nat)(i:Nat):Nat:=ps.getD i 0
end LS
namespace LS
open PySem L2 EV
variable{EX:D->Mm->Prop}
noncomputable def ho:Dd->Dd->Bool
 |.scale _ _,_=>false
 |.add s _ _ t,.scale s' _=>decide (s'=s) || decide (s'∈t)
 |.add _ _ _ t,.add s' _ _ _=>decide (s'∈t)
end LS
namespace LS
open PySem L2 EV
variable{EX:D->Mm->Prop}
end LS
namespace LS
open PySem L2 EV
end LS
section
open PySem PySem.Spec PyProof.Rows
namespace L2
open AutoSeq1 (wpAny_loadPart')
variable{E:Value->Shared->Prop}
end L2
namespace EV
open L2
section
variable{K:Frag}{a b:Expr}{pos:Pos}{g:FE}
end
variable{EX:D->Mm->Prop}
end EV
end
namespace EV
open PySem
variable{P:List Value->Prop}
theorem exS{k:Nat}(h:∀a us,us.length=k->P (a::us)):∀us:List Value,us.length=k+1->P us
 |a::us,e=>h a us (Nat.succ.inj e)
theorem ex0(h:P [])(us:List Value)(e:us.length=0):P us:=by rw[aCU e];exact h
theorem ex1(h:∀a,P [a]):∀us:List Value,us.length=1->P us:=exS λa=>ex0 (P:=λus=>P (a::us)) (h a)
theorem ex2(h:∀a b,P [a,b]):∀us:List Value,us.length=2->P us:=exS λa=>ex1 (P:=λus=>P (a::us)) (h a)
theorem ex3(h:∀a b c,P [a,b,c]):∀us:List Value,us.length=3->P us:=exS λa=>ex2 (P:=λus=>P (a::us)) (h a)
theorem ex4(h:∀a b c d,P [a,b,c,d]):∀us:List Value,us.length=4->P us:=exS λa=>ex3 (P:=λus=>P (a::us)) (h a)
end EV
set_option maxHeartbeats 4000000
section
open PySem PySem.Spec PyProof.Rows
namespace ZP
variable{E:Value->Shared->Prop}
noncomputable abbrev IsTrip(h:Heap)(T:Addr)(a b c:Value):Prop:=h.get? T=some {cls:=.type "tuple",data:=.seq #[a,b,c]}
set_option genSizeOf false in
set_option genInjectivity false in
structure Ap3(z TI TO i1 i2 i3 l1 l2 l3:Addr):Prop where
 z_TI:z≠TI
 z_TO:z≠TO
 z_i1:z≠i1
 z_i2:z≠i2
 z_i3:z≠i3
 TI_z:TI≠z
 TI_TO:TI≠TO
 TI_i1:TI≠i1
 TI_i2:TI≠i2
 TI_i3:TI≠i3
 TO_z:TO≠z
 TO_TI:TO≠TI
 TO_i1:TO≠i1
 TO_i2:TO≠i2
 TO_i3:TO≠i3
 i1_z:i1≠z
 i1_TI:i1≠TI
 i1_TO:i1≠TO
 i1_i2:i1≠i2
 i1_i3:i1≠i3
 i2_z:i2≠z
 i2_TI:i2≠TI
 i2_TO:i2≠TO
 i2_i1:i2≠i1
 i2_i3:i2≠i3
 i3_z:i3≠z
 i3_TI:i3≠TI
 i3_TO:i3≠TO
 i3_i1:i3≠i1
 i3_i2:i3≠i2
 l1_z:l1≠z
 l1_TI:l1≠TI
 l1_TO:l1≠TO
 l1_i1:l1≠i1
 l1_i2:l1≠i2
 l1_i3:l1≠i3
 l2_z:l2≠z
 l2_TI:l2≠TI
 l2_TO:l2≠TO
 l2_i1:l2≠i1
 l2_i2:l2≠i2
 l2_i3:l2≠i3
 l3_z:l3≠z
 l3_TI:l3≠TI
 l3_TO:l3≠TO
 l3_i1:l3≠i1
 l3_i2:l3≠i2
 l3_i3:l3≠i3
structure Zs3(h:Heap)(z TI TO i1 i2 i3 l1 l2 l3:Addr)(i:Nat)(xs ys us:Array Value):Prop where
 z:∃f0 f1,h.get? z=some (zobj TI TO f0 f1)/\(f0=.none\/∃T:Nat,f0=rawInt T)
 ti:IsTrip h TI (.ref i1) (.ref i2) (.ref i3)
 to:∃a b c,IsTrip h TO a b c
 a:It1 h i1 l1 i xs
 b:It1 h i2 l2 i ys
 c:It1 h i3 l3 i us
end ZP
namespace L2
end L2
namespace EV
open L2
variable{EX:D->Mm->Prop}
section
variable{K:Frag}{a b c:Expr}{pos:Pos}{g k:FE}{tg:Expr}
end
section
variable{g k:FE}
end
end EV
namespace RT
variable{E:Value->Shared->Prop}
end RT
namespace L2
end L2
namespace EV
open L2
variable{K:Frag}{a:Expr}{pos:Pos}{EX:D->Mm->Prop}
end EV
end
namespace EV
open PySem
theorem aFe{k:Nat}{v:Option Value}(hr:L2.Room k A):(A.mark v).units+101 < cLine:=by
 have:=hr.un
 have e:(A.mark v).units<=A.units+50:=by
  first|(rw[Around.mark_units];lia)|(show A.units<=_;lia)
 lia
end EV
section
open PySem PySem.Spec PyProof.Rows
namespace L2
structure CompOkC(p:Str)(N0:List Str)(sc0:Scope)(scope:Scope)(Nc:List Str)(js:List (Option Nat)):Prop where
 kind:scope.kind=.function
 one:scope.names.filter (λy=>y.2==.cell)=[(p,.cell)]
 pc:scope.names.lookup p=some .cell
 names:∀y∈scope.names,y.2=.local->scope.names.lookup y.1=some .local
 free:∀y∈scope.names,y.2=.free->sc0.names.lookup y.1=some .cell
 len:js.length=Nc.length
 slots:∀p∈Nc.zip js,∀j∈p.2,N0[j]?=some p.1/\scope.names.lookup p.1=some .free/\sc0.names.lookup p.1=some .cell
noncomputable def compOkCB(p:Str)(N0:List Str)(sc0 scope:Scope)(Nc:List Str)(js:List (Option Nat)):Bool :=
 decide (scope.kind=.function)&&(scope.names.filter (λy=>y.2==.cell)==[(p,.cell)])&&(scope.names.lookup p==some .cell)&&scope.names.all (λy=>y.2 != .local || scope.names.lookup y.1==some .local)&&scope.names.all (λy=>y.2 != .free || sc0.names.lookup y.1==some .cell) &&
  (js.length==Nc.length)&&(Nc.zip js).all (λp=>match p.2 with|none=>true|some j=>N0[j]?==some p.1&&scope.names.lookup p.1==some .free&&sc0.names.lookup p.1==some .cell)
variable{p:Str}{scope:Scope}
theorem CompOkC.of{N0:List Str}{sc0:Scope}(h:compOkCB p N0 sc0 scope Nc js=true):CompOkC p N0 sc0 scope Nc js:=by
 unfold compOkCB at h
 simp only[aBR,aBE,aDL,aAU]at h
 obtain⟨⟨⟨⟨⟨⟨h1,h2⟩,h7⟩,h3⟩,h4⟩,h5⟩,h6⟩:=h
 refine⟨h1,h2,h7,λy hy e=>?_,λy hy e=>?_,h5,λp hp j hj=>?_⟩
 ·have:=h3 y hy
  simpa[e]using this
 ·have:=h4 y hy
  simpa[e]using this
 ·have:=h6 p hp
  have hj:p.2=some j:=hj
  rw[hj]at this
  simpa[and_assoc]using this
variable{σ:St}{H₂:Hp}{js:List (Option Nat)}{Cc:Addr}{tg iter elt:Expr}{ifs:List Expr}{pos:Pos}{js:List (Option Nat)}{g:TG}{ti:TT}{wi:TI}{pn:Str}
end L2
namespace EV
open L2
variable{K:Frag}{pos:Pos}{pn:Str}
end EV
namespace L2
end L2
namespace EV
open L2
variable{K:Frag}{EX:D->Mm->Prop}
end EV
namespace L2
open PySem.W PySem.Calls Builtin Builtin.ObjectAttr
variable{e:Expr}{pos:Pos}
end L2
namespace L2
noncomputable def strRep(x:Str)(k:Int):Str:=if(k==1 || x.length==0)=true then x else⟨(List.replicate k.toNat x.cps).foldl (·++·) #[]⟩
theorem tT(l:List (Array Nat)):∀(acc:Array Nat) (m:Nat),(∀a∈l,a.size=m)->(l.foldl (·++·) acc).size=acc.size+l.length*m:=by
 induction l with
 |nil=>intro acc m _;simp
 |cons a r ih =>
  intro acc m h
  rw[List.foldl_cons,ih _ m λb hb=>h b (by simp[hb])]
  simp only[Array.size_append,h a (by simp),aBA,Nat.succ_mul]
  lia
end L2
namespace EV
open L2
variable{K:Frag}{a:Expr}{pos:Pos}{EX:D->Mm->Prop}
end EV
end
namespace EV
open PySem
variable{EX:D->Mm->Prop}{gg:FG}{Q:W->Mm->Prop}
end EV
section
open PySem PySem.Spec PyProof.Rows
namespace L2
variable{M:Model}{E:Value->Shared->Prop}{env':Env}{L e:Addr}{P:Addr->Prop}{Q:Unit->Shared->Prop}{σ:List (Option V)}{scope:Scope}{H₂:Hp}{tg iter elt:Expr}{ifs:List Expr}{pos:Pos}{js:List (Option Nat)}{g:TG}{ti:TT}{wi:TI}
end L2
namespace EV
open L2
variable{K:Frag}{pos:Pos}
end EV
namespace L2
structure RoomH(k:Nat)(A:Around):Prop where
 dp:A.depth+3*k+5 < recursionLimit
 un:A.units+16*k+200 < cLine
structure FnOkH(P:Program)(w:World)(K:Frag)(mg:Str->Option Value)(base:Heap)(k:Nat)(f:Addr)(fd:FuncData)(ps:List Str)(sp:Sp):Prop where
 len:∀vs H Q E,sp vs H Q E->vs.length=ps.length
 run:∀(A:Around) (outer:List Env) (s:Shared) (H:Hp) (args:Args) (us:List Value) (vs:List V) (Q:VK) (E:XK),RoomH k A->Env0 P w K mg base A outer s H->BindsTo s fd args (ps.zip us)->Vals vs us->sp vs H Q E ->
  codeAny (model P w) A (.call (.ref f) args) (CR CX0 outer P w H s Q E) s
section
variable{k:Nat}{f:Addr}{pos:Pos}{e:Expr}{es:List Expr}{t:TA}
end
end L2
namespace EV
open L2
variable{K:Frag}{e:Expr}{es:List Expr}{pos:Pos}{fs:FA}{EX:D->Mm->Prop}{Q:W->Mm->Prop}{gg:FG}
end EV
namespace L2
variable{E:Value->Shared->Prop}
end L2
namespace EV
open L2
variable{K:Frag}{EX:D->Mm->Prop}{Q:W->Mm->Prop}
end EV
set_option maxHeartbeats 4000000
namespace L2
variable{E:Value->Shared->Prop}{tg:Expr}
end L2
namespace EV
open L2
variable{EX:D->Mm->Prop}
section
variable{K:Frag}{a b tg:Expr}{pos:Pos}{g:FE}
end
section
variable{g:FE}
end
end EV
end
namespace EV
open PySem
variable{EX:D->Mm->Prop}{gg:FG}{Q:W->Mm->Prop}
theorem Okx.self{o:Oc α}{Q:α->Mm->Prop}(h:Okx EX o Q):Okx EX o λa M=>o=.ok a M/\Q a M:=by
 unfold Okx at h ⊢
 cases o with
 |ok a M=>exact⟨rfl,h⟩
 |ex x M=>exact h
 |bad=>exact h
theorem Chk.app{s:Src}{J:Mm}(h:Chk s M):Chk s (M++J):=λt e=>by
 have:=h t e
 cases t with
 |one t =>
  show(M++J)[t]?=_
  rw[aAW (aAC.mp this).1]
  exact this
 |two t ys =>
  show(M++J)[t]?=_
  rw[aAW (aAC.mp this).1]
  exact this
theorem xP{fi:FI}(h:Okx EX (fi L M) λs M1=>∃g:D->D,s.ds.length<=16777216/\Chk s M1/\(∀d∈s.ds,∀acc,Ok (f (some (.d d)::outL js L) (M1++[acc])) λw M'=>w=.d (g d)/\M'=M1++[acc])/\Q (.d (.lst (s.ds.map g))) M1):Okx EX (eComp (none::js) fi (gN 0) tYes f L M) Q:=by
 refine zR (λi acc L' M'=>∃s M1 g,fi L M=.ok s M1/\(s.ds.length<=16777216/\Chk s M1/\(∀d∈s.ds,∀acc,Ok (f (some (.d d)::outL js L) (M1++[acc])) λw M'=>w=.d (g d)/\M'=M1++[acc])/\Q (.d (.lst (s.ds.map g))) M1)/\acc=(s.ds.take i).map g/\M'=M1/\∃a,L'=a::outL js L) (h.self.mono ?_)
 rintro s M1 ⟨e,g,hz,hc,hf,q⟩
 refine⟨⟨s,M1,g,e,⟨hz,hc,hf,q⟩,rfl,rfl,none,rfl⟩,?_,hz,?_,?_⟩
 ·rintro i acc L' M' hi ⟨s',M1',g',e',_,rfl,rfl,_⟩
  rw[e]at e'
  cases e'
  exact⟨rfl,hc.app,by simp;lia⟩
 ·rintro i d acc L' M' hd ⟨s',M1',g',e',⟨_,_,hf',q'⟩,rfl,rfl,a,rfl⟩
  rw[e]at e'
  cases e'
  refine mM (aI ⟨λ_=>(hf' d (aDO hd) _).mono ?_,λh=>by cases h⟩)
  rintro _ _ ⟨rfl,rfl⟩
  refine⟨_,_,rfl,rfl,s,_,g',e,⟨hz,hc,hf',q'⟩,?_,rfl,_,rfl⟩
  rw[aFE,hd];simp
 ·rintro acc L' M' ⟨s',M1',g',e',⟨_,_,_,q'⟩,rfl,rfl,_⟩
  rw[e]at e'
  cases e'
  rw[aAE]
  exact q'
end EV
section
open PySem PySem.Spec PyProof.Rows
namespace EV
open L2
variable{K:Frag}{EX:D->Mm->Prop}{Q:W->Mm->Prop}
end EV
namespace L2
variable{e st:Expr}{ts:TO}{pos:Pos}
end L2
namespace EV
open L2
variable{K:Frag}{e st:Expr}{fs:FO}{pos:Pos}{EX:D->Mm->Prop}{Q:W->Mm->Prop}
end EV
end
namespace EV
open PySem
end EV
section
open PySem PySem.Spec PyProof.Rows
namespace L2
variable{o i:Expr}{to ti:TE}{pos:Pos}
end L2
namespace EV
open L2
variable{K:Frag}{o i:Expr}{pos:Pos}{EX:D->Mm->Prop}{Q:Out->Mm->Prop}
end EV
namespace L2
variable{E:Value->Shared->Prop}{o:Expr}{lo hi:Option Expr}{to:TE}{tl th:TO}{pos:Pos}
end L2
namespace EV
open L2
variable{K:Frag}{o:Expr}{lo hi:Option Expr}{fl fh:FO}{pos:Pos}{EX:D->Mm->Prop}
end EV
namespace L2
variable{tg:Expr}
end L2
namespace EV
open L2
variable{EX:D->Mm->Prop}{K:Frag}{a b c tg:Expr}{pos:Pos}
end EV
end
namespace HT
open PySem PyProof.Rows
noncomputable def RcLt(A:Around)(s:Shared)(v w:Value)(r:Bool):Prop:=∀(prog:Program) (wo:World) (E:Value->Shared->Prop) (Q:Value->Shared->Prop),Q (.bool r) s->wpAny (model prog wo) A (richCompare .Lt v w) Q E s
inductive LtOk(A:Around)(s:Shared):List Value->List Value->Bool->Prop where
 |nn:LtOk A s [] [] false
 |nc {w ws:_}:LtOk A s [] (w::ws) true
 |cn {v vs:_}:LtOk A s (v::vs) [] false
 |eq {v w vs ws r:_}:SeqAt.EqAt A s v w true->LtOk A s vs ws r->LtOk A s (v::vs) (w::ws) r
 |ne {v w vs ws r:_}:SeqAt.EqAt A s v w false->RcLt A s v w r->LtOk A s (v::vs) (w::ws) r
section
open PySem.SeqAt
open PySem.AutoSeq1 (wpAny_loadPart')
open PySem.MeetsSeq PySem.MeetsSeq2 PySem.MeetsSeq3
end
variable{E:Value->Shared->Prop}
end HT
section
open PySem PySem.Spec PyProof.Rows
namespace EV
open L2
variable{K:Frag}
noncomputable def ltE(x y:D):Option Bool:=match x,y with
 |.int a,.int b=>some (decide (a < b))
 |.bl a,.bl b=>some (decide (b2i a < b2i b))
 |.tup xs,.tup ys=>match intsOf xs,intsOf ys with
  |some ns,some ms=>some (HT.lexLt ns ms)
  |_,_=>none
 |_,_=>none
noncomputable def ltT:List D->List D->Option Bool
 |[],[]=>some false
 |[],_::_=>some true
 |_::_,[]=>some false
 |x::xs,y::ys=>if eqD x y=true then ltT xs ys else ltE x y
variable{EX:D->Mm->Prop}{Q:W->Mm->Prop}
end EV
set_option maxHeartbeats 4000000
end
namespace L2
open PySem PySem.W PyProof.Rows
structure Lin(lt:Nat->Nat->Bool)(n:Nat):Prop where
 tot:∀i j,i < n->j < n->i≠j->lt i j=!lt j i
 tr:∀i j k,i < n->j < n->k < n->lt i j=true->lt j k=true->lt i k=true
structure PPm(n:Nat)(p:Array Nat):Prop where
 sz:p.size=n
 pm:p.toList.Perm (List.range n)
section
variable{lt:Nat->Nat->Bool}{n:Nat}{p:Array Nat}
theorem PPm.of(h:PPm n p){q:Array Nat}(hq:q.Perm p)(hz:q.size=p.size):PPm n q:=⟨hz.trans h.sz,(Array.perm_iff_toList_perm.mp hq).trans h.pm⟩
end
end L2
section
open PySem PySem.Spec PyProof.Rows
namespace L2
open PySem.W
section
variable{E:Value->Shared->Prop}{lt:Nat->Nat->Bool}
end
end L2
namespace EV
open L2 PySem.W
noncomputable def tl:D->List D
 |.tup xs=>xs
 |_=>[]
noncomputable def tLt(xs:List D)(i j:Nat):Bool:=ltT (tl (xs.getD i .non)) (tl (xs.getD j .non))==some true
structure TS(xs:List D):Prop where
 l2:2<=xs.length
 l64:xs.length < 64
 it:∀x∈xs,∃ys zs,x=.tup (.tup ys::zs)/\deps (.tup ys::zs)<=50
 so:∀i j,i < xs.length->j < xs.length->ltT (tl (xs.getD i .non)) (tl (xs.getD j .non))≠none
 lin:Lin (tLt xs) xs.length
variable{K:Frag}{EX:D->Mm->Prop}{Q:W->Mm->Prop}{x:W}
end EV
namespace EV
open L2
variable{K:Frag}{o:Expr}{EX:D->Mm->Prop}{Q:W->Mm->Prop}
end EV
set_option maxHeartbeats 1000000
namespace L2
open AutoSeq1 (wpAny_loadPart')
variable{E:Value->Shared->Prop}
end L2
namespace L2
variable{E:Value->Shared->Prop}
end L2
set_option maxHeartbeats 4000000
namespace L2
end L2
namespace EV
open L2
section
variable{K:Frag}{a b:Expr}{pos:Pos}{g:FE}{EX:D->Mm->Prop}
end
variable{K:Frag}
end EV
namespace L2
variable{E:Value->Shared->Prop}
end L2
namespace EV
open L2
variable{K:Frag}{e:Expr}{pos:Pos}{EX:D->Mm->Prop}
end EV
set_option maxHeartbeats 4000000
namespace L2
noncomputable def nR3(a b c:Int):Nat:=(if a < b then(b - a - 1) / c+1 else 0).toNat
noncomputable def r3(a b c:Int):List Int:=(List.range (nR3 a b c)).map λi=>a+(i:Nat)*c
variable{a b c:Expr}{ta:TA}{pos:Pos}
end L2
namespace EV
open L2
variable{EX:D->Mm->Prop}{K:Frag}{a b c:Expr}{pos:Pos}{Q:W->Mm->Prop}
end EV
namespace EV
open L2
variable{K:Frag}{e:Expr}{es:List Expr}{pos:Pos}{fs:FA}
end EV
set_option maxHeartbeats 4000000
namespace EV
open L2
variable{K:Frag}{e a b o:Expr}{es:List Expr}{pos:Pos}{fs:FA}
section
variable{Q:W->Mm->Prop}{g:FE}{x y:W}
end
variable{K:Frag}{tg:Expr}{K:Frag}{f:Str}
structure OCl(K:Frag)(c:Str)(C:Addr):Prop where
 nm:nsIn K mainGlobals c=some (some (.ref C))
 cl:Cls K C
 nd:c≠"dict"
variable{K:Frag}{f:FE}
section
variable{Q:W->Mm->Prop}{g fv:FE}{F:Fn}{c m:Str}{i:Nat}{ds:List D}{x:D}
end
end EV
set_option maxHeartbeats 4000000
namespace L2
section
variable(P:Program)(w:World)
end
variable{o:HO}{x e:Addr}{o':HO}
section
variable{fs fs' ex ex':List Addr}{h1 h2:Heap}
end
variable{σ:List (Option V)}
section
variable{a b:Expr}{pos:Pos}{tA tB':TT}{rest:List Expr}
end
variable{σ:St}{xs ys:List V}{E:Value->Shared->Prop}
section
variable{rest:List Stmt}{t u:TS}{e:Expr}{pos:Pos}
end
variable{pos:Pos}{tg:Expr}{a b c:Expr}{tc:TE}{K:Frag}{f:Addr}{v:Value}
section
variable{a:Addr}{fs fs':List (Str×V)}
end
section
variable{a:Addr}{fs:List (Str×V)}{f:Str}{v:V}
end
variable{o e value:Expr}{f:Str}{tv:TE}{c:Value}{b:Bool}
section
variable{es:List Expr}{t:TA}
end
section
variable{k:Nat}{f:Addr}{dvs:List V}{E:XK}{x m:Str}{es:List Expr}{t:TA}
end
section
variable{k:Nat}{f:Addr}{ks:List Str}{E:XK}{x m:Str}{kpos:Pos}{es:List Expr}{kws:List Keyword}{t tk:TA}{nm:Option Str}{g:List Value->List Value->List Value}{gV:List V->List V->List V}
end
section
variable{x:Str}{es:List Expr}{t:TA}{id T:String}
end
section
variable{κ:Type}[DecidableEq κ]
noncomputable def valV(kvs:List (κ×V))(k:κ):Option V:=(kvs.find? λkv=>decide (kv.1=k)).map (·.2)
noncomputable def putK(kvs:List (κ×V))(k:κ)(v:V):List (κ×V) :=
 if(kvs.any λkv=>decide (kv.1=k))=true then kvs.map (λkv=>if kv.1=k then(kv.1,v)else kv)else kvs++[(k,v)]
theorem qL{p:κ×V}{r:List (κ×V)}{k:κ}(e:p.1=k):valV (p::r) k=some p.2:=by simp[valV,aDG,e]
theorem qI{p:κ×V}{r:List (κ×V)}{k:κ}(e:¬p.1=k):valV (p::r) k=valV r k:=by simp[valV,aDG,e]
theorem qN(kvs:List (κ×V))(k:κ)(v:V):(putK kvs k v).length<=kvs.length+1:=by
 unfold putK
 split
 ·rw[aBB];lia
 ·rw[aAV,aBA,aDW];lia
theorem RelO.getD{o:Option V}{u:Option Value}{d:V}{d':Value}(r:RelO o u)(rd:RelV d d'):RelV (o.getD d) (u.getD d'):=by
 cases o with
 |none=>cases u with
  |none=>exact rd
  |some _=>exact(show False from r).elim
 |some _=>cases u with
  |none=>exact(show False from r).elim
  |some _=>exact r
theorem KV.val{kvs:List (κ×V)}{vs:List (κ×Value)}(r:KV kvs vs)(k:κ):RelO (valV kvs k) (valueAt vs k):=by
 unfold KV at r
 induction r with
 |nil=>exact True.intro
 |@cons p q ps qs h t ih =>
  obtain⟨h1,h2⟩:=h
  by_cases e:p.1=k
  ·have e':q.1=k:=h1.symm.trans e
   have b:valueAt (q::qs) k=some q.2:=by simp[valueAt,aDG,e']
   rw[qL e,b];exact h2
  ·have e':¬q.1=k:=λz=>e (h1.trans z)
   have b:valueAt (q::qs) k=valueAt qs k:=by simp[valueAt,aDG,e']
   rw[qI e,b];exact ih
theorem KV.any{kvs:List (κ×V)}{vs:List (κ×Value)}(r:KV kvs vs)(k:κ):(kvs.any λkv=>decide (kv.1=k))=vs.any λkv=>decide (kv.1=k):=by
 unfold KV at r
 induction r with
 |nil=>rfl
 |cons h t ih=>rw[List.any_cons,List.any_cons,ih,h.1]
theorem KV.repl{kvs:List (κ×V)}{vs:List (κ×Value)}(r:KV kvs vs)(k:κ)(ry:RelV y u) :
  KV (kvs.map λkv=>if kv.1=k then(kv.1,y)else kv) (vs.map λkv=>if kv.1=k then(kv.1,u)else kv):=by
 unfold KV at r ⊢
 induction r with
 |nil=>exact .nil
 |@cons p q ps qs h t ih =>
  rw[aBM,aBM]
  refine .cons ?_ ih
  obtain⟨h1,h2⟩:=h
  by_cases e:p.1=k
  ·rw[aAG e,aAG (h1.symm.trans e)];exact⟨h1,ry⟩
  ·rw[aAL e,aAL (λz=>e (h1.trans z))];exact⟨h1,h2⟩
theorem KV.put{kvs:List (κ×V)}{vs:List (κ×Value)}(r:KV kvs vs)(k:κ)(ry:RelV y u):KV (putK kvs k y) (stored vs k u):=by
 unfold putK stored
 rw[r.any k]
 by_cases e:(vs.any λkv=>decide (kv.1=k))=true
 ·rw[aAG e,aAG e];exact r.repl k ry
 ·rw[aAL e,aAL e];exact Paired.snoc r ⟨rfl,ry⟩
theorem KV.length{kvs:List (κ×V)}{vs:List (κ×Value)}(r:KV kvs vs):kvs.length=vs.length:=Paired.length r
end
theorem uP{k:Key}(r:RelV (kV k) u):(mixKind P w).is k u=true:=by
 cases k with
 |inl i=>obtain⟨t,e⟩:=(show ∃t,u=Value.int i t from r);subst e;exact qR P w i t
 |inr x=>obtain⟨t,e⟩:=(show ∃t,u=Value.str x t from r);subst e;exact qE P w x t
theorem nR{P:Program}{w:World}:∀{ks:List Key} {us:List Value},Vals (ks.map kV) us->ItemsAre (mixKind P w) ks us
 |[],_,r=>by rw[List.map_nil]at r;cases r;exact .nil
 |k::ks,_,r=>by
  rw[aBM]at r
  cases r with
  |cons h t=>exact .cons (uP h) (nR t)
noncomputable abbrev KT(H:Hp):List (List Key×V)->List (List Key×Addr×Value)->Prop:=Paired λp q=>p.1=q.1/\H q.2.1=some (.tup (p.1.map kV))/\RelV p.2 q.2.2
theorem KT.val{kvs:List (List Key×V)}{xs:List (List Key×Addr×Value)}(r:KT H kvs xs)(k:List Key):RelO (valV kvs k) ((atKey xs k).map (·.2)):=by
 induction r with
 |nil=>exact True.intro
 |@cons p q ps qs h t ih =>
  obtain⟨h1,_,h2⟩:=h
  by_cases e:p.1=k
  ·have e':q.1=k:=h1.symm.trans e
   have b:atKey (q::qs) k=some q.2:=by simp[atKey,aDG,e']
   rw[qL e,b];exact h2
  ·have e':¬q.1=k:=λz=>e (h1.trans z)
   have b:atKey (q::qs) k=atKey qs k:=by simp[atKey,aDG,e']
   rw[qI e,b];exact ih
variable{a:Addr}
theorem aDh{u:HO}(ok:HOk P w H h)(e:Rd H a u):ObjOk P w H h a u:=e.ok ok
theorem pY(ok:HOk P w H h)(e:Rd H a (.dK kvs)):kvs.length<=sizeLine/\(a==sysModules)=false/\∃vs,KV kvs vs/\h.DictOf (mixKind P w) a vs :=
 show ObjOk P w H h a (.dK kvs)from aDh ok e
theorem aHx(ok:HOk P w H h)(e:H a=some (.dK kvs)):kvs.length<=sizeLine/\(a==sysModules)=false/\∃vs,KV kvs vs/\h.DictOf (mixKind P w) a vs:=pY ok (.inl e)
theorem rR{ks:List Key}(ok:HOk P w H h)(e:H a=some (.tup (ks.map kV))):(tupleKind (mixKind P w)).is h ks a:=by
 obtain⟨_,its,r,o,h1,h2,n,h3⟩:=(show ObjOk P w H h a (.tup (ks.map kV))from ok a _ e)
 exact⟨o,its.toArray,n,h1,h2,h3,by simpa using nR r⟩
variable{kvs:List (List Key×V)}
theorem uN(ok:HOk P w H h)(e:Rd H a (.dT kvs)):kvs.length<=sizeLine/\(a==sysModules)=false /\
  ∃xs,KT H kvs xs/\h.DictOfH (tupleKind (mixKind P w)) a xs:=by
 obtain⟨z,y,xs,r,o,es,ep,h1,h2,h3,h4,h5⟩:=(show ObjOk P w H h a (.dT kvs)from aDh ok e)
 refine⟨z,y,xs,r,o,es,ep,h1,h2,h3,h4,λx hx=>?_,h5⟩
 have all:∀{l:List (List Key×V)} {m:List (List Key×Addr×Value)},KT H l m->∀x∈m,(tupleKind (mixKind P w)).is h x.1 x.2.1:=by
  intro l m q
  induction q with
  |nil=>intro x hx;exact nomatch hx
  |@cons p q ps qs hq t ih =>
   intro x hx
   rcases aBH.mp hx with e|hx
   ·subst e
    exact rR ok (by rw[<- hq.1];exact hq.2.1)
   ·exact ih x hx
 exact all r x hx
noncomputable def DGet(H:Hp)(a:Addr)(y:V)(r:Option V):Prop :=
 (∃kvs k,Rd H a (.dK kvs)/\y=kV k/\r=valV kvs k)\/∃kvs k b,Rd H a (.dT kvs)/\y=.ref b/\H b=some (.tup (k.map kV))/\r=valV kvs k
noncomputable def DPut(H:Hp)(a:Addr)(y v:V)(H':Hp):Prop :=
 (∃kvs k,H a=some (.dK kvs)/\y=kV k/\kvs.length < sizeLine/\H'=upd H a (.dK (putK kvs k v))) \/
 ∃kvs k b,H a=some (.dT kvs)/\y=.ref b/\H b=some (.tup (k.map kV))/\kvs.length < sizeLine/\H'=upd H a (.dT (putK kvs k v))
theorem DGet.k{H:Hp}{a:Addr}{kvs:List (Key×V)}{k:Key}(e:H a=some (.dK kvs)):DGet H a (kV k) (valV kvs k):=.inl ⟨kvs,k,.inl e,rfl,rfl⟩
theorem DGet.t{b:Addr}{k:List Key}(e:H a=some (.dT kvs))(eb:H b=some (.tup (k.map kV))):DGet H a (.ref b) (valV kvs k):=.inr ⟨kvs,k,b,.inl e,rfl,eb,rfl⟩
theorem DPut.k{H:Hp}{a:Addr}{kvs:List (Key×V)}{k:Key}{v:V}(e:H a=some (.dK kvs))(hl:kvs.length < sizeLine):DPut H a (kV k) v (upd H a (.dK (putK kvs k v))):=.inl ⟨kvs,k,e,rfl,hl,rfl⟩
variable{v:V}
theorem DPut.t{b:Addr}{k:List Key}(e:H a=some (.dT kvs))(eb:H b=some (.tup (k.map kV)))(hl:kvs.length < sizeLine) :
  DPut H a (.ref b) v (upd H a (.dT (putK kvs k v))):=.inr ⟨kvs,k,b,e,rfl,eb,hl,rfl⟩
variable{r:Value}{o:Option V}
theorem Inv.big(I:Inv X pins σ H s):sysModules < s.heap.objs.size:=by
 have h:mainGlobals < s.heap.objs.size:=(I.mod.glob.keeps I.bk).lt
 exact Nat.lt_trans (by decide) h
theorem vK(hu:A.units+1 < cLine)(I:Inv X pins σ H s)(g:DGet H a y (some v))(ry:RelV y u)(h:∀w' s',Inv X pins σ H s'->RelV v w'->Q w' s') :
  wpAny (model X.prog X.w) A (getItem (.ref a) u) Q E s:=by
 rcases g with⟨kvs,k,e,ey,l⟩|⟨kvs,k,b,e,ey,eb,l⟩
 ·subst ey
  obtain⟨z,hd,vs,rel,dd⟩:=pY I.hok e
  obtain⟨w',hw,rw'⟩:=RelO.some_of (v:=v) (o:=valueAt vs k) (by rw[l];exact rel.val k)
  exact wpAny_getItem_of (uP ry) dd.mapOf hw (h w' _ (I.tok _) rw')
 ·subst ey
  cases(show u=Value.ref b from ry)
  obtain⟨z,hd,xs,rel,dd⟩:=uN I.hok e
  obtain⟨w',hw,rw'⟩:=RelO.some_of (v:=v) (o:=(atKey xs k).map (·.2)) (by rw[l];exact rel.val k)
  obtain⟨p,hp,hp2⟩:=aBS.mp hw
  refine wpAny_getItem_heap (tupleKind_room_in1 hu) (rR I.hok eb) dd hp ?_
  rw[hp2]
  exact h w' _ (I.tok _) rw'
theorem aBf{ob:HO}(I:Inv X pins σ H s)(mu:Mut (H a))(hs:Heap.SameBut a s.heap h')(he:∃q,h'.get? a=some q)(new:ObjOk X.prog X.w (upd H a ob) h' a ob) :
  Inv X pins σ (upd H a ob) {s with heap:=h',toks:=t'} :=
 I.write (x:=a) (e:=a) mu (.inl rfl) (λb q hb z=>(hs.2 b hb).trans z) he new
variable{kvs:List (Key×V)}
theorem aEt{vs:List (Key×Value)}(z:kvs.length<=sizeLine)(hd:(a==sysModules)=false)(rel:KV kvs vs)(dd:h'.DictOf (mixKind P w) a vs) :
  ObjOk P w H' h' a (.dK kvs):=⟨z,hd,vs,rel,dd⟩
section
variable{k:Key}
end
noncomputable def NoSl(i:Expr):Prop:=∀ov iv,subscripted i false ov iv=operate [ov,iv] (getItem ov iv)
theorem aAl{slice:Expr}{T id:String}
  (hl:typeLookup (.type T) "__getitem__"=pure (some (.builtin id)))(hs:NoSl slice)
  (h:wpAny (model prog w) A (eval value env) (λo s₁=>wpAny (model prog w) A (eval slice env) (λi s₂=>s₂.TypeIs o T/\wpAny (model prog w) A (getItem o i) Q E s₂) E s₁) E s) :
  wpAny (model prog w) A (eval (.Subscript value slice pos) env) Q E s:=by
 refine Subscript_ (aCF h (λo s₁ h₁=>aCF h₁ (λi s₂ h₂=>?_) λ_ _ x=>x) λ_ _ x=>x)
 obtain⟨hT,h₂⟩:=h₂
 unfold subscriptTail
 refine aAB ?_
 rw[getitemInPython_of_ne hT.not_modules]
 refine aAB (wpAny_specialOf hT hl ?_)
 have fin:wpAny (model prog w) A (subscripted slice false o i) (λr s₃=>wpAny (model prog w) A (letTemporaryGo value o r >>= λ_=>pure r) Q E s₃) E s₂:=by
  rw[hs o i]
  exact wpAny_operating (aCF h₂ (λr s₃ h₃=>aAB (wpAny_letTemporaryGo (aAD h₃))) λ_ _ x=>x)
 first
  |exact aAD (aAB fin)
  |exact aAB (aAD (aAB fin))
  |exact aAB fin
theorem pQ(I:Inv X pins σ H s)(g:DGet H a y o):s.TypeIs (.ref a) "dict":=by
 rcases g with⟨kvs,k,e,_,_⟩|⟨kvs,k,b,e,_,_,_⟩
 ·obtain⟨_,_,vs,_,dd⟩:=pY I.hok e
  exact dd.typeIs
 ·obtain⟨_,_,xs,_,dd⟩:=uN I.hok e
  exact dd.typeIs
noncomputable def tDGet(td ty:TE):TE:=λσ H Q=>td σ H λx H1=>ty σ H1 λy H2=>∃a v,x=.ref a/\DGet H2 a y (some v)/\Q v H2
variable{o i:Expr}{td ty:TE}
theorem aAj(hu:X.A.units+1 < cLine)(ho:PE X o td)(hi:PE X i ty)(hs:NoSl i):PE X (.Subscript o i pos) (tDGet td ty):=by
 intro pins s σ H Q I h
 refine aAl PySem.F.slot_dict_getitem.lookup hs (thn (ho pins s σ H _ I h) λu s1 ⟨x,H1,I1,rx,q1⟩=>thn (hi pins s1 σ H1 _ I1 q1) λiv s2 ⟨y,H2,I2,ry,a,v,ex,g,q2⟩=>?_)
 subst ex
 obtain rfl:u=Value.ref a:=rx
 exact⟨pQ I2 g,vK hu I2 g ry λw' s3 I3 rw'=>⟨v,H2,I3,rw',q2⟩⟩
theorem zA(h:Heap)(hb:sysModules < h.objs.size):ObjOk P w H (h.push {cls:=.type "dict",data:=.dict #[]}) h.objs.size (.dK []) :=
 ⟨aFF _,beq_eq_false_iff_ne.mpr (Ne.symm (aAO hb)),[],.nil,Heap.DictOf.new h⟩
noncomputable section
def tPairs:List (TE×TE)->St->Hp->(List (V×V)->Hp->Prop)->Prop
 |[],_,H,Q=>Q [] H
 |(tk,tv)::r,σ,H,Q=>tk σ H λx H1=>tv σ H1 λy H2=>tPairs r σ H2 λps H3=>Q ((x,y)::ps) H3
abbrev VV:List (V×V)->List (Value×Value)->Prop:=Paired λp q=>RelV p.1 q.1/\RelV p.2 q.2
def PPs(X:Cx)(pos:Pos)(keys:List (Option Expr))(values:List Expr)(trs:List (TE×TE)):Prop :=
 ∀(pins:List (Addr×Obj)) (s:Shared) (σ:St) (H:Hp) (Q:List (V×V)->Hp->Prop),Inv X pins σ H s->tPairs trs σ H Q ->
  wpAny (model X.prog X.w) X.A (evalPairs (pairTrees keys values X.env pos)) (λvs s'=>∃ps H',Inv X pins σ H' s'/\VV ps vs/\Q ps H') X.xe s
end
theorem vB :PPs X pos [] [] []:=λpins s σ H Q I h=>pairTrees_nil_walk ⟨[],H,I,.nil,h⟩
variable{trs:List (TE×TE)}
theorem fY{k v:Expr}{ks:List (Option Expr)}{vs:List Expr}{tk:TE}(hk:PE X k tk)(hv:PE X v tv)(hr:PPs X pos ks vs trs) :
  PPs X pos (some k::ks) (v::vs) ((tk,tv)::trs):=λpins s σ H Q I h =>
 pairTrees_cons_walk (thn (hk pins s σ H _ I h) λu s1 ⟨x,H1,I1,rx,q1⟩=>thn (hv pins s1 σ H1 _ I1 q1) λw2 s2 ⟨y,H2,I2,ry,q2⟩ =>
  thn (hr pins s2 σ H2 _ I2 q2) λws s3 ⟨ps,H3,I3,rel,q3⟩=>⟨(x,y)::ps,H3,I3,.cons ⟨rx,ry⟩ rel,q3⟩)
noncomputable def mergeK(kvs more:List (Key×V)):List (Key×V):=more.foldl (λacc kv=>putK acc kv.1 kv.2) kvs
theorem KV.merge:∀{more:List (Key×V)} {rs:List (Key×Value)} {kvs:List (Key×V)} {vs:List (Key×Value)},KV more rs->KV kvs vs->KV (mergeK kvs more) (merged vs rs):=by
 intro more rs kvs vs r
 unfold KV at r
 induction r generalizing kvs vs with
 |nil=>intro q;exact q
 |@cons p q ps qs h t ih =>
  intro r0
  have e:KV (putK kvs p.1 p.2) (stored vs q.1 q.2):=by
   have:=r0.put p.1 h.2
   rw[<- h.1];exact this
  exact ih e
theorem iP:∀(more kvs:List (Key×V)),(mergeK kvs more).length<=kvs.length+more.length
 |[],kvs=>by show kvs.length<=kvs.length+0;lia
 |p::r,kvs=>by
  have h1:=iP r (putK kvs p.1 p.2)
  have h2:=qN kvs p.1 p.2
  show(mergeK (putK kvs p.1 p.2) r).length<=_
  rw[aBA];lia
theorem lY{P:Program}{w:World}:∀{kvs:List (Key×V)} {ws:List (Value×Value)},VV (kvs.map λkv=>(kV kv.1,kv.2)) ws->∃rs,Carries (mixKind P w) ws rs/\KV kvs rs
 |[],_,r=>by rw[List.map_nil]at r;cases r;exact⟨[],True.intro,.nil⟩
 |p::kvs,_,r=>by
  rw[aBM]at r
  cases r with
  |@cons a b as bs h t =>
   obtain⟨rs,c,q⟩:=lY (P:=P) (w:=w) t
   obtain⟨b1,b2⟩:=b
   exact⟨(p.1,b2)::rs,⟨uP h.1,rfl,c⟩,.cons ⟨rfl,h.2⟩ q⟩
noncomputable def tDisp(trs:List (TE×TE)):TE:=λσ H Q=>∀p,H p=none->tPairs trs σ (upd H p (.dK [])) λps H2=>H2 p=some (.dK [])/\∃kvs:List (Key×V),ps=kvs.map (λkv=>(kV kv.1,kv.2))/\kvs.length<=15/\Q (.ref p) (upd H2 p (.dK (mergeK [] kvs)))
theorem aBi{keys:List (Option Expr)}{values:List Expr}(h:PPs X pos keys values trs)(hall:keys.all (·.isSome)=true)(hl:keys.length=values.length)(h0:keys≠[])
  (h15:keys.length<=15):PE X (.Dict keys values pos) (tDisp trs):=by
 intro pins s σ H Q I q
 have hn:=I.hok.fresh (aAH s.heap.objs.size)
 have I1:=I.laid (a:=s.heap.objs.size) (o:=.dK []) (h':=s.heap.push {cls:=.type "dict",data:=.dict #[]}) (t':=s.toks) (λ_ _ q=>aAA _ q) (aAH _) (zA s.heap I.big)
 refine wpAny_Dict_walk (knd:=mixKind X.prog X.w) hall hl h0 h15 (thn (h pins _ σ _ _ I1 (q _ hn)) λws s2 ⟨ps,H2,I2,rel,e,kvs,ep,lk,q2⟩=>?_)
 subst ep
 obtain⟨rs,c,rk⟩:=lY (P:=X.prog) (w:=X.w) rel
 obtain⟨z,hd,vs0,r0,dd⟩:=aHx I2.hok e
 cases r0
 refine⟨rs,c,dd,λh' dd' hs=>⟨.ref s.heap.objs.size,_,?_,rfl,q2⟩⟩
 have hz:(mergeK [] kvs).length<=sizeLine:=by
  have h1:=iP kvs []
  rw[aDW]at h1
  rw[aAT];lia
 have he:∃q,h'.get? s.heap.objs.size=some q:=let⟨q,_,_,hq,_⟩:=dd';⟨q,hq⟩
 exact aBf I2 (by rw[e];exact True.intro) hs he (aEt hz hd (rk.merge .nil) dd')
structure M1(X:Cx)(o:Expr)(m:Str)(apos:Pos)(e:Expr)(cpos:Pos):Prop where
 base:attributeBase o m X.env (eval o X.env)=eval o X.env
 few:((backTo cpos (starEach [e] X.env)).all (λx=>!x.1)&&(backToKw cpos (keywordEach [] X.env)).all (λx=>x.1.isSome)
  && decide (([e]:List Expr).length+([]:List Keyword).length+(if([]:List Keyword).isEmpty then 0 else 1) < 30))=true
 line:(apos.endLine==cpos.line)=true
 trees:backTo cpos (starEach [e] X.env)=[(false,eval e X.env)]
structure M2(X:Cx)(o:Expr)(m:Str)(apos:Pos)(e f:Expr)(cpos:Pos):Prop where
 base:attributeBase o m X.env (eval o X.env)=eval o X.env
 few:((backTo cpos (starEach [e,f] X.env)).all (λx=>!x.1)&&(backToKw cpos (keywordEach [] X.env)).all (λx=>x.1.isSome)
  && decide (([e,f]:List Expr).length+([]:List Keyword).length+(if([]:List Keyword).isEmpty then 0 else 1) < 30))=true
 line:(apos.endLine==cpos.line)=true
 trees:backTo cpos (starEach [e,f] X.env)=[(false,eval e X.env),(false,eval f X.env)]
noncomputable def IsD(H:Hp)(a:Addr):Prop:=(∃kvs,Rd H a (.dK kvs))\/∃kvs,Rd H a (.dT kvs)
theorem aDk(I:Inv X pins σ H s)(d:IsD H a) :
  s.TypeIs (.ref a) "dict"/\(∀b,Value.ref a=.ref b->∃ob,s.heap.get? b=some ob/\ob.dict=none)/\(a==sysModules)=false:=by
 rcases d with⟨kvs,e⟩|⟨kvs,e⟩
 ·obtain⟨_,hd,vs,_,dd⟩:=pY I.hok e
  refine⟨dd.typeIs,λb q=>?_,hd⟩
  cases q
  obtain⟨ob,_,_,h1,h2,_⟩:=dd
  exact⟨ob,h1,h2.2.1⟩
 ·obtain⟨_,hd,xs,_,dd⟩:=uN I.hok e
  refine⟨dd.typeIs,λb q=>?_,hd⟩
  cases q
  obtain⟨ob,_,_,h1,h2,_⟩:=dd
  exact⟨ob,h1,h2.2.1⟩
variable{d:V}{o:Option V}
theorem aGk(hu:A.units+1 < cLine)(I:Inv X pins σ H s)(g:DGet H a y o)(ry:RelV y u)(h:∀w' s',Inv X pins σ H s'->RelV (o.getD .non) w'->Q w' s') :
  wpAny (model X.prog X.w) A (call (.builtin "dict.get") [.ref a,u]) Q E s:=by
 rcases g with⟨kvs,k,e,ey,l⟩|⟨kvs,k,b,e,ey,eb,l⟩
 ·subst ey
  obtain⟨z,hd,vs,rel,dd⟩:=pY I.hok e
  refine call_meetsIn aED dd.typeIs PySem.F.entry_dict_get (PySem.F.args_dict_get_2 _ _) (meets_dict_get (mixKind X.prog X.w) a (uP ry) hd) ⟨_,dd.mapOf,h _ _ (I.tok _) ?_⟩
  rw[l]
  exact(rel.val k).getD rfl
 ·subst ey
  cases(show u=Value.ref b from ry)
  obtain⟨z,hd,xs,rel,dd⟩:=uN I.hok e
  refine call_meetsIn aED dd.typeIs PySem.F.entry_dict_get (PySem.F.args_dict_get_2 _ _) (meetsH_dict_get (tupleKind (mixKind X.prog X.w)) a b hd) ⟨tupleKind_room_in1 hu,k,xs,rR I.hok eb,dd,h _ _ (I.tok _) ?_⟩
  rw[l]
  exact(rel.val k).getD rfl
noncomputable def tDGet1(td ty:TE):TE:=λσ H Q=>td σ H λx H1=>∃a,x=.ref a/\IsD H1 a/\ty σ H1 λy H2=>∃o,DGet H2 a y o/\Q (o.getD .non) H2
variable{o f:Expr}{tx:TE}
theorem xH(hu:X.A.units+1 < cLine)(ho:PE X o td)(he:PE X e ty)(m:M1 X o "get" apos e cpos):PE X (.Call (.Attribute o "get" apos) [e] [] cpos) (tDGet1 td ty):=by
 intro pins s σ H Q I h
 refine wpAny_Call_method m.base m.few m.line PySem.F.plainAttrs_dict aED PySem.F.type_dict_get (thn (ho pins s σ H _ I h) λu s1 ⟨x,H1,I1,rx,a,ex,d,q1⟩=>?_)
 subst ex
 obtain rfl:u=Value.ref a:=rx
 obtain⟨t1,t2,_⟩:=aDk I1 d
 refine⟨t1,t2,?_⟩
 rw[m.trees]
 refine aCZ rfl (aEK (aFA (thn (he pins s1 σ H1 _ I1 q1) λiv s2 ⟨y,H2,I2,ry,ov,g,q2⟩=>aFD ?_)))
 exact aGk hu I2 g ry λw' s3 I3 rw'=>⟨_,H2,I3,rw',q2⟩
end L2
end
namespace Att
open PySem PySem.W PySem.Calls PyProof.Rows
variable{E:Value->Shared->Prop}{K:Frag}
end Att
section
open PySem PySem.Spec PyProof.Rows
namespace L2
variable{K:Frag}
section
variable{κ:Type}[DecidableEq κ]
end
end L2
set_option maxHeartbeats 4000000
namespace EV
open L2
variable{K:Frag}{k:List Key}
theorem SameK.dT{xs ys:List (List Key×V)}:SameK (.dT xs) (.dT ys):=⟨λ_ h=>(nomatch h),λ_ _ _ h=>(nomatch h),λ_ _=>⟨ys,rfl⟩⟩
section
variable{K:Frag}{e a b o i:Expr}{pos:Pos}{fv:FE}
end
variable{K:Frag}{K:Frag}{o i:Expr}{pos:Pos}
section
variable{Q:W->Mm->Prop}{fv:FE}
end
end EV
namespace L2
theorem vV(z:Str)(lo hi:Option Int):PySem.Txt.slice z lo hi=⟨((z.cps.toList.drop (HT.sIx z.length 0 lo)).take (HT.sIx z.length z.length hi - HT.sIx z.length 0 lo)).toArray⟩:=by
 obtain⟨h1,h2,h3⟩:=jW lo hi z.length
 have e:Builtin.Str.strSliceIndices lo hi 1 z.length=(List.range (HT.sIx z.length z.length hi - HT.sIx z.length 0 lo)).map (HT.sIx z.length 0 lo+·):=by
  rw[<- sliceRange_one,<- h1,<- h2]
  rfl
 have hl:=HT.sIx_le z.length z.length (aAH _) hi
 unfold PySem.Txt.slice
 rw[e,pick_run]
 split
 ·rename_i h
  simp only[aBB,List.length_range,beq_self_eq_true,Bool.true_and,aDL]at h
  obtain⟨⟨zs⟩⟩:=z
  have hz:Str.length ⟨⟨zs⟩⟩=zs.length:=rfl
  rw[hz]at h hl ⊢
  by_cases h0:zs.length=0
  ·have:zs=[]:=aCU h0
   subst this;simp
  ·rw[show HT.sIx zs.length 0 lo=0 by lia,show HT.sIx zs.length zs.length hi - 0=zs.length by lia]
   simp
 ·rfl
theorem aGh:SlR X (λx lo hi H Q=>∃z,x=.str z/\z.length<=sizeLine/\Q (.str (PySem.Txt.slice z lo hi)) H):=by
 intro pins s σ H x v vl vu lo hi sl Q I rx hs pl pu h
 obtain⟨z,rfl,hz,q⟩:=h
 obtain⟨t,rfl⟩:=rx
 refine⟨"str",_,PySem.F.slot_str_getitem.lookup,typeIs_str _ _ _,?_⟩
 have part:∀{v:Value} {o:Option Int},IsPart v o->∃l:Option (Int×Tok),v=partValue l/\l.map (·.1)=o:=by
  intro v o h
  cases h with
  |none=>exact⟨none,rfl,rfl⟩
  |int i t=>exact⟨some (i,t),rfl,rfl⟩
 obtain⟨l,rfl,e1⟩:=part pl
 obtain⟨u,rfl,e2⟩:=part pu
 subst e1 e2
 exact wpAny_getItem_str_slice (l:=l) (u:=u) (st:=none) hs rfl (post_val_or_str ⟨aAX (PySem.Txt.slice_le z _ _) hz,λt' k=>⟨.str _,H,I.tok k,⟨t',rfl⟩,q⟩⟩)
theorem mZ:CallR X (.type "int") (λxs H Q=>∃z i,xs=[.str z]/\z.length<=640/\PySem.intText? z=some i/\Q (.int i) H):=by
 intro pins s σ H xs us Q I r h
 obtain⟨z,i,rfl,hz,hi,q⟩:=h
 obtain⟨u,rfl,t,rfl⟩:=vals1 r
 exact PySem.W.KIN.call_text hi hz ⟨.int _,H,I.tok _,⟨_,rfl⟩,q⟩
noncomputable section
abbrev TJ:=Str->St->Hp->(Str->Hp->Prop)->Prop
def PJ(X:Cx)(es:List Expr)(t:TJ):Prop :=
 ∀(pins:List (Addr×Obj)) (s:Shared) (σ:St) (H:Hp) (acc:Str) (Q:Str->Hp->Prop),Inv X pins σ H s->t acc σ H Q ->
  wpAny (model X.prog X.w) X.A (joinParts acc (evalEach es X.env)) (EP X pins σ λv H'=>∃out,v=.str out/\Q out H') X.xe s
def fmtV:V->Option Str
 |.str x=>some x
 |.int i=>if i.natAbs.log2 < 1920 then some (toString i)else none
 |_=>none
end
section
variable{e:Expr}{es:List Expr}{t:TJ}{pos:Pos}
theorem aEb:PJ X [] (λacc _ H Q=>acc.length<=sizeLine/\Q acc H):=λpins s σ H acc Q I h=>joinParts_nil ⟨.str acc,H,I.tok _,⟨_,rfl⟩,acc,rfl,h.2⟩ h.1
theorem aHc{y:Str}(hr:PJ X es t):PJ X (.Constant (.str y) j pos::es) (λacc σ H Q=>(acc++y).length<=sizeLine/\t (acc++y) σ H Q):=by
 intro pins s σ H acc Q I h
 show wpAny _ _ (joinParts acc (eval (.Constant (.str y) j pos) X.env::evalEach es X.env)) _ _ s
 refine joinParts_cons (thn (dC (X:=X) (x:=y) (j:=j) (pos:=pos) pins s σ H (λv H'=>v=.str y/\H'=H) I ⟨rfl,rfl⟩) λv s1 ⟨x,H1,I1,r1,e1,e2⟩=>?_)
 subst e1 e2
 obtain⟨t',rfl⟩:=r1
 exact⟨h.1,hr pins s1 σ _ _ Q I1 h.2⟩
theorem aDq(he:PE X e te)(hr:PJ X es t):PJ X (.FormattedValue e (-1) none pos::es) (λacc σ H Q=>te σ H λv H1=>∃y,fmtV v=some y/\y.length<=sizeLine/\(acc++y).length<=sizeLine/\t (acc++y) σ H1 Q):=by
 intro pins s σ H acc Q I h
 show wpAny _ _ (joinParts acc (eval (.FormattedValue e (-1) none pos) X.env::evalEach es X.env)) _ _ s
 refine joinParts_cons (PyProof.Rows.FormattedValue_plain (thn (he pins s σ H _ I h) λv s1 ⟨x,H1,I1,r1,y,e1,hy,hz,q⟩=>?_))
 cases x with
 |str z =>
  simp only[fmtV,aAJ]at e1
  subst e1
  obtain⟨t',rfl⟩:=r1
  exact PyProof.Rows.formatField_str (λt'' tk=>⟨hz,hr pins _ σ _ _ Q (I1.tok _) q⟩) hy
 |int i =>
  simp only[fmtV]at e1
  split at e1
  ·rename_i hi
   cases e1
   obtain⟨t',rfl⟩:=r1
   exact PyProof.Rows.formatField_int_small hi ⟨hz,hr pins _ σ _ _ Q (I1.tok _) q⟩
  ·cases e1
 |_=>simp only[fmtV,reduceCtorEq]at e1
theorem wU{v1 v2:Expr}(h:PJ X (v1::v2::es) t):PE X (.JoinedStr (v1::v2::es) pos) (λσ H Q=>t Str.empty σ H λout H'=>Q (.str out) H'):=by
 intro pins s σ H Q I q
 refine JoinedStr_many (thn (h pins s σ H _ _ I q) λv s1 ⟨x,H1,I1,r1,out,e1,q1⟩=>?_)
 subst e1
 exact⟨_,H1,I1,r1,q1⟩
end
end L2
namespace EV
open L2
section
variable{K:Frag}{e o:Expr}{es:List Expr}{pos:Pos}
noncomputable section
def pSlS(x:W)(lo hi:Option Int)(M:Mm):Oc W:=match x with
 |.d (.str z)=>if z.length<=16777216 then .ok (.d (.str ⟨(cut z.cps.toList lo hi).toArray⟩)) M else .bad
 |x=>pSl x lo hi M
def eSlS(f:FE)(fl fh:FO):FE:=λL M=>(f L M).bind λx M1=>(fl L M1).bind λlo M2=>(fh L M2).bind λhi M3=>pSlS x lo hi M3
theorem aT{lo hi:Option Expr}{fl fh:FO}(he:Ev X K Z e f)(hl:Eo X K Z lo fl)(hh:Eo X K Z hi fh):Ev X K Z (.Subscript e (.Slice lo hi none p2) pos) (eSlS f fl fh):=by
 have h:=zX (p2:=p2) (pos:=pos) (SlR.or (aGh (X:=X)) (SlR.or (aAe (X:=X)) aCi)) he.h hl.h hh.h
 rw[he.k]at h
 refine⟨he.k,cqE h ?_⟩
 rintro σ H Q ⟨μ,M,L,hr,lr,p⟩
 refine⟨μ,M,L,hr,lr,p.bind.imp λμ1 H1 M1 x e1 hr1 _ p1 v rx=>?_⟩
 refine⟨μ1,M1,L,hr1,lr.ext hr.lsts e1,p1.bind.imp λμ2 H2 M2 l e2 hr2 _ p2=>?_⟩
 refine⟨μ2,M2,L,hr2,lr.ext hr.lsts (e1.trans e2),p2.bind.imp λμ3 H3 M3 u e3 hr3 _ p3=>?_⟩
 have rx:=rx.ext hr1.lsts (e2.trans e3)
 cases x with
 |ref i=>exact .inr (.inr (jK hr3 rx p3))
 |ob _ _=>exact .inr (.inr (jK hr3 rx p3))
 |nest _=>exact .inr (.inr (jK hr3 rx p3))
 |d x=>cases x with
  |tup xs =>
   have rx':=rx
   simp only[Rw,Rp]at rx
   obtain⟨a,vs,rfl,q1,r1⟩:=rx
   refine .inr (.inl ⟨a,vs,rfl,SqT.of q1,λhw=>?_,lK hr3 (tZ r1) p3⟩)
   refine p3 μ3 H3 .refl hr3 _ ?_
   rw[wQ (by rw[r1.length];exact hw)]
   exact rx'
  |str z =>
   simp only[Rw,Rp]at rx
   subst rx
   simp only[pSlS]at p3
   split at p3
   ·rename_i hz
    refine .inl ⟨z,rfl,by rw[aAT];exact hz,?_⟩
    rw[vV]
    have hc:z.cps.toList.length=z.length:=by simp[Str.length]
    refine p3 μ3 H3 .refl hr3 _ ?_
    simp only[Rw,Rp,cut,hc]
   ·exact p3.elim
  |_=>exact .inr (.inr (jK hr3 rx p3))
def cIntS(ws:List W)(M:Mm):Oc W:=match ws with
 |[.d (.str z)]=>match PySem.intText? z with
  |some i=>if z.length<=640 then .ok (.d (.int i)) M else .bad
  |none=>.bad
 |ws=>cInt ws M
theorem callIntS:ClG X K Z (.type "int") cIntS:=λhk=>by
 obtain⟨r,h1,h2⟩:=callInt (X:=X) (K:=K) (Z:=Z) hk
 refine⟨_,CallR.or mZ h1,?_⟩
 intro μ H M ws vs Q hr rx p
 by_cases hs:∃z,ws=[.d (.str z)]
 ·obtain⟨z,rfl⟩:=hs
  obtain⟨v,r,e1,e2,e3⟩:=rx
  cases e3;subst e1
  simp only[Rw,Rp]at e2
  subst e2
  simp only[cIntS]at p
  cases q:PySem.intText? z with
  |none=>rw[q]at p;exact p.elim
  |some i =>
   rw[q]at p
   simp only at p
   split at p
   ·rename_i hz
    exact .inl ⟨z,i,rfl,hz,q,p μ H .refl hr _ (by simp[Rw,Rp])⟩
   ·exact p.elim
 ·refine .inr (h2 μ H M ws vs Q hr rx ?_)
  have:cIntS ws M=cInt ws M:=by
   unfold cIntS
   split
   ·rename_i z;exact(hs ⟨z,rfl⟩).elim
   ·rfl
  rw[<- this];exact p
def pInS(x y:W)(M:Mm):Oc W:=match x,y with
 |.d (.str i),.d (.str j)=>.ok (.d (.bl (!(Builtin.Str.occurrences j i 0 j.length 1).isEmpty))) M
 |_,_=>.bad
theorem opInS:OpG X K Z (compareOp .In) pInS:=λhk=>by
 refine⟨_,vH,?_⟩
 intro μ H M x y v u Q hr rx ry p
 cases x with
 |d x=>cases y with
  |d y=>cases x <;> cases y <;> first
   |exact p.elim
   |(simp only[Rw,Rp]at rx ry;exact⟨_,_,rx,ry,p μ H .refl hr _ (by simp[Rw,Rp])⟩)
  |_=>cases x <;> exact p.elim
 |_=>exact p.elim
abbrev FJ:=Str->Lc->Mm->Oc Str
def liftJ(K:Frag)(Z:Zt)(f:FJ):TJ:=λacc σ H Q=>∃μ M L,HR K μ H M/\LR K μ H L σ/\Pst K Z μ H (f acc L M) λμ' H' _ out=>Q out H'
end
structure Ej(X:Cx)(K:Frag)(Z:Zt)(es:List Expr)(f:FJ):Prop where
 k:X.K=K
 h:PJ X es (liftJ K Z f)
noncomputable section
def fmtD:W->Option Str
 |.d (.str x)=>some x
 |.d (.int i)=>if i.natAbs.log2 < 1920 then some (toString i)else none
 |_=>none
def jNil:FJ:=λacc _ M=>if acc.length<=16777216 then .ok acc M else .bad
def jLit(y:Str)(g:FJ):FJ:=λacc L M=>if(acc++y).length<=16777216 then g (acc++y) L M else .bad
def jVal(f:FE)(g:FJ):FJ:=λacc L M=>(f L M).bind λw M1=>match fmtD w with
 |some y=>if y.length<=16777216/\(acc++y).length<=16777216 then g (acc++y) L M1 else .bad
 |none=>.bad
def eJ(g:FJ):FE:=λL M=>(g Str.empty L M).bind λout M1=>.ok (.d (.str out)) M1
end
variable{g:FJ}
theorem cqJ{t t':TJ}(h:PJ X es t)(i:∀acc σ H Q,t' acc σ H Q->t acc σ H Q):PJ X es t':=λpins s σ H acc Q I q=>h pins s σ H acc Q I (i _ _ _ _ q)
theorem yK(hk:X.K=K:=by rfl):Ej X K Z [] jNil:=⟨hk,cqJ aEb λacc σ H Q ⟨μ,M,L,hr,lr,p⟩=>by
 unfold jNil at p
 split at p
 ·rename_i hz;exact⟨by rw[aAT];exact hz,p μ H .refl hr⟩
 ·exact p.elim⟩
theorem sI{y:Str}(hr:Ej X K Z es g):Ej X K Z (.Constant (.str y) j pos::es) (jLit y g):=⟨hr.k,cqJ (aHc hr.h) λacc σ H Q ⟨μ,M,L,hr,lr,p⟩=>by
 unfold jLit at p
 split at p
 ·rename_i hz;exact⟨by rw[aAT];exact hz,μ,M,L,hr,lr,p⟩
 ·exact p.elim⟩
theorem oJ(he:Ev X K Z e f)(hr:Ej X K Z es g):Ej X K Z (.FormattedValue e (-1) none pos::es) (jVal f g):=by
 refine⟨he.k,cqJ (aDq he.h hr.h) ?_⟩
 rintro acc σ H Q ⟨μ,M,L,hr,lr,p⟩
 refine⟨μ,M,L,hr,lr,p.bind.imp λμ1 H1 M1 x e1 hr1 _ p1 v rx=>?_⟩
 cases q:fmtD x with
 |none=>rw[q]at p1;exact p1.elim
 |some y =>
  rw[q]at p1
  simp only at p1
  split at p1
  ·rename_i hz
   have hv:fmtV v=some y:=by
    cases x with
    |d x=>cases x with
     |str z=>simp only[Rw,Rp]at rx;subst rx;exact q
     |int z=>simp only[Rw,Rp]at rx;subst rx;exact q
     |_=>cases q
    |_=>cases q
   exact⟨y,hv,by rw[aAT];exact hz.1,by rw[aAT];exact hz.2,μ1,M1,L,hr1,lr.ext hr.lsts e1,p1⟩
  ·exact p1.elim
theorem nQ{v1 v2:Expr}(h:Ej X K Z (v1::v2::es) g):Ev X K Z (.JoinedStr (v1::v2::es) pos) (eJ g):=by
 refine⟨h.k,cqE (wU h.h) ?_⟩
 rintro σ H Q ⟨μ,M,L,hr,lr,p⟩
 exact⟨μ,M,L,hr,lr,p.bind.imp λμ1 H1 M1 x e1 hr1 _ p1=>p1 μ1 H1 .refl hr1 _ (by simp[Rw,Rp])⟩
end
end EV
namespace L2
noncomputable section
abbrev Tbl:=List (Str×Str)
def tabB(K:Frag)(d:Addr)(tb:Tbl):Bool:=KTD.tabLook KTD.flatLooks (λb=>K.lookup b) d (tb.map λp=>(p.1,PyData.str p.2))
def TabK(K:Frag)(d:Addr)(tb:Tbl):Prop:=tabB K d tb=true
def tbV(tb:Tbl):List (Key×V):=tb.map λq=>(Sum.inr q.1,V.str q.2)
end
variable{σ:St}{d:Addr}{tb:Tbl}
theorem oQ(k:Str):∀tb:Tbl,valV (tbV tb) (Sum.inr k)=(KTD.datumAt k tb).map V.str
 |[]=>rfl
 |(x,z)::tb=>by
  have ih:=oQ k tb
  unfold valV tbV at ih ⊢
  simp only[aBM,aDG,KTD.datumAt]
  by_cases h:k=x
  ·subst h;simp
  ·have h1:¬((Sum.inr x:Key)=Sum.inr k):=λe=>h (by cases e;rfl)
   simp only[aAS h1,aAS h,aBI,aCO]
   exact ih
theorem qX{h:Heap}{k:Str}{P:Value->Prop}:∀tb:Tbl,(∀z t,KTD.datumAt k tb=some z->P (.str z t))->KTD.EachL h k P ((tb.map λp=>(p.1,PyData.str p.2)).map λp=>(p.1,KTD.Dat.flat p.2))
 |[],_=>True.intro
 |[(x,z)],f=>λe=>λt=>f z t (by simp[KTD.datumAt,e])
 |(x,z)::q::tb,f=>by
  by_cases h:k=x
  ·exact KTD.eachL_hit h λt=>f z t (by simp[KTD.datumAt,h])
  ·exact KTD.eachL_miss h (qX (q::tb) λz' t e=>f z' t (by simp only[KTD.datumAt,aAS h,aBI,aCO]at e ⊢;exact e))
theorem uU{h:Heap}{k:Str}{P:Value->Prop}{els:Prop}:∀tb:Tbl,(∀z t,KTD.datumAt k tb=some z->P (.str z t))->(KTD.datumAt k tb=none->els)->KTD.Each h k P els ((tb.map λp=>(p.1,PyData.str p.2)).map λp=>(p.1,KTD.Dat.flat p.2))
 |[],_,g=>g rfl
 |(x,z)::tb,f,g=>by
  by_cases h:k=x
  ·exact KTD.each_hit h λt=>f z t (by simp[KTD.datumAt,h])
  ·exact KTD.each_miss h (uU tb (λz' t e=>f z' t (by simp only[KTD.datumAt,aAS h,aBI,aCO];exact e)) λe=>g (by simp only[KTD.datumAt,aAS h,aBI,aCO];exact e))
theorem nS{k z:Str}:∀tb:Tbl,KTD.datumAt k tb=some z->KTD.inKeys k ((tb.map λp=>(p.1,PyData.str p.2)).map λp=>(p.1,KTD.Dat.flat p.2))=true
 |[],h=>by cases h
 |(x,y)::tb,h=>by
  simp only[KTD.datumAt]at h
  simp only[aBM,KTD.inKeys]
  by_cases e:k=x
  ·simp[e]
  ·simp only[aAS e,aBI,aCO]at h
   rw[nS tb h];simp
theorem qG:∀tb:Tbl,(((tb.map λp=>(p.1,PyData.str p.2)).map λp=>(p.1,KTD.Dat.flat p.2)).all λp=>KTD.plain p.2)=true
 |[]=>rfl
 |_::tb=>by rw[aBM,aBM,aFH,qG tb];rfl
variable{i:Expr}{pos:Pos}{ti:TE}
theorem mF(ht:TabK X.K d tb)(I:Inv X pins σ H s):KTD.Here s.heap s.heap d ((tb.map λp=>(p.1,PyData.str p.2)).map λp=>(p.1,KTD.Dat.flat p.2)) :=
 ⟨(KTD.tab_of_look (λ_ _ h=>KTD.flat_of_looks h) (λb o q=>I.kIn b o q) ht).text,λ_ _ h=>h⟩
theorem aEx(hg:Gl X x)(hm:X.mg x=some (.ref d))(ht:TabK X.K d tb)(hi:PE X i ti)(hs:PlainIx i)(hd:(x==("__debug__":Str))=false) :
  PE X (.Subscript (.Name x p) i pos) (λσ H Q=>ti σ H λy H1=>∃k z,y=.str k/\KTD.datumAt k tb=some z/\Q (.str z) H1):=by
 intro pins s σ H Q I h
 refine Subscript_ (thn (iF (X:=X) (v:=.ref d) hg hm rfl hd pins s σ H (λv H'=>v=.ref d/\H'=H) I ⟨rfl,rfl⟩) λu s1 ⟨x1,H1,I1,r1,e1,e2⟩=>?_)
 subst e1 e2
 cases r1
 refine thn (hi pins s1 σ _ _ I1 h) λiv s2 ⟨y,H2,I2,ry,k,z,ey,e3,q⟩=>?_
 subst ey
 obtain⟨t,rfl⟩:=ry
 exact KTD.item_textA (mF ht I2) (qG tb) (nS tb e3) (qX tb λz' t' e4=>⟨.str z,H2,I2.tok _,by rw[e3]at e4;cases e4;exact⟨t',rfl⟩,q⟩) (hs _ _)
theorem wO(hg:Gl X x)(hm:X.mg x=some (.ref d))(ht:TabK X.K d tb)(hi:PE X i ti)(m:M1 X (.Name x p) "get" apos i cpos)(hd:(x==("__debug__":Str))=false) :
  PE X (.Call (.Attribute (.Name x p) "get" apos) [i] [] cpos) (λσ H Q=>ti σ H λy H1=>∃k,y=.str k/\Q ((KTD.datumAt k tb).elim .non V.str) H1):=by
 intro pins s σ H Q I h
 refine wpAny_Call_method m.base m.few m.line PySem.F.plainAttrs_dict aED PySem.F.type_dict_get (thn (iF (X:=X) (v:=.ref d) hg hm rfl hd pins s σ H (λv H'=>v=.ref d/\H'=H) I ⟨rfl,rfl⟩) λu s1 ⟨x1,H1,I1,r1,e1,e2⟩=>?_)
 subst e1 e2
 cases r1
 have T:=mF ht I1
 refine⟨T.typeIs,T.noDict,?_⟩
 rw[m.trees]
 refine aCZ rfl (aEK (aFA (thn (hi pins s1 σ _ _ I1 h) λiv s2 ⟨y,H2,I2,ry,k,ey,q⟩=>aFD ?_)))
 subst ey
 obtain⟨t,rfl⟩:=ry
 exact KTD.get1_text (mF ht I2) (uU tb (λz t' e=>⟨.str z,H2,I2.tok _,⟨t',rfl⟩,by rw[e]at q;exact q⟩) λe=>⟨.non,H2,I2.tok _,rfl,by rw[e]at q;exact q⟩)
noncomputable def tbT(tb:Tbl):List (TE×TE):=tb.map λq=>(tC (.str q.1),tC (.str q.2))
theorem nU{σ:St}{H:Hp}:∀{tb:Tbl} {Q:List (V×V)->Hp->Prop},Q ((tbV tb).map λkv=>(kV kv.1,kv.2)) H->tPairs (tbT tb) σ H Q
 |[],_,h=>h
 |_::tb,_,h=>nU (tb:=tb) h
theorem xT{keys:List (Option Expr)}{values:List Expr}(h:PPs X pos keys values (tbT tb))(hm:mergeK [] (tbV tb)=tbV tb)(hz:tb.length<=15)(hall:keys.all (·.isSome)=true)(hl:keys.length=values.length)(h0:keys≠[])(h15:keys.length<=15) :
  PE X (.Dict keys values pos) (λ_ H Q=>∀p,H p=none->Q (.ref p) (upd H p (.dK (tbV tb)))):=by
 intro pins s σ H Q I q
 refine aBi h hall hl h0 h15 pins s σ H Q I λp hp=>nU ?_
 refine⟨aW,tbV tb,rfl,by simpa[tbV]using hz,?_⟩
 rw[hm]
 have e:upd (upd H p (.dK [])) p (.dK (tbV tb))=upd H p (.dK (tbV tb)):=by
  funext b
  by_cases hb:b=p
  ·subst hb;rw[aW,aW]
  ·rw[aP hb,aP hb,aP hb]
 rw[e]
 exact q p hp
end L2
namespace EV
open L2
noncomputable def pTab(tb:Tbl)(y:W)(M:Mm):Oc W:=match y with
 |.d (.str k)=>match KTD.datumAt k tb with
  |some z=>.ok (.d (.str z)) M
  |none=>.bad
 |_=>.bad
noncomputable def pTabG(tb:Tbl)(y:W)(M:Mm):Oc W:=match y with
 |.d (.str k)=>.ok (.d ((KTD.datumAt k tb).elim .non D.str)) M
 |_=>.bad
variable{K:Frag}{i:Expr}{pos:Pos}{d:Addr}{tb:Tbl}
theorem aFs(hm:X.mg x=some (.ref d))(ht:TabK K d tb)(hi:Ev X K Z i fi)(hg:Gl X x:=by rfl)(hs:PlainIx i:=by intro _ _;rfl)(hd:(x==("__debug__":Str))=false:=by decide) :
  Ev X K Z (.Subscript (.Name x p) i pos) (e1 (pTab tb) fi):=by
 refine⟨hi.k,cqE (aEx hg hm (hi.k▸ht) hi.h hs hd) ?_⟩
 rintro σ H Q ⟨μ,M,L,hr,lr,p⟩
 refine⟨μ,M,L,hr,lr,p.bind.imp λμ1 H1 M1 y e1 hr1 _ p1 v ry=>?_⟩
 unfold pTab at p1
 split at p1
 ·simp only[Rw,Rp]at ry
  split at p1
  ·rename_i z hz;exact⟨_,z,ry,hz,p1 μ1 H1 .refl hr1 _ (by simp[Rw,Rp])⟩
  ·exact p1.elim
 ·exact p1.elim
theorem vX(hm:X.mg x=some (.ref d))(ht:TabK K d tb)(hi:Ev X K Z i fi)(m:M1 X (.Name x p) "get" apos i cpos:=by exact⟨rfl,rfl,rfl,rfl⟩)(hg:Gl X x:=by rfl)(hd:(x==("__debug__":Str))=false:=by decide) :
  Ev X K Z (.Call (.Attribute (.Name x p) "get" apos) [i] [] cpos) (e1 (pTabG tb) fi):=by
 refine⟨hi.k,cqE (wO hg hm (hi.k▸ht) hi.h m hd) ?_⟩
 rintro σ H Q ⟨μ,M,L,hr,lr,p⟩
 refine⟨μ,M,L,hr,lr,p.bind.imp λμ1 H1 M1 y e1 hr1 _ p1 v ry=>?_⟩
 unfold pTabG at p1
 split at p1
 ·simp only[Rw,Rp]at ry
  rename_i k _
  refine⟨k,ry,p1 μ1 H1 .refl hr1 _ ?_⟩
  cases KTD.datumAt k tb <;> simp[Rw,Rp]
 ·exact p1.elim
variable{keys:List (Option Expr)}{values:List Expr}
theorem aFv(h:PPs X p2 keys values (tbT tb))(hu:X.A.units+101 < cLine)(hi:Ev X K Z i fi)(hs:NoSl i:=by intro _ _;rfl)(hm:mergeK [] (tbV tb)=tbV tb:=by rfl)(hz:tb.length<=15:=by decide)(hall:keys.all (·.isSome)=true:=by rfl)
  (hl:keys.length=values.length:=by rfl)(h0:keys≠[]:=by intro h;cases h)(h15:keys.length<=15:=by decide):Ev X K Z (.Subscript (.Dict keys values p2) i pos) (e1 (pTab tb) fi):=by
 refine⟨hi.k,cqE (aAj (by lia) (xT h hm hz hall hl h0 h15) hi.h hs) ?_⟩
 rintro σ H Q ⟨μ,M,L,hr,lr,p⟩
 intro q hq
 have x:=eK (o:=.dK (tbV tb)) hr hq
 refine⟨μ,M,L,hr.lay hq,lr.ext hr.lsts x,(p.mono x).bind.imp λμ1 H1 M1 y e1 hr1 _ p1 v ry=>?_⟩
 unfold pTab at p1
 split at p1
 ·simp only[Rw,Rp]at ry
  rename_i k _
  subst ry
  split at p1
  ·rename_i z hz2
   have hk:H1 q=some (.dK (tbV tb)):=e1.keep _ _ (hr.out hq) aW
   have:=DGet.k (k:=Sum.inr k) hk
   rw[oQ,hz2]at this
   exact⟨q,_,rfl,this,p1 μ1 H1 .refl hr1 _ (by simp[Rw,Rp])⟩
  ·exact p1.elim
 ·exact p1.elim
theorem vU(h:PPs X p2 keys values (tbT tb))(hu:X.A.units+101 < cLine)(hi:Ev X K Z i fi)(m:M1 X (.Dict keys values p2) "get" apos i cpos:=by exact⟨rfl,rfl,rfl,rfl⟩)(hm:mergeK [] (tbV tb)=tbV tb:=by rfl)(hz:tb.length<=15:=by decide)(hall:keys.all (·.isSome)=true:=by rfl)
  (hl:keys.length=values.length:=by rfl)(h0:keys≠[]:=by intro h;cases h)(h15:keys.length<=15:=by decide):Ev X K Z (.Call (.Attribute (.Dict keys values p2) "get" apos) [i] [] cpos) (e1 (pTabG tb) fi):=by
 refine⟨hi.k,cqE (xH (by lia) (xT h hm hz hall hl h0 h15) hi.h m) ?_⟩
 rintro σ H Q ⟨μ,M,L,hr,lr,p⟩
 intro q hq
 have x:=eK (o:=.dK (tbV tb)) hr hq
 refine⟨q,rfl,.inl ⟨_,.inl aW⟩,μ,M,L,hr.lay hq,lr.ext hr.lsts x,(p.mono x).bind.imp λμ1 H1 M1 y e1 hr1 _ p1 v ry=>?_⟩
 unfold pTabG at p1
 split at p1
 ·simp only[Rw,Rp]at ry
  rename_i k _
  subst ry
  have hk:H1 q=some (.dK (tbV tb)):=e1.keep _ _ (hr.out hq) aW
  have g:=DGet.k (k:=Sum.inr k) hk
  rw[oQ]at g
  refine⟨_,g,p1 μ1 H1 .refl hr1 _ ?_⟩
  cases KTD.datumAt k tb <;> simp[Rw,Rp]
 ·exact p1.elim
end EV
namespace L2
variable{E:Value->Shared->Prop}{e st:Expr}{ts:TO}{pos:Pos}
end L2
namespace EV
open L2
variable{K:Frag}{e st:Expr}{fs:FO}{pos:Pos}
noncomputable abbrev T(l:List Nat):Str:=⟨l.toArray⟩
theorem fE(a b:List Nat):T a++T b=T (a++b):=by
 show(⟨a.toArray++b.toArray⟩:Str)=_
 simp[T]
theorem bE(a:List Nat):Str.length (T a)=a.length:=rfl
theorem aCz{a b:List Nat}:T a=T b ↔ a=b:=⟨λh=>by simpa using congrArg (λs:Str=>s.cps.toList) h,λh=>by rw[h]⟩
theorem aCy(s:Str):s=T s.cps.toList:=by simp[T]
theorem dG(a b:List Nat):(T a==T b)=decide (a=b):=by
 by_cases h:a=b
 ·subst h;simp
 ·have:T a≠T b:=λe=>h (aCz.mp e)
  simp[this,h]
theorem aZ(s:String):(Str.ofString s)=T (s.toList.map Char.toNat):=by rw[Str.ofString_eq_toList]
theorem aIp(n:Nat):(Str.ofString (toString (n:Int)))=T ((Nat.toDigits 10 n).map Char.toNat):=by rw[aCy (Str.ofString (toString (n:Int))),PySem.W.KIN.signs_num]
variable{K:Frag}
noncomputable def cStr(ws:List W)(M:Mm):Oc W:=match ws with
 |[.d (.int i)]=>if i.natAbs.log2 < 1920 then .ok (.d (.str (toString i))) M else .bad
 |_=>.bad
theorem callStr:ClG X K Z (.type "str") cStr:=λhk=>by
 refine⟨_,nW,?_⟩
 intro μ H M ws vs Q hr rx p
 unfold cStr at p
 split at p
 ·obtain⟨v,r,e1,e2,e3⟩:=rx
  cases e3;subst e1
  simp only[Rw,Rp]at e2
  subst e2
  split at p
  ·rename_i hz;exact⟨_,rfl,hz,p μ H .refl hr _ (by simp[Rw,Rp])⟩
  ·exact p.elim
 ·exact p.elim
section
variable{Q:W->Mm->Prop}{QJ:Str->Mm->Prop}{g:FE}{fl fh:FO}{j:FJ}
theorem aFu(z:Okx EX (f L M) λx M1=>Okx EX (fl L M1) λlo M2=>Okx EX (fh L M2) λhi M3=>Okx EX (pSlS x lo hi M3) Q):Okx EX (eSlS f fl fh L M) Q:=aJ (z.mono λ_ _ z=>aJ (z.mono λ_ _ z=>aJ z))
theorem dJ(hz:l.length<=16777216)(q:Q (.d (.str (T (cut l lo hi)))) M):Okx EX (pSlS (.d (.str (T l))) lo hi M) Q:=by
 simp only[pSlS];rw[aAG (show(T l).length<=16777216 from hz)];exact aI q
theorem aAo{xs:List D}(q:Q (.d (.lst (cut xs lo hi))) M):Okx EX (pSlS (.d (.lst xs)) lo hi M) Q:=aHm (x:=.d (.lst xs)) (by simp) rfl q
variable{z:Str}{i:Int}
theorem lJ(h:PySem.intText? z=some i)(hz:z.length<=640)(q:Q (.d (.int i)) M):Okx EX (cIntS [.d (.str z)] M) Q:=by
 simp only[cIntS,h];rw[aAG hz];exact aI q
theorem yT{b:Bool}(q:Q (.d (.int (if b=true then 1 else 0))) M):Okx EX (cIntS [.d (.bl b)] M) Q:=aI q
theorem oH(hz:i.natAbs.log2 < 1920)(q:Q (.d (.str (toString i))) M):Okx EX (cStr [.d (.int i)] M) Q:=by
 simp only[cStr];rw[aAG hz];exact aI q
theorem aEf{i j:Str}(q:Q (.d (.bl (!(Builtin.Str.occurrences j i 0 j.length 1).isEmpty))) M):Okx EX (pInS (.d (.str i)) (.d (.str j)) M) Q:=aI q
theorem kU{k:Int}{c:Nat}(h:atI l k=some c)(hz:l.length<=16777216)(q:Q (.d (.str (T [c]))) M):Okx EX (pIx (.d (.str (T l))) (.d (.int k)) M) Q:=by
 have e:pIx (.d (.str (T l))) (.d (.int k)) M=.ok (.d (.str (T [c]))) M:=by
  simp only[pIx,T,h];rw[aAG (show(T l).length<=16777216 from hz)]
 rw[e];exact aI q
theorem dM(hz:z.length<=16777216)(q:Q (.d (.int z.length)) M):Okx EX (cLen [.d (.str z)] M) Q:=by
 simp only[cLen];rw[aAG hz];exact aI q
theorem aHr(h:Okx EX (j Str.empty L M) λout M1=>Q (.d (.str out)) M1):Okx EX (eJ j L M) Q:=aJ (h.mono λout M1 q=>aI q)
variable{acc:Str}
theorem uB(hz:acc.length<=16777216)(q:QJ acc M):Okx EX (jNil acc L M) QJ:=by unfold jNil;rw[aAG hz];exact aI q
theorem oX{y:Str}(hz:(acc++y).length<=16777216)(h:Okx EX (j (acc++y) L M) QJ):Okx EX (jLit y j acc L M) QJ:=by unfold jLit;rw[aAG hz];exact h
theorem aCt(h:Okx EX (f L M) λw M1=>∃y,fmtD w=some y/\(y.length<=16777216/\(acc++y).length<=16777216)/\Okx EX (j (acc++y) L M1) QJ):Okx EX (jVal f j acc L M) QJ :=
 aJ (h.mono λw M1 ⟨y,e,hz,h⟩=>by rw[e];simp only;rw[aAG hz];exact h)
variable{tb:Tbl}{k:Str}
theorem xR(h:KTD.datumAt k tb=some z)(q:Q (.d (.str z)) M):Okx EX (pTab tb (.d (.str k)) M) Q:=by simp only[pTab,h];exact aI q
theorem oP(q:Q (.d ((KTD.datumAt k tb).elim .non D.str)) M):Okx EX (pTabG tb (.d (.str k)) M) Q:=aI q
end
end EV
namespace LS
open L2 EV
open PySem.NumText
noncomputable section
def isF(c:Nat):Bool:=decide (48<=c/\c<=57)
def dig(n:Nat):List Nat:=(Nat.toDigits 10 n).map Char.toNat
theorem nE(n:Nat):∀c∈dig n,isF c=true:=λc hc=>by
 obtain⟨ch,hch,rfl⟩:=List.mem_map.mp hc
 have:=PyProof.Rows.digit_range (Nat.isDigit_of_mem_toDigits (by decide) (by decide) hch)
 simp[isF,this]
theorem fC{k:Nat}(hk:1<=k)(h:n < 10 ^ k):(dig n).length<=k:=by simpa[dig]using PyProof.Rows.digits10_le hk h
theorem uA(n:Nat):1<=(dig n).length:=by simpa[dig]using PyProof.Rows.tDigits_len_ge 10 n
theorem zN(n:Nat):dig n≠[]:=λh=>by have:=uA n;rw[h]at this;simp at this
theorem aCu(n:Nat):digitsVal (dig n)=n:=PySem.W.KIN.val_back n
theorem kI(h:n < 10):dig n=[48+n]:=by
 have:n=0\/n=1\/n=2\/n=3\/n=4\/n=5\/n=6\/n=7\/n=8\/n=9:=by lia
 rcases this with rfl|rfl|rfl|rfl|rfl|rfl|rfl|rfl|rfl|rfl <;> rfl
theorem rN(h:10<=n):dig n=dig (n / 10)++dig (n % 10):=by
 have t:Nat.toDigits 10 (n / 10)++Nat.toDigits 10 (n % 10)=Nat.toDigits 10 (10*(n / 10)+n % 10):=Nat.toDigits_append_toDigits (by decide) (by lia) (Nat.mod_lt n (by decide))
 rw[Nat.div_add_mod]at t
 simp only[dig,<- t,List.map_append]
theorem xV:∀(n:Nat),n≠0->∃c r,dig n=c::r/\c≠48:=by
 intro n
 induction n using Nat.strongRecOn with
 |_ n ih =>
  intro h0
  by_cases h:n < 10
  ·exact⟨48+n,[],kI h,by lia⟩
  ·obtain⟨c,r,e,hc⟩:=ih (n / 10) (by lia) (by lia)
   exact⟨c,r++dig (n % 10),by rw[rN (by lia),e];rfl,hc⟩
theorem wZ(n:Nat):(dig n).head?=some 48->(dig n).length=1:=by
 intro h
 by_cases h0:n=0
 ·subst h0;rfl
 ·obtain⟨c,r,e,hc⟩:=xV n h0
  rw[e]at h;simp at h;exact(hc h).elim
def num?(most:Nat)(ds:List Nat):Option Nat:=if ds=[]\/most < ds.length\/¬ds.all isF\/(ds.head?=some 48/\1 < ds.length)then none else some (digitsVal ds)
theorem lL{most:Nat}(h:(dig n).length<=most):num? most (dig n)=some n:=by
 unfold num?
 rw[aAL,aCu]
 rintro(h1|h1|h1|⟨h1,h2⟩)
 ·exact zN n h1
 ·lia
 ·exact h1 (aBE.mpr (nE n))
 ·have:=wZ n h1;lia
theorem hG{most:Nat}{ds:List Nat}(h:num? most ds=some n)(hm:most<=640):PySem.intText? (T ds)=some (n:Int)/\ds.length<=640:=by
 unfold num? at h
 split at h
 ·cases h
 ·rename_i hn
  simp only[aAJ]at h
  simp only[not_or,Classical.not_not]at hn
  have e:=intText_digits (x:=T ds) (λc hc=>by simpa[isF]using aBE.mp hn.2.2.1 c (by simpa using hc)) (by simpa using hn.1) (by rw[bE];lia)
  simp only[T]at e
  rw[e,<- h]
  exact⟨rfl,by lia⟩
def sg:Wd->List Nat
 |.sum=>[32,43,32]
 |.less=>[32,45,32]
 |.times=>[32,42,32]
def txt:E->List Nat
 |.num c=>dig c.toNat
 |.giv i=>120::dig i
 |.op w a b=>40::(txt a++(sg w++(txt b++[41])))
def wd?(s:List Nat):Option Wd:=if s=[32,43,32]then some .sum else if s=[32,45,32]then some .less else if s=[32,42,32]then some .times else none
theorem aDe(w:Wd):wd? (sg w)=some w:=by cases w <;> rfl
def rdG(s:List Nat):Option (E×List Nat):=match num? 1 (s.takeWhile isF)with
 |some n=>if n<=7 then some (.giv n,s.dropWhile isF)else none
 |none=>none
def rdN(s:List Nat):Option (E×List Nat):=match num? 6 (s.takeWhile isF)with
 |some n=>some (.num n,s.dropWhile isF)
 |none=>none
def rdP(r:List Nat->Option (E×List Nat))(s:List Nat):Option (E×List Nat):=match r s with
 |some (a,s1)=>match wd? (s1.take 3)with
  |some w=>match r (s1.drop 3)with
   |some (b,s2)=>if s2.take 1=[41]then some (.op w a b,s2.drop 1)else none
   |none=>none
  |none=>none
 |none=>none
def rd:Nat->List Nat->Option (E×List Nat)
 |k,s=>if s.take 1=[40]then(match k with
   |0=>none
   |k+1=>rdP (rd k) (s.drop 1))
  else if s.take 1=[120]then rdG (s.drop 1)else rdN s
def calm(s:List Nat):Prop:=∀c,s.head?=some c->isF c=false
theorem mL{a s:List Nat}(h:∀c∈a,isF c=true)(hs:calm s):(a++s).takeWhile isF=a/\(a++s).dropWhile isF=s:=by
 induction a with
 |nil =>
  cases s with
  |nil=>exact⟨rfl,rfl⟩
  |cons c r =>
   have:=hs c rfl
   simp[aGA,aFZ,this]
 |cons c r ih =>
  have h1:=h c (by simp)
  obtain⟨i1,i2⟩:=ih λx hx=>h x (by simp[hx])
  simp only[aDR,aGA,aFZ,h1,aDE]
  exact⟨by rw[i1],i2⟩
theorem kH:∀(e:E) (k:Nat) (s:List Nat),dp e<=k->wf 8 e->calm s->rd k (txt e++s)=some (e,s)
 |.num c,k,s,hk,hw,hs=>by
  obtain⟨h1,h2⟩:=mL (nE c.toNat) hs
  have hl:(dig c.toNat).length<=6:=fC (by lia) (by have:=hw.2;lia)
  obtain⟨d,r,e⟩:∃d r,dig c.toNat=d::r:=by cases h:dig c.toNat with
   |nil=>exact(zN _ h).elim
   |cons d r=>exact⟨d,r,rfl⟩
  have hd:=nE c.toNat d (by rw[e];simp)
  have hd':48<=d/\d<=57:=by simpa[isF]using hd
  have t1:(dig c.toNat++s).take 1=[d]:=by rw[e];rfl
  show rd k (dig c.toNat++s)=_
  unfold rd
  rw[aAL (by rw[t1];simp;lia),aAL (by rw[t1];simp;lia)]
  unfold rdN
  rw[h1,h2,lL hl]
  simp only[aAJ,aCN,and_true,E.num.injEq]
  have:=hw.1;lia
 |.giv i,k,s,hk,hw,hs=>by
  have hi:i < 8:=hw
  obtain⟨h1,h2⟩:=mL (nE i) hs
  unfold rd
  simp only[txt,aDR,aBU,List.take_zero,aDU,aBV]
  rw[aAL (by simp),aAG (by simp)]
  unfold rdG
  rw[h1,h2,lL (fC (by lia) (by lia)),]
  simp only
  rw[aAG (by lia)]
 |.op w a b,k,s,hk,hw,hs=>by
  simp only[dp]at hk
  obtain⟨k,rfl⟩:∃j,k=j+1:=⟨k - 1,by lia⟩
  unfold rd
  simp only[txt,aDR,aBU,List.take_zero,aDU,aBV,aDE]
  have hb:calm ([41]++s):=λc hc=>by simp at hc;subst hc;rfl
  have ha:calm (sg w++(txt b++([41]++s))):=λc hc=>by cases w <;> (simp[sg]at hc;subst hc;rfl)
  have e1:txt a++(sg w++(txt b++[41]))++s=txt a++(sg w++(txt b++([41]++s))):=by simp
  unfold rdP
  rw[e1,kH a k _ (by lia) hw.1 ha]
  have t3:(sg w++(txt b++([41]++s))).take 3=sg w:=by cases w <;> rfl
  have d3:(sg w++(txt b++([41]++s))).drop 3=txt b++([41]++s):=by cases w <;> rfl
  simp only[t3,aDe,d3,kH b k _ (by lia) hw.2 hb]
  rfl
theorem gC:∀(k:Nat) (s:List Nat) (e:E) (s':List Nat),rd k s=some (e,s')->s' <:+ s
 |k,s,e,s',h=>by
  unfold rd at h
  split at h
  ·cases k with
   |zero=>cases h
   |succ k =>
    simp only at h
    unfold rdP at h
    split at h
    ·rename_i a s1 h1
     split at h
     ·split at h
      ·rename_i b s2 h2
       split at h
       ·simp only[aAJ,aCN]at h
        obtain⟨_,rfl⟩:=h
        exact(aCJ _ _).trans ((gC k _ _ _ h2).trans ((aCJ _ _).trans ((gC k _ _ _ h1).trans (aCJ _ _))))
       ·cases h
      ·cases h
     ·cases h
    ·cases h
  ·split at h
   ·unfold rdG at h
    split at h
    ·split at h
     ·simp only[aAJ,aCN]at h
      obtain⟨_,rfl⟩:=h
      exact(List.dropWhile_suffix _).trans (aCJ _ _)
     ·cases h
    ·cases h
   ·unfold rdN at h
    split at h
    ·simp only[aAJ,aCN]at h
     obtain⟨_,rfl⟩:=h
     exact List.dropWhile_suffix _
    ·cases h
def nw:E->Nat
 |.num _=>1
 |.giv _=>1
 |.op _ a b=>1+nw a+nw b
end
theorem xS:∀(e:E) (k:Nat),dp e<=k->nw e+1<=2 ^ (k+1)
 |.num _,k,_=>by have:=aFQ (n:=2) (by lia) (show 1<=k+1 by lia);simp only[nw];lia
 |.giv _,k,_=>by have:=aFQ (n:=2) (by lia) (show 1<=k+1 by lia);simp only[nw];lia
 |.op _ a b,k,h=>by
  simp only[dp]at h
  obtain⟨j,rfl⟩:∃j,k=j+1:=⟨k - 1,by lia⟩
  have h1:=xS a j (by lia)
  have h2:=xS b j (by lia)
  rw[Nat.pow_succ]
  simp only[nw];lia
theorem gF:∀(e:E),wf 8 e->(txt e).length<=11*nw e
 |.num c,h=>by have:=fC (k:=6) (by lia) (show c.toNat < 10 ^ 6 by have:=h.2;lia);simp only[txt,nw];lia
 |.giv i,h=>by have hi:i < 8:=h;have:=fC (k:=1) (n:=i) (by lia) (by lia);simp only[txt,nw,aBA];lia
 |.op w a b,h=>by
  have h1:=gF a h.1
  have h2:=gF b h.2
  have h3:(sg w).length=3:=by cases w <;> rfl
  simp only[txt,nw,aBA,aAV,aDW,h3]
  lia
end LS
end
namespace LS
open PySem L2 EV
theorem dB(l:List α)(a b:Nat):cut l (some (a:Int)) (some (b:Int))=(l.drop a).take (b - a):=by
 have h:∀d k:Nat,HT.sIx l.length d (some (k:Int))=min k l.length:=by
  intro d k
  simp only[HT.sIx]
  split <;> lia
 unfold cut
 rw[h,h]
 by_cases ha:a<=l.length
 ·rw[show min a l.length=a by lia]
  by_cases hb:b<=l.length
  ·rw[show min b l.length=b by lia]
  ·rw[show min b l.length=l.length by lia,aAQ (by simp),aAQ (by simp;lia)]
 ·rw[show min a l.length=l.length by lia,aCM (aAH _),aCM (by lia)]
  simp
theorem eP{p:Nat->Bool}(l:List Nat)(a:Nat):(l.drop a).take ((l.drop a).takeWhile p).length=(l.drop a).takeWhile p:=by
 have h:=aCS (p:=p) (l:=l.drop a)
 have e:(l.drop a).take ((l.drop a).takeWhile p).length=((l.drop a).takeWhile p++(l.drop a).dropWhile p).take ((l.drop a).takeWhile p).length:=by rw[h]
 rw[e,aGC]
theorem fS{s:List Nat}(h:s <:+ l):l.drop (l.length - s.length)=s:=by
 obtain⟨t,rfl⟩:=h
 simp
end LS
section
open PySem PySem.Spec PyProof.Rows
namespace L2
noncomputable def Its(x:Str):It:=⟨λi _=>i < x.length,λi H v H'=>H'=H/\∃c,x.cps[i]?=some c/\v=.str ⟨#[c]⟩,λi _=>x.length<=i⟩
variable{tg:Expr}
theorem yR(x:Str)(t:Tok)(it:Addr):Turn P w K tg (Its x) [it] it (λi h=>h.IsStrIter it "str_ascii_iterator" x t i)where
 mem:=by simp
 obj:=λi h st b hb=>by
  have e:b=it:=by simpa using hb
  subst e
  obtain⟨o,e,c,d⟩:=st
  exact⟨o,e,λv z=>by rw[d]at z;cases z⟩
 keep:=λi h h' st k=>by
  obtain⟨o,e,r⟩:=st
  exact⟨o,k it (by simp) o e,r⟩
 item:=by
  intro X hP hw hK hc i pins s σ H E I hf st hg
  subst hP hw hK
  have hg:i < x.cps.size:=hg
  obtain⟨f0,f1,f2,f3,f4,f5⟩:=hf it (by simp)
  refine wpAny_pyNext_ascii_item st (c:=x.cps[i]) (by simp[hg]) λh' st' sb=>?_
  have I1:Inv X pins σ H {s with heap:=h',toks:=s.toks+1}:=I.turned (t':=s.toks+1) (λb o hb e=>(sb.2 b hb).trans e) f0 f1 f3 f4 f5
  obtain⟨o,e,c,d⟩:=id st'
  exact⟨_,rfl,uV (s:={s with heap:=h',toks:=s.toks+1}) e c d (by decide) ⟨.str ⟨#[x.cps[i]]⟩,H,I1,⟨_,rfl⟩,⟨rfl,x.cps[i],by simp[hg],rfl⟩,st',λb hb=>(hf b hb).1⟩⟩
 done:=by
  intro X hP hw hK hc i pins s σ H E I hf st hg
  subst hP hw hK
  have hg:x.cps.size<=i:=hg
  obtain⟨f0,f1,f2,f3,f4,f5⟩:=hf it (by simp)
  exact wpAny_pyNext_ascii_end (I.ok.hd hc) st (by simp[hg]) λh' eb=>⟨rfl,I.turned (t':=s.toks) (λb o hb e=>eb b o hb e) f0 f1 f3 f4 f5⟩
 self:=λ_ _ _ _ _ st h=>wpAny_pyIter_striter_ascii st h
variable{l:Expr}{tl:TE}
theorem aFt(hl:PE X l tl):PI X tg l (λσ H R=>tl σ H λx H1=>∃z,x=.str z/\z.cps.all (· < 128)=true/\R (Its z) H1):=by
 intro pins s σ H R I h
 refine thn (hl pins s σ H _ I h) λv s1 ⟨x,H1,I1,r1,z,e,ha,q⟩=>?_
 subst e
 obtain⟨t,rfl⟩:=r1
 refine wpAny_pyIter_ascii ha ?_
 refine⟨s1.heap.objs.size,[s1.heap.objs.size],_,_,H1,rfl,I1.kept (t':=s1.toks) λb o e=>aAA _ e,yR z t _,⟨_,aAI _ rfl,rfl,rfl⟩,λb hb=>?_,q⟩
 have e:b=s1.heap.objs.size:=by simpa using hb
 subst e
 exact I1.fpOk (aAH _) (I1.hok.fresh (aAH _))
end L2
namespace EV
open L2
variable{K:Frag}{e tg:Expr}
noncomputable def sgD(z:Str):List D:=z.cps.toList.map λc=>.str (T [c])
noncomputable def iStr(f:FE):FI:=λL M=>(f L M).bind λw M1=>match w with
 |.d (.str z)=>if z.cps.all (· < 128)=true then .ok ⟨sgD z,none⟩ M1 else .bad
 |_=>.bad
theorem aDy{z:Str}:ItOk K μ H ⟨sgD z,none⟩ (Its z):=by
 refine⟨λ_ _=>True,trivial,λ_ _ _ _ _ _ _=>trivial,λμ1 H1 M1 i hr _ _=>⟨λd hd=>?_,λhl=>by simpa[sgD,Its,Str.length]using hl⟩⟩
 simp only[sgD,aCB,aBS]at hd
 obtain⟨c,hc,rfl⟩:=hd
 have hi:i < z.length:=by have:=(aAC.mp hc).1;simpa[Str.length]using this
 refine⟨hi,λx H2 y=>?_⟩
 obtain⟨rfl,c',hc',rfl⟩:=y
 have e:c'=c:=by
  rw[aFN]at hc
  rw[hc]at hc';cases hc';rfl
 subst e
 exact⟨.refl,hr,by simp[Rp,T]⟩
theorem aEi(h:Ev X K Z e f):Ei X K Z tg e (iStr f):=by
 refine⟨h.k,cqI (aFt (tg:=tg) h.h) ?_⟩
 rintro σ H R ⟨μ,M,L,hr,lr,p⟩
 refine⟨μ,M,L,hr,lr,p.bind.imp λμ1 H1 M1 w e1 hr1 _ p1 v rw'=>?_⟩
 cases w with
 |d x=>cases x with
  |str z =>
   simp only at p1
   split at p1
   ·rename_i hz
    simp only[Rw,Rp]at rw'
    exact⟨z,rw',hz,p1 μ1 H1 .refl hr1 _ aDy⟩
   ·exact p1.elim
  |_=>exact p1.elim
 |_=>exact p1.elim
theorem aAv(h:Okx EX (f L M) λw M1=>∃l:List Nat,w=.d (.str (T l))/\l.all (· < 128)=true/\QI ⟨l.map λc=>.str (T [c]),none⟩ M1):Okx EX (iStr f L M) QI :=
 aJ (h.mono λw M1 ⟨l,e,ha,q⟩=>by subst e;simp only;rw[aAG (by simpa[T]using ha)];exact aI (by simpa[sgD]using q))
variable{K:Frag}{pos:Pos}
theorem yO{k:Nat}{fa:Addr}(Gf:FnOk X.prog X.w X.K X.mg X.base CX0 k fa fd ps (spF K Z0 m Fm))(hr:Room k X.A)(hm:X.mg x=some (.ref fa))(hk:keepIn X.K (.ref fa)=true)(hb:Binds X.K fd ps [])
  (hK:X.K=K:=by rfl)(hg:Gl X x:=by rfl)(hdb:(x==("__debug__":Str))=false:=by decide)
  (hlen:∀ws M,ws.length≠m->Fm ws M=.bad:=by intro ws M h;first|exact aAL h|rfl):Ev X K Z (.Call (.Name x p) [] [] pos) (eA (nx Fm) aNil):=by
 refine⟨hK,cqE (xZ Gf hr hg hm hk hb .nil pass0 hdb) ?_⟩
 rintro σ H Q ⟨μ,M,L,hr,lr,p⟩
 show spF K Z0 m Fm ([]++[]) H Q E0
 have p1:Pst K Z μ H (nx Fm [] M) (Wk K Q):=p
 have p2:Pst K Z0 μ H (Fm [] M) (Wk K Q):=by
  unfold nx at p1
  cases q:Fm [] M with
  |ok w M'=>rw[q]at p1;exact p1
  |ex z M'=>rw[q]at p1;exact p1.elim
  |bad=>rw[q]at p1;exact p1.elim
 refine⟨?_,μ,M,[],hr,rfl,p2⟩
 by_cases hw:([]:List W).length=m
 ·exact hw
 ·rw[hlen [] M hw]at p2;exact p2.elim
end EV
namespace LS
open L2 EV
open PySem.NumText
theorem yJ:∀(k:Nat) (ds:List Nat),ds.length=k->ds≠[]->ds.all isF=true->ds.head?≠some 48->dig (digitsVal ds)=ds/\1<=digitsVal ds:=by
 intro k
 induction k with
 |zero=>intro ds hl hn;exact(hn (aCU hl)).elim
 |succ k ih =>
  intro ds hl hn ha hh
  obtain⟨ds',c,rfl⟩:∃ds' c,ds=ds'++[c]:=⟨ds.dropLast,ds.getLast hn,(List.dropLast_concat_getLast hn).symm⟩
  have hc:isF c=true:=aBE.mp ha c (by simp)
  have hc:48<=c/\c<=57:=by simpa[isF]using hc
  rw[digitsVal_snoc]
  by_cases h0:ds'=[]
  ·subst h0
   have hne:c≠48:=λe=>hh (by simp[e])
   have hv:digitsVal []*10+(c - 48)=c - 48:=by simp[digitsVal]
   rw[hv,kI (by lia)]
   exact⟨by simp;lia,by lia⟩
  ·have hl':ds'.length=k:=by simp at hl;lia
   have hh':ds'.head?≠some 48:=λe=>hh (by rw[List.head?_append,e];rfl)
   have ha':ds'.all isF=true:=by rw[List.all_append]at ha;simp at ha;exact aBE.mpr λx hx=>by simpa using ha.1 x hx
   obtain⟨i1,i2⟩:=ih ds' hl' h0 ha' hh'
   refine⟨?_,by lia⟩
   rw[rN (by lia),show(digitsVal ds'*10+(c - 48)) / 10=digitsVal ds' by lia,show(digitsVal ds'*10+(c - 48)) % 10=c - 48 by lia,i1,kI (by lia)]
   congr 2;lia
theorem jX{most:Nat}{ds:List Nat}(h:num? most ds=some n):ds=dig n/\ds.length<=most:=by
 unfold num? at h
 split at h
 ·cases h
 ·rename_i hn
  simp only[aAJ]at h
  simp only[not_or,Classical.not_not,not_and]at hn
  obtain⟨h1,h2,h3,h4⟩:=hn
  refine⟨?_,by lia⟩
  subst h
  by_cases hh:ds.head?=some 48
  ·have:=h4 hh
   cases ds with
   |nil=>exact(h1 rfl).elim
   |cons c r =>
    simp at hh this
    subst hh this
    rfl
  ·exact(yJ _ ds rfl h1 h3 hh).1.symm
theorem kW:∀(k:Nat) (s:List Nat) (e:E) (s':List Nat),rd k s=some (e,s')->s=txt e++s'/\wf 8 e/\dp e<=k
 |k,s,e,s',h=>by
  unfold rd at h
  split at h
  ·rename_i h40
   obtain⟨r,rfl⟩:∃r,s=40::r:=by
    cases s with
    |nil=>simp at h40
    |cons c r=>simp at h40;subst h40;exact⟨r,rfl⟩
   cases k with
   |zero=>cases h
   |succ k =>
    simp only at h
    unfold rdP at h
    split at h
    ·rename_i a s1 h1
     split at h
     ·rename_i w hw
      split at h
      ·rename_i b s2 h2
       split at h
       ·rename_i h41
        simp only[aAJ,aCN]at h
        obtain⟨rfl,rfl⟩:=h
        obtain⟨e1,w1,d1⟩:=kW k _ _ _ h1
        obtain⟨e2,w2,d2⟩:=kW k _ _ _ h2
        have hsg:s1.take 3=sg w:=by unfold wd? at hw;split at hw <;> (try split at hw) <;> (try split at hw) <;> (try cases hw) <;> assumption
        refine⟨?_,⟨w1,w2⟩,by simp only[dp];lia⟩
        have e3:s1=sg w++s1.drop 3:=by rw[<- hsg];exact(aEF 3 s1).symm
        have e4:s2=[41]++s2.drop 1:=by rw[<- h41];exact(aEF 1 s2).symm
        simp only[aDU,aBV]at e1
        rw[e2]at e3
        simp only[txt]
        rw[e1,e3]
        simp only[aDR,List.append_assoc,List.nil_append]
        congr 4
       ·cases h
      ·cases h
     ·cases h
    ·cases h
  ·split at h
   ·rename_i h120
    obtain⟨r,rfl⟩:∃r,s=120::r:=by
     cases s with
     |nil=>simp at h120
     |cons c r=>simp at h120;subst h120;exact⟨r,rfl⟩
    simp only[aDU,aBV]at h
    unfold rdG at h
    split at h
    ·rename_i n hn
     split at h
     ·rename_i h7
      simp only[aAJ,aCN]at h
      obtain⟨rfl,rfl⟩:=h
      obtain⟨b1,b2⟩:=jX hn
      refine⟨?_,by simp only[wf];lia,by simp[dp]⟩
      simp only[txt,aDR]
      rw[<- b1,aCS]
     ·cases h
    ·cases h
   ·unfold rdN at h
    split at h
    ·rename_i n hn
     simp only[aAJ,aCN]at h
     obtain⟨rfl,rfl⟩:=h
     obtain⟨b1,b2⟩:=jX hn
     refine⟨?_,⟨by lia,?_⟩,by simp[dp]⟩
     ·simp only[txt,aDK]
      rw[<- b1,aCS]
     ·rw[b1]at b2
      have:n < 1000000:=by
       by_cases hb:10 ^ 6<=n
       ·have:=PyProof.Rows.digits10_ge (k:=6) hb
        simp[dig]at b2;lia
       ·lia
      lia
    ·cases h
theorem uX:∀(k:Nat) (s:List Nat) (e:E) (s':List Nat),rd k s=some (e,s')->(∀w a b,e≠.op w a b)->calm s':=by
 intro k s e s' h hne
 have dw:∀r:List Nat,calm (r.dropWhile isF):=by
  intro r
  induction r with
  |nil=>intro c hc;cases hc
  |cons x r ih =>
   intro c hc
   rw[aFZ]at hc
   split at hc
   ·exact ih c hc
   ·rename_i hx;simp at hc;subst hc;simpa using hx
 unfold rd at h
 split at h
 ·cases k with
  |zero=>cases h
  |succ k =>
   simp only at h
   unfold rdP at h
   split at h
   ·split at h
    ·split at h
     ·split at h
      ·simp only[aAJ,aCN]at h
       exact(hne _ _ _ h.1.symm).elim
      ·cases h
     ·cases h
    ·cases h
   ·cases h
 ·split at h
  ·unfold rdG at h
   split at h
   ·split at h
    ·simp only[aAJ,aCN]at h
     obtain⟨_,rfl⟩:=h
     exact dw _
    ·cases h
   ·cases h
  ·unfold rdN at h
   split at h
   ·simp only[aAJ,aCN]at h
    obtain⟨_,rfl⟩:=h
    exact dw _
   ·cases h
theorem uK(e:E)(k:Nat)(s:List Nat)(hk:dp e<=k)(hw:wf 8 e)(hs:(∀w a b,e≠.op w a b)->calm s):rd k (txt e++s)=some (e,s):=by
 cases e with
 |num c=>exact kH _ k s hk hw (hs λ_ _ _ h=>(nomatch h))
 |giv i=>exact kH _ k s hk hw (hs λ_ _ _ h=>(nomatch h))
 |op w a b =>
  simp only[dp]at hk
  obtain⟨k,rfl⟩:∃j,k=j+1:=⟨k - 1,by lia⟩
  unfold rd
  simp only[txt,aDR,aBU,List.take_zero,aDU,aBV,aDE]
  have hb:calm ([41]++s):=λc hc=>by simp at hc;subst hc;rfl
  have ha:calm (sg w++(txt b++([41]++s))):=λc hc=>by cases w <;> (simp[sg]at hc;subst hc;rfl)
  have e1:txt a++(sg w++(txt b++[41]))++s=txt a++(sg w++(txt b++([41]++s))):=by simp
  unfold rdP
  rw[e1,kH a k _ (by lia) hw.1 ha]
  have t3:(sg w++(txt b++([41]++s))).take 3=sg w:=by cases w <;> rfl
  have d3:(sg w++(txt b++([41]++s))).drop 3=txt b++([41]++s):=by cases w <;> rfl
  simp only[t3,aDe,d3,kH b k _ (by lia) hw.2 hb]
  rfl
noncomputable def c40(s:List Nat):Nat:=s.count 40
theorem jJ(a b:List Nat):c40 (a++b)=c40 a+c40 b:=List.count_append
theorem tS:∀e:E,dp e<=c40 (txt e)
 |.num _=>by simp[dp]
 |.giv _=>by simp[dp]
 |.op w a b=>by
  have h1:=tS a
  have h2:=tS b
  have e:c40 (txt (.op w a b))=1+(c40 (txt a)+(c40 (sg w)+(c40 (txt b)+0))):=by
   simp only[txt]
   rw[show(40::(txt a++(sg w++(txt b++[41]))))=[40]++(txt a++(sg w++(txt b++[41])))from rfl]
   rw[jJ,jJ,jJ,jJ]
   rfl
  rw[e];simp only[dp];lia
variable{k:Nat}{s:List Nat}
theorem pB{k':Nat}{r:E×List Nat}(h:rd k s=some r)(hk:c40 s<=k'\/k<=k'):rd k' s=some r:=by
 obtain⟨e,s'⟩:=r
 obtain⟨e1,w,d⟩:=kW _ _ _ _ h
 have hc:=uX _ _ _ _ h
 have:=tS e
 rw[e1,jJ]at hk
 rw[e1]
 exact uK e k' s' (by lia) w hc
noncomputable def rdU(s:List Nat):Option (E×List Nat):=rd s.length s
theorem pL(s:List Nat):c40 s<=s.length:=List.count_le_length
theorem aIg(h:c40 s<=k):rd k s=rdU s:=by
 unfold rdU
 cases q:rd k s with
 |some r=>exact(pB q (.inl (pL s))).symm
 |none =>
  cases q2:rd s.length s with
  |some r=>rw[pB q2 (.inl h)]at q;cases q
  |none=>rfl
theorem zO(s:List Nat):rdU (40::s)=rdP rdU s:=by
 have e:rdU (40::s)=rdP (rd s.length) s:=by
  show rd (s.length+1) (40::s)=_
  unfold rd
  rw[aAG (show List.take 1 (40::s)=[40]from rfl)]
  rfl
 rw[e]
 unfold rdP
 rw[aIg (pL s)]
 cases q:rdU s with
 |none=>rfl
 |some r =>
  obtain⟨a,s1⟩:=r
  simp only
  have hs:s1.drop 3 <:+ s:=(aCJ _ _).trans (gC _ _ _ _ q)
  have:rd s.length (s1.drop 3)=rdU (s1.drop 3):=aIg (aAX (pL _) hs.length_le)
  rw[this]
theorem aBu{ds:List Nat}{n:Nat}:(num? 1 ds=some n/\n<=7) ↔ (num? 6 ds=some n/\n<=7):=by
 constructor
 ·rintro⟨h,h7⟩
  obtain⟨b1,b2⟩:=jX h
  refine⟨?_,h7⟩
  rw[b1];exact lL (fC (by lia) (by lia))
 ·rintro⟨h,h7⟩
  obtain⟨b1,b2⟩:=jX h
  refine⟨?_,h7⟩
  rw[b1];exact lL (fC (by lia) (by lia))
end LS
namespace L2
theorem wT:OpR X (binaryOp .Mult) (λx y H Q=>∃i k,x=.str i/\y=.int k/\(1<=k/\k<=10000/\i.length<=1000)/\Q (.str (strRep i k)) H):=by
 intro pins s σ H x y v u Q I rx ry h
 obtain⟨i,k,rfl,rfl,⟨k1,k2,k3⟩,q⟩:=h
 obtain⟨t,rfl⟩:=rx
 obtain⟨t',rfl⟩:=ry
 have hm:i.length*k.toNat<=1000*10000:=Nat.mul_le_mul k3 (by lia)
 refine P.mul_str (by
   have h1:¬k < -(2 ^ 63:Int):=by lia
   have h2:¬k>=2 ^ 63:=by lia
   rw[aAS h1,aAS h2];rfl) (λ_ _=>?_) (λ_ _=>?_) ?_
 ·intro hh
  have h3:(1000:Int)<=(2 ^ 63 - 1) / k:=(Int.le_ediv_iff_mul_le (by lia)).mpr (by have:(1000:Int)*k<=1000*10000:=Int.mul_le_mul_of_nonneg_left k2 (by lia);lia)
  lia
 ·unfold Builtin.Str.tooLong;rw[aAT];simp only[aCV];lia
 ·rw[aAL (by lia)]
  unfold strRep at q
  split
  ·rename_i hc
   rw[aAG hc]at q
   exact⟨.str i,H,I,⟨t,rfl⟩,q⟩
  ·rename_i hc
   rw[aAL hc]at q
   refine⟨?_,⟨.str _,H,I.tok _,⟨_,rfl⟩,q⟩⟩
   show(List.foldl (·++·) #[] (List.replicate k.toNat i.cps)).size<=sizeLine
   rw[tT _ _ i.length (λa ha=>by rw[(List.mem_replicate.mp ha).2];rfl),aAT]
   simp only[aEE]
   have:=Nat.mul_comm i.length k.toNat
   simp
   lia
theorem wB(l:List (Array Nat)):∀acc:Array Nat,l.foldl (·++·) acc=(acc.toList++(l.map Array.toList).flatten).toArray:=by
 induction l with
 |nil=>intro acc;simp
 |cons a r ih=>intro acc;rw[List.foldl_cons,ih];simp
theorem zE{k:Int}(h:1<=k):strRep (EV.T l) k=EV.T (List.replicate k.toNat l).flatten:=by
 unfold strRep
 split
 ·rename_i hc
  simp only[Bool.or_eq_true,aDL]at hc
  rcases hc with rfl|hc
  ·simp[aCD]
  ·have:l=[]:=aCU hc
   subst this
   simp
 ·rw[wB]
  simp
end L2
namespace EV
open L2
variable{K:Frag}
noncomputable def pRepT(x y:W)(M:Mm):Oc W:=match x,y with
 |.d (.str i),.d (.int k)=>if 1<=k/\k<=10000/\i.length<=1000 then okD (.str (strRep i k)) M else .bad
 |_,_=>.bad
theorem opRepT:OpG X K Z (binaryOp .Mult) pRepT:=λhk=>by
 refine⟨_,wT,?_⟩
 intro μ H M x y v u Q hr rx ry p
 cases x with
 |d x=>cases x with
  |str a=>cases y with
   |d y=>cases y with
    |int b =>
     simp only[pRepT]at p
     split at p
     ·rename_i hz
      simp only[Rw,Rp]at rx ry
      exact⟨_,_,rx,ry,hz,p μ H .refl hr _ (by simp only[Rw,Rp])⟩
     ·exact p.elim
    |_=>exact p.elim
   |_=>exact p.elim
  |_=>exact p.elim
 |_=>exact p.elim
theorem zZ{k:Int}{Q:W->Mm->Prop}(hz:1<=k/\k<=10000/\l.length<=1000)(q:Q (.d (.str (T (List.replicate k.toNat l).flatten))) M):Okx EX (pRepT (.d (.str (T l))) (.d (.int k)) M) Q:=by
 simp only[pRepT];rw[aAG (show 1<=k/\k<=10000/\(T l).length<=1000 from hz),zE hz.1];exact aI q
end EV
namespace LS
open L2 EV
noncomputable def bal(s:List Nat):Int:=(s.count 40:Int) - (s.count 41:Int)
theorem iH(a b:List Nat):bal (a++b)=bal a+bal b:=by simp only[bal,List.count_append];lia
theorem eF(c:Nat)(s:List Nat):bal (c::s)=(if c=40 then 1 else 0) - (if c=41 then 1 else 0)+bal s:=by
 simp only[bal,List.count_cons]
 by_cases h:c=40
 ·subst h;simp;lia
 ·by_cases h':c=41
  ·subst h';simp;lia
  ·simp[h,h']
noncomputable def Bd(k:Int)(s:List Nat):Prop:=∀n,bal (s.take n)<=k
variable{k:Int}{s:List Nat}
theorem Bd.open(h:Bd (k+1) (40::s)):Bd k s:=λn=>by
 have:=h (n+1)
 rw[aBU,eF]at this
 simp at this;lia
theorem Bd.none(h:Bd 0 s):¬s.take 1=[40]:=λe=>by have:=h 1;rw[e]at this;exact absurd this (by decide)
theorem Bd.app{a:List Nat}(h:Bd k (a++s))(z:bal a=0):Bd k s:=λn=>by
 have:=h (a.length+n)
 rw[aEO,iH]at this
 rw[aAQ (by lia),z,aAP]at this
 lia
theorem dF{s:List Nat}(h:∀c∈s,c≠40/\c≠41):bal s=0:=by
 have h1:s.count 40=0:=List.count_eq_zero.mpr λz=>(h 40 z).1 rfl
 have h2:s.count 41=0:=List.count_eq_zero.mpr λz=>(h 41 z).2 rfl
 simp[bal,h1,h2]
theorem iM(n:Nat):∀c∈dig n,c≠40/\c≠41:=λc hc=>by
 have:=nE n c hc
 simp[isF]at this;lia
theorem kE(w:Wd):∀c∈sg w,c≠40/\c≠41:=by cases w <;> decide
theorem jG:∀e:E,bal (txt e)=0
 |.num c=>dF (iM _)
 |.giv i=>by simp only[txt,eF];rw[dF (iM i)];decide
 |.op w a b=>by
  simp only[txt,eF,iH]
  rw[jG a,jG b,dF (kE w)];decide
theorem tJ:∀e:E,Bd (dp e) (txt e)
 |.num c=>λn=>by simp only[txt];rw[dF λc hc=>iM _ c (aBC hc)];simp[dp]
 |.giv i=>λn=>by
  cases n with
  |zero=>simp[bal,dp]
  |succ n =>
   simp only[txt,aBU,eF]
   rw[dF λc hc=>iM _ c (aBC hc)];simp[dp]
 |.op w a b=>λn=>by
  have h1:=tJ a
  have h2:=tJ b
  cases n with
  |zero=>simp[bal]
  |succ n =>
   simp only[txt,aBU,eF,aEO,iH]
   rw[dF λc hc=>kE w c (aBC hc)]
   have e41:bal (List.take (n - (txt a).length - (sg w).length - (txt b).length) [41])<=0:=by
    cases(n - (txt a).length - (sg w).length - (txt b).length)with
    |zero=>simp[bal]
    |succ m=>simp only[aBU,List.take_nil];decide
   simp only[dp]
   by_cases hn:n<=(txt a).length
   ·have:=h1 n
    rw[show n - (txt a).length=0 by lia]
    rw[show n - (txt a).length=0 by lia]at e41
    simp[bal]at e41 this ⊢;lia
   ·rw[aAQ (show(txt a).length<=n by lia),jG a]
    have:=h2 (n - (txt a).length - (sg w).length)
    simp;lia
theorem mC:∀e:E,∃n,(dp e:Int)<=bal ((txt e).take n)
 |.num c=>⟨0,by simp[dp,bal]⟩
 |.giv c=>⟨0,by simp[dp,bal]⟩
 |.op w a b=>by
  by_cases h:dp b<=dp a
  ·obtain⟨n,hn⟩:=mC a
   refine⟨min n (txt a).length+1,?_⟩
   simp only[txt,aBU,eF,aEO,iH]
   rw[show min n (txt a).length - (txt a).length=0 by lia]
   have e:(txt a).take (min n (txt a).length)=(txt a).take n:=by
    by_cases hl:n<=(txt a).length
    ·rw[aEX hl]
    ·rw[aEP (by lia),aAQ (by lia),aAQ (by lia)]
   rw[e]
   simp only[dp]
   simp[bal]at hn ⊢;lia
  ·obtain⟨n,hn⟩:=mC b
   refine⟨(txt a).length+((sg w).length+min n (txt b).length)+1,?_⟩
   simp only[txt,aBU,eF,aEO,iH]
   rw[aAQ (show(txt a).length<=_ by lia),jG a,aAP,aAQ (show(sg w).length<=_ by lia),dF (kE w),aAP,show min n (txt b).length - (txt b).length=0 by lia]
   have e:(txt b).take (min n (txt b).length)=(txt b).take n:=by
    by_cases hl:n<=(txt b).length
    ·rw[aEX hl]
    ·rw[aEP (by lia),aAQ (by lia),aAQ (by lia)]
   rw[e]
   simp only[dp]
   simp[bal]at hn ⊢;lia
variable{k:Nat}
theorem yX{e:E}(h:Bd k (txt e++s)):dp e<=k:=by
 obtain⟨n,hn⟩:=mC e
 have:=h (min n (txt e).length)
 rw[aEO,show min n (txt e).length - (txt e).length=0 by lia]at this
 have e':(txt e).take (min n (txt e).length)=(txt e).take n:=by
  by_cases hl:n<=(txt e).length
  ·rw[aEX hl]
  ·rw[aEP (by lia),aAQ (by lia),aAQ (by lia)]
 rw[e']at this
 simp at this;lia
theorem aIu(h:Bd k s):rd k s=rdU s:=by
 unfold rdU
 cases q:rd k s with
 |some r=>exact(pB q (.inl (pL s))).symm
 |none =>
  cases q2:rd s.length s with
  |none=>rfl
  |some r =>
   obtain⟨e,s'⟩:=r
   obtain⟨e1,w,d⟩:=kW _ _ _ _ q2
   have hc:=uX _ _ _ _ q2
   rw[e1]at h
   have:=uK e k s' (yX h) w hc
   rw[<- e1,q]at this;cases this
theorem aGl{s':List Nat}{e:E}(h:rd k s=some (e,s')){m:Int}(b:Bd m s):Bd m s':=by
 obtain⟨e1,_,_⟩:=kW _ _ _ _ h
 rw[e1]at b
 exact b.app (jG e)
theorem Bd.drop3{k:Int}{w:Wd}(h:Bd k s)(hw:wd? (s.take 3)=some w):Bd k (s.drop 3):=by
 have:s.take 3=sg w:=by unfold wd? at hw;split at hw <;> (try split at hw) <;> (try split at hw) <;> (try cases hw) <;> assumption
 rw[<- aEF 3 s]at h
 exact h.app (by rw[this];exact dF (kE w))
end LS
set_option maxHeartbeats 4000000
end
namespace K07
open PySem L2 EV
noncomputable section
def top(i:Nat):Stmt:=PySem.Challenge.pw_lentshelf_k07_texts_of_no_expression.main.body.getD i (.Pass ⟨0,0,0,0⟩)
abbrev bF:Stmt:=top 13
abbrev bQ:Stmt:=top 14
abbrev bT:Stmt:=top 21
abbrev bU:Stmt:=top 22
abbrev bP:Stmt:=top 23
abbrev bS:Stmt:=top 24
abbrev bK:Stmt:=top 25
abbrev bZ:Stmt:=top 26
abbrev dU:Stmt:=top 28
abbrev dA:Stmt:=top 29
abbrev cV:Stmt:=top 30
abbrev cK:Stmt:=top 31
abbrev cY:Stmt:=top 32
abbrev cH:Stmt:=top 33
abbrev cZ:Stmt:=top 34
abbrev dS:Stmt:=top 35
abbrev bV:Stmt:=top 36
abbrev cJ:Stmt:=top 37
abbrev dW:Stmt:=top 38
abbrev cA:Stmt:=top 39
abbrev cW:Stmt:=top 40
abbrev iB:Stmt:=top 41
abbrev cD:Stmt:=inClass (top 4) 0
def b_0:FS :=
 (sSeq (sAs (eV 1) (gN 2))
  (sSeq (whileD (EV.tAnd (EV.tB (e2 pLt (eV 2) (eA cLen (aCons (eV 0) aNil)))) (EV.tB (e2 pInS (e2 pIx (eV 0) (eV 2)) (eC (.str "0123456789")))))
  (sAug (pI (λ_ _=>true) λi j=>.int (i+j)) 2 (eC (.int 1))) NW)
  (sRt (eV 2))))
def cB:Fn:=fnD 2 3 b_0
theorem eG{ws:List W}(h:ws.length≠2):cB ws M=.bad:=aAL h
def b_1:FS :=
 (sSeq (sIf (EV.tOr (EV.tB (e2 pEq (eV 0) (eC (.str "")))) (EV.tB (e2 pGt (eA cLen (aCons (eV 0) aNil)) (eV 1))))
  (sRt (eC .non))
  sNil)
  (sSeq (sIf (EV.tB (e2 pLt (eA cB (aCons (eV 0) (aCons (eC (.int 0)) aNil))) (eA cLen (aCons (eV 0) aNil))))
  (sRt (eC .non))
  sNil)
  (sSeq (sIf (EV.tAnd (EV.tB (e2 pEq (e2 pIx (eV 0) (eC (.int 0))) (eC (.str "0")))) (EV.tB (e2 pGt (eA cLen (aCons (eV 0) aNil)) (eC (.int 1)))))
  (sRt (eC .non))
  sNil)
  (sRt (eA cIntS (aCons (eV 0) aNil))))))
def dD:Fn:=fnD 2 2 b_1
theorem iQ{ws:List W}(h:ws.length≠2):dD ws M=.bad:=aAL h
def b_2(r_show_expr:Fn):FS :=
 (sSeq (sIf (EV.tB (e2 pEq (e2 pIx (eV 0) (eC (.int 0))) (eC (.str "num"))))
  (sRt (eA cStr (aCons (e2 pIx (eV 0) (eC (.int 1))) aNil)))
  sNil)
  (sSeq (sIf (EV.tB (e2 pEq (e2 pIx (eV 0) (eC (.int 0))) (eC (.str "given"))))
  (sRt (eJ (jLit "x" (jVal (e2 pIx (eV 0) (eC (.int 1))) jNil))))
  sNil)
  (sRt (eJ (jLit "(" (jVal (eA r_show_expr (aCons (e2 pIx (eV 0) (eC (.int 1))) aNil)) (jVal (e1 (pTab [("sum"," + "),("less"," - "),("times"," * ")]) (e2 pIx (eV 0) (eC (.int 0)))) (jVal (eA r_show_expr (aCons (e2 pIx (eV 0) (eC (.int 2))) aNil)) (jLit ")" jNil)))))))))
def bI:Nat->Fn
 |0=>λ_ _=>.bad
 |d+1=>fnD 1 1 (b_2 (bI d))
theorem fL:∀{d:Nat} {ws:List W} {M:Mm},ws.length≠1->bI d ws M=.bad
 |0,_,_,_=>by simp only[bI]
 |d+1,_,_,h=>by simp only[bI];exact aAL h
def b_7:FS :=
 (sSeq (sAs (eA (nx cB) (aCons (eV 0) (aCons (eV 1) aNil))) (gN 2))
  (sSeq (sAs (eA (nx dD) (aCons (eSlS (eV 0) (oAt (eV 1)) (oAt (eV 2))) (aCons (eC (.int 6)) aNil))) (gN 3))
  (sSeq (sIf (EV.tB (e2 pIs (eV 3) (eC .non)))
  (sRaise "BadText" "row" (eC (.int 0)))
  sNil)
  (sRt (eA mkT (aCons (eA mkT (aCons (eC (.str "num")) (aCons (eV 3) aNil))) (aCons (eV 2) aNil)))))))
def eS:Fn:=fnX 2 4 b_7
theorem oE{ws:List W}(h:ws.length≠2):eS ws M=.bad:=gM h
def b_6:FS :=
 (sSeq (sAs (eA (nx cB) (aCons (eV 0) (aCons (eV 1) aNil))) (gN 2))
  (sSeq (sAs (eA (nx dD) (aCons (eSlS (eV 0) (oAt (eV 1)) (oAt (eV 2))) (aCons (eC (.int 1)) aNil))) (gN 3))
  (sSeq (sIf (EV.tOr (EV.tB (e2 pIs (eV 3) (eC .non))) (EV.tB (e2 pGt (eV 3) (eC (.int 7)))))
  (sRaise "BadText" "row" (eC (.int 0)))
  sNil)
  (sRt (eA mkT (aCons (eA mkT (aCons (eC (.str "given")) (aCons (eV 3) aNil))) (aCons (eV 2) aNil)))))))
def dN:Fn:=fnX 2 4 b_6
theorem lX{ws:List W}(h:ws.length≠2):dN ws M=.bad:=gM h
def b_5(r_read_pair:Fn)(r_read_part:Fn):FS :=
 (sSeq (sIf (EV.tB (e2 pGt (eV 2) (eC (.int 20))))
  (sRaise "BadText" "row" (eC (.int 0)))
  sNil)
  (sSeq (sAs (eA r_read_part (aCons (eV 0) (aCons (eV 1) (aCons (eV 2) aNil)))) (gT 2 (gsCons (gN 3) (gsCons (gN 1) gsNil))))
  (sSeq (sAs (e1 (pTabG [(" + ","sum"),(" - ","less"),(" * ","times")]) (eSlS (eV 0) (oAt (eV 1)) (oAt (e2 pAdd (eV 1) (eC (.int 3)))))) (gN 4))
  (sSeq (sIf (EV.tB (e2 pIs (eV 4) (eC .non)))
  (sRaise "BadText" "row" (eC (.int 0)))
  sNil)
  (sSeq (sAs (eA r_read_part (aCons (eV 0) (aCons (e2 pAdd (eV 1) (eC (.int 3))) (aCons (eV 2) aNil)))) (gT 2 (gsCons (gN 5) (gsCons (gN 1) gsNil))))
  (sSeq (sIf (EV.tB (e2 pNe (eSlS (eV 0) (oAt (eV 1)) (oAt (e2 pAdd (eV 1) (eC (.int 1))))) (eC (.str ")"))))
  (sRaise "BadText" "row" (eC (.int 0)))
  sNil)
  (sRt (eA mkT (aCons (eA mkT (aCons (eV 4) (aCons (eV 3) (aCons (eV 5) aNil)))) (aCons (e2 pAdd (eV 1) (eC (.int 1))) aNil))))))))))
def b_4(r_read_pair:Fn)(r_read_part:Fn):FS :=
 (sSeq (sAs (eSlS (eV 0) (oAt (eV 1)) (oAt (e2 pAdd (eV 1) (eC (.int 1))))) (gN 3))
  (sSeq (sIf (EV.tB (e2 pEq (eV 3) (eC (.str "("))))
  (sRt (eA r_read_pair (aCons (eV 0) (aCons (e2 pAdd (eV 1) (eC (.int 1))) (aCons (e2 pAdd (eV 2) (eC (.int 1))) aNil)))))
  sNil)
  (sSeq (sIf (EV.tB (e2 pEq (eV 3) (eC (.str "x"))))
  (sRt (eA dN (aCons (eV 0) (aCons (e2 pAdd (eV 1) (eC (.int 1))) aNil))))
  sNil)
  (sRt (eA eS (aCons (eV 0) (aCons (eV 1) aNil)))))))
end
mutual
noncomputable def bR:Nat->Fn
 |0=>λ_ _=>.bad
 |d+1=>fnX 3 6 (b_5 (bR d) (bD d))
noncomputable def bD:Nat->Fn
 |0=>λ_ _=>.bad
 |d+1=>fnX 3 4 (b_4 (bR d) (bD d))
end
theorem nC:∀{d:Nat} {ws:List W} {M:Mm},ws.length≠3->bR d ws M=.bad
 |0,_,_,_=>by simp only[bR]
 |d+1,_,_,h=>by simp only[bR];exact gM h
theorem fG:∀{d:Nat} {ws:List W} {M:Mm},ws.length≠3->bD d ws M=.bad
 |0,_,_,_=>by simp only[bD]
 |d+1,_,_,h=>by simp only[bD];exact gM h
noncomputable section
def b_3:FS :=
 (sSeq (sAs (eA (bD 50) (aCons (eV 0) (aCons (eC (.int 0)) (aCons (eC (.int 0)) aNil)))) (gT 2 (gsCons (gN 1) (gsCons (gN 2) gsNil))))
  (sSeq (sIf (EV.tB (e2 pLt (eV 2) (eA cLen (aCons (eV 0) aNil))))
  (sRaise "BadText" "row" (eC (.int 0)))
  sNil)
  (sRt (eV 1))))
def dE:Fn:=fnX 1 3 b_3
theorem iV{ws:List W}(h:ws.length≠1):dE ws M=.bad:=gM h
def b_8:FS :=
 (sSeq (sAs (e2 pAdd (e2 pMulA (eC (.int 7919)) (eV 1)) (eC (.int 11))) (gN 2))
  (sSeq (sIf (EV.tB (e2 pLt (eV 1) (eA cLen (aCons (eV 0) aNil))))
  (sAs (e2 pIx (eV 0) (eV 1)) (gN 2))
  (sIf (EV.tB (e2 pGt (eA cLen (aCons (eV 0) aNil)) (eC (.int 0))))
  (sAs (e2 pAdd (eV 2) (e2 pMulA (e2 pMod (e2 pIx (eV 0) (e2 pMod (eV 1) (eA cLen (aCons (eV 0) aNil)))) (eC (.int 2147483629))) (eC (.int 69623)))) (gN 2))
  sNil))
  (sSeq (sAs (e2 pAdd (e2 pMod (e2 pAdd (e2 pMulA (e2 pMod (eV 2) (eC (.int 2147483629))) (eC (.int 48271))) (e2 pMulA (eC (.int 40692)) (eV 1))) (eC (.int 2147483629))) (eC (.int 1))) (gN 3))
  (sRt (eA mkR (aCons (e2 pIx (eA mkL (aCons (eC (.int 0)) (aCons (eV 2) aNil))) (eA cIntS (aCons (e2 pGe (eV 2) (e2 pPow (eC (.int 10)) (eC (.int 18)))) aNil))) (aCons (eV 3) (aCons (eC (.int 0)) aNil))))))))
def iD:Fn:=fnR 2 4 b_8
theorem kN{ws:List W}(h:ws.length≠2):iD ws M=.bad:=aAL h
def b_9:FS :=
 (sSeq (sIf (EV.tB (e2 pGt (e2 pIx (eV 0) (eC (.int 0))) (eC (.int 0))))
  (sSeq (sAs (e2 pMod (e2 pIx (eV 0) (eC (.int 0))) (eV 1)) (gN 2))
  (sSeq (sAs (e2 pDiv (e2 pIx (eV 0) (eC (.int 0))) (eV 1)) (gS (eV 0) (eC (.int 0))))
  (sRt (eV 2))))
  sNil)
  (sSeq (sAs (e2 pAdd (e2 pIx (eV 0) (eC (.int 2))) (eC (.int 1))) (gS (eV 0) (eC (.int 2))))
  (sSeq (sAs (e2 pMod (e2 pMulA (e2 pAdd (e2 pIx (eV 0) (eC (.int 1))) (e2 pMulA (eC (.int 104729)) (e2 pIx (eV 0) (eC (.int 2))))) (eC (.int 69623))) (eC (.int 2147483647))) (gN 3))
  (sSeq (sAs (e2 pAdd (e2 pMod (e2 pAdd (e2 pMulA (eV 3) (eC (.int 48271))) (eC (.int 30103))) (eC (.int 2147483629))) (eC (.int 1))) (gS (eV 0) (eC (.int 1))))
  (sRt (e2 pMod (e2 pDiv (e2 pAdd (e2 pMulA (eV 3) (eC (.int 2147483647))) (e2 pIx (eV 0) (eC (.int 1)))) (eC (.int 8191))) (eV 1)))))))
def aV:Fn:=fnD 2 4 b_9
theorem aN{ws:List W}(h:ws.length≠2):aV ws M=.bad:=aAL h
def b_a(r_l_expr:Fn):FS :=
 (sSeq (sAs (eA aV (aCons (eV 0) (aCons (eC (.int 7)) aNil))) (gN 4))
  (sSeq (sIf (EV.tOr (EV.tB (e2 pLt (eV 2) (eC (.int 3)))) (EV.tOr (EV.tB (e2 pEq (eV 3) (eC (.int 0)))) (EV.tB (e2 pEq (eV 4) (eC (.int 0))))))
  (sSeq (sAs (e2 pIx (eA mkL (aCons (eA aV (aCons (eV 0) (aCons (eC (.int 10)) aNil))) (aCons (eA aV (aCons (eV 0) (aCons (eC (.int 1000000)) aNil))) aNil))) (eA cIntS (aCons (e2 pEq (eA aV (aCons (eV 0) (aCons (eC (.int 4)) aNil))) (eC (.int 0))) aNil))) (gN 5))
  (sSeq (sIf (EV.tAnd (EV.tB (e2 pGt (eV 1) (eC (.int 0)))) (EV.tB (e2 pGt (eA aV (aCons (eV 0) (aCons (eC (.int 3)) aNil))) (eC (.int 0)))))
  (sRt (eA mkT (aCons (eC (.str "given")) (aCons (eA aV (aCons (eV 0) (aCons (eV 1) aNil))) aNil))))
  sNil)
  (sRt (eA mkT (aCons (eC (.str "num")) (aCons (eV 5) aNil))))))
  sNil)
  (sSeq (sAs (e2 pAdd (eC (.int 1)) (eA aV (aCons (eV 0) (aCons (e2 pSub (eV 2) (eC (.int 2))) aNil)))) (gN 6))
  (sSeq (sAs (e2 pIx (eA mkL (aCons (eC (.str "sum")) (aCons (eC (.str "less")) (aCons (eC (.str "times")) (aCons (eC (.str "times")) aNil))))) (eA aV (aCons (eV 0) (aCons (eC (.int 4)) aNil)))) (gN 7))
  (sSeq (sAs (eA r_l_expr (aCons (eV 0) (aCons (eV 1) (aCons (eV 6) (aCons (e2 pSub (eV 3) (eC (.int 1))) aNil))))) (gN 8))
  (sRt (eA mkT (aCons (eV 7) (aCons (eV 8) (aCons (eA r_l_expr (aCons (eV 0) (aCons (eV 1) (aCons (e2 pSub (e2 pSub (eV 2) (eC (.int 1))) (eV 6)) (aCons (e2 pSub (eV 3) (eC (.int 1))) aNil))))) aNil))))))))))
def cX:Nat->Fn
 |0=>λ_ _=>.bad
 |d+1=>fnD 4 9 (b_a (cX d))
theorem jC:∀{d:Nat} {ws:List W} {M:Mm},ws.length≠4->cX d ws M=.bad
 |0,_,_,_=>by simp only[cX]
 |d+1,_,_,h=>by simp only[cX];exact aAL h
def b_b:FS :=
 (sSeq (sAs (eA mkR (aCons (eA mkT (aCons (eV 0) (aCons (eV 1) aNil))) aNil)) (gN 2))
  (sSeq (whileD (EV.tB (e2 pGt (eA cLen (aCons (eV 2) aNil)) (eC (.int 0))))
  (sSeq (sAs (e1 pPop (eV 2)) (gT 2 (gsCons (gN 3) (gsCons (gN 4) gsNil))))
  (sIf (tV (e1 (pIsI "tuple") (eV 4)))
  (sSeq (sIf (EV.tOr (EV.tNot (tV (e1 (pIsI "tuple") (eV 3)))) (EV.tB (e2 pNe (eA cLen (aCons (eV 3) aNil)) (eA cLen (aCons (eV 4) aNil)))))
  (sRt (eC (.bl false)))
  sNil)
  (sEx (eM1 pExtendA (eV 2) (e2 pZip (eV 3) (eV 4)))))
  (sIf (EV.tOr (EV.tB (e2 pNe (e1 (pIsI "bool") (eV 3)) (e1 (pIsI "bool") (eV 4)))) (EV.tB (e2 pNe (e1 (pIsI "int") (eV 3)) (e1 (pIsI "int") (eV 4)))))
  (sRt (eC (.bl false)))
  (sIf (EV.tOr (tV (e1 (pIsI "tuple") (eV 3))) (EV.tB (e2 pNe (eV 3) (eV 4))))
  (sRt (eC (.bl false)))
  sNil)))) NW)
  (sRt (eC (.bl true)))))
def iK:Fn:=fnD 2 5 b_b
theorem pZ{ws:List W}(h:ws.length≠2):iK ws M=.bad:=aAL h
def b_c(r_l_text:Fn):FS :=
 (sSeq (sIf (EV.tB (e2 pEq (e2 pIx (eV 0) (eC (.int 0))) (eC (.str "num"))))
  (sRt (eA cStr (aCons (e2 pIx (eV 0) (eC (.int 1))) aNil)))
  sNil)
  (sSeq (sIf (EV.tB (e2 pEq (e2 pIx (eV 0) (eC (.int 0))) (eC (.str "given"))))
  (sRt (e2 pAdd (eC (.str "x")) (eA cStr (aCons (e2 pIx (eV 0) (eC (.int 1))) aNil))))
  sNil)
  (sSeq (sAs (e1 (pTab [("sum"," + "),("less"," - "),("times"," * ")]) (e2 pIx (eV 0) (eC (.int 0)))) (gN 1))
  (sRt (e2 pAdd (e2 pAdd (e2 pAdd (e2 pAdd (eC (.str "(")) (eA r_l_text (aCons (e2 pIx (eV 0) (eC (.int 1))) aNil))) (eV 1)) (eA r_l_text (aCons (e2 pIx (eV 0) (eC (.int 2))) aNil))) (eC (.str ")")))))))
def cF:Nat->Fn
 |0=>λ_ _=>.bad
 |d+1=>fnD 1 2 (b_c (cF d))
theorem jA:∀{d:Nat} {ws:List W} {M:Mm},ws.length≠1->cF d ws M=.bad
 |0,_,_,_=>by simp only[cF]
 |d+1,_,_,h=>by simp only[cF];exact aAL h
def b_d:FS :=
 (sSeq (sAs (eC (.str " !\"#$&'()*+,-./0123456789:;<=>?@ABCDEFGHIJKLMNOPQRSTUVWXYZ[\\]^_`abcdefghijklmnopqrstuvwxyz{|}~")) (gN 0))
  (sRt (e2 pAdd (eV 0) (eC (.str "\n")))))
def fM:Fn:=fnD 0 1 b_d
theorem pX{ws:List W}(h:ws.length≠0):fM ws M=.bad:=aAL h
def b_e(r_l_read:Fn):FS :=
 (sSeq (sIf (EV.tB (e2 pEq (eSlS (eV 0) (oAt (eV 1)) (oAt (e2 pAdd (eV 1) (eC (.int 1))))) (eC (.str "("))))
  (sSeq (sAs (eA r_l_read (aCons (eV 0) (aCons (e2 pAdd (eV 1) (eC (.int 1))) aNil))) (gT 2 (gsCons (gN 2) (gsCons (gN 3) gsNil))))
  (sSeq (sAs (e1 (pTabG [(" + ","sum"),(" - ","less"),(" * ","times")]) (eSlS (eV 0) (oAt (eV 3)) (oAt (e2 pAdd (eV 3) (eC (.int 3)))))) (gN 4))
  (sSeq (sIf (EV.tOr (EV.tB (e2 pIs (eV 2) (eC .non))) (EV.tB (e2 pIs (eV 4) (eC .non))))
  (sRt (eA mkT (aCons (eC .non) (aCons (eV 1) aNil))))
  sNil)
  (sSeq (sAs (eA r_l_read (aCons (eV 0) (aCons (e2 pAdd (eV 3) (eC (.int 3))) aNil))) (gT 2 (gsCons (gN 5) (gsCons (gN 6) gsNil))))
  (sSeq (sIf (EV.tOr (EV.tB (e2 pIs (eV 5) (eC .non))) (EV.tB (e2 pNe (eSlS (eV 0) (oAt (eV 6)) (oAt (e2 pAdd (eV 6) (eC (.int 1))))) (eC (.str ")")))))
  (sRt (eA mkT (aCons (eC .non) (aCons (eV 1) aNil))))
  sNil)
  (sRt (eA mkT (aCons (eA mkT (aCons (eV 4) (aCons (eV 2) (aCons (eV 5) aNil)))) (aCons (e2 pAdd (eV 6) (eC (.int 1))) aNil)))))))))
  sNil)
  (sSeq (sAs (e2 pAdd (eV 1) (eA cIntS (aCons (e2 pEq (eSlS (eV 0) (oAt (eV 1)) (oAt (e2 pAdd (eV 1) (eC (.int 1))))) (eC (.str "x"))) aNil))) (gN 7))
  (sSeq (sAs (eV 7) (gN 8))
  (sSeq (whileD (EV.tAnd (EV.tB (e2 pLt (eV 8) (eA cLen (aCons (eV 0) aNil)))) (EV.tB (e2 pInS (e2 pIx (eV 0) (eV 8)) (eC (.str "0123456789")))))
  (sAs (e2 pAdd (eV 8) (eC (.int 1))) (gN 8)) NW)
  (sSeq (sAs (eSlS (eV 0) (oAt (eV 7)) (oAt (eV 8))) (gN 9))
  (sSeq (sIf (EV.tOr (EV.tB (e2 pEq (eV 9) (eC (.str "")))) (EV.tOr (EV.tB (e2 pGt (eA cLen (aCons (eV 9) aNil)) (eC (.int 6)))) (EV.tAnd (EV.tB (e2 pEq (e2 pIx (eV 9) (eC (.int 0))) (eC (.str "0")))) (EV.tB (e2 pGt (eA cLen (aCons (eV 9) aNil)) (eC (.int 1)))))))
  (sRt (eA mkT (aCons (eC .non) (aCons (eV 1) aNil))))
  sNil)
  (sSeq (sIf (EV.tAnd (EV.tB (e2 pGt (eV 7) (eV 1))) (EV.tB (e2 pGt (eA cIntS (aCons (eV 9) aNil)) (eC (.int 7)))))
  (sRt (eA mkT (aCons (eC .non) (aCons (eV 1) aNil))))
  sNil)
  (sRt (eA mkT (aCons (e2 pIx (eA mkL (aCons (eA mkT (aCons (eC (.str "num")) (aCons (eA cIntS (aCons (eV 9) aNil)) aNil))) (aCons (eA mkT (aCons (eC (.str "given")) (aCons (eA cIntS (aCons (eV 9) aNil)) aNil))) aNil))) (e2 pSub (eV 7) (eV 1))) (aCons (eV 8) aNil)))))))))))
def cU:Nat->Fn
 |0=>λ_ _=>.bad
 |d+1=>fnD 2 10 (b_e (cU d))
theorem jE:∀{d:Nat} {ws:List W} {M:Mm},ws.length≠2->cU d ws M=.bad
 |0,_,_,_=>by simp only[cU]
 |d+1,_,_,h=>by simp only[cU];exact aAL h
def b_f:FS :=
 (sSeq (sAs (eA mkT (aCons (eC (.int 0)) (aCons (eC (.int 0)) aNil))) (gT 2 (gsCons (gN 1) (gsCons (gN 2) gsNil))))
  (sSeq (sFor (iStr (eV 0)) (gN 3)
  (sSeq (sAs (e2 pSub (e2 pAdd (eV 1) (eA cIntS (aCons (e2 pEq (eV 3) (eC (.str "("))) aNil))) (eA cIntS (aCons (e2 pEq (eV 3) (eC (.str ")"))) aNil))) (gN 1))
  (sAs (eA cMax2 (aCons (eV 2) (aCons (eV 1) aNil))) (gN 2))))
  (sSeq (sIf (EV.tB (e2 pGt (eV 2) (eC (.int 20))))
  (sRt (eC .non))
  sNil)
  (sSeq (sAs (eA (cU 50) (aCons (eV 0) (aCons (eC (.int 0)) aNil))) (gT 2 (gsCons (gN 4) (gsCons (gN 5) gsNil))))
  (sRt (e2 pIx (eA mkL (aCons (eC .non) (aCons (eV 4) aNil))) (eA cIntS (aCons (eAnd (e2 pIsNot (eV 4) (eC .non)) (e2 pEq (eV 5) (eA cLen (aCons (eV 0) aNil)))) aNil))))))))
def jI:Fn:=fnD 1 6 b_f
theorem vD{ws:List W}(h:ws.length≠1):jI ws M=.bad:=aAL h
def b_10:FS :=
 (sSeq (sAs (eC (.bl false)) (gN 1))
  (sSeq (sTryAs 2 "BadText" (sEx (eA dE (aDef (noX (aCons (eV 0) aNil)) [])))
  (sSeq (sAs (e1 (pIsX ["NoDeed","NoInverse","NoMove","NoPaper","NoRest","NoRoot","NoRow","TooMany"]) (eV 2)) (gN 3))
  (sSeq (sAs (eAnd (e1 (pIsX ["LentError"]) (eV 2)) (eAnd (e1 (pIsX ["ValueError"]) (eV 2)) (e1 pNot (eV 3)))) (gN 1))
  (sAs (eAnd (eV 1) (eAnd (e2 pEq (e1 (pFld "row") (eV 2)) (eC (.int 0))) (e1 pNot (e1 (pIsI "bool") (e1 (pFld "row") (eV 2)))))) (gN 1)))))
  (sRt (eV 1))))
def dX:Fn:=fnX 1 4 b_10
theorem mX{ws:List W}(h:ws.length≠1):dX ws M=.bad:=gM h
def b_11:FS :=
 (sSeq (sAs (eA (nx jI) (aCons (eV 0) aNil)) (gN 1))
  (sSeq (sIf (EV.tB (e2 pIs (eV 1) (eC .non)))
  (sRt (eA dX (aCons (eV 0) aNil)))
  sNil)
  (sSeq (sAs (eA dE (aCons (eV 0) aNil)) (gN 2))
  (sRt (eAnd (eA (nx iK) (aCons (eV 2) (aCons (eV 1) aNil))) (e2 pEq (eA (nx (bI 50)) (aCons (eV 2) aNil)) (eV 0)))))))
def fV:Fn:=fnX 1 3 b_11
theorem rG{ws:List W}(h:ws.length≠1):fV ws M=.bad:=gM h
def b_12:FS :=
 (sSeq (sAs (eA mkL (aCons (eC (.str "")) (aCons (eC (.str " ")) (aCons (eC (.str "(")) (aCons (eC (.str ")")) (aCons (eC (.str "()")) (aCons (eC (.str "x")) (aCons (eC (.str "x8")) (aCons (eC (.str "x9")) (aCons (eC (.str "x10")) (aCons (eC (.str "x07")) (aCons (eC (.str "x-1")) (aCons (eC (.str "-1")) (aCons (eC (.str "+1")) (aCons (eC (.str "1_0")) (aCons (eC (.str "01")) (aCons (eC (.str "00")) (aCons (eC (.str "0")) aNil)))))))))))))))))) (gN 1))
  (sSeq (sAs (e2 pAdd (eV 1) (eA mkL (aCons (eC (.str "1000000")) (aCons (eC (.str "999999")) (aCons (eC (.str "(1 + 2")) (aCons (eC (.str "1 + 2)")) (aCons (eC (.str "(1 + 2))")) (aCons (eC (.str "(1+2)")) (aCons (eC (.str "(1  + 2)")) (aCons (eC (.str "(1 +  2)")) (aCons (eC (.str "( 1 + 2)")) aNil))))))))))) (gN 1))
  (sSeq (sAs (e2 pAdd (eV 1) (eA mkL (aCons (eC (.str "(1 + 2 )")) (aCons (eC (.str "(1 + 2 + 3)")) (aCons (eC (.str "(1 / 2)")) (aCons (eC (.str "(1)")) (aCons (eC (.str "((1 + 2))")) (aCons (eC (.str "1 + 2")) (aCons (eC (.str "(1 + 2)\n")) (aCons (eC (.str "\n(1 + 2)")) aNil)))))))))) (gN 1))
  (sSeq (sAs (e2 pAdd (eV 1) (eA mkL (aCons (eC (.str "(1 +2)")) (aCons (eC (.str "(x1 x2)")) aNil)))) (gN 1))
  (sSeq (sAs (e2 pAdd (eV 1) (eA mkL (aCons (eC (.str "X1")) (aCons (eC (.str "(1 . 2)")) (aCons (eC (.str "1.")) (aCons (eC (.str "0x1")) (aCons (eC (.str "(x0 * x7)")) (aCons (eC (.str "x 1")) (aCons (eC (.str "(1 - -2)")) (aCons (eC (.str "(-1 + 2)")) (aCons (eC (.str "1 ")) (aCons (eC (.str " 1")) (aCons (eC (.str "x7")) (aCons (eC (.str "x00")) aNil)))))))))))))) (gN 1))
  (sRt (e2 pIx (eV 1) (eA aV (aCons (eV 0) (aCons (eA cLen (aCons (eV 1) aNil)) aNil))))))))))
def jM:Fn:=fnD 1 2 b_12
theorem wN{ws:List W}(h:ws.length≠1):jM ws M=.bad:=aAL h
def b_13:FS :=
 (sSeq (sAs (eA aV (aCons (eV 0) (aCons (eC (.int 7)) aNil))) (gN 2))
  (sSeq (sAs (eA aV (aCons (eV 0) (aCons (e2 pAdd (eA cLen (aCons (eV 1) aNil)) (eC (.int 1))) aNil))) (gN 3))
  (sSeq (sAs (eA (nx fM) aNil) (gN 4))
  (sSeq (sAs (e2 pIx (eV 4) (eA aV (aCons (eV 0) (aCons (eA cLen (aCons (eV 4) aNil)) aNil)))) (gN 5))
  (sSeq (sIf (EV.tB (e2 pEq (eV 2) (eC (.int 0))))
  (sRt (eA jM (aCons (eV 0) aNil)))
  sNil)
  (sSeq (sIf (EV.tB (e2 pEq (eV 2) (eC (.int 1))))
  (sSeq (sAs (e2 pAdd (eC (.int 1)) (eA aV (aCons (eV 0) (aCons (eC (.int 4)) aNil)))) (gN 6))
  (sRt (e2 pAdd (e2 pAdd (eSlS (eV 1) oNo (oAt (eV 3))) (eSlS (eV 1) (oAt (eV 3)) (oAt (e2 pAdd (eV 3) (eV 6))))) (eSlS (eV 1) (oAt (eV 3)) oNo))))
  sNil)
  (sSeq (sIf (EV.tB (e2 pEq (eV 2) (eC (.int 2))))
  (sSeq (sPar 7 8 (aCons (eSlS (eV 1) oNo (oAt (eV 3))) (aCons (eSlS (eV 1) (oAt (eV 3)) oNo) aNil)))
  (sRt (e2 pAdd (e2 pAdd (e2 pAdd (eV 7) (eSlS (eV 8) (oAt (eC (.int 1))) (oAt (eC (.int 2))))) (eSlS (eV 8) oNo (oAt (eC (.int 1))))) (eSlS (eV 8) (oAt (eC (.int 2))) oNo))))
  sNil)
  (sSeq (sIf (EV.tB (e2 pEq (eV 2) (eC (.int 3))))
  (sRt (e2 pAdd (eSlS (eV 1) oNo (oAt (eV 3))) (eSlS (eV 1) (oAt (e2 pAdd (eV 3) (eC (.int 1)))) oNo)))
  sNil)
  (sSeq (sIf (EV.tB (e2 pEq (eV 2) (eC (.int 4))))
  (sRt (e2 pAdd (e2 pAdd (eSlS (eV 1) oNo (oAt (eV 3))) (eV 5)) (eSlS (eV 1) (oAt (e2 pAdd (eV 3) (eC (.int 1)))) oNo)))
  sNil)
  (sRt (e2 pAdd (e2 pAdd (eSlS (eV 1) oNo (oAt (eV 3))) (eV 5)) (eSlS (eV 1) (oAt (eV 3)) oNo))))))))))))
def eX:Fn:=fnD 2 9 b_13
theorem oF{ws:List W}(h:ws.length≠2):eX ws M=.bad:=aAL h
def b_14:FS :=
 (sSeq (sAs (e2 pIx (eA mkL (aCons (e2 pAdd (eC (.int 18)) (eA aV (aCons (eV 0) (aCons (eC (.int 6)) aNil)))) (aCons (e2 pAdd (eC (.int 20)) (eA aV (aCons (eV 0) (aCons (eC (.int 41)) aNil)))) aNil))) (eA cIntS (aCons (e2 pEq (eA aV (aCons (eV 0) (aCons (eC (.int 3)) aNil))) (eC (.int 0))) aNil))) (gN 1))
  (sSeq (sAs (e2 pAdd (e2 pAdd (e2 pRepT (eC (.str "(1 + ")) (eV 1)) (eC (.str "x2"))) (e2 pRepT (eC (.str ")")) (eV 1))) (gN 2))
  (sSeq (sIf (EV.tB (e2 pEq (eA aV (aCons (eV 0) (aCons (eC (.int 2)) aNil))) (eC (.int 0))))
  (sAs (e2 pAdd (e2 pAdd (e2 pRepT (eC (.str "(")) (eV 1)) (eC (.str "3"))) (e2 pRepT (eC (.str " * x1)")) (eV 1))) (gN 2))
  sNil)
  (sSeq (sAs (e2 pIx (eA mkL (aCons (eC (.str "(")) (aCons (eC (.str "(1 - ")) (aCons (eC (.str "(x")) aNil)))) (eA aV (aCons (eV 0) (aCons (eC (.int 3)) aNil)))) (gN 3))
  (sSeq (sAs (e2 pRepT (eV 3) (e2 pAdd (eC (.int 1)) (eA aV (aCons (eV 0) (aCons (eC (.int 1000)) aNil))))) (gN 3))
  (sSeq (sAs (e2 pAdd (e2 pIx (eA mkL (aCons (eC (.str "")) (aCons (eC (.str "x")) (aCons (eC (.str "(1 + ")) aNil)))) (eA aV (aCons (eV 0) (aCons (eC (.int 3)) aNil)))) (e2 pRepT (e2 pIx (eC (.str "9876543210")) (eA aV (aCons (eV 0) (aCons (eC (.int 9)) aNil)))) (e2 pAdd (eC (.int 4301)) (eA aV (aCons (eV 0) (aCons (eC (.int 1600)) aNil)))))) (gN 4))
  (sSeq (sAs (e2 pAdd (e2 pAdd (e2 pAdd (eC (.str "((1 + 2) * ")) (e2 pRepT (eC (.str "(3 + ")) (eV 1))) (eC (.str "4"))) (e2 pRepT (eC (.str ")")) (e2 pAdd (eV 1) (eC (.int 1))))) (gN 5))
  (sSeq (sIf (EV.tB (e2 pEq (eA aV (aCons (eV 0) (aCons (eC (.int 2)) aNil))) (eC (.int 0))))
  (sAs (e2 pAdd (e2 pAdd (e2 pRepT (eC (.str "(")) (e2 pAdd (eV 1) (eC (.int 1)))) (eC (.str "4 - (x5 * 6))"))) (e2 pRepT (eC (.str " + 3)")) (eV 1))) (gN 5))
  sNil)
  (sRt (eA mkL (aCons (eV 2) (aCons (eV 3) (aCons (e2 pRepT (eC (.str "(")) (e2 pSub (eC (.int 3000)) (eA aV (aCons (eV 0) (aCons (eC (.int 10)) aNil))))) (aCons (eV 4) (aCons (eV 5) (aCons (eV 2) aNil))))))))))))))))
def hZ:Fn:=fnD 1 6 b_14
theorem rQ{ws:List W}(h:ws.length≠1):hZ ws M=.bad:=aAL h
def b_15:FS :=
 (sSeq (sAs (eA (nx iD) (aCons (eV 0) (aCons (eC (.int 0)) aNil))) (gN 1))
  (sSeq (sAs (eA (nx (cF 50)) (aCons (eA (nx (cX 50)) (aCons (eV 1) (aCons (eC (.int 8)) (aCons (e2 pIx (eA mkL (aCons (eC (.int 1)) (aCons (eC (.int 9)) (aCons (eC (.int 40)) aNil)))) (eA (nx aV) (aCons (eV 1) (aCons (eC (.int 3)) aNil)))) (aCons (eC (.int 8)) aNil))))) aNil)) (gN 2))
  (sSeq (sAs (eA mkL (aCons (eV 2) aNil)) (gN 3))
  (sSeq (sFor (iR1 (eC (.int 6))) (gN 4)
  (sSeq (sAs (eA (nx iD) (aCons (eV 0) (aCons (e2 pAdd (eC (.int 1)) (eV 4)) aNil))) (gN 1))
  (sSeq (sAs (eV 2) (gN 5))
  (sSeq (sFor (iR1 (e2 pAdd (eC (.int 1)) (eA (nx aV) (aCons (eV 1) (aCons (eC (.int 3)) aNil))))) (gN 6)
  (sAs (eA (nx eX) (aCons (eV 1) (aCons (eV 5) aNil))) (gN 5)))
  (sAs (e2 pAdd (eV 3) (eA mkL (aCons (eV 5) (aCons (eV 2) aNil)))) (gN 3))))))
  (sSeq (sAs (e2 pAdd (eV 3) (eA (nx hZ) (aCons (eA (nx iD) (aCons (eV 0) (aCons (eC (.int 7)) aNil))) aNil))) (gN 3))
  (sRt (eA cAllB (aCons (eComp [none] (iE (e2 pAdd (eV 3) (eSlS (eV 3) oNo (oAt (eC (.int 3)))))) (gN 0) EV.tYes (eA fV (aCons (eV 0) aNil))) aNil))))))))
def mO:Fn:=fnX 1 7 b_15
end
set_option genInjectivity false in
set_option genSizeOf false in
structure Adr where
 a_0:Addr
 d_0:FuncData
 a_1:Addr
 d_1:FuncData
 a_2:Addr
 d_2:FuncData
 a_3:Addr
 d_3:FuncData
 a_4:Addr
 d_4:FuncData
 a_5:Addr
 d_5:FuncData
 a_6:Addr
 d_6:FuncData
 a_7:Addr
 d_7:FuncData
 a_8:Addr
 d_8:FuncData
 a_9:Addr
 d_9:FuncData
 a_a:Addr
 d_a:FuncData
 a_b:Addr
 d_b:FuncData
 a_c:Addr
 d_c:FuncData
 a_d:Addr
 d_d:FuncData
 a_e:Addr
 d_e:FuncData
 a_f:Addr
 d_f:FuncData
 a_10:Addr
 d_10:FuncData
 a_11:Addr
 d_11:FuncData
 a_12:Addr
 d_12:FuncData
 a_13:Addr
 d_13:FuncData
 a_14:Addr
 d_14:FuncData
 a_15:Addr
 d_15:FuncData
 e_LentError:Addr
 e_BadText:Addr
 j_BadText:Addr
 g_BadText:FuncData
 e_NoDeed:Addr
 e_NoInverse:Addr
 e_NoMove:Addr
 e_NoPaper:Addr
 e_NoRest:Addr
 e_NoRoot:Addr
 e_NoRow:Addr
 e_TooMany:Addr
 t_FIGURES:Tok
 t_LAST_GIVEN:Tok
 t_MOST_BRACKETS:Tok
 t_MOST_FIGURES:Tok
 t_SIGNS:Addr
 t_WORDS:Addr
structure Tx(K:Frag)(mg:Str->Option Value)(a:Adr):Prop where
 f_0:Fun K "figures_end" "figures_end" bF a.a_0 a.d_0
 b_0:Binds K a.d_0 aGP []
 k_0:keepIn K (.ref a.a_0)=true
 m_0:mg "figures_end"=some (.ref a.a_0)
 f_1:Fun K "number_of" "number_of" bQ a.a_1 a.d_1
 b_1:Binds K a.d_1 aGQ []
 k_1:keepIn K (.ref a.a_1)=true
 m_1:mg "number_of"=some (.ref a.a_1)
 f_2:Fun K "show_expr" "show_expr" bT a.a_2 a.d_2
 b_2:Binds K a.d_2 ["expr"] []
 k_2:keepIn K (.ref a.a_2)=true
 m_2:mg "show_expr"=some (.ref a.a_2)
 f_3:Fun K "read_expr" "read_expr" bU a.a_3 a.d_3
 b_3:Binds K a.d_3 ["text"] []
 k_3:keepIn K (.ref a.a_3)=true
 m_3:mg "read_expr"=some (.ref a.a_3)
 f_4:Fun K "read_part" "read_part" bP a.a_4 a.d_4
 b_4:Binds K a.d_4 aGR []
 k_4:keepIn K (.ref a.a_4)=true
 m_4:mg "read_part"=some (.ref a.a_4)
 f_5:Fun K "read_pair" "read_pair" bS a.a_5 a.d_5
 b_5:Binds K a.d_5 aGR []
 k_5:keepIn K (.ref a.a_5)=true
 m_5:mg "read_pair"=some (.ref a.a_5)
 f_6:Fun K "read_given" "read_given" bK a.a_6 a.d_6
 b_6:Binds K a.d_6 aGP []
 k_6:keepIn K (.ref a.a_6)=true
 m_6:mg "read_given"=some (.ref a.a_6)
 f_7:Fun K "read_num" "read_num" bZ a.a_7 a.d_7
 b_7:Binds K a.d_7 aGP []
 k_7:keepIn K (.ref a.a_7)=true
 m_7:mg "read_num"=some (.ref a.a_7)
 f_8:Fun K "_law_box" "_law_box" dU a.a_8 a.d_8
 b_8:Binds K a.d_8 aGS []
 k_8:keepIn K (.ref a.a_8)=true
 m_8:mg "_law_box"=some (.ref a.a_8)
 f_9:Fun K "_law_take" "_law_take" dA a.a_9 a.d_9
 b_9:Binds K a.d_9 aGT []
 k_9:keepIn K (.ref a.a_9)=true
 m_9:mg "_law_take"=some (.ref a.a_9)
 f_a:Fun K "_law_expr" "_law_expr" cV a.a_a a.d_a
 b_a:Binds K a.d_a aGU []
 k_a:keepIn K (.ref a.a_a)=true
 m_a:mg "_law_expr"=some (.ref a.a_a)
 f_b:Fun K "_law_alike" "_law_alike" cK a.a_b a.d_b
 b_b:Binds K a.d_b aGV []
 k_b:keepIn K (.ref a.a_b)=true
 m_b:mg "_law_alike"=some (.ref a.a_b)
 f_c:Fun K "_law_text" "_law_text" cY a.a_c a.d_c
 b_c:Binds K a.d_c aGW []
 k_c:keepIn K (.ref a.a_c)=true
 m_c:mg "_law_text"=some (.ref a.a_c)
 f_d:Fun K "_law_signs" "_law_signs" cH a.a_d a.d_d
 b_d:Binds K a.d_d [] []
 k_d:keepIn K (.ref a.a_d)=true
 m_d:mg "_law_signs"=some (.ref a.a_d)
 f_e:Fun K "_law_read" "_law_read" cZ a.a_e a.d_e
 b_e:Binds K a.d_e aGX []
 k_e:keepIn K (.ref a.a_e)=true
 m_e:mg "_law_read"=some (.ref a.a_e)
 f_f:Fun K "_law_due" "_law_due" dS a.a_f a.d_f
 b_f:Binds K a.d_f aGY []
 k_f:keepIn K (.ref a.a_f)=true
 m_f:mg "_law_due"=some (.ref a.a_f)
 f_10:Fun K "_law_refused" "_law_refused" bV a.a_10 a.d_10
 b_10:Binds K a.d_10 aGY []
 k_10:keepIn K (.ref a.a_10)=true
 m_10:mg "_law_refused"=some (.ref a.a_10)
 f_11:Fun K "_law_right" "_law_right" cJ a.a_11 a.d_11
 b_11:Binds K a.d_11 aGY []
 k_11:keepIn K (.ref a.a_11)=true
 m_11:mg "_law_right"=some (.ref a.a_11)
 f_12:Fun K "_law_odd" "_law_odd" dW a.a_12 a.d_12
 b_12:Binds K a.d_12 aGZ []
 k_12:keepIn K (.ref a.a_12)=true
 m_12:mg "_law_odd"=some (.ref a.a_12)
 f_13:Fun K "_law_spoilt" "_law_spoilt" cA a.a_13 a.d_13
 b_13:Binds K a.d_13 aHA []
 k_13:keepIn K (.ref a.a_13)=true
 m_13:mg "_law_spoilt"=some (.ref a.a_13)
 f_14:Fun K "_law_deep" "_law_deep" cW a.a_14 a.d_14
 b_14:Binds K a.d_14 aGZ []
 k_14:keepIn K (.ref a.a_14)=true
 m_14:mg "_law_deep"=some (.ref a.a_14)
 f_15:Fun K "law" "law" iB a.a_15 a.d_15
 b_15:Binds K a.d_15 aHB []
 k_15:keepIn K (.ref a.a_15)=true
 m_15:mg "law"=some (.ref a.a_15)
 nm_LentError:nsIn K mainGlobals "LentError"=some (some (.ref a.e_LentError))
 m_LentError:mg "LentError"=some (.ref a.e_LentError)
 le:LeF K a.e_LentError
 xc_BadText:Xc K "BadText" a.e_BadText a.e_LentError
 m_BadText:mg "BadText"=some (.ref a.e_BadText)
 fi_BadText:Fun K "__init__" "BadText.__init__" cD a.j_BadText a.g_BadText
 bi_BadText:Binds K a.g_BadText aHC []
 ti_BadText:PySem.W.typeIn K (.ref a.j_BadText)=some (.type "function")
 nf_BadText:PySem.W.findIn K (.ref a.e_BadText) "row"=some none
 sa_BadText:PySem.W.findIn K (.ref a.e_BadText) "__setattr__"=some (some (.builtin "object.__setattr__"))
 xb_BadText:xcB K a.e_BadText (.ref a.e_LentError::vb) (some (.ref a.j_BadText))=true
 kc_BadText:keepIn K (.ref a.e_BadText)=true
 xc_NoDeed:Xc K "NoDeed" a.e_NoDeed a.e_LentError
 m_NoDeed:mg "NoDeed"=some (.ref a.e_NoDeed)
 xc_NoInverse:Xc K "NoInverse" a.e_NoInverse a.e_LentError
 m_NoInverse:mg "NoInverse"=some (.ref a.e_NoInverse)
 xc_NoMove:Xc K "NoMove" a.e_NoMove a.e_LentError
 m_NoMove:mg "NoMove"=some (.ref a.e_NoMove)
 xc_NoPaper:Xc K "NoPaper" a.e_NoPaper a.e_LentError
 m_NoPaper:mg "NoPaper"=some (.ref a.e_NoPaper)
 xc_NoRest:Xc K "NoRest" a.e_NoRest a.e_LentError
 m_NoRest:mg "NoRest"=some (.ref a.e_NoRest)
 xc_NoRoot:Xc K "NoRoot" a.e_NoRoot a.e_LentError
 m_NoRoot:mg "NoRoot"=some (.ref a.e_NoRoot)
 xc_NoRow:Xc K "NoRow" a.e_NoRow a.e_LentError
 m_NoRow:mg "NoRow"=some (.ref a.e_NoRow)
 xc_TooMany:Xc K "TooMany" a.e_TooMany a.e_LentError
 m_TooMany:mg "TooMany"=some (.ref a.e_TooMany)
 v_FIGURES:mg "FIGURES"=some (.str "0123456789" a.t_FIGURES)
 v_LAST_GIVEN:mg "LAST_GIVEN"=some (.int 7 a.t_LAST_GIVEN)
 v_MOST_BRACKETS:mg "MOST_BRACKETS"=some (.int 20 a.t_MOST_BRACKETS)
 v_MOST_FIGURES:mg "MOST_FIGURES"=some (.int 6 a.t_MOST_FIGURES)
 v_SIGNS:mg "SIGNS"=some (.ref a.t_SIGNS)
 w_SIGNS:TabK K a.t_SIGNS [("sum"," + "),("less"," - "),("times"," * ")]
 v_WORDS:mg "WORDS"=some (.ref a.t_WORDS)
 w_WORDS:TabK K a.t_WORDS [(" + ","sum"),(" - ","less"),(" * ","times")]
 z_ValueError:mg "ValueError"=none
 z_all:mg "all"=none
 z_bool:mg "bool"=none
 z_int:mg "int"=none
 z_isinstance:mg "isinstance"=none
 z_len:mg "len"=none
 z_list:mg "list"=none
 z_max:mg "max"=none
 z_range:mg "range"=none
 z_str:mg "str"=none
 z_tuple:mg "tuple"=none
 z_zip:mg "zip"=none
theorem qF:FnScope aHC aHC (defScope cD):=by constructor<;>first|rfl|decide +kernel
theorem fA:FnScope ["text","at","end"] aGP (defScope bF):=by constructor<;>first|rfl|decide +kernel
theorem oV:FnScope aGQ aGQ (defScope bQ):=by constructor<;>first|rfl|decide +kernel
theorem oK:FnScope ["expr"] ["expr"] (defScope bT):=by constructor<;>first|rfl|decide +kernel
theorem gQ:FnScope ["text","expr","end"] ["text"] (defScope bU):=by constructor<;>first|rfl|decide +kernel
theorem jS:FnScope ["text","at","brackets","sign"] aGR (defScope bP):=by constructor<;>first|rfl|decide +kernel
theorem cQ:FnScope ["text","at","brackets","one","word","other"] aGR (defScope bS):=by constructor<;>first|rfl|decide +kernel
theorem fJ:FnScope ["text","at","end","number"] aGP (defScope bK):=by constructor<;>first|rfl|decide +kernel
theorem gU:FnScope ["text","at","end","number"] aGP (defScope bZ):=by constructor<;>first|rfl|decide +kernel
theorem iA:FnScope ["_law_script","_law_k","_law_cell","_law_seed"] aGS (defScope dU):=by constructor<;>first|rfl|decide +kernel
theorem kS:FnScope ["_law_box_here","_law_many","_law_digit","_law_one"] aGT (defScope dA):=by constructor<;>first|rfl|decide +kernel
theorem eM:FnScope ["_law_box_here","_law_givens","_law_room","_law_deep_here","_law_shape","_law_number","_law_one","_law_word","_law_first"] aGU (defScope cV):=by constructor<;>first|rfl|decide +kernel
theorem gJ:FnScope ["_law_found","_law_due_here","_law_left","_law_one","_law_other"] aGV (defScope cK):=by constructor<;>first|rfl|decide +kernel
theorem nO:FnScope ["_law_expr_here","_law_sign"] aGW (defScope cY):=by constructor<;>first|rfl|decide +kernel
theorem mD:FnScope ["_law_some"] [] (defScope cH):=by constructor<;>first|rfl|decide +kernel
theorem cG:FnScope ["_law_text_here","_law_at","_law_one","_law_here","_law_word","_law_other","_law_there","_law_begin","_law_end","_law_figures"] aGX (defScope cZ):=by constructor<;>first|rfl|decide +kernel
theorem dY:FnScope ["_law_text_here","_law_here","_law_most","_law_sign","_law_found","_law_end"] aGY (defScope dS):=by constructor<;>first|rfl|decide +kernel
theorem cR:FnScope ["_law_text_here","_law_found","e","_law_others"] aGY (defScope bV):=by constructor<;>first|rfl|decide +kernel
theorem iW:FnScope ["_law_text_here","_law_due_here","_law_found"] aGY (defScope cJ):=by constructor<;>first|rfl|decide +kernel
theorem fO:FnScope ["_law_box_here","_law_some"] aGZ (defScope dW):=by constructor<;>first|rfl|decide +kernel
theorem cN:FnScope ["_law_box_here","_law_text_here","_law_way","_law_at","_law_signs_here","_law_sign","_law_many","_law_ahead","_law_rest"] aHA (defScope cA):=by constructor<;>first|rfl|decide +kernel
theorem cS:FnScope ["_law_box_here","_law_many","_law_one","_law_wide","_law_long","_law_side"] aGZ (defScope cW):=by constructor<;>first|rfl|decide +kernel
theorem eZ:FnScope aHD aHB (defScope iB):=by constructor<;>first|rfl|decide +kernel
variable{K:Frag}{a:Adr}
theorem bW(T:Tx K mg a):FnOk P w K mg base (CX1 P w) 1 a.j_BadText a.g_BadText aHC (spXI a.e_BadText "row"):=by
 obtain⟨cd,hc,_,hm⟩:=T.xc_BadText.cd
 exact aAp T.fi_BadText qF λcdv A outer s H E=>rF (uR (yW T.le T.m_LentError T.xb_BadText (cE (pv 0) (cE dC fH)))) (uE (aAa hc hm (aHw T.xc_BadText hc) T.sa_BadText T.nf_BadText (pv 0) (pv 1)))
theorem eO(T:Tx K mg a):FnOk P w K mg base CX0 1 a.a_0 a.d_0 aGP (spF K Z0 2 cB) :=
 fZ (k:=0) T.f_0 fA λcdv A outer s H E hr=>show Ess _ K Z0 (defBody bF) b_0 from
  (aC (aK (i:=2) fA.nd (aB 1))
  (aC (lR NW PassesOwn.never (iZ (kP (aM opLt (aB 2) (bC callLen rfl T.z_len aAY (aA (aB 0) aE)) (nomark _)) (iO (aM opInS (bG (aB 0) (aB 2)) (aIh T.v_FIGURES) (by with_unfolding_all rfl)))))
  (aG (aCn (i:=2) fA.nd aEl aD)))
  (aG (aO (aB 2)))))
theorem jT(T:Tx K mg a):FnOk P w K mg base CX0 2 a.a_1 a.d_1 aGQ (spF K Z0 2 dD) :=
 fZ (k:=1) T.f_1 oV λcdv A outer s H E hr=>show Ess _ K Z0 (defBody bQ) b_1 from
  (aC (bH (iZ (hW (aM (opEq (aY hr)) (aB 0) aF (nomark _)) (gK (aM opGt (bC callLen rfl T.z_len aAY (aA (aB 0) aE)) (aB 1) (nomark _)))))
  (aG (aO cO))
  aU)
  (aC (bH (aM opLt (aX ((eO T).mono (by lia)) hr T.m_0 T.k_0 T.b_0 (aA (aB 0) (aA aD aE)) (hlen:=λ_ _ h=>eG h)) (bC callLen rfl T.z_len aAY (aA (aB 0) aE)) (nomark _))
  (aG (aO cO))
  aU)
  (aC (bH (iZ (kP (aM (opEq (aY hr)) (bG (aB 0) aD) aF (nomark _)) (iO (aM opGt (bC callLen rfl T.z_len aAY (aA (aB 0) aE)) aD (nomark _)))))
  (aG (aO cO))
  aU)
  (aG (aO (bY callIntS rfl T.z_int dQ (aA (aB 0) aE)))))))
theorem fW(T:Tx K mg a):∀d:Nat,FnOk P w K mg base CX0 (d+0) a.a_2 a.d_2 ["expr"] (spF K Z0 1 (bI (d)))
 |0=>oR rfl
 |d+1=>by
  have ih:=fW T d
  have ih_show_expr:=ih
  rw[show d+1+0=(d+0)+1 by lia]
  exact fZ (k:=d+0) T.f_2 oK λcdv A outer s H E hr=>show Ess _ K Z0 (defBody bT) (b_2 (bI d))from
  (aC (bH (aM (opEq (aY hr)) (bG (aB 0) aD) aF (nomark _))
  (aG (aO (bY callStr rfl T.z_str rV (aA (bG (aB 0) aD) aE))))
  aU)
  (aC (bH (aM (opEq (aY hr)) (bG (aB 0) aD) aF (nomark _))
  (aG (aO (nQ (sI (oJ (bG (aB 0) aD) yK)))))
  aU)
  (aG (aO (nQ (sI (oJ (aX ih_show_expr hr T.m_2 T.k_2 T.b_2 (aA (bG (aB 0) aD) aE) (hlen:=λ_ _ h=>fL h)) (oJ (aFs T.v_SIGNS T.w_SIGNS (bG (aB 0) aD)) (oJ (aX ih_show_expr hr T.m_2 T.k_2 T.b_2 (aA (bG (aB 0) aD) aE) (hlen:=λ_ _ h=>fL h)) (sI yK))))))))))
theorem pJ(d:Nat)(T:Tx K mg a):FnOk P w K mg base CX0 (d+0) a.a_2 a.d_2 ["expr"] (spF K Z0 1 (bI d)):=(fW T d)
theorem qY(T:Tx K mg a):FnOk P w K mg base (CX1 P w) 3 a.a_7 a.d_7 aGP (spX K 2 eS) :=
 gZ (k:=2) T.f_7.g gU λcdv A outer s H E hr hz=>show Ess _ K (ZR K (wishR E)) (defBody bZ) b_7 from
  (aC (aK (i:=2) gU.nd (bO ((eO T).mono (by lia)) hr T.m_0 T.k_0 T.b_0 (aA (aB 0) (aA (aB 1) aE)) (hlen:=λ_ _ h=>eG h)))
  (aC (aK (i:=3) gU.nd (bO ((jT T).mono (by lia)) hr T.m_1 T.k_1 T.b_1 (aA (aT (aB 0) (bJ (aB 1)) (bJ (aB 2))) (aA (xF T.v_MOST_FIGURES) aE)) (hlen:=λ_ _ h=>iQ h)))
  (aC (bH (aM opIs (aB 3) cO (nomark _))
  (aG (fX hz T.xc_BadText T.xb_BadText T.le T.ti_BadText (bW T) T.nf_BadText (hr.mono (by lia)) T.bi_BadText T.m_BadText T.kc_BadText rfl aD))
  aU)
  (aG (aO (cC (aA (cC (aA aF (aA (aB 3) aE))) (aA (aB 2) aE))))))))
theorem mU(T:Tx K mg a):FnOk P w K mg base (CX1 P w) 3 a.a_6 a.d_6 aGP (spX K 2 dN) :=
 gZ (k:=2) T.f_6.g fJ λcdv A outer s H E hr hz=>show Ess _ K (ZR K (wishR E)) (defBody bK) b_6 from
  (aC (aK (i:=2) fJ.nd (bO ((eO T).mono (by lia)) hr T.m_0 T.k_0 T.b_0 (aA (aB 0) (aA (aB 1) aE)) (hlen:=λ_ _ h=>eG h)))
  (aC (aK (i:=3) fJ.nd (bO ((jT T).mono (by lia)) hr T.m_1 T.k_1 T.b_1 (aA (aT (aB 0) (bJ (aB 1)) (bJ (aB 2))) (aA aD aE)) (hlen:=λ_ _ h=>iQ h)))
  (aC (bH (iZ (hW (aM opIs (aB 3) cO (nomark _)) (gK (aM opGt (aB 3) (xF T.v_LAST_GIVEN) (nomark _)))))
  (aG (fX hz T.xc_BadText T.xb_BadText T.le T.ti_BadText (bW T) T.nf_BadText (hr.mono (by lia)) T.bi_BadText T.m_BadText T.kc_BadText rfl aD))
  aU)
  (aG (aO (cC (aA (cC (aA aF (aA (aB 3) aE))) (aA (aB 2) aE))))))))
theorem fU(T:Tx K mg a):∀d:Nat,FnOk P w K mg base (CX1 P w) (d+3) a.a_5 a.d_5 aGR (spX K 3 (bR (d)))/\FnOk P w K mg base (CX1 P w) (d+3) a.a_4 a.d_4 aGR (spX K 3 (bD (d)))
 |0=>⟨uZ rfl,uZ rfl⟩
 |d+1=>by
  have ih:=fU T d
  obtain⟨ih_read_pair,ih_read_part⟩:=ih
  rw[show d+1+3=(d+3)+1 by lia]
  exact⟨gZ (k:=d+3) T.f_5.g cQ λcdv A outer s H E hr hz=>show Ess _ K (ZR K (wishR E)) (defBody bS) (b_5 (bR d) (bD d))from
  (aC (bH (aM opGt (aB 2) (xF T.v_MOST_BRACKETS) (nomark _))
  (aG (fX hz T.xc_BadText T.xb_BadText T.le T.ti_BadText (bW T) T.nf_BadText (hr.mono (by lia)) T.bi_BadText T.m_BadText T.kc_BadText rfl aD))
  aU)
  (aC (eR (dZ hz ih_read_part hr T.m_4 T.k_4 T.b_4 (aA (aB 0) (aA (aB 1) (aA (aB 2) aE))) (hlen:=λ_ _ h=>fG h)) (hX rfl (bN (bM (i:=3) cQ.nd) (bN (bM (i:=1) cQ.nd) fD))))
  (aC (aK (i:=4) cQ.nd (vX T.v_WORDS T.w_WORDS (aT (aB 0) (bJ (aB 1)) (bJ (aH opAdd (aB 1) aD)))))
  (aC (bH (aM opIs (aB 4) cO (nomark _))
  (aG (fX hz T.xc_BadText T.xb_BadText T.le T.ti_BadText (bW T) T.nf_BadText (hr.mono (by lia)) T.bi_BadText T.m_BadText T.kc_BadText rfl aD))
  aU)
  (aC (eR (dZ hz ih_read_part hr T.m_4 T.k_4 T.b_4 (aA (aB 0) (aA (aH opAdd (aB 1) aD) (aA (aB 2) aE))) (hlen:=λ_ _ h=>fG h)) (hX rfl (bN (bM (i:=5) cQ.nd) (bN (bM (i:=1) cQ.nd) fD))))
  (aC (bH (aM (opNe (aY hr)) (aT (aB 0) (bJ (aB 1)) (bJ (aH opAdd (aB 1) aD))) aF (nomark _))
  (aG (fX hz T.xc_BadText T.xb_BadText T.le T.ti_BadText (bW T) T.nf_BadText (hr.mono (by lia)) T.bi_BadText T.m_BadText T.kc_BadText rfl aD))
  aU)
  (aG (aO (cC (aA (cC (aA (aB 4) (aA (aB 3) (aA (aB 5) aE)))) (aA (aH opAdd (aB 1) aD) aE))))))))))),
   gZ (k:=d+3) T.f_4.g jS λcdv A outer s H E hr hz=>show Ess _ K (ZR K (wishR E)) (defBody bP) (b_4 (bR d) (bD d))from
  (aC (aK (i:=3) jS.nd (aT (aB 0) (bJ (aB 1)) (bJ (aH opAdd (aB 1) aD))))
  (aC (bH (aM (opEq (aY hr)) (aB 3) aF (nomark _))
  (aG (aO (dZ hz ih_read_pair hr T.m_5 T.k_5 T.b_5 (aA (aB 0) (aA (aH opAdd (aB 1) aD) (aA (aH opAdd (aB 2) aD) aE))) (hlen:=λ_ _ h=>nC h))))
  aU)
  (aC (bH (aM (opEq (aY hr)) (aB 3) aF (nomark _))
  (aG (aO (dZ hz ((mU T).mono (by lia)) hr T.m_6 T.k_6 T.b_6 (aA (aB 0) (aA (aH opAdd (aB 1) aD) aE)) (hlen:=λ_ _ h=>lX h))))
  aU)
  (aG (aO (dZ hz ((qY T).mono (by lia)) hr T.m_7 T.k_7 T.b_7 (aA (aB 0) (aA (aB 1) aE)) (hlen:=λ_ _ h=>oE h)))))))⟩
theorem oO(d:Nat)(T:Tx K mg a):FnOk P w K mg base (CX1 P w) (d+3) a.a_4 a.d_4 aGR (spX K 3 (bD d)):=(fU T d).2
theorem kF(T:Tx K mg a):FnOk P w K mg base (CX1 P w) 54 a.a_3 a.d_3 ["text"] (spX K 1 dE) :=
 gZ (k:=53) T.f_3.g gQ λcdv A outer s H E hr hz=>show Ess _ K (ZR K (wishR E)) (defBody bU) b_3 from
  (aC (eR (dZ hz ((oO 50 T).mono (by lia)) hr T.m_4 T.k_4 T.b_4 (aA (aB 0) (aA aD (aA aD aE))) (hlen:=λ_ _ h=>fG h)) (hX rfl (bN (bM (i:=1) gQ.nd) (bN (bM (i:=2) gQ.nd) fD))))
  (aC (bH (aM opLt (aB 2) (bC callLen rfl T.z_len aAY (aA (aB 0) aE)) (nomark _))
  (aG (fX hz T.xc_BadText T.xb_BadText T.le T.ti_BadText (bW T) T.nf_BadText (hr.mono (by lia)) T.bi_BadText T.m_BadText T.kc_BadText rfl aD))
  aU)
  (aG (aO (aB 1)))))
theorem lV(T:Tx K mg a):FnOk P w K mg base CX0 1 a.a_8 a.d_8 aGS (spF K Z0 2 iD) :=
 aDn (k:=0) T.f_8 iA λcdv A outer s H E hr=>show Ess _ K Z0 (defBody dU) b_8 from
  (aC (aK (i:=2) iA.nd (aH opAdd (aH opMulA aD (aB 1)) aD))
  (aC (bH (aM opLt (aB 1) (bC callLen rfl T.z_len aAY (aA (aB 0) aE)) (nomark _))
  (aG (aK (i:=2) iA.nd (bG (aB 0) (aB 1))))
  (aG (bH (aM opGt (bC callLen rfl T.z_len aAY (aA (aB 0) aE)) aD (nomark _))
  (aG (aK (i:=2) iA.nd (aH opAdd (aB 2) (aH opMulA (aH opMod (bG (aB 0) (aH opMod (aB 1) (bC callLen rfl T.z_len aAY (aA (aB 0) aE)))) aD) aD))))
  aU)))
  (aC (aK (i:=3) iA.nd (aH opAdd (aH opMod (aH opAdd (aH opMulA (aH opMod (aB 2) aD) aD) (aH opMulA aD (aB 1))) aD) aD))
  (aG (aO (uL (aA (bG (cP (aA aD (aA (aB 2) aE))) (bY callIntS rfl T.z_int dQ (aA (fK opGe (aB 2) (aH opPow aD aD) (nomark _)) aE))) (aA (aB 3) (aA aD aE)))))))))
theorem aQ(T:Tx K mg a):FnOk P w K mg base CX0 1 a.a_9 a.d_9 aGT (spF K Z0 2 aV) :=
 fZ (k:=0) T.f_9 kS λcdv A outer s H E hr=>show Ess _ K Z0 (defBody dA) b_9 from
  (aC (bH (aM opGt (bG (aB 0) aD) aD (nomark _))
  (aC (aK (i:=2) kS.nd (aH opMod (bG (aB 0) aD) (aB 1)))
  (aC (eR (aH opDiv (bG (aB 0) aD) (aB 1)) (tQ (aB 0) aD))
  (aG (aO (aB 2)))))
  aU)
  (aC (eR (aH opAdd (bG (aB 0) aD) aD) (tQ (aB 0) aD))
  (aC (aK (i:=3) kS.nd (aH opMod (aH opMulA (aH opAdd (bG (aB 0) aD) (aH opMulA aD (bG (aB 0) aD))) aD) aD))
  (aC (eR (aH opAdd (aH opMod (aH opAdd (aH opMulA (aB 3) aD) aD) aD) aD) (tQ (aB 0) aD))
  (aG (aO (aH opMod (aH opDiv (aH opAdd (aH opMulA (aB 3) aD) (bG (aB 0) aD)) aD) (aB 1))))))))
theorem iU(T:Tx K mg a):∀d:Nat,FnOk P w K mg base CX0 (d+1) a.a_a a.d_a aGU (spF K Z0 4 (cX (d)))
 |0=>oR rfl
 |d+1=>by
  have ih:=iU T d
  have ih_l_expr:=ih
  rw[show d+1+1=(d+1)+1 by lia]
  exact fZ (k:=d+1) T.f_a eM λcdv A outer s H E hr=>show Ess _ K Z0 (defBody cV) (b_a (cX d))from
  (aC (aK (i:=4) eM.nd (aX ((aQ T).mono (by lia)) hr T.m_9 T.k_9 T.b_9 (aA (aB 0) (aA aD aE)) (hlen:=λ_ _ h=>aN h)))
  (aC (bH (iZ (hW (aM opLt (aB 2) aD (nomark _)) (hW (aM (opEq (aY hr)) (aB 3) aD (nomark _)) (gK (aM (opEq (aY hr)) (aB 4) aD (nomark _))))))
  (aC (aK (i:=5) eM.nd (bG (cP (aA (aX ((aQ T).mono (by lia)) hr T.m_9 T.k_9 T.b_9 (aA (aB 0) (aA aD aE)) (hlen:=λ_ _ h=>aN h)) (aA (aX ((aQ T).mono (by lia)) hr T.m_9 T.k_9 T.b_9 (aA (aB 0) (aA aD aE)) (hlen:=λ_ _ h=>aN h)) aE))) (bY callIntS rfl T.z_int dQ (aA (fK (opEq (aY hr)) (aX ((aQ T).mono (by lia)) hr T.m_9 T.k_9 T.b_9 (aA (aB 0) (aA aD aE)) (hlen:=λ_ _ h=>aN h)) aD (nomark _)) aE))))
  (aC (bH (iZ (kP (aM opGt (aB 1) aD (nomark _)) (iO (aM opGt (aX ((aQ T).mono (by lia)) hr T.m_9 T.k_9 T.b_9 (aA (aB 0) (aA aD aE)) (hlen:=λ_ _ h=>aN h)) aD (nomark _)))))
  (aG (aO (cC (aA aF (aA (aX ((aQ T).mono (by lia)) hr T.m_9 T.k_9 T.b_9 (aA (aB 0) (aA (aB 1) aE)) (hlen:=λ_ _ h=>aN h)) aE)))))
  aU)
  (aG (aO (cC (aA aF (aA (aB 5) aE)))))))
  aU)
  (aC (aK (i:=6) eM.nd (aH opAdd aD (aX ((aQ T).mono (by lia)) hr T.m_9 T.k_9 T.b_9 (aA (aB 0) (aA (aH opSub (aB 2) aD) aE)) (hlen:=λ_ _ h=>aN h))))
  (aC (aK (i:=7) eM.nd (bG (cP (aA aF (aA aF (aA aF (aA aF aE))))) (aX ((aQ T).mono (by lia)) hr T.m_9 T.k_9 T.b_9 (aA (aB 0) (aA aD aE)) (hlen:=λ_ _ h=>aN h))))
  (aC (aK (i:=8) eM.nd (aX ih_l_expr hr T.m_a T.k_a T.b_a (aA (aB 0) (aA (aB 1) (aA (aB 6) (aA (aH opSub (aB 3) aD) aE)))) (hlen:=λ_ _ h=>jC h)))
  (aG (aO (cC (aA (aB 7) (aA (aB 8) (aA (aX ih_l_expr hr T.m_a T.k_a T.b_a (aA (aB 0) (aA (aB 1) (aA (aH opSub (aH opSub (aB 2) aD) (aB 6)) (aA (aH opSub (aB 3) aD) aE)))) (hlen:=λ_ _ h=>jC h)) aE)))))))))))
theorem vC(d:Nat)(T:Tx K mg a):FnOk P w K mg base CX0 (d+1) a.a_a a.d_a aGU (spF K Z0 4 (cX d)):=(iU T d)
theorem sQ(T:Tx K mg a):FnOk P w K mg base CX0 1 a.a_b a.d_b aGV (spF K Z0 2 iK) :=
 fZ (k:=0) T.f_b gJ λcdv A outer s H E hr=>show Ess _ K Z0 (defBody cK) b_b from
  (aC (aK (i:=2) gJ.nd (uL (aA (cC (aA (aB 0) (aA (aB 1) aE))) aE)))
  (aC (lR NW PassesOwn.never (aM opGt (bC callLen rfl T.z_len aAY (aA (aB 2) aE)) aD (nomark _))
  (aC (eR (aFq (aB 2)) (hX rfl (bN (bM (i:=3) gJ.nd) (bN (bM (i:=4) gJ.nd) fD))))
  (aG (bH (tO (hV mR T.z_isinstance T.z_tuple mE (aB 4)))
  (aC (bH (iZ (hW (aFy (tO (hV mR T.z_isinstance T.z_tuple mE (aB 3)))) (gK (aM (opNe (aY hr)) (bC callLen rfl T.z_len aAY (aA (aB 3) aE)) (bC callLen rfl T.z_len aAY (aA (aB 4) aE)) (nomark _)))))
  (aG (aO rD))
  aU)
  (aG (aCo (rW (aB 2) (sW rfl T.z_list T.z_zip (aB 3) (aB 4))))))
  (aG (bH (iZ (hW (aM (opNe (aY hr)) (hV oM T.z_isinstance T.z_bool pD (aB 3)) (hV oM T.z_isinstance T.z_bool pD (aB 4)) (nomark _)) (gK (aM (opNe (aY hr)) (hV yB T.z_isinstance T.z_int dQ (aB 3)) (hV yB T.z_isinstance T.z_int dQ (aB 4)) (nomark _)))))
  (aG (aO rD))
  (aG (bH (iZ (hW (tO (hV mR T.z_isinstance T.z_tuple mE (aB 3))) (gK (aM (opNe (aY hr)) (aB 3) (aB 4) (nomark _)))))
  (aG (aO rD))
  aU))))))))
  (aG (aO rD))))
theorem iS(T:Tx K mg a):∀d:Nat,FnOk P w K mg base CX0 (d+0) a.a_c a.d_c aGW (spF K Z0 1 (cF (d)))
 |0=>oR rfl
 |d+1=>by
  have ih:=iS T d
  have ih_l_text:=ih
  rw[show d+1+0=(d+0)+1 by lia]
  exact fZ (k:=d+0) T.f_c nO λcdv A outer s H E hr=>show Ess _ K Z0 (defBody cY) (b_c (cF d))from
  (aC (bH (aM (opEq (aY hr)) (bG (aB 0) aD) aF (nomark _))
  (aG (aO (bY callStr rfl T.z_str rV (aA (bG (aB 0) aD) aE))))
  aU)
  (aC (bH (aM (opEq (aY hr)) (bG (aB 0) aD) aF (nomark _))
  (aG (aO (aH opAdd aF (bY callStr rfl T.z_str rV (aA (bG (aB 0) aD) aE)))))
  aU)
  (aC (aK (i:=1) nO.nd (aFv (tb:=[("sum"," + "),("less"," - "),("times"," * ")]) (fY dC dC (fY dC dC (fY dC dC vB))) (aY hr) (bG (aB 0) aD)))
  (aG (aO (aH opAdd (aH opAdd (aH opAdd (aH opAdd aF (aX ih_l_text hr T.m_c T.k_c T.b_c (aA (bG (aB 0) aD) aE) (hlen:=λ_ _ h=>jA h))) (aB 1)) (aX ih_l_text hr T.m_c T.k_c T.b_c (aA (bG (aB 0) aD) aE) (hlen:=λ_ _ h=>jA h))) aF))))))
theorem vW(d:Nat)(T:Tx K mg a):FnOk P w K mg base CX0 (d+0) a.a_c a.d_c aGW (spF K Z0 1 (cF d)):=(iS T d)
theorem sO(T:Tx K mg a):FnOk P w K mg base CX0 1 a.a_d a.d_d [] (spF K Z0 0 fM) :=
 fZ (k:=0) T.f_d mD λcdv A outer s H E hr=>show Ess _ K Z0 (defBody cH) b_d from
  (aC (aK (i:=0) mD.nd aF)
  (aG (aO (aH opAdd (aB 0) aF))))
theorem iT(T:Tx K mg a):∀d:Nat,FnOk P w K mg base CX0 (d+0) a.a_e a.d_e aGX (spF K Z0 2 (cU (d)))
 |0=>oR rfl
 |d+1=>by
  have ih:=iT T d
  have ih_l_read:=ih
  rw[show d+1+0=(d+0)+1 by lia]
  exact fZ (k:=d+0) T.f_e cG λcdv A outer s H E hr=>show Ess _ K Z0 (defBody cZ) (b_e (cU d))from
  (aC (bH (aM (opEq (aY hr)) (aT (aB 0) (bJ (aB 1)) (bJ (aH opAdd (aB 1) aD))) aF (nomark _))
  (aC (eR (aX ih_l_read hr T.m_e T.k_e T.b_e (aA (aB 0) (aA (aH opAdd (aB 1) aD) aE)) (hlen:=λ_ _ h=>jE h)) (hX rfl (bN (bM (i:=2) cG.nd) (bN (bM (i:=3) cG.nd) fD))))
  (aC (aK (i:=4) cG.nd (vU (tb:=[(" + ","sum"),(" - ","less"),(" * ","times")]) (fY dC dC (fY dC dC (fY dC dC vB))) (aY hr) (aT (aB 0) (bJ (aB 3)) (bJ (aH opAdd (aB 3) aD)))))
  (aC (bH (iZ (hW (aM opIs (aB 2) cO (nomark _)) (gK (aM opIs (aB 4) cO (nomark _)))))
  (aG (aO (cC (aA cO (aA (aB 1) aE)))))
  aU)
  (aC (eR (aX ih_l_read hr T.m_e T.k_e T.b_e (aA (aB 0) (aA (aH opAdd (aB 3) aD) aE)) (hlen:=λ_ _ h=>jE h)) (hX rfl (bN (bM (i:=5) cG.nd) (bN (bM (i:=6) cG.nd) fD))))
  (aC (bH (iZ (hW (aM opIs (aB 5) cO (nomark _)) (gK (aM (opNe (aY hr)) (aT (aB 0) (bJ (aB 6)) (bJ (aH opAdd (aB 6) aD))) aF (nomark _)))))
  (aG (aO (cC (aA cO (aA (aB 1) aE)))))
  aU)
  (aG (aO (cC (aA (cC (aA (aB 4) (aA (aB 2) (aA (aB 5) aE)))) (aA (aH opAdd (aB 6) aD) aE))))))))))
  aU)
  (aC (aK (i:=7) cG.nd (aH opAdd (aB 1) (bY callIntS rfl T.z_int dQ (aA (fK (opEq (aY hr)) (aT (aB 0) (bJ (aB 1)) (bJ (aH opAdd (aB 1) aD))) aF (nomark _)) aE))))
  (aC (aK (i:=8) cG.nd (aB 7))
  (aC (lR NW PassesOwn.never (iZ (kP (aM opLt (aB 8) (bC callLen rfl T.z_len aAY (aA (aB 0) aE)) (nomark _)) (iO (aM opInS (bG (aB 0) (aB 8)) aF (by with_unfolding_all rfl)))))
  (aG (aK (i:=8) cG.nd (aH opAdd (aB 8) aD))))
  (aC (aK (i:=9) cG.nd (aT (aB 0) (bJ (aB 7)) (bJ (aB 8))))
  (aC (bH (iZ (hW (aM (opEq (aY hr)) (aB 9) aF (nomark _)) (hW (aM opGt (bC callLen rfl T.z_len aAY (aA (aB 9) aE)) aD (nomark _)) (gK (iZ (kP (aM (opEq (aY hr)) (bG (aB 9) aD) aF (nomark _)) (iO (aM opGt (bC callLen rfl T.z_len aAY (aA (aB 9) aE)) aD (nomark _)))))))))
  (aG (aO (cC (aA cO (aA (aB 1) aE)))))
  aU)
  (aC (bH (iZ (kP (aM opGt (aB 7) (aB 1) (nomark _)) (iO (aM opGt (bY callIntS rfl T.z_int dQ (aA (aB 9) aE)) aD (nomark _)))))
  (aG (aO (cC (aA cO (aA (aB 1) aE)))))
  aU)
  (aG (aO (cC (aA (bG (cP (aA (cC (aA aF (aA (bY callIntS rfl T.z_int dQ (aA (aB 9) aE)) aE))) (aA (cC (aA aF (aA (bY callIntS rfl T.z_int dQ (aA (aB 9) aE)) aE))) aE))) (aH opSub (aB 7) (aB 1))) (aA (aB 8) aE))))))))))))
theorem vS(d:Nat)(T:Tx K mg a):FnOk P w K mg base CX0 (d+0) a.a_e a.d_e aGX (spF K Z0 2 (cU d)):=(iT T d)
theorem yV(T:Tx K mg a):FnOk P w K mg base CX0 51 a.a_f a.d_f aGY (spF K Z0 1 jI) :=
 fZ (k:=50) T.f_f dY λcdv A outer s H E hr=>show Ess _ K Z0 (defBody dS) b_f from
  (aC (eR (cC (aA aD (aA aD aE))) (hX rfl (bN (bM (i:=1) dY.nd) (bN (bM (i:=2) dY.nd) fD))))
  (aC (sR PassesOwn.never rfl (aEi (aB 0)) (bM (i:=3) dY.nd)
  (aC (aK (i:=1) dY.nd (aH opSub (aH opAdd (aB 1) (bY callIntS rfl T.z_int dQ (aA (fK (opEq (aY hr)) (aB 3) aF (nomark _)) aE))) (bY callIntS rfl T.z_int dQ (aA (fK (opEq (aY hr)) (aB 3) aF (nomark _)) aE))))
  (aG (aK (i:=2) dY.nd (bC (callMax2 rfl) rfl T.z_max aGe (aA (aB 2) (aA (aB 1) aE)))))))
  (aC (bH (aM opGt (aB 2) aD (nomark _))
  (aG (aO cO))
  aU)
  (aC (eR (aX ((vS 50 T).mono (by lia)) hr T.m_e T.k_e T.b_e (aA (aB 0) (aA aD aE)) (hlen:=λ_ _ h=>jE h)) (hX rfl (bN (bM (i:=4) dY.nd) (bN (bM (i:=5) dY.nd) fD))))
  (aG (aO (bG (cP (aA cO (aA (aB 4) aE))) (bY callIntS rfl T.z_int dQ (aA (kK (fK opIsNot (aB 4) cO (nomark _)) (pK (fK (opEq (aY hr)) (aB 5) (bC callLen rfl T.z_len aAY (aA (aB 0) aE)) (nomark _)))) aE)))))))))
theorem pE(T:Tx K mg a):FnOk P w K mg base (CX1 P w) 55 a.a_10 a.d_10 aGY (spX K 1 dX) :=
 gZ (k:=54) T.f_10.g cR λcdv A outer s H E hr hz=>show Ess _ K (ZR K (wishR E)) (defBody bV) b_10 from
  (aC (aK (i:=1) cR.nd rD)
  (aC (xW (i:=2) (aAt T.xc_BadText) T.m_BadText cR.nd
  (aCj (aCd ((kF T).mono (by lia)) hr T.m_3 T.k_3 T.b_3 (aA (aB 0) aE) (hlen:=λ_ _ h=>iV h)))
  (λ_=>(aC (aK (i:=3) cR.nd (aAy (eB (gY T.xc_NoDeed) T.m_NoDeed (eB (gY T.xc_NoInverse) T.m_NoInverse (eB (gY T.xc_NoMove) T.m_NoMove (eB (gY T.xc_NoPaper) T.m_NoPaper (eB (gY T.xc_NoRest) T.m_NoRest (eB (gY T.xc_NoRoot) T.m_NoRoot (eB (gY T.xc_NoRow) T.m_NoRow (eB (gY T.xc_TooMany) T.m_TooMany aBg)))))))) T.z_isinstance (aB 2)))
  (aC (aK (i:=1) cR.nd (kK (aGd (aIa T.nm_LentError) T.m_LentError T.z_isinstance (aB 2)) (kK (aBd T.z_ValueError T.z_isinstance (aB 2)) (pK (xU (aB 3))))))
  (aG (aK (i:=1) cR.nd (kK (aB 1) (kK (fK (opEq (aFe hr)) (zS (aB 2)) aD (nomark _)) (pK (xU (hV oM T.z_isinstance T.z_bool pD (zS (aB 2)))))))))))))
  (aG (aO (aB 1)))))
theorem sJ(T:Tx K mg a):FnOk P w K mg base (CX1 P w) 56 a.a_11 a.d_11 aGY (spX K 1 fV) :=
 gZ (k:=55) T.f_11.g iW λcdv A outer s H E hr hz=>show Ess _ K (ZR K (wishR E)) (defBody cJ) b_11 from
  (aC (aK (i:=1) iW.nd (bO ((yV T).mono (by lia)) hr T.m_f T.k_f T.b_f (aA (aB 0) aE) (hlen:=λ_ _ h=>vD h)))
  (aC (bH (aM opIs (aB 1) cO (nomark _))
  (aG (aO (dZ hz ((pE T).mono (by lia)) hr T.m_10 T.k_10 T.b_10 (aA (aB 0) aE) (hlen:=λ_ _ h=>mX h))))
  aU)
  (aC (aK (i:=2) iW.nd (dZ hz ((kF T).mono (by lia)) hr T.m_3 T.k_3 T.b_3 (aA (aB 0) aE) (hlen:=λ_ _ h=>iV h)))
  (aG (aO (kK (bO ((sQ T).mono (by lia)) hr T.m_b T.k_b T.b_b (aA (aB 2) (aA (aB 1) aE)) (hlen:=λ_ _ h=>pZ h)) (pK (fK (opEq (aY hr)) (bO ((pJ 50 T).mono (by lia)) hr T.m_2 T.k_2 T.b_2 (aA (aB 2) aE) (hlen:=λ_ _ h=>fL h)) (aB 0) (nomark _)))))))))
theorem zW(T:Tx K mg a):FnOk P w K mg base CX0 2 a.a_12 a.d_12 aGZ (spF K Z0 1 jM) :=
 fZ (k:=1) T.f_12 fO λcdv A outer s H E hr=>show Ess _ K Z0 (defBody dW) b_12 from
  (aC (aK (i:=1) fO.nd (cP (aA aF (aA aF (aA aF (aA aF (aA aF (aA aF (aA aF (aA aF (aA aF (aA aF (aA aF (aA aF (aA aF (aA aF (aA aF (aA aF (aA aF aE)))))))))))))))))))
  (aC (aK (i:=1) fO.nd (aH opAdd (aB 1) (cP (aA aF (aA aF (aA aF (aA aF (aA aF (aA aF (aA aF (aA aF (aA aF aE))))))))))))
  (aC (aK (i:=1) fO.nd (aH opAdd (aB 1) (cP (aA aF (aA aF (aA aF (aA aF (aA aF (aA aF (aA aF (aA aF aE)))))))))))
  (aC (aK (i:=1) fO.nd (aH opAdd (aB 1) (cP (aA aF (aA aF aE)))))
  (aC (aK (i:=1) fO.nd (aH opAdd (aB 1) (cP (aA aF (aA aF (aA aF (aA aF (aA aF (aA aF (aA aF (aA aF (aA aF (aA aF (aA aF (aA aF aE)))))))))))))))
  (aG (aO (bG (aB 1) (aX ((aQ T).mono (by lia)) hr T.m_9 T.k_9 T.b_9 (aA (aB 0) (aA (bC callLen rfl T.z_len aAY (aA (aB 1) aE)) aE)) (hlen:=λ_ _ h=>aN h))))))))))
theorem pR(T:Tx K mg a):FnOk P w K mg base CX0 3 a.a_13 a.d_13 aHA (spF K Z0 2 eX) :=
 fZ (k:=2) T.f_13 cN λcdv A outer s H E hr=>show Ess _ K Z0 (defBody cA) b_13 from
  (aC (aK (i:=2) cN.nd (aX ((aQ T).mono (by lia)) hr T.m_9 T.k_9 T.b_9 (aA (aB 0) (aA aD aE)) (hlen:=λ_ _ h=>aN h)))
  (aC (aK (i:=3) cN.nd (aX ((aQ T).mono (by lia)) hr T.m_9 T.k_9 T.b_9 (aA (aB 0) (aA (aH opAdd (bC callLen rfl T.z_len aAY (aA (aB 1) aE)) aD) aE)) (hlen:=λ_ _ h=>aN h)))
  (aC (aK (i:=4) cN.nd (yO ((sO T).mono (by lia)) hr T.m_d T.k_d T.b_d (hlen:=λ_ _ h=>pX h)))
  (aC (aK (i:=5) cN.nd (bG (aB 4) (aX ((aQ T).mono (by lia)) hr T.m_9 T.k_9 T.b_9 (aA (aB 0) (aA (bC callLen rfl T.z_len aAY (aA (aB 4) aE)) aE)) (hlen:=λ_ _ h=>aN h))))
  (aC (bH (aM (opEq (aY hr)) (aB 2) aD (nomark _))
  (aG (aO (aX ((zW T).mono (by lia)) hr T.m_12 T.k_12 T.b_12 (aA (aB 0) aE) (hlen:=λ_ _ h=>wN h))))
  aU)
  (aC (bH (aM (opEq (aY hr)) (aB 2) aD (nomark _))
  (aC (aK (i:=6) cN.nd (aH opAdd aD (aX ((aQ T).mono (by lia)) hr T.m_9 T.k_9 T.b_9 (aA (aB 0) (aA aD aE)) (hlen:=λ_ _ h=>aN h))))
  (aG (aO (aH opAdd (aH opAdd (aT (aB 1) fT (bJ (aB 3))) (aT (aB 1) (bJ (aB 3)) (bJ (aH opAdd (aB 3) (aB 6))))) (aT (aB 1) (bJ (aB 3)) fT)))))
  aU)
  (aC (bH (aM (opEq (aY hr)) (aB 2) aD (nomark _))
  (aC (aHi (i:=7) (j:=8) rfl cN.nd (aA (aT (aB 1) fT (bJ (aB 3))) (aA (aT (aB 1) (bJ (aB 3)) fT) aE)))
  (aG (aO (aH opAdd (aH opAdd (aH opAdd (aB 7) (aT (aB 8) (bJ aD) (bJ aD))) (aT (aB 8) fT (bJ aD))) (aT (aB 8) (bJ aD) fT)))))
  aU)
  (aC (bH (aM (opEq (aY hr)) (aB 2) aD (nomark _))
  (aG (aO (aH opAdd (aT (aB 1) fT (bJ (aB 3))) (aT (aB 1) (bJ (aH opAdd (aB 3) aD)) fT))))
  aU)
  (aC (bH (aM (opEq (aY hr)) (aB 2) aD (nomark _))
  (aG (aO (aH opAdd (aH opAdd (aT (aB 1) fT (bJ (aB 3))) (aB 5)) (aT (aB 1) (bJ (aH opAdd (aB 3) aD)) fT))))
  aU)
  (aG (aO (aH opAdd (aH opAdd (aT (aB 1) fT (bJ (aB 3))) (aB 5)) (aT (aB 1) (bJ (aB 3)) fT)))))))))))))
theorem vT(T:Tx K mg a):FnOk P w K mg base CX0 2 a.a_14 a.d_14 aGZ (spF K Z0 1 hZ) :=
 fZ (k:=1) T.f_14 cS λcdv A outer s H E hr=>show Ess _ K Z0 (defBody cW) b_14 from
  (aC (aK (i:=1) cS.nd (bG (cP (aA (aH opAdd aD (aX ((aQ T).mono (by lia)) hr T.m_9 T.k_9 T.b_9 (aA (aB 0) (aA aD aE)) (hlen:=λ_ _ h=>aN h))) (aA (aH opAdd aD (aX ((aQ T).mono (by lia)) hr T.m_9 T.k_9 T.b_9 (aA (aB 0) (aA aD aE)) (hlen:=λ_ _ h=>aN h))) aE))) (bY callIntS rfl T.z_int dQ (aA (fK (opEq (aY hr)) (aX ((aQ T).mono (by lia)) hr T.m_9 T.k_9 T.b_9 (aA (aB 0) (aA aD aE)) (hlen:=λ_ _ h=>aN h)) aD (nomark _)) aE))))
  (aC (aK (i:=2) cS.nd (aH opAdd (aH opAdd (aH opRepT aF (aB 1)) aF) (aH opRepT aF (aB 1))))
  (aC (bH (aM (opEq (aY hr)) (aX ((aQ T).mono (by lia)) hr T.m_9 T.k_9 T.b_9 (aA (aB 0) (aA aD aE)) (hlen:=λ_ _ h=>aN h)) aD (nomark _))
  (aG (aK (i:=2) cS.nd (aH opAdd (aH opAdd (aH opRepT aF (aB 1)) aF) (aH opRepT aF (aB 1)))))
  aU)
  (aC (aK (i:=3) cS.nd (bG (cP (aA aF (aA aF (aA aF aE)))) (aX ((aQ T).mono (by lia)) hr T.m_9 T.k_9 T.b_9 (aA (aB 0) (aA aD aE)) (hlen:=λ_ _ h=>aN h))))
  (aC (aK (i:=3) cS.nd (aH opRepT (aB 3) (aH opAdd aD (aX ((aQ T).mono (by lia)) hr T.m_9 T.k_9 T.b_9 (aA (aB 0) (aA aD aE)) (hlen:=λ_ _ h=>aN h)))))
  (aC (aK (i:=4) cS.nd (aH opAdd (bG (cP (aA aF (aA aF (aA aF aE)))) (aX ((aQ T).mono (by lia)) hr T.m_9 T.k_9 T.b_9 (aA (aB 0) (aA aD aE)) (hlen:=λ_ _ h=>aN h))) (aH opRepT (bG aF (aX ((aQ T).mono (by lia)) hr T.m_9 T.k_9 T.b_9 (aA (aB 0) (aA aD aE)) (hlen:=λ_ _ h=>aN h))) (aH opAdd aD (aX ((aQ T).mono (by lia)) hr T.m_9 T.k_9 T.b_9 (aA (aB 0) (aA aD aE)) (hlen:=λ_ _ h=>aN h))))))
  (aC (aK (i:=5) cS.nd (aH opAdd (aH opAdd (aH opAdd aF (aH opRepT aF (aB 1))) aF) (aH opRepT aF (aH opAdd (aB 1) aD))))
  (aC (bH (aM (opEq (aY hr)) (aX ((aQ T).mono (by lia)) hr T.m_9 T.k_9 T.b_9 (aA (aB 0) (aA aD aE)) (hlen:=λ_ _ h=>aN h)) aD (nomark _))
  (aG (aK (i:=5) cS.nd (aH opAdd (aH opAdd (aH opRepT aF (aH opAdd (aB 1) aD)) aF) (aH opRepT aF (aB 1)))))
  aU)
  (aG (aO (cP (aA (aB 2) (aA (aB 3) (aA (aH opRepT aF (aH opSub aD (aX ((aQ T).mono (by lia)) hr T.m_9 T.k_9 T.b_9 (aA (aB 0) (aA aD aE)) (hlen:=λ_ _ h=>aN h)))) (aA (aB 4) (aA (aB 5) (aA (aB 2) aE)))))))))))))))))
theorem aGg(T:Tx K mg a):FnOk P w K mg base (CX1 P w) 57 a.a_15 a.d_15 aHB (spX K 1 mO) :=
 gZ (k:=56) T.f_15.g eZ λcdv A outer s H E hr hz=>show Ess _ K (ZR K (wishR E)) (defBody iB) b_15 from
  (aC (aK (i:=1) eZ.nd (bO ((lV T).mono (by lia)) hr T.m_8 T.k_8 T.b_8 (aA (aB 0) (aA aD aE)) (hlen:=λ_ _ h=>kN h)))
  (aC (aK (i:=2) eZ.nd (bO ((vW 50 T).mono (by lia)) hr T.m_c T.k_c T.b_c (aA (bO ((vC 50 T).mono (by lia)) hr T.m_a T.k_a T.b_a (aA (aB 1) (aA aD (aA (bG (cP (aA aD (aA aD (aA aD aE)))) (bO ((aQ T).mono (by lia)) hr T.m_9 T.k_9 T.b_9 (aA (aB 1) (aA aD aE)) (hlen:=λ_ _ h=>aN h))) (aA aD aE)))) (hlen:=λ_ _ h=>jC h)) aE) (hlen:=λ_ _ h=>jA h)))
  (aC (aK (i:=3) eZ.nd (cP (aA (aB 2) aE)))
  (aC (sR PassesOwn.leaving rfl (nT T.z_range aD) (bM (i:=4) eZ.nd)
  (aC (aK (i:=1) eZ.nd (bO ((lV T).mono (by lia)) hr T.m_8 T.k_8 T.b_8 (aA (aB 0) (aA (aH opAdd aD (aB 4)) aE)) (hlen:=λ_ _ h=>kN h)))
  (aC (aK (i:=5) eZ.nd (aB 2))
  (aC (sR PassesOwn.leaving rfl (nT T.z_range (aH opAdd aD (bO ((aQ T).mono (by lia)) hr T.m_9 T.k_9 T.b_9 (aA (aB 1) (aA aD aE)) (hlen:=λ_ _ h=>aN h)))) (bM (i:=6) eZ.nd)
  (aG (aK (i:=5) eZ.nd (bO ((pR T).mono (by lia)) hr T.m_13 T.k_13 T.b_13 (aA (aB 1) (aA (aB 5) aE)) (hlen:=λ_ _ h=>oF h)))))
  (aG (aK (i:=3) eZ.nd (aH opAdd (aB 3) (cP (aA (aB 5) (aA (aB 2) aE))))))))))
  (aC (aK (i:=3) eZ.nd (aH opAdd (aB 3) (bO ((vT T).mono (by lia)) hr T.m_14 T.k_14 T.b_14 (aA (bO ((lV T).mono (by lia)) hr T.m_8 T.k_8 T.b_8 (aA (aB 0) (aA aD aE)) (hlen:=λ_ _ h=>kN h)) aE) (hlen:=λ_ _ h=>rQ h))))
  (aG (aO (bC (callAllB rfl) rfl T.z_all aEz (aA (aCp rfl (CompOk.of (N0:=aHD) (sc0:=defScope iB) (Nc:=aGY) (js:=[none]) (by decide +kernel)) (aJi (aH opAdd (aB 3) (aT (aB 3) fT (bJ aD)))) (λ_ _ _ _ _ _=>(bM (i:=0) (show(aGY:List Str).Nodup by decide +kernel))) (λ_ _ _ _ _ _=>aCg) (λ_ _ _ _ _ _=>(yZ ((sJ T).mono (by lia)) hr T.m_11 T.k_11 T.b_11 (aA (aB 0) aE) (hlen:=λ_ _ h=>rG h)))) aE)))))))))
open PySem L2 EV LS
local macro_rules | `(tactic| rfl') => `(tactic| repeat decreasing_trivial_pre_omega)
local macro_rules | `(tactic| decreasing_trivial_pre_omega) => `(tactic| with_reducible first
 | apply gD
 | apply aFc
 | apply mM
 | apply aHt
 | refine aHu (by with_unfolding_all exact rfl) ?_
 | apply aJh
 | apply aJk
 | apply aIs
 | apply aIl
 | apply aHy
 | apply jF
 | apply aIo
 | apply sG
 | apply aJe
 | apply aIb
 | apply aIe
 | apply zK
 | apply aCe
 | apply aEe
 | apply aEd
 | apply wG
 | apply aFb
 | apply aHe
 | apply aHk
 | (refine aDb ?hz ?_; case hz=>(with_unfolding_all first | exact rfl | decide | ((try simp only [aAU,true_and,and_true,aBB,aBA,aDW,aAV,aEE]) <;> lia)))
 | (refine aGn ?hz ?_; case hz=>(with_unfolding_all first | decide | ((try simp only [mulOk,aAU,aBB,aBA,aDW,aAV,aEE]) <;> lia)))
 | apply aEs
 | apply aGp
 | apply aGy
 | apply aIm
 | apply yD
 | apply aEc
 | refine aGo (by with_unfolding_all exact rfl) ?_
 | refine eW (by with_unfolding_all exact rfl) ?_
 | refine rP (by with_unfolding_all exact rfl) ?_
 | refine xX (by assumption) (by with_unfolding_all exact rfl) ?_
 | refine xX (aBN (by simpa only [List.length_set])) (by with_unfolding_all exact rfl) ?_
 | apply aBv
 | apply aBw
 | apply aFl
 | apply aIn
 | apply aGc
 | refine aEv (by with_unfolding_all exact rfl) (by with_unfolding_all simp) ?_
 | refine aGi (by with_unfolding_all exact rfl) (by with_unfolding_all simp) ?_
 | refine aFo (by with_unfolding_all exact rfl) (by with_unfolding_all simp) ?_
 | apply aBk
 | apply aCk
 | apply aAz
 | refine aBm (by assumption) ?_
 | apply aFi
 | apply aJg
 | apply aFp
 | apply aGa
 | apply aEh
 | apply aEa
 | refine aHv (s:=⟨[],none⟩) ?_
 | apply aFu
 | apply yT
 | apply aHr
 | apply aCt
 | apply aEf
 | apply aCb
 | apply aJa
 | apply aEp
 | apply aDu
 | refine aDt (by with_unfolding_all exact rfl) ?_
 | apply aAu
 | refine aHo (by with_unfolding_all exact rfl) ?_
 | refine ⟨_,rfl,?_⟩
 | refine ⟨_,_,_,_,rfl,rfl,by assumption,by with_unfolding_all exact rfl,?_⟩
 | refine ⟨_,_,_,_,rfl,rfl,aBN (by simpa only [List.length_set]),by with_unfolding_all exact rfl,?_⟩
 | refine wV (by with_unfolding_all decide) ?_
 | refine eY (by with_unfolding_all decide) ?_
 | refine ⟨fun h=>absurd h (by with_unfolding_all decide),fun _=>?_⟩
 | refine ⟨fun _=>?_,fun h=>absurd h (by with_unfolding_all decide)⟩
 | refine ⟨_,_,rfl,?_⟩
 | refine ⟨_,_,_,rfl,?_⟩)
theorem aR{b:Nat}{m:Int}(h:Bx M b)(h0:0 < m)(h1:m < 18446744073709551616):Ok (aV [.ref b,.d (.int m)] M) λw M'=>∃d:Int,w=.d (.int d)/\0<=d/\d < m/\Nx b M M':=by
 have hb:=h.lt
 obtain⟨x,y,z,e⟩:=h
 refine eE rfl ?_
 unfold b_9
 rfl'
 refine dL (λhx=>?_) (λhx=>?_)
 ·rfl'
  refine⟨Int.emod_nonneg _ (by lia),aGE _ h0,x / m,y,z,?_⟩
  rw[aAQ (by simp)];rfl
 ·rfl'
  refine⟨Int.emod_nonneg _ (by lia),aGE _ h0,?_⟩
  rw[aAQ (by simp)]
  exact⟨_,_,_,by rw[List.set_set];rfl⟩
theorem mJ{k:Int}(h0:0<=k)(hl:ns.length<=63):Ok (iD [.d (.fz (ns.map D.int)),.d (.int k)] M) λw M'=>∃x y z,w=.ref M.length/\M'=M++[[.int x,.int y,.int z]]:=by
 refine aEn rfl ?_
 have at_:∀i:Int,0<=i->i < (ns.length:Int)->∃n,atI (ns.map D.int) i=some (.int n):=λi a b=>by
  have hi:i.toNat < ns.length:=by lia
  refine⟨ns[i.toNat],?_⟩
  simp only[atI,ixN,aBB]
  rw[aAG a,aAG b]
  simp[hi]
 unfold b_8
 rfl'
 refine dL (λhx=>?_) (λhx=>?_)
 ·rw[aBB]at hx
  obtain⟨n,e⟩:=at_ k h0 hx
  rfl'
  refine rP e ?_
  rfl'
  refine eW (atBox _) ?_
  rfl'
  exact⟨M.length,[.int _,.int _,.int _],rfl,aAH _,aEH,_,_,_,rfl,by rw[aGC]⟩
 ·rfl'
  refine dL (λhy=>?_) (λhy=>?_)
  ·rw[aBB]at hy
   obtain⟨n,e⟩:=at_ (k % ns.length) (Int.emod_nonneg _ (by lia)) (aGE _ hy)
   rfl'
   rw[aBB]
   refine rP e ?_
   rfl'
   refine eW (atBox _) ?_
   rfl'
   exact⟨M.length,[.int _,.int _,.int _],rfl,aAH _,aEH,_,_,_,rfl,by rw[aGC]⟩
  ·rfl'
   refine eW (atBox _) ?_
   rfl'
   exact⟨M.length,[.int _,.int _,.int _],rfl,aAH _,aEH,_,_,_,rfl,by rw[aGC]⟩
theorem lI{xs:List Nat}{j:Nat}(h:∀c∈xs.take j,isF c=true)(hj:j<=xs.length)(he:∀c,xs[j]?=some c->isF c=false):(xs.takeWhile isF).length=j:=by
 have e:xs=xs.take j++xs.drop j:=(aEF j xs).symm
 have hs:calm (xs.drop j):=λc hc=>he c (by rw[List.head?_drop]at hc;exact hc)
 have t:=(mL h hs).1
 rw[<- e]at t
 rw[t,aCX];lia
theorem figs(c:Nat):(!(Builtin.Str.occurrences (Str.ofString "0123456789") (T [c]) 0 (Str.ofString "0123456789").length 1).isEmpty)=isF c:=by
 rw[show T [c]=⟨#[c]⟩from rfl,StrLaws.found_one,aZ]
 have:(T ("0123456789".toList.map Char.toNat)).cps.toList=List.range' 48 10:=by decide
 rw[this]
 unfold isF
 congr 1
 apply propext
 rw[List.mem_range'_1]
 exact⟨λh=>⟨h.1,Nat.le_of_lt_succ h.2⟩,λh=>⟨h.1,Nat.lt_succ_of_le h.2⟩⟩
variable{a:Nat}
theorem dP(hz:l.length<=16777216)(ha:a<=l.length):Ok (cB [.d (.str (T l)),.d (.int a)] M) λw M'=>w=.d (.int ((a+((l.drop a).takeWhile isF).length:Nat):Int))/\M'=M:=by
 unfold cB
 refine eE rfl ?_
 unfold b_0
 rfl'
 refine(kG (QS:=λo M'=>M'=M/\o=.nx [some (.d (.str (T l))),some (.d (.int a)),some (.d (.int ((a+((l.drop a).takeWhile isF).length:Nat):Int)))]) (I:=λm L M'=>∃j:Nat,m=l.length - (a+j)/\a+j<=l.length/\(∀c∈(l.drop a).take j,isF c=true)/\M'=M/\L=[some (.d (.str (T l))),some (.d (.int a)),some (.d (.int ((a+j:Nat):Int)))]) ?_ NW (l.length - a) _ _ ⟨0,by lia,by lia,by simp,rfl,by simp⟩ (by rw[zG];lia)).mono ?_
 ·rintro m L M' ⟨j,rfl,hj,hf,rfl,rfl⟩
  have hd:(l.drop a).length=l.length - a:=by simp
  rfl'
  refine dM (by rw[bE];exact hz) ?_
  rw[bE]
  rfl'
  refine⟨λh=>?_,λh=>?_⟩
  ·have hlt:a+j < l.length:=by have:=aEB h;lia
   have hat:atI l ((a+j:Nat):Int)=some l[a+j]:=by
    simp only[atI,ixN]
    rw[aAG (by lia),aAG (by lia)]
    rw[aDK];simp[hlt]
   rfl'
   refine kU hat hz ?_
   rfl'
   rw[figs]
   have hjd:(l.drop a)[j]?=some l[a+j]:=by rw[List.getElem?_drop];simp[hlt]
   refine⟨λhc=>?_,λhc=>⟨rfl,?_⟩⟩
   ·refine aBj rfl (aJh (aDb rfl ?_))
    refine⟨l.length - (a+(j+1)),by lia,j+1,rfl,by lia,?_,rfl,by simp;lia⟩
    intro c hc'
    rw[aFE,hjd]at hc'
    rcases aCE.mp hc' with hc'|hc'
    ·exact hf c hc'
    ·simp at hc';subst hc';exact hc
   ·rw[lI hf (by lia) (λc hc'=>by rw[hjd]at hc';cases hc';exact hc)]
  ·have hge:l.length<=a+j:=by have:=aGH h;lia
   refine⟨λh=>(by cases h),λ_=>⟨rfl,?_⟩⟩
   rw[lI hf (by lia) (λc hc'=>by rw[aDD (by lia)]at hc';cases hc')]
 ·rintro _ _ ⟨rfl,rfl⟩
  rfl'
  exact⟨rfl,aAE⟩
theorem qV:(l.takeWhile isF).length < l.length ↔ ¬l.all isF=true:=by
 induction l with
 |nil=>simp
 |cons c r ih =>
  rw[aGA]
  by_cases h:isF c=true
  ·simp only[h,aDE,aBA,aFH,Bool.true_and]
   rw[<- ih];lia
  ·simp[h]
noncomputable section
def optI:Option Nat->D
 |some n=>.int n
 |none=>.non
theorem gW(hz:l.length<=16777216)(hm:m<=640):Ok (dD [.d (.str (T l)),.d (.int m)] M) λw M'=>w=.d (optI (num? m l))/\M'=M:=by
 unfold dD
 refine eE rfl ?_
 unfold b_1
 refine gD (jF (Ok.mono (Q:=λc M'=>M'=M/\(c=true ↔ (l=[]\/m < l.length))) ?_ ?_))
 ·rfl'
  have e:(T l==Str.ofString "")=decide (l=[]):=by rw[aZ,dG];rfl
  rw[e]
  refine⟨λh=>⟨rfl,by simp at h;simp[h]⟩,λh=>?_⟩
  rfl'
  refine dM (by rw[bE];exact hz) ?_
  rw[bE]
  rfl'
  refine⟨rfl,?_⟩
  simp only[aCV]at h
  simp[h]
 rintro c M ⟨rfl,hc⟩
 refine rC (λh=>?_) (λh=>?_)
 ·have:=hc.mp h
  rfl'
  rw[aAE]
  refine⟨?_,rfl⟩
  unfold num?
  rw[aAG (by rcases this with h|h <;> simp[h])];rfl
 have h1:¬(l=[]\/m < l.length):=λz=>by rw[hc.mpr z]at h;cases h
 clear hc h
 rfl'
 refine(dP (l:=l) (a:=0) hz (by lia)).mono ?_
 rintro _ M ⟨rfl,rfl⟩
 rfl'
 refine dM (by rw[bE];exact hz) ?_
 rw[bE]
 rfl'
 refine dL (λh=>?_) (λh=>?_)
 ·have h2:¬l.all isF=true:=qV.mp (by simp only[aBV]at h;lia)
  rfl'
  rw[aAE]
  refine⟨?_,rfl⟩
  unfold num?
  rw[aAG (by simp[h2])];rfl
 have h2:l.all isF=true:=Classical.byContradiction λz=>h (by have:=qV.mpr z;simp only[aBV];lia)
 refine sG ?_
 obtain⟨c,r,rfl⟩:∃c r,l=c::r:=by
  cases l with
  |nil=>simp at h1
  |cons c r=>exact⟨c,r,rfl⟩
 refine gD (jF (Ok.mono (Q:=λb M'=>M'=M/\(b=true ↔ (c=48/\1 < (c::r).length))) ?_ ?_))
 ·rfl'
  refine kU (c:=c) (by simp[atI,ixN]) hz ?_
  rfl'
  have e:(T [c]==Str.ofString "0")=decide (c=48):=by rw[aZ,dG];simp
  rw[e]
  refine⟨λh=>?_,λh=>⟨rfl,?_⟩⟩
  ·rfl'
   refine dM (by rw[bE];exact hz) ?_
   rw[bE]
   rfl'
   refine⟨rfl,?_⟩
   simp only[aAU]at h ⊢
   constructor
   ·intro z;exact⟨h,by lia⟩
   ·rintro⟨_,z⟩;lia
  ·simp only[aCV]at h
   simp[h]
 rintro b M ⟨rfl,hb⟩
 refine rC (λh=>?_) (λh=>?_)
 ·have:=hb.mp h
  rfl'
  rw[aAE]
  refine⟨?_,rfl⟩
  unfold num?
  rw[aAG (.inr (.inr (.inr ⟨by simp[this.1],this.2⟩)))];rfl
 have h3:¬(c=48/\1 < (c::r).length):=λz=>by rw[hb.mpr z]at h;cases h
 have e:num? m (c::r)=some (NumText.digitsVal (c::r)):=by
  unfold num?
  rw[aAL]
  rintro(z|z|z|⟨z,z'⟩)
  ·exact h1 (.inl z)
  ·exact h1 (.inr z)
  ·exact z h2
  ·simp at z;exact h3 ⟨z,z'⟩
 obtain⟨i1,i2⟩:=hG e hm
 rfl'
 refine lJ i1 (by rw[bE];exact i2) ?_
 rfl'
 rw[e,aAE]
 exact⟨rfl,rfl⟩
def pos(l s:List Nat):D:=.int ((l.length - s.length:Nat):Int)
def BT(M:Mm)(x:D)(M':Mm):Prop:=M'=M/\x=.exn "BadText" "row" [.int 0]
def RdX(M:Mm)(l:List Nat)(r:Option (E×List Nat))(w:W)(M':Mm):Prop:=M'=M/\∃e s,r=some (e,s)/\w=.d (.tup [enc e,pos l s])
theorem oZ(ha:a<=l.length):((a+((l.drop a).takeWhile isF).length:Nat):Int)=((l.length - ((l.drop a).dropWhile isF).length:Nat):Int):=by
 have h:=congrArg List.length (aCS (p:=isF) (l:=l.drop a))
 rw[aAV,aCW]at h
 lia
theorem mV(hz:l.length<=16777216)(ha:a<=l.length) :
  Okx (λx M'=>BT M x M'/\rdN (l.drop a)=none) (eS [.d (.str (T l)),.d (.int a)] M) (RdX M l (rdN (l.drop a))):=by
 unfold eS
 refine eQ rfl ?_
 unfold b_7
 rfl'
 refine(dP hz ha).mono ?_
 rintro _ M ⟨rfl,rfl⟩
 rfl'
 refine dJ hz ?_
 rw[dB,aAP,eP]
 rfl'
 refine(gW (m:=6) (by have:=(aFO isF (l:=l.drop a)).length_le;simp at this;lia) (by lia)).mono ?_
 rintro _ M ⟨rfl,rfl⟩
 unfold rdN
 cases hn:num? 6 ((l.drop a).takeWhile isF)with
 |none =>
  rw[show optI none=.non from rfl]
  rfl'
  exact⟨⟨aAE,rfl⟩,rfl⟩
 |some n =>
  rw[show optI (some n)=.int n from rfl]
  rfl'
  refine eY (by simp[isN]) ?_
  rfl'
  rw[aAE,oZ ha]
  exact⟨rfl,_,_,rfl,rfl⟩
theorem lB(hz:l.length<=16777216)(ha:a<=l.length) :
  Okx (λx M'=>BT M x M'/\rdG (l.drop a)=none) (dN [.d (.str (T l)),.d (.int a)] M) (RdX M l (rdG (l.drop a))):=by
 unfold dN
 refine eQ rfl ?_
 unfold b_6
 rfl'
 refine(dP hz ha).mono ?_
 rintro _ M ⟨rfl,rfl⟩
 rfl'
 refine dJ hz ?_
 rw[dB,aAP,eP]
 rfl'
 refine(gW (m:=1) (by have:=(aFO isF (l:=l.drop a)).length_le;simp at this;lia) (by lia)).mono ?_
 rintro _ M ⟨rfl,rfl⟩
 unfold rdG
 cases hn:num? 1 ((l.drop a).takeWhile isF)with
 |none =>
  rw[show optI none=.non from rfl]
  rfl'
  exact⟨⟨aAE,rfl⟩,rfl⟩
 |some n =>
  rw[show optI (some n)=.int n from rfl]
  rfl'
  refine⟨λh=>by simp[isN]at h,λ_=>?_⟩
  rfl'
  refine dL (λh=>?_) (λh=>?_)
  ·rfl'
   exact⟨⟨aAE,rfl⟩,by simp only;rw[aAL (by lia)]⟩
  ·rfl'
   rw[aAE,oZ ha]
   refine⟨rfl,.giv n,(l.drop a).dropWhile isF,?_,rfl⟩
   simp only
   rw[aAG (by lia)]
theorem xO(x:List Nat):(PyProof.Rows.KTD.datumAt (T x) [(Str.ofString " + ",Str.ofString "sum"),(Str.ofString " - ",Str.ofString "less"),(Str.ofString " * ",Str.ofString "times")]).elim D.non D.str=match wd? x with
  |some w=>.str w.str
  |none=>.non:=by
 have e1:(Str.ofString " + ")=T [32,43,32]:=by rw[aZ];rfl
 have e2:(Str.ofString " - ")=T [32,45,32]:=by rw[aZ];rfl
 have e3:(Str.ofString " * ")=T [32,42,32]:=by rw[aZ];rfl
 unfold wd?
 simp only[PyProof.Rows.KTD.datumAt,e1,e2,e3,aCz,aAU]
 split
 ·rfl
 ·split
  ·rfl
  ·split <;> rfl
theorem tY{w:Wd}{s1:List Nat}(hw:wd? (s1.take 3)=some w):3<=s1.length:=by
 have:s1.take 3=sg w:=by unfold wd? at hw;split at hw <;> (try split at hw) <;> (try split at hw) <;> (try cases hw) <;> assumption
 have:=congrArg List.length this
 have h3:(sg w).length=3:=by cases w <;> rfl
 rw[h3]at this;simp at this;lia
theorem nP{Fp Fq:Fn}(hz:l.length<=16777216)(ha:a<=l.length)(k:Nat){br:Int}(h1:¬(l.drop a).take 1=[40]) :
  Okx (λx M'=>BT M x M'/\rd k (l.drop a)=none) (fnX 3 4 (b_4 Fp Fq) [.d (.str (T l)),.d (.int a),.d (.int br)] M) (RdX M l (rd k (l.drop a))):=by
 refine eQ rfl ?_
 unfold b_4
 rfl'
 refine dJ hz ?_
 rw[show(a:Int)+1=((a+1:Nat):Int) by lia,dB,aAP]
 rfl'
 rw[show(T ((l.drop a).take 1)==Str.ofString "(")=false by rw[aZ,dG];simpa using h1]
 rfl'
 unfold rd
 rw[aAL h1]
 by_cases h2:(l.drop a).take 1=[120]
 ·rw[aAG h2,show(T ((l.drop a).take 1)==Str.ofString "x")=true by rw[aZ,dG];simpa using h2]
  rfl'
  rw[show(a:Int)+1=((a+1:Nat):Int) by lia]
  have hl:a+1<=l.length:=by
   have:=congrArg List.length h2
   simp at this;lia
  rw[aEG]
  refine(lB hz hl).monoX ?_ ?_
  ·rintro _ M ⟨rfl,e,s,h,rfl⟩
   rfl'
   rw[aAE]
   exact⟨rfl,e,s,h,rfl⟩
  ·rintro x M ⟨⟨rfl,rfl⟩,h⟩
   exact⟨⟨aAE,rfl⟩,h⟩
 ·rw[aAL h2,show(T ((l.drop a).take 1)==Str.ofString "x")=false by rw[aZ,dG];simpa using h2]
  rfl'
  refine(mV hz ha).monoX ?_ ?_
  ·rintro _ M ⟨rfl,e,s,h,rfl⟩
   rfl'
   rw[aAE]
   exact⟨rfl,e,s,h,rfl⟩
  ·rintro x M ⟨⟨rfl,rfl⟩,h⟩
   exact⟨⟨aAE,rfl⟩,h⟩
theorem tH(l:List Nat)(hz:l.length<=16777216):∀(k:Nat) (fuel:Nat),2*k+1 < fuel->k<=20 ->
  ∀(M:Mm) (a:Nat),a<=l.length->Okx (λx M'=>BT M x M'/\rd k (l.drop a)=none) (bD fuel [.d (.str (T l)),.d (.int a),.d (.int ((20 - k:Nat):Int))] M) (RdX M l (rd k (l.drop a))):=by
 intro k
 induction k with
 |zero =>
  intro fuel hf hk M a ha
  obtain⟨f,rfl⟩:∃f,fuel=f+1+1:=⟨fuel - 2,by lia⟩
  unfold bD
  by_cases h1:(l.drop a).take 1=[40]
  ·refine eQ rfl ?_
   unfold b_4
   rfl'
   refine dJ hz ?_
   rw[show(a:Int)+1=((a+1:Nat):Int) by lia,dB,aAP]
   rfl'
   rw[show(T ((l.drop a).take 1)==Str.ofString "(")=true by rw[aZ,dG];simpa using h1]
   rfl'
   unfold bR
   refine eQ rfl ?_
   unfold b_5
   rfl'
   refine⟨⟨?_,rfl⟩,?_⟩
   ·rw[aAE,aAE]
   ·unfold rd;rw[aAG h1]
  ·exact nP hz ha 0 h1
 |succ k ih =>
  intro fuel hf hk M a ha
  obtain⟨f,rfl⟩:∃f,fuel=f+1+1:=⟨fuel - 2,by lia⟩
  have ih:=ih f (by lia) (by lia)
  unfold bD
  by_cases h1:(l.drop a).take 1=[40]
  ·have hl:a+1<=l.length:=by
    have:=congrArg List.length h1
    simp at this;lia
   have er:rd (k+1) (l.drop a)=rdP (rd k) (l.drop (a+1)):=by
    have:rd (k+1) (l.drop a)=rdP (rd k) ((l.drop a).drop 1):=by
     conv=>lhs;unfold rd
     rw[aAG h1]
    rw[this,aEG]
   rw[er]
   refine eQ rfl ?_
   unfold b_4
   rfl'
   refine dJ hz ?_
   rw[show(a:Int)+1=((a+1:Nat):Int) by lia,dB,aAP]
   rfl'
   rw[show(T ((l.drop a).take 1)==Str.ofString "(")=true by rw[aZ,dG];simpa using h1]
   rfl'
   refine Okx.monoX (EX:=λx M'=>BT M x M'/\rdP (rd k) (l.drop (a+1))=none) (Q:=RdX M l (rdP (rd k) (l.drop (a+1)))) ?_ ?_ ?_
   ·unfold bR
    refine eQ rfl ?_
    unfold b_5
    rfl'
    refine eY (by simp;lia) ?_
    rfl'
    rw[show((20 - (k+1):Nat):Int)+1=((20 - k:Nat):Int) by lia,show(a:Int)+1=((a+1:Nat):Int) by lia]
    refine(ih M (a+1) hl).monoX ?_ ?_
    rotate_left
    ·rintro x M ⟨⟨rfl,rfl⟩,h⟩
     exact⟨⟨aAE,rfl⟩,by unfold rdP;rw[h]⟩
    rintro _ M ⟨rfl,x,s1,hx,rfl⟩
    have g1:s1 <:+ l:=(gC _ _ _ _ hx).trans (aCJ _ _)
    have n1:=g1.length_le
    unfold pos
    rfl'
    refine dJ hz ?_
    rw[show((l.length - s1.length:Nat):Int)+3=((l.length - s1.length+3:Nat):Int) by lia,dB,aAP,fS g1]
    rfl'
    refine oP ?_
    rw[xO]
    cases hw:wd? (s1.take 3)with
    |none =>
     rfl'
     exact⟨⟨aAE,rfl⟩,by unfold rdP;rw[hx];simp only[hw]⟩
    |some w =>
    simp only
    have hw3:=tY hw
    rfl'
    refine eY (by simp[isN]) ?_
    rfl'
    have e3:l.drop (l.length - s1.length+3)=s1.drop 3:=by rw[<- aEG,fS g1]
    have ih2:=ih M (l.length - s1.length+3) (by lia)
    rw[e3]at ih2
    refine ih2.monoX ?_ ?_
    rotate_left
    ·rintro x M ⟨⟨rfl,rfl⟩,h⟩
     exact⟨⟨aAE,rfl⟩,by unfold rdP;rw[hx];simp only[hw,h]⟩
    rintro _ M ⟨rfl,y,s2,hy,rfl⟩
    have g2:s2 <:+ l:=(gC _ _ _ _ hy).trans ((aCJ _ _).trans g1)
    have n2:=g2.length_le
    unfold pos
    rfl'
    refine dJ hz ?_
    rw[show((l.length - s2.length:Nat):Int)+1=((l.length - s2.length+1:Nat):Int) by lia,dB,aAP,fS g2]
    rfl'
    by_cases h41:s2.take 1=[41]
    ·rw[show(T (s2.take 1)==Str.ofString ")")=true by rw[aZ,dG];simpa using h41]
     have n3:1<=s2.length:=by have:=congrArg List.length h41;simp at this;lia
     rfl'
     refine⟨aAE,.op w x y,s2.drop 1,by unfold rdP;rw[hx];simp only[hw,hy];rw[aAG h41],?_⟩
     unfold pos
     rw[aCW,show((l.length - s2.length:Nat):Int)+1=((l.length - (s2.length - 1):Nat):Int) by lia]
     rfl
    ·rw[show(T (s2.take 1)==Str.ofString ")")=false by rw[aZ,dG];simpa using h41]
     rfl'
     exact⟨⟨aAE,rfl⟩,by unfold rdP;rw[hx];simp only[hw,hy];rw[aAL h41]⟩
   ·rintro _ M ⟨rfl,e,s,h,rfl⟩
    rfl'
    rw[aAE]
    exact⟨rfl,e,s,h,rfl⟩
   ·rintro x M ⟨⟨rfl,rfl⟩,h⟩
    exact⟨⟨aAE,rfl⟩,h⟩
  ·exact nP hz ha (k+1) h1
def whole(l:List Nat)(k:Nat):Option E:=match rd k l with
 |some (e,[])=>some e
 |_=>none
theorem iC(hz:l.length<=16777216):Okx (λx M'=>BT M x M'/\whole l 20=none) (dE [.d (.str (T l))] M) λw M'=>M'=M/\∃e,whole l 20=some e/\w=.d (enc e):=by
 unfold dE
 refine eQ rfl ?_
 unfold b_3
 rfl'
 refine(tH l hz 20 50 (by lia) (by lia) M 0 (by lia)).monoX ?_ ?_
 rotate_left
 ·rintro x M ⟨⟨rfl,rfl⟩,h⟩
  exact⟨⟨aAE,rfl⟩,by unfold whole;rw[aBV]at h;rw[h]⟩
 rintro _ M ⟨rfl,e,s,h,rfl⟩
 rw[aBV]at h
 have hs:=(gC _ _ _ _ h).length_le
 unfold pos
 rfl'
 refine dM (by rw[bE];exact hz) ?_
 rw[bE]
 rfl'
 refine dL (λh1=>?_) (λh1=>?_)
 ·rfl'
  refine⟨⟨aAE,rfl⟩,?_⟩
  unfold whole;rw[h]
  cases s with
  |nil=>simp at h1
  |cons c r=>rfl
 ·have:s=[]:=by
   cases s with
   |nil=>rfl
   |cons c r=>simp at h1 hs;lia
  subst this
  rfl'
  rw[aAE]
  exact⟨rfl,e,by unfold whole;rw[h],rfl⟩
def lrD(l:List Nat)(a:Nat):D:=match rdU (l.drop a)with
 |some (e,s)=>.tup [enc e,pos l s]
 |none=>.tup [.non,.int a]
end
theorem head40(h1:(l.drop a).take 1=[40]):l.drop a=40::l.drop (a+1):=by
 rw[<- aEG]
 cases h:l.drop a with
 |nil=>rw[h]at h1;simp at h1
 |cons c r=>rw[h]at h1;simp at h1;subst h1;rfl
theorem zJ{s:List Nat}(h:¬s.take 1=[40]):rdU s=if s.take 1=[120]then rdG (s.drop 1)else rdN s:=by
 unfold rdU rd
 rw[aAL h]
theorem qP(l:List Nat)(hz:l.length<=16777216):∀(fuel a:Nat) (M:Mm),a<=l.length->(∃k:Nat,Bd k (l.drop a)/\k < fuel)->Ok (cU fuel [.d (.str (T l)),.d (.int a)] M) λw M'=>M'=M/\w=.d (lrD l a):=by
 intro fuel
 induction fuel with
 |zero=>rintro a M _ ⟨k,_,h⟩;lia
 |succ f ih =>
  intro a M ha hc
  unfold cU
  refine eE rfl ?_
  unfold b_e
  rfl'
  refine dJ hz ?_
  rw[show(a:Int)+1=((a+1:Nat):Int) by lia,dB,aAP]
  rfl'
  by_cases h1:(l.drop a).take 1=[40]
  ·rw[show(T ((l.drop a).take 1)==Str.ofString "(")=true by rw[aZ,dG];simpa using h1]
   have hl:a+1<=l.length:=by
    have:=congrArg List.length h1
    simp at this;lia
   have e40:=head40 h1
   obtain⟨k0,hk,hkf⟩:=hc
   obtain⟨k,rfl⟩:∃k,k0=k+1:=by
    cases k0 with
    |zero=>exact(hk.none h1).elim
    |succ k=>exact⟨k,rfl⟩
   have hb1:Bd (k:Int) (l.drop (a+1)):=by
    rw[e40]at hk
    exact Bd.open (by simpa using hk)
   have hc1:∃k:Nat,Bd k (l.drop (a+1))/\k < f:=⟨k,hb1,by lia⟩
   have eU:rdU (l.drop a)=rdP rdU (l.drop (a+1)):=by rw[e40,zO]
   have eD:lrD l a=match rdP rdU (l.drop (a+1))with
    |some (e,s)=>.tup [enc e,pos l s]
    |none=>.tup [.non,.int a]:=by unfold lrD;rw[eU]
   rw[eD]
   clear eD eU
   rfl'
   refine(ih (a+1) M hl hc1).mono ?_
   rintro _ M ⟨rfl,rfl⟩
   unfold lrD
   cases hx:rdU (l.drop (a+1))with
   |none =>
    rfl'
    refine dJ hz ?_
    rfl'
    refine oP ?_
    rfl'
    refine⟨aAE,?_⟩
    unfold rdP;rw[hx]
   |some r1 =>
   obtain⟨x,s1⟩:=r1
   have g1:s1 <:+ l:=(gC _ _ _ _ hx).trans (aCJ _ _)
   have n1:=g1.length_le
   have xN:isN (.d (enc x))=false:=by cases x <;> rfl
   simp only
   unfold pos
   rfl'
   refine dJ hz ?_
   rw[show((l.length - s1.length:Nat):Int)+3=((l.length - s1.length+3:Nat):Int) by lia,dB,aAP,fS g1]
   rfl'
   refine oP ?_
   rw[xO]
   rfl'
   rw[xN]
   rfl'
   cases hw:wd? (s1.take 3)with
   |none =>
    rfl'
    refine⟨aAE,?_⟩
    unfold rdP;rw[hx];simp only[hw]
   |some w =>
   simp only
   have hw3:=tY hw
   rfl'
   refine eY (by simp[isN]) ?_
   rfl'
   have e3:l.drop (l.length - s1.length+3)=s1.drop 3:=by rw[<- aEG,fS g1]
   have hc3:∃k:Nat,Bd k (l.drop (l.length - s1.length+3))/\k < f:=⟨k,by rw[e3];exact(aGl hx hb1).drop3 hw,by lia⟩
   refine(ih (l.length - s1.length+3) M (by lia) hc3).mono ?_
   rintro _ M ⟨rfl,rfl⟩
   unfold lrD
   rw[e3]
   cases hy:rdU (s1.drop 3)with
   |none =>
    rfl'
    refine⟨aAE,?_⟩
    unfold rdP;rw[hx];simp only[hw,hy]
   |some r2 =>
   obtain⟨y,s2⟩:=r2
   have g2:s2 <:+ l:=(gC _ _ _ _ hy).trans ((aCJ _ _).trans g1)
   have n2:=g2.length_le
   have yN:isN (.d (enc y))=false:=by cases y <;> rfl
   simp only
   unfold pos
   rfl'
   rw[yN]
   rfl'
   refine dJ hz ?_
   rw[show((l.length - s2.length:Nat):Int)+1=((l.length - s2.length+1:Nat):Int) by lia,dB,aAP,fS g2]
   rfl'
   by_cases h41:s2.take 1=[41]
   ·rw[show(T (s2.take 1)==Str.ofString ")")=true by rw[aZ,dG];simpa using h41]
    have n3:1<=s2.length:=by have:=congrArg List.length h41;simp at this;lia
    rfl'
    refine⟨aAE,?_⟩
    unfold rdP;rw[hx];simp only[hw,hy];rw[aAG h41]
    simp only
    rw[aCW,show((l.length - s2.length:Nat):Int)+1=((l.length - (s2.length - 1):Nat):Int) by lia]
    rfl
   ·rw[show(T (s2.take 1)==Str.ofString ")")=false by rw[aZ,dG];simpa using h41]
    rfl'
    refine⟨aAE,?_⟩
    unfold rdP;rw[hx];simp only[hw,hy];rw[aAL h41]
  ·rw[show(T ((l.drop a).take 1)==Str.ofString "(")=false by rw[aZ,dG];simpa using h1]
   rfl'
   refine dJ hz ?_
   rw[show(a:Int)+1=((a+1:Nat):Int) by lia,dB,aAP]
   rfl'
   obtain⟨b,hb,hbl,hbc⟩:∃b:Nat,(a:Int)+(if(T ((l.drop a).take 1)==Str.ofString "x")=true then 1 else 0)=(b:Int)/\b<=l.length/\((b=a+1/\(l.drop a).take 1=[120])\/(b=a/\¬(l.drop a).take 1=[120])):=by
    by_cases h2:(l.drop a).take 1=[120]
    ·rw[aAG (by rw[aZ,dG];simpa using h2)]
     have:a+1<=l.length:=by
      have:=congrArg List.length h2
      simp at this;lia
     exact⟨a+1,by lia,this,.inl ⟨rfl,h2⟩⟩
    ·rw[aAL (by rw[aZ,dG];simpa using h2)]
     exact⟨a,by lia,ha,.inr ⟨rfl,h2⟩⟩
   rw[hb]
   have eD:lrD l a=match num? 6 ((l.drop b).takeWhile isF)with
    |some n=>if a < b then(if n<=7 then .tup [enc (.giv n),pos l ((l.drop b).dropWhile isF)]else .tup [.non,.int a])else .tup [enc (.num n),pos l ((l.drop b).dropWhile isF)]
    |none=>.tup [.non,.int a]:=by
    unfold lrD
    rw[zJ h1]
    rcases hbc with⟨rfl,h2⟩|⟨rfl,h2⟩
    ·rw[aAG h2,aEG]
     unfold rdG
     have:=@aBu ((l.drop (a+1)).takeWhile isF)
     cases q6:num? 6 ((l.drop (a+1)).takeWhile isF)with
     |none =>
      cases q1:num? 1 ((l.drop (a+1)).takeWhile isF)with
      |none=>rfl
      |some n =>
       simp only
       by_cases h7:n<=7
       ·have:=this.mp ⟨q1,h7⟩;rw[q6]at this;cases this.1
       ·rw[aAL h7]
     |some n =>
      simp only
      rw[aAG (by lia)]
      by_cases h7:n<=7
      ·rw[(this.mpr ⟨q6,h7⟩).1]
       simp only
       rw[aAG h7,aAG h7]
      ·rw[aAL h7]
       cases q1:num? 1 ((l.drop (a+1)).takeWhile isF)with
       |none=>rfl
       |some m =>
        simp only
        by_cases m7:m<=7
        ·have:=this.mp ⟨q1,m7⟩;rw[q6]at this;cases this.1;exact(h7 m7).elim
        ·rw[aAL m7]
    ·rw[aAL h2]
     unfold rdN
     cases q6:num? 6 ((l.drop b).takeWhile isF)with
     |none=>rfl
     |some n =>
      simp only
      rw[aAL (by lia)]
   rw[eD]
   clear eD
   have hba:a<=b:=by rcases hbc with⟨rfl,_⟩|⟨rfl,_⟩ <;> lia
   have hba1:b<=a+1:=by rcases hbc with⟨rfl,_⟩|⟨rfl,_⟩ <;> lia
   clear hbc hb
   rfl'
   refine(kG (QS:=λo M'=>M'=M/\o=.nx [some (.d (.str (T l))),some (.d (.int a)),none,none,none,none,none,some (.d (.int b)),some (.d (.int ((b+((l.drop b).takeWhile isF).length:Nat):Int))),none]) (I:=λm L M'=>∃j:Nat,m=l.length - (b+j)/\b+j<=l.length/\(∀c∈(l.drop b).take j,isF c=true)/\M'=M/\L=[some (.d (.str (T l))),some (.d (.int a)),none,none,none,none,none,some (.d (.int b)),some (.d (.int ((b+j:Nat):Int))),none]) ?_ NW (l.length - b) _ _ ⟨0,by lia,by lia,by simp,rfl,by simp⟩ (by rw[zG];lia)).mono ?_
   ·rintro m L M' ⟨j,rfl,hj,hf,rfl,rfl⟩
    have hd:(l.drop b).length=l.length - b:=by simp
    rfl'
    refine dM (by rw[bE];exact hz) ?_
    rw[bE]
    rfl'
    refine⟨λh=>?_,λh=>?_⟩
    ·have hlt:b+j < l.length:=by have:=aEB h;lia
     have hat:atI l ((b+j:Nat):Int)=some l[b+j]:=by
      simp only[atI,ixN]
      rw[aAG (by lia),aAG (by lia)]
      rw[aDK];simp[hlt]
     rfl'
     refine kU hat hz ?_
     rfl'
     rw[figs]
     have hjd:(l.drop b)[j]?=some l[b+j]:=by rw[List.getElem?_drop];simp[hlt]
     refine⟨λhc=>?_,λhc=>⟨rfl,?_⟩⟩
     ·rfl'
      refine⟨l.length - (b+(j+1)),by lia,j+1,rfl,by lia,?_,rfl,by simp;lia⟩
      intro c hc'
      rw[aFE,hjd]at hc'
      rcases aCE.mp hc' with hc'|hc'
      ·exact hf c hc'
      ·simp at hc';subst hc';exact hc
     ·rw[lI hf (by lia) (λc hc'=>by rw[hjd]at hc';cases hc';exact hc)]
    ·have hge:l.length<=b+j:=by have:=aGH h;lia
     refine⟨λh=>(by cases h),λ_=>⟨rfl,?_⟩⟩
     rw[lI hf (by lia) (λc hc'=>by rw[aDD (by lia)]at hc';cases hc')]
   rintro _ M ⟨rfl,rfl⟩
   rfl'
   refine dJ hz ?_
   rw[dB,aAP,eP,oZ hbl]
   have hall:((l.drop b).takeWhile isF).all isF=true:=List.all_takeWhile
   have hdl:((l.drop b).takeWhile isF).length<=16777216:=by have:=(aFO isF (l:=l.drop b)).length_le;simp at this;lia
   generalize(l.drop b).takeWhile isF=ds at hall hdl
   generalize hE:(l.drop b).dropWhile isF=s'
   refine mM (gD (jF (Ok.mono (Q:=λc M'=>M'=M/\(c=true ↔ num? 6 ds=none)) ?_ ?_)))
   ·rfl'
    have e:(T ds==Str.ofString "")=decide (ds=[]):=by rw[aZ,dG];rfl
    rw[e]
    refine⟨λh=>⟨rfl,by simp at h;simp[h,num?]⟩,λh=>?_⟩
    have hne:ds≠[]:=by simpa using h
    rfl'
    refine dM (by rw[bE];exact hdl) ?_
    rw[bE]
    rfl'
    refine⟨λh=>⟨rfl,?_⟩,λh=>?_⟩
    ·have:6 < ds.length:=by have:=aEB h;lia
     unfold num?;rw[aAG (.inr (.inl this))];simp
    have h6:¬6 < ds.length:=by have:=aGH h;lia
    obtain⟨c,r,rfl⟩:∃c r,ds=c::r:=by
     cases ds with
     |nil=>exact(hne rfl).elim
     |cons c r=>exact⟨c,r,rfl⟩
    rfl'
    refine kU (c:=c) (by simp[atI,ixN]) hdl ?_
    rfl'
    have e:(T [c]==Str.ofString "0")=decide (c=48):=by rw[aZ,dG];simp
    rw[e]
    have hnum:num? 6 (c::r)=none ↔ (c=48/\1 < (c::r).length):=by
     unfold num?
     constructor
     ·intro h
      split at h
      ·rename_i z
       rcases z with z|z|z|⟨z,z'⟩
       ·exact(hne z).elim
       ·exact(h6 z).elim
       ·exact(z hall).elim
       ·simp at z;exact⟨z,z'⟩
      ·cases h
     ·rintro⟨h,h'⟩
      rw[aAG (.inr (.inr (.inr ⟨by simp[h],h'⟩)))]
    refine⟨λh=>?_,λh=>⟨rfl,?_⟩⟩
    ·rfl'
     refine dM (by rw[bE];exact hdl) ?_
     rw[bE]
     rfl'
     refine⟨rfl,?_⟩
     rw[hnum]
     simp only[aAU]at h ⊢
     constructor
     ·intro z;exact⟨h,by lia⟩
     ·rintro⟨_,z⟩;lia
    ·rw[hnum]
     simp only[aCV]at h
     simp[h]
   rintro c M ⟨rfl,hc'⟩
   cases hn:num? 6 ds with
   |none =>
    refine wV (hc'.mpr hn) ?_
    rfl'
    exact⟨aAE,rfl⟩
   |some n =>
   refine eY (by cases c with
    |false=>rfl
    |true=>rw[hc'.mp rfl]at hn;cases hn) ?_
   obtain⟨i1,i2⟩:=hG hn (by lia)
   simp only
   refine sG ?_
   refine gD (jF (Ok.mono (Q:=λc M'=>M'=M/\(c=true ↔ (a < b/\7 < n))) ?_ ?_))
   ·rfl'
    refine⟨λh=>?_,λh=>⟨rfl,?_⟩⟩
    ·rfl'
     refine lJ i1 (by rw[bE];exact i2) ?_
     rfl'
     refine⟨rfl,?_⟩
     simp only[aAU]at h ⊢
     constructor
     ·intro z;exact⟨by lia,by lia⟩
     ·rintro⟨_,z⟩;lia
    ·simp only[aCV]at h
     constructor
     ·intro z;cases z
     ·rintro⟨z,_⟩;exact(h (by lia)).elim
   rintro c M ⟨rfl,hc2⟩
   refine rC (λh=>?_) (λh=>?_)
   ·have:=hc2.mp h
    rw[aAG this.1,aAL (by lia)]
    rfl'
    exact⟨aAE,rfl⟩
   ·have h2:¬(a < b/\7 < n):=λz=>by rw[hc2.mpr z]at h;cases h
    rfl'
    refine lJ i1 (by rw[bE];exact i2) ?_
    rfl'
    refine lJ i1 (by rw[bE];exact i2) ?_
    rfl'
    by_cases hab:a < b
    ·have:b=a+1:=by lia
     subst this
     rw[aAG hab,aAG (by lia)]
     rw[show((a+1:Nat):Int) - (a:Int)=1 by lia]
     rfl'
     exact⟨aAE,rfl⟩
    ·have:b=a:=by lia
     subst this
     rw[aAL hab]
     rw[show((b:Nat):Int) - (b:Int)=0 by lia]
     rfl'
     exact⟨aAE,rfl⟩
variable{i:Int}
theorem gG(h0:0<=i)(h:i < 10000000):i.natAbs.log2 < 1920:=by
 by_cases hz:i.natAbs=0
 ·rw[hz];decide
 ·rw[Nat.log2_lt hz]
  exact aAN (show i.natAbs < 2 ^ 24 by lia) (aFQ (by lia) (by lia))
theorem lC(h0:0<=i):Str.ofString (toString i)=T (dig i.toNat):=by
 obtain⟨n,rfl⟩:=Int.eq_ofNat_of_zero_le h0
 exact aIp n
theorem lE(a:List Nat):Str.empty++T a=T a:=fE [] a
theorem fP(a b:List Nat):(T a++T b).length=a.length+b.length:=by rw[fE,bE,aAV]
theorem xM(w:Wd):(w.str==Str.ofString "num")=false:=by cases w <;> decide
theorem pW(w:Wd):(w.str==Str.ofString "given")=false:=by cases w <;> decide
theorem xL(w:Wd):PyProof.Rows.KTD.datumAt w.str [(Str.ofString "sum",Str.ofString " + "),(Str.ofString "less",Str.ofString " - "),(Str.ofString "times",Str.ofString " * ")]=some (T (sg w)):=by
 cases w <;> decide
theorem lO:∀(e:E) (fuel:Nat) (M:Mm),dp e < fuel->wf 8 e->nw e<=1000000->Ok (bI fuel [.d (enc e)] M) λw M'=>w=.d (.str (T (txt e)))/\M'=M:=by
 intro e
 induction e with
 |num c =>
  intro fuel M hf hw hn
  obtain⟨f,rfl⟩:∃f,fuel=f+1:=⟨fuel - 1,by lia⟩
  unfold bI
  refine eE rfl ?_
  unfold b_2
  rw[show enc (E.num c)=.tup [.str "num",.int c]from rfl]
  rfl'
  refine oH (gG hw.1 (by have:=hw.2;lia)) ?_
  rfl'
  rw[lC hw.1,aAE]
  exact⟨rfl,rfl⟩
 |giv i =>
  intro fuel M hf hw hn
  obtain⟨f,rfl⟩:∃f,fuel=f+1:=⟨fuel - 1,by lia⟩
  have hi:i < 8:=hw
  unfold bI
  refine eE rfl ?_
  unfold b_2
  rw[show enc (E.giv i)=.tup [.str "given",.int i]from rfl]
  have e1:Str.ofString "x"=T [120]:=by rw[aZ];rfl
  have hl:=fC (k:=1) (n:=i) (by lia) (by lia)
  rfl'
  rw[e1]
  refine oX (by rw[lE,bE];decide) ?_
  rw[lE]
  rfl'
  refine⟨T (dig i),?_,⟨by rw[bE];lia,by rw[fP];simp;lia⟩,?_⟩
  ·simp only[fmtD]
   rw[aAG (gG (by lia) (by lia)),lC (by lia)]
   rfl
  rw[fE]
  refine uB (by rw[bE];simp;lia) ?_
  rfl'
  rw[aAE]
  exact⟨rfl,rfl⟩
 |op w a b iha ihb =>
  intro fuel M hf hw hn
  obtain⟨f,rfl⟩:∃f,fuel=f+1:=⟨fuel - 1,by lia⟩
  simp only[dp]at hf
  simp only[nw]at hn
  have l1:=gF a hw.1
  have l2:=gF b hw.2
  have l3:(sg w).length=3:=by cases w <;> rfl
  have e1:Str.ofString "("=T [40]:=by rw[aZ];rfl
  have e2:Str.ofString ")"=T [41]:=by rw[aZ];rfl
  unfold bI
  refine eE rfl ?_
  unfold b_2
  rw[show enc (E.op w a b)=.tup [.str w.str,enc a,enc b]from rfl]
  rfl'
  rw[xM]
  rfl'
  rw[pW]
  rfl'
  rw[e1]
  refine oX (by rw[lE,bE];decide) ?_
  rw[lE]
  rfl'
  refine(iha f _ (by lia) hw.1 (by lia)).mono ?_
  rintro _ M ⟨rfl,rfl⟩
  refine⟨T (txt a),rfl,⟨by rw[bE];lia,by rw[fP];simp;lia⟩,?_⟩
  rw[fE]
  rfl'
  refine xR (xL w) ?_
  refine⟨T (sg w),rfl,⟨by rw[bE];lia,by rw[fP];simp;lia⟩,?_⟩
  rw[fE]
  rfl'
  refine(ihb f _ (by lia) hw.2 (by lia)).mono ?_
  rintro _ M ⟨rfl,rfl⟩
  refine⟨T (txt b),rfl,⟨by rw[bE];lia,by rw[fP];simp;lia⟩,?_⟩
  rw[fE,e2]
  refine oX (by rw[fP];simp;lia) ?_
  rw[fE]
  refine uB (by rw[bE];simp;lia) ?_
  rfl'
  rw[aAE]
  exact⟨by simp[txt],rfl⟩
theorem qZ:∀(e:E) (fuel:Nat) (M:Mm),dp e < fuel->wf 8 e->nw e<=1000000->Ok (cF fuel [.d (enc e)] M) λw M'=>w=.d (.str (T (txt e)))/\M'=M:=by
 intro e
 induction e with
 |num c =>
  intro fuel M hf hw hn
  obtain⟨f,rfl⟩:∃f,fuel=f+1:=⟨fuel - 1,by lia⟩
  unfold cF
  refine eE rfl ?_
  unfold b_c
  rw[show enc (E.num c)=.tup [.str "num",.int c]from rfl]
  rfl'
  refine oH (gG hw.1 (by have:=hw.2;lia)) ?_
  rfl'
  rw[lC hw.1,aAE]
  exact⟨rfl,rfl⟩
 |giv i =>
  intro fuel M hf hw hn
  obtain⟨f,rfl⟩:∃f,fuel=f+1:=⟨fuel - 1,by lia⟩
  have hi:i < 8:=hw
  have e1:Str.ofString "x"=T [120]:=by rw[aZ];rfl
  have hl:=fC (k:=1) (n:=i) (by lia) (by lia)
  unfold cF
  refine eE rfl ?_
  unfold b_c
  rw[show enc (E.giv i)=.tup [.str "given",.int i]from rfl]
  rfl'
  refine oH (gG (by lia) (by lia)) ?_
  rw[lC (by lia),aDK,e1]
  refine gA (by simp[Str.length];lia) ?_
  rw[fE]
  rfl'
  rw[aAE]
  exact⟨rfl,rfl⟩
 |op w a b iha ihb =>
  intro fuel M hf hw hn
  obtain⟨f,rfl⟩:∃f,fuel=f+1:=⟨fuel - 1,by lia⟩
  simp only[dp]at hf
  simp only[nw]at hn
  have l1:=gF a hw.1
  have l2:=gF b hw.2
  have l3:(sg w).length=3:=by cases w <;> rfl
  have e1:Str.ofString "("=T [40]:=by rw[aZ];rfl
  have e2:Str.ofString ")"=T [41]:=by rw[aZ];rfl
  unfold cF
  refine eE rfl ?_
  unfold b_c
  rw[show enc (E.op w a b)=.tup [.str w.str,enc a,enc b]from rfl]
  rfl'
  rw[xM]
  rfl'
  rw[pW]
  rfl'
  refine xR (xL w) ?_
  rfl'
  refine(iha f _ (by lia) hw.1 (by lia)).mono ?_
  rintro _ M ⟨rfl,rfl⟩
  rw[e1]
  refine gA (by simp[Str.length];lia) ?_
  rw[fE]
  rfl'
  refine gA (by simp[Str.length];lia) ?_
  rw[fE]
  rfl'
  refine(ihb f _ (by lia) hw.2 (by lia)).mono ?_
  rintro _ M ⟨rfl,rfl⟩
  refine gA (by simp[Str.length];lia) ?_
  rw[fE]
  rfl'
  rw[e2]
  refine gA (by simp[Str.length];lia) ?_
  rw[fE]
  rfl'
  rw[aAE]
  exact⟨by simp[txt],rfl⟩
theorem tM{d:D}(hl:noL d=true)(hs:sz d<=16777216):Ok (iK [.d d,.d d] M) λw M'=>w=.d (.bl true)/\M'=M:=by
 refine eE rfl ?_
 unfold b_b
 rfl'
 refine(kG (QS:=λo M'=>∃a b,o=.nx [some (.d d),some (.d d),some (.ref M.length),a,b]/\∃s,M'=M++[s]) (I:=λm L M'=>∃(ds:List D) (a b:Option W),m=szs ds/\(∀x∈ds,noL x=true)/\m<=16777216/\M'=M++[ds.map λx=>.tup [x,x]]/\L=[some (.d d),some (.d d),some (.ref M.length),a,b]) ?_ NW (sz d) _ _ ⟨[d],none,none,by simp[szs],by simpa using hl,hs,rfl,rfl⟩ (by rw[zG];lia)).mono ?_
 ·rintro m L M' ⟨ds,a,b,rfl,hn,hm,rfl,rfl⟩
  have g:(M++[ds.map λx=>D.tup [x,x]])[M.length]?=some (ds.map λx=>.tup [x,x]):=by simp
  rfl'
  refine⟨λh=>?_,λh=>⟨a,b,rfl,_,rfl⟩⟩
  have hne:ds≠[]:=by rintro rfl;simp at h
  obtain⟨ds',x,rfl⟩:∃ds' x,ds=ds'++[x]:=⟨ds.dropLast,ds.getLast hne,(List.dropLast_concat_getLast hne).symm⟩
  have hx:noL x=true:=hn x (by simp)
  have hn':∀y∈ds',noL y=true:=λy hy=>hn y (by simp[hy])
  rw[iX]at hm ⊢
  have se:szs [x]=sz x:=by simp[szs]
  rw[se]at hm ⊢
  have hp:=zV x
  rfl'
  refine aFd (xs:=ds'.map λx=>.tup [x,x]) (d:=.tup [x,x]) (by simp) ?_
  rw[show(M++[(ds'++[x]).map λx=>D.tup [x,x]]).set M.length (ds'.map λx=>.tup [x,x])=M++[ds'.map λx=>.tup [x,x]] by simp]
  have g':(M++[ds'.map λx=>D.tup [x,x]])[M.length]?=some (ds'.map λx=>.tup [x,x]):=by simp
  rfl'
  cases x with
  |tup xs =>
   rfl'
   refine eY (by simp) ?_
   rfl'
   have hz:szs xs+1=sz (.tup xs):=by simp[sz]
   refine aFw rfl rfl ?_
   have hle:=oA xs
   have hle':=oA ds'
   refine wC (xs:=ds'.map λx=>.tup [x,x]) (ys:=zipT xs xs) g' rfl (by simp[zipT];lia) ?_
   rw[show zipT xs xs=xs.map (λx=>.tup [x,x]) by unfold zipT;clear hz hle hle' hx hn hm g h hne se hp;induction xs with|nil=>rfl|cons a t ih=>rw[List.zip_cons_cons,aBM,aBM,ih]]
   refine⟨szs ds'+szs xs,by lia,ds'++xs,_,_,by rw[iX],?_,by lia,by simp,rfl⟩
   intro y hy
   rcases aCE.mp hy with hy|hy
   ·exact hn' y hy
   ·exact aAn hx hy
  |non =>
   rfl'
   refine uC (a:=.non) (b:=.non) rfl rfl (by simp[dep,deps]) ?_
   rfl'
   exact⟨szs ds',by lia,ds',_,_,rfl,hn',by lia,rfl,rfl⟩
  |bl b =>
   rfl'
   refine eY (by simp) ?_
   rfl'
   exact⟨szs ds',by lia,ds',_,_,rfl,hn',by lia,rfl,rfl⟩
  |int b =>
   rfl'
   refine eY (by simp) ?_
   rfl'
   exact⟨szs ds',by lia,ds',_,_,rfl,hn',by lia,rfl,rfl⟩
  |str b =>
   rfl'
   refine eY (by simp) ?_
   rfl'
   exact⟨szs ds',by lia,ds',_,_,rfl,hn',by lia,rfl,rfl⟩
  |lst b=>simp[noL]at hx
  |fz b=>simp[noL]at hx
  |exn c f b=>simp[noL]at hx
 ·rintro o M' ⟨a,b,rfl,s,rfl⟩
  rfl'
  exact by simp
theorem lW:∀e:E,noL (enc e)=true
 |.num _=>by simp[enc,noL,noLs]
 |.giv _=>by simp[enc,noL,noLs]
 |.op w a b=>by simp[enc,noL,noLs,lW a,lW b]
theorem oU:∀e:E,sz (enc e)<=3*nw e
 |.num _=>by simp[enc,sz,szs,nw]
 |.giv _=>by simp[enc,sz,szs,nw]
 |.op w a b=>by have:=oU a;have:=oU b;simp[enc,sz,szs,nw];lia
theorem rY:∀e:E,nw e<=(txt e).length
 |.num c=>by have:=uA c.toNat;simp only[nw,txt];lia
 |.giv c=>by simp only[nw,txt,aBA];lia
 |.op w a b=>by have:=rY a;have:=rY b;simp only[nw,txt,aBA,aAV];lia
noncomputable def optE:Option E->D
 |some e=>enc e
 |none=>.non
theorem qH{e:E}{k:Nat}(h:whole l k=some e):l=txt e/\wf 8 e/\dp e<=k:=by
 unfold whole at h
 split at h
 ·rename_i e' q
  cases h
  obtain⟨h1,h2,h3⟩:=kW _ _ _ _ q
  exact⟨by simpa using h1,h2,h3⟩
 ·cases h
structure Tx8(l:List Nat):Prop where
 a:l.all (· < 128)=true
 n:l.length<=1000000
theorem sE(t:Tx8 l):Ok (jI [.d (.str (T l))] M) λw M'=>w=.d (optE (whole l 20))/\M'=M:=by
 have hn:=t.n
 unfold jI
 refine eE rfl ?_
 unfold b_f
 rfl'
 refine aAv (aHu rfl ⟨l,rfl,t.a,?_⟩)
 refine mK (λi L M'=>M'=M/\∃(m:Int) (o3:Option W),(∀j,j<=i->bal (l.take j)<=m)/\(m=0\/∃j,m=bal (l.take j))/\L=[some (.d (.str (T l))),some (.d (.int (bal (l.take i)))),some (.d (.int m)),o3,none,none]) ⟨rfl,0,_,λj hj=>by rw[show j=0 by lia];exact Int.le_refl 0,.inl rfl,rfl⟩ (λi L M _ _ t e=>by cases e) ?_ ?_
 ·rintro i d _ M hd ⟨rfl,m,o3,h1,h2,rfl⟩
  simp only[aCB,aBS]at hd
  obtain⟨c,hcd,rfl⟩:=hd
  have hi:=(aAC.mp hcd).1
  have hcc:bal (l.take i)+(if decide (c=40)=true then 1 else 0) - (if decide (c=41)=true then 1 else 0)=bal (l.take (i+1)):=by
   rw[aFE,hcd,iH]
   show _=bal (l.take i)+bal [c]
   rw[eF]
   simp only[aAU]
   rw[show bal []=0 from rfl]
   (repeat' split) <;> lia
  rfl'
  rw[show(T [c]==Str.ofString "(")=decide (c=40) by rw[aZ,dG];simp,show(T [c]==Str.ofString ")")=decide (c=41) by rw[aZ,dG];simp,hcc]
  refine⟨rfl,_,_,λj hj=>?_,?_,rfl⟩
  ·by_cases e:j=i+1
   ·subst e;split <;> lia
   ·have:=h1 j (by lia)
    split <;> lia
  ·split
   ·exact .inr ⟨i+1,rfl⟩
   ·exact h2
 ·rintro _ M ⟨rfl,m,o3,h1,h2,rfl⟩
  rw[aBB]at h1
  rfl'
  refine dL (λhm=>?_) (λhm=>?_)
  ·rfl'
   refine⟨?_,aAE⟩
   cases hw:whole l 20 with
   |none=>rfl
   |some e =>
    obtain⟨rfl,_,hd⟩:=qH hw
    rcases h2 with rfl|⟨j,rfl⟩
    ·lia
    ·have:=tJ e j
     lia
  have hB:Bd ((20:Nat):Int) l:=λj=>by
   by_cases hj:j<=l.length
   ·have:=h1 j hj;lia
   ·have:=h1 l.length (aAH _)
    rw[aAE]at this
    rw[aAQ (by lia)];lia
  rfl'
  refine(qP l (by lia) 50 0 M (by lia) ⟨20,by rw[aBV];exact hB,by lia⟩).mono ?_
  rintro _ M ⟨rfl,rfl⟩
  unfold lrD whole
  rw[aBV,aIu hB]
  cases hr:rdU l with
  |none =>
   rfl'
   rw[aAE]
   exact⟨rfl,rfl⟩
  |some r =>
   obtain⟨e,s⟩:=r
   have hs:=(gC _ _ _ _ hr).length_le
   have eN:isN (.d (enc e))=false:=by cases e <;> rfl
   simp only
   unfold pos
   rfl'
   rw[eN]
   rfl'
   refine dM (by rw[bE];lia) ?_
   rw[bE]
   rfl'
   cases s with
   |nil =>
    rw[aAG (by simp)]
    rfl'
    rw[aAE]
    exact⟨rfl,rfl⟩
   |cons c r =>
    simp only[aBA]at hs
    rw[aAL (by simp only[aBA,aAU];lia)]
    rfl'
    rw[aAE]
    exact⟨rfl,rfl⟩
theorem lQ{EX:D->Mm->Prop}(t:Tx8 l)(h:whole l 20=none):Okx EX (dX [.d (.str (T l))] M) λw M'=>w=.d (.bl true)/\M'=M:=by
 have hn:=t.n
 unfold dX
 refine eQ rfl ?_
 unfold b_10
 rfl'
 refine vF ?_
 rfl'
 refine(iC (by lia)).monoX ?_ ?_
 ·rintro _ M ⟨rfl,e,he,rfl⟩
  rw[h]at he;cases he
 ·rintro x M ⟨⟨rfl,rfl⟩,_⟩
  refine⟨rfl,?_⟩
  rfl'
  dsimp only[unset]
  rfl'
  exact⟨rfl,aAE⟩
theorem oY(t:Tx8 l):Ok (fV [.d (.str (T l))] M) λw M'=>w=.d (.bl true)/\M'=M:=by
 have hn:=t.n
 unfold fV
 refine eQ rfl ?_
 unfold b_11
 rfl'
 refine(sE t).mono ?_
 rintro _ M ⟨rfl,rfl⟩
 cases h:whole l 20 with
 |none =>
  rw[show optE none=.non from rfl]
  rfl'
  refine(lQ t h).mono ?_
  rintro _ M ⟨rfl,rfl⟩
  rfl'
  exact⟨rfl,aAE⟩
 |some e =>
  rw[show optE (some e)=enc e from rfl]
  have eN:isN (.d (enc e))=false:=by cases e <;> rfl
  obtain⟨rfl,hw,hd⟩:=qH h
  have hnw:=rY e
  rfl'
  refine eY eN ?_
  rfl'
  refine(iC (by lia)).monoX ?_ ?_
  rotate_left
  ·rintro x M ⟨_,h'⟩
   rw[h]at h';cases h'
  rintro _ M ⟨rfl,e',he,rfl⟩
  rw[h]at he;cases he
  rfl'
  refine(tM (lW e) (by have:=oU e;lia)).mono ?_
  rintro _ M ⟨rfl,rfl⟩
  rfl'
  refine(lO e 50 _ (by lia) hw (by lia)).mono ?_
  rintro _ M ⟨rfl,rfl⟩
  rfl'
  exact⟨by simp,aAE⟩
theorem vN{G:Nat}(g1:G < 1000):∀(k:Nat) (fuel:Nat) (M:Mm) (b:Nat) (r e:Int),Bx M b->r < 1000->e=k->k < fuel->Ok (cX fuel [.ref b,.d (.int G),.d (.int r),.d (.int e)] M) λw M'=>∃e:E,w=.d (enc e)/\dp e<=k/\wf G e/\Nx b M M':=by
 intro k
 induction k using Nat.strongRecOn with
 |ind k ih =>
 intro fuel M b r e hb r1 he hf
 obtain⟨f,rfl⟩:∃f,fuel=f+1:=⟨fuel - 1,by lia⟩
 subst he
 have n:=Nx.refl hb
 unfold cX
 refine eE rfl ?_
 unfold b_a
 rfl'
 (refine(aR hb (by lia) (by lia)).mono ?_;rintro _ _ ⟨d1,rfl,l_d1,u_d1,n'⟩;replace n:=n.trans n';replace hb:=n'.bx hb;clear n')
 rename_i M1
 refine mM (gD (jF (Ok.mono (Q:=λc M2=>M2=M1/\(c=false->3<=r/\k≠0)) ?_ ?_)))
 ·rfl'
  refine⟨λh=>⟨rfl,λh=>by simp at h⟩,λh=>?_⟩
  rfl'
  refine⟨λh=>⟨rfl,λh=>by simp at h⟩,λh'=>?_⟩
  rfl'
  exact⟨rfl,λ_=>⟨by simpa using h,by simpa using h'⟩⟩
 rintro c _ ⟨rfl,hc⟩
 refine rC (λh=>?_) (λh=>?_)
 ·rfl'
  (refine(aR hb (by lia) (by lia)).mono ?_;rintro _ _ ⟨d2,rfl,l_d2,u_d2,n'⟩;replace n:=n.trans n';replace hb:=n'.bx hb;clear n')
  rfl'
  (refine(aR hb (by lia) (by lia)).mono ?_;rintro _ _ ⟨d3,rfl,l_d3,u_d3,n'⟩;replace n:=n.trans n';replace hb:=n'.bx hb;clear n')
  rfl'
  (refine(aR hb (by lia) (by lia)).mono ?_;rintro _ _ ⟨d4,rfl,l_d4,u_d4,n'⟩;replace n:=n.trans n';replace hb:=n'.bx hb;clear n')
  rfl'
  refine eW (at2I _ _ _) ?_
  refine mM (gD (jF (Ok.mono (Q:=λc M2=>Nx b M M2/\Bx M2 b/\(c=true->0 < G)) ?_ ?_)))
  ·rfl'
   refine⟨λh=>?_,λ_=>⟨n,hb,by simp⟩⟩
   rfl'
   (refine(aR hb (by lia) (by lia)).mono ?_;rintro _ _ ⟨d5,rfl,l_d5,u_d5,n'⟩;replace n:=n.trans n';replace hb:=n'.bx hb;clear n')
   rfl'
   exact⟨n,hb,λ_=>by simpa using h⟩
  clear n hb
  rintro c M2 ⟨n,hb,hg⟩
  refine rC (λh=>?_) (λ_=>?_)
  ·have hg:=hg h
   rfl'
   (refine(aR hb (by lia) (by lia)).mono ?_;rintro _ _ ⟨d6,rfl,l_d6,u_d6,n'⟩;replace n:=n.trans n';replace hb:=n'.bx hb;clear n')
   obtain⟨i,rfl⟩:∃i:Nat,d6=i:=⟨d6.toNat,by lia⟩
   rfl'
   rw[n.take]
   exact⟨.giv i,rfl,by simp[dp],by simp only[wf];lia,n⟩
  ·rfl'
   rw[n.take]
   exact⟨.num _,rfl,by simp[dp],by simp only[wf];split <;> lia,n⟩
 ·obtain⟨hr,hk⟩:=hc h
  obtain⟨k',rfl⟩:∃k',k=k'+1:=⟨k - 1,by lia⟩
  rfl'
  (refine(aR hb (by lia) (by lia)).mono ?_;rintro _ _ ⟨d2,rfl,l_d2,u_d2,n'⟩;replace n:=n.trans n';replace hb:=n'.bx hb;clear n')
  rfl'
  (refine(aR hb (by lia) (by lia)).mono ?_;rintro _ _ ⟨d3,rfl,l_d3,u_d3,n'⟩;replace n:=n.trans n';replace hb:=n'.bx hb;clear n')
  obtain⟨w,ew,hw⟩:=at4 l_d3 u_d3 (.str "sum") (.str "less") (.str "times") (.str "times")
  refine eW ew ?_
  rfl'
  refine(ih k' (by lia) f _ b _ _ hb (by lia) (by lia) (by lia)).mono ?_
  rintro _ _ ⟨a1,rfl,i1,w1,n'⟩
  replace n:=n.trans n'
  replace hb:=n'.bx hb
  clear n'
  rfl'
  refine(ih k' (by lia) f _ b _ _ hb (by lia) (by lia) (by lia)).mono ?_
  rintro _ _ ⟨a2,rfl,i2,w2,n'⟩
  replace n:=n.trans n'
  rfl'
  rw[n.take]
  have hw':∃s:Wd,w=.str s.str:=by
   rcases hw with rfl|rfl|rfl|rfl
   ·exact⟨.sum,rfl⟩
   ·exact⟨.less,rfl⟩
   ·exact⟨.times,rfl⟩
   ·exact⟨.times,rfl⟩
  obtain⟨s,rfl⟩:=hw'
  exact⟨.op s a1 a2,rfl,by simp only[dp];lia,⟨w1,w2⟩,n⟩
structure Pn(n:Nat)(l:List Nat):Prop where
 a:l.all (· < 128)=true
 n:l.length<=n
variable{a:List Nat}
theorem Pn.app{n':Nat}{b:List Nat}(h:Pn n a)(g:Pn n' b):Pn (n+n') (a++b):=⟨by rw[List.all_append,h.a,g.a];rfl,by have:=h.n;have:=g.n;rw[aAV];lia⟩
theorem Pn.take{n:Nat}{a:List Nat}(h:Pn n a)(i:Nat):Pn n (a.take i):=⟨aBE.mpr λx hx=>aBE.mp h.a x (aBC hx),by have:=h.n;rw[aCX];lia⟩
theorem Pn.drop{n:Nat}{a:List Nat}(h:Pn n a)(i:Nat):Pn n (a.drop i):=⟨aBE.mpr λx hx=>aBE.mp h.a x (List.mem_of_mem_drop hx),by have:=h.n;rw[aCW];lia⟩
theorem Pn.cut{n:Nat}{a:List Nat}(h:Pn n a)(lo hi:Option Int):Pn n (cut a lo hi):=(h.drop _).take _
theorem Pn.one{c:Nat}(h:c < 128):Pn 1 [c]:=⟨by simpa using h,by simp⟩
theorem Pn.mono(h:Pn n a)(hm:n<=m):Pn m a:=⟨h.a,aAX h.n hm⟩
theorem Pn.tx(h:Pn n a)(hn:n<=1000000):Tx8 a:=⟨h.a,aAX h.n hn⟩
theorem Pn.rep{n:Nat}{a:List Nat}(h:Pn n a):∀k:Nat,Pn (k*n) (List.replicate k a).flatten
 |0=>⟨rfl,by simp⟩
 |k+1=>by
  rw[aCD,aEA,Nat.succ_mul,Nat.add_comm]
  exact h.app (h.rep k)
theorem Pn.lit{s:String}(h:((s.toList.map Char.toNat).all (· < 128)&&decide ((s.toList.map Char.toNat).length<=n))=true):Pn n (s.toList.map Char.toNat):=by
 simp only[aBR,aAU]at h
 exact⟨h.1,h.2⟩
variable{EX:D->Mm->Prop}{Q:W->Mm->Prop}{a b:List Nat}{n n':Nat}{y:Str}
theorem bL(ex:x=T a)(ey:y=T b)(h:Pn n a)(g:Pn n' b)(hz:n+n'<=16777216)(q:∀z,Pn (n+n') z->Q (.d (.str (T z))) M):Okx EX (pAdd (.d (.str x)) (.d (.str y)) M) Q:=by
 subst ex ey
 refine gA (by have:=h.n;have:=g.n;rw[bE,bE];lia) ?_
 rw[fE]
 exact q _ (h.app g)
theorem cL(h:Pn n a)(hz:n<=16777216)(q:∀z,Pn n z->Q (.d (.str (T z))) M):Okx EX (pSlS (.d (.str (T a))) lo hi M) Q :=
 dJ (by have:=h.n;lia) (q _ (h.cut lo hi))
theorem dH{k:Int}{K:Nat}(ex:x=T a)(h:Pn n a)(hk:1<=k/\k<=K)(hK:K<=10000)(hn:n<=1000)(q:∀z,Pn (K*n) z->Q (.d (.str (T z))) M):Okx EX (pRepT (.d (.str x)) (.d (.int k)) M) Q:=by
 subst ex
 refine zZ ⟨hk.1,by lia,by have:=h.n;lia⟩ ?_
 exact q _ ((h.rep k.toNat).mono (Nat.mul_le_mul_right n (by lia)))
noncomputable def tx(l:List Nat):D:=.str (T l)
noncomputable def okS:D->Bool
 |.str s=>s.cps.toList.all (· < 128)&&decide (s.cps.toList.length<=20)
 |_=>false
theorem aGw{d:D}(h:okS d=true):∃l,d=tx l/\Pn 20 l:=by
 cases d with
 |str s =>
  simp only[okS,aBR,aAU]at h
  exact⟨s.cps.toList,by unfold tx;rw[<- aCy],h.1,h.2⟩
 |_=>simp[okS]at h
variable{d:Int}
theorem aHn{xs:List D}(h0:0<=d)(h1:d < xs.length):∃x,x∈xs/\atI xs d=some x:=by
 have hd:d.toNat < xs.length:=by lia
 refine⟨xs[d.toNat],List.getElem_mem _,?_⟩
 simp only[atI,ixN]
 rw[aAG h0,aAG h1]
 simp[hd]
theorem wW(h0:0<=d)(h1:d < l.length)(ha:l.all (· < 128)=true):∃c,atI l d=some c/\c < 128:=by
 have hd:d.toNat < l.length:=by lia
 refine⟨l[d.toNat],?_,by simpa using aBE.mp ha _ (List.getElem_mem hd)⟩
 simp only[atI,ixN]
 rw[aAG h0,aAG h1]
 simp[hd]
noncomputable def sgs:List Nat:=(" !\"#$&'()*+,-./0123456789:;<=>?@ABCDEFGHIJKLMNOPQRSTUVWXYZ[\\]^_`abcdefghijklmnopqrstuvwxyz{|}~".toList.map Char.toNat)++[10]
theorem aBy:sgs.all (· < 128)=true:=by decide +kernel
theorem aAg:1<=sgs.length/\sgs.length<=100:=by decide +kernel
theorem pF:Ok (fM [] M) λw M'=>w=.d (.str (T sgs))/\M'=M:=by
 unfold fM
 refine eE rfl ?_
 unfold b_d
 rfl'
 rw[aZ,show Str.ofString "\n"=T [10] by rw[aZ];rfl]
 refine gA (by rw[bE,bE];decide +kernel) ?_
 rw[fE]
 rfl'
 exact⟨rfl,aAE⟩
variable{b:Nat}
theorem xE(hb:Bx M b):Ok (jM [.ref b] M) λw M'=>∃l,w=.d (.str (T l))/\Pn 20 l/\Nx b M M':=by
 have n:=Nx.refl hb
 unfold jM
 refine eE rfl ?_
 unfold b_12
 rfl'
 refine gP rfl rfl (by simp) ?_
 rfl'
 refine gP rfl rfl (by simp) ?_
 rfl'
 refine gP rfl rfl (by simp) ?_
 rfl'
 refine gP rfl rfl (by simp) ?_
 rfl'
 refine(aR hb (by simp) (by simp)).mono ?_
 rintro _ _ ⟨d1,rfl,l1,u1,n'⟩
 obtain⟨x,hx,ex⟩:=aHn l1 u1
 refine eW ex ?_
 have h:=λh=>aGw (aBE.mp h x hx)
 obtain⟨l,rfl,pl⟩:=h (by decide +kernel)
 unfold tx
 rfl'
 rw[n'.take]
 exact⟨pl,n'⟩
theorem pU(hb:Bx M b)(p:Pn m l)(hm:20<=m)(hm2:m<=1000000):Ok (eX [.ref b,.d (.str (T l))] M) λw M'=>∃l',w=.d (.str (T l'))/\Pn (4*m) l'/\Nx b M M':=by
 have n:=Nx.refl hb
 have hl:=p.n
 have hs:=aAg
 unfold eX
 refine eE rfl ?_
 unfold b_13
 rfl'
 (refine(aR hb (by lia) (by lia)).mono ?_;rintro _ _ ⟨d1,rfl,l_d1,u_d1,n'⟩;replace n:=n.trans n';replace hb:=n'.bx hb;clear n')
 rfl'
 refine dM (by rw[bE];lia) ?_
 rw[bE]
 rfl'
 (refine(aR hb (by lia) (by lia)).mono ?_;rintro _ _ ⟨d2,rfl,l_d2,u_d2,n'⟩;replace n:=n.trans n';replace hb:=n'.bx hb;clear n')
 rfl'
 refine pF.mono ?_
 rintro _ _ ⟨rfl,rfl⟩
 rfl'
 refine dM (by rw[bE];lia) ?_
 rw[bE]
 rfl'
 (refine(aR hb (by lia) (by lia)).mono ?_;rintro _ _ ⟨d3,rfl,l_d3,u_d3,n'⟩;replace n:=n.trans n';replace hb:=n'.bx hb;clear n')
 obtain⟨c,ec,hc⟩:=wW l_d3 u_d3 aBy
 refine kU ec (by lia) ?_
 have pc:=Pn.one hc
 rfl'
 refine dL (λh=>?_) (λh=>?_)
 ·rfl'
  refine(xE hb).mono ?_
  rintro _ _ ⟨l',rfl,pl,n'⟩
  replace n:=n.trans n'
  rfl'
  rw[n.take]
  exact⟨pl.mono (by lia),n⟩
 clear h
 rfl'
 refine dL (λh=>?_) (λh=>?_)
 ·rfl'
  (refine(aR hb (by lia) (by lia)).mono ?_;rintro _ _ ⟨d4,rfl,l_d4,u_d4,n'⟩;replace n:=n.trans n';replace hb:=n'.bx hb;clear n')
  rfl'
  refine cL p (by lia) λa1 p1=>?_
  rfl'
  refine cL p (by lia) λa2 p2=>?_
  refine bL rfl rfl p1 p2 (by lia) λa3 p3=>?_
  rfl'
  refine cL p (by lia) λa4 p4=>?_
  refine bL rfl rfl p3 p4 (by lia) λa5 p5=>?_
  rfl'
  rw[n.take]
  exact⟨p5.mono (by lia),n⟩
 clear h
 rfl'
 refine dL (λh=>?_) (λh=>?_)
 ·rfl'
  refine cL p (by lia) λa1 p1=>?_
  rfl'
  refine cL p (by lia) λa2 p2=>?_
  rfl'
  refine cL p2 (by lia) λa3 p3=>?_
  refine bL rfl rfl p1 p3 (by lia) λa4 p4=>?_
  rfl'
  refine cL p2 (by lia) λa5 p5=>?_
  refine bL rfl rfl p4 p5 (by lia) λa6 p6=>?_
  rfl'
  refine cL p2 (by lia) λa7 p7=>?_
  refine bL rfl rfl p6 p7 (by lia) λa8 p8=>?_
  rfl'
  rw[n.take]
  exact⟨p8.mono (by lia),n⟩
 clear h
 rfl'
 refine dL (λh=>?_) (λh=>?_)
 ·rfl'
  refine cL p (by lia) λa1 p1=>?_
  rfl'
  refine cL p (by lia) λa2 p2=>?_
  refine bL rfl rfl p1 p2 (by lia) λa3 p3=>?_
  rfl'
  rw[n.take]
  exact⟨p3.mono (by lia),n⟩
 clear h
 rfl'
 refine dL (λh=>?_) (λh=>?_)
 ·rfl'
  refine cL p (by lia) λa1 p1=>?_
  rfl'
  refine bL rfl rfl p1 pc (by lia) λa2 p2=>?_
  rfl'
  refine cL p (by lia) λa3 p3=>?_
  refine bL rfl rfl p2 p3 (by lia) λa4 p4=>?_
  rfl'
  rw[n.take]
  exact⟨p4.mono (by lia),n⟩
 clear h
 rfl'
 refine cL p (by lia) λa1 p1=>?_
 rfl'
 refine bL rfl rfl p1 pc (by lia) λa2 p2=>?_
 rfl'
 refine cL p (by lia) λa3 p3=>?_
 refine bL rfl rfl p2 p3 (by lia) λa4 p4=>?_
 rfl'
 rw[n.take]
 exact⟨p4.mono (by lia),n⟩
theorem at3(h0:0<=d)(h1:d < 3)(x y z:D):∃w,atI [x,y,z] d=some w/\(w=x\/w=y\/w=z):=by
 have:d=0\/d=1\/d=2:=by lia
 rcases this with rfl|rfl|rfl
 ·exact⟨x,rfl,.inl rfl⟩
 ·exact⟨y,rfl,.inr (.inl rfl)⟩
 ·exact⟨z,rfl,.inr (.inr rfl)⟩
theorem wL(hb:Bx M b):Ok (hZ [.ref b] M) λw M'=>∃ls:List (List Nat),w=.d (.lst (ls.map tx))/\ls.length=6/\(∀l∈ls,Pn 100000 l)/\Nx b M M':=by
 have n:=Nx.refl hb
 unfold hZ
 refine eE rfl ?_
 unfold b_14
 rfl'
 (refine(aR hb (by lia) (by lia)).mono ?_;rintro _ _ ⟨d1,rfl,l_d1,u_d1,n'⟩;replace n:=n.trans n';replace hb:=n'.bx hb;clear n')
 rfl'
 (refine(aR hb (by lia) (by lia)).mono ?_;rintro _ _ ⟨d2,rfl,l_d2,u_d2,n'⟩;replace n:=n.trans n';replace hb:=n'.bx hb;clear n')
 rfl'
 (refine(aR hb (by lia) (by lia)).mono ?_;rintro _ _ ⟨d3,rfl,l_d3,u_d3,n'⟩;replace n:=n.trans n';replace hb:=n'.bx hb;clear n')
 rfl'
 refine eW (at2I _ _ _) ?_
 obtain⟨k,hk,k0,k1⟩:∃k:Int,(if decide (d3=0)=true then 20+d2 else 18+d1)=k/\1<=k/\k<=((61:Nat):Int):=⟨_,rfl,by split <;> lia,by split <;> lia⟩
 first|rw[hk]|skip
 rfl'
 refine dH (aZ _) (Pn.lit (n:=5) (by decide)) ⟨k0,k1⟩ (by lia) (by lia) λa1 p1=>?_
 rfl'
 refine bL rfl (aZ _) p1 (Pn.lit (n:=2) (by decide)) (by lia) λa2 p2=>?_
 rfl'
 refine dH (aZ _) (Pn.lit (n:=1) (by decide)) ⟨k0,k1⟩ (by lia) (by lia) λa3 p3=>?_
 refine bL rfl rfl p2 p3 (by lia) λa4 p4=>?_
 have p4':=p4.mono (m:=10000) (by lia)
 clear hk l_d1 u_d1 l_d2 u_d2 l_d3 u_d3
 refine mM (gD (Ok.mono (Q:=λ(o:Out) M'=>Nx b M M'/\Bx M' b/\∃z,Pn 10000 z/\o=.nx [some (.ref b),some (.d (.int k)),some (.d (.str (T z))),none,none,none]) ?_ ?_))
 ·rfl'
  (refine(aR hb (by lia) (by lia)).mono ?_;rintro _ _ ⟨d4,rfl,l_d4,u_d4,n'⟩;replace n:=n.trans n';replace hb:=n'.bx hb;clear n')
  rfl'
  refine dL (λh=>?_) (λh=>?_)
  ·rfl'
   refine dH (aZ _) (Pn.lit (n:=1) (by decide)) ⟨k0,k1⟩ (by lia) (by lia) λa1 p1=>?_
   rfl'
   refine bL rfl (aZ _) p1 (Pn.lit (n:=1) (by decide)) (by lia) λa2 p2=>?_
   rfl'
   refine dH (aZ _) (Pn.lit (n:=6) (by decide)) ⟨k0,k1⟩ (by lia) (by lia) λa3 p3=>?_
   refine bL rfl rfl p2 p3 (by lia) λa4 p4=>?_
   rfl'
   exact⟨n,hb,a4,p4.mono (by lia),rfl⟩
  ·rfl'
   exact⟨n,hb,a4,p4',rfl⟩
 clear n hb p1 p2 p3 p4 p4'
 rintro _ M1 ⟨n,hb,z1,q1,rfl⟩
 rfl'
 (refine(aR hb (by lia) (by lia)).mono ?_;rintro _ _ ⟨d5,rfl,l_d5,u_d5,n'⟩;replace n:=n.trans n';replace hb:=n'.bx hb;clear n')
 obtain⟨w,ew,hw⟩:=at3 l_d5 u_d5 (.str "(") (.str "(1 - ") (.str "(x")
 refine eW ew ?_
 obtain⟨u,rfl,pu⟩:∃u,w=.str (T u)/\Pn 5 u:=by
  rcases hw with rfl|rfl|rfl
  ·exact⟨_,by rw[aZ],Pn.lit (by decide)⟩
  ·exact⟨_,by rw[aZ],Pn.lit (by decide)⟩
  ·exact⟨_,by rw[aZ],Pn.lit (by decide)⟩
 rfl'
 (refine(aR hb (by lia) (by lia)).mono ?_;rintro _ _ ⟨d6,rfl,l_d6,u_d6,n'⟩;replace n:=n.trans n';replace hb:=n'.bx hb;clear n')
 rfl'
 refine dH (K:=1000) rfl pu ⟨by lia,by lia⟩ (by lia) (by lia) λz2 q2=>?_
 clear hw ew
 rfl'
 (refine(aR hb (by lia) (by lia)).mono ?_;rintro _ _ ⟨d7,rfl,l_d7,u_d7,n'⟩;replace n:=n.trans n';replace hb:=n'.bx hb;clear n')
 obtain⟨w,ew,hw⟩:=at3 l_d7 u_d7 (.str "") (.str "x") (.str "(1 + ")
 refine eW ew ?_
 obtain⟨u,rfl,pu⟩:∃u,w=.str (T u)/\Pn 5 u:=by
  rcases hw with rfl|rfl|rfl
  ·exact⟨_,by rw[aZ],Pn.lit (by decide)⟩
  ·exact⟨_,by rw[aZ],Pn.lit (by decide)⟩
  ·exact⟨_,by rw[aZ],Pn.lit (by decide)⟩
 clear hw ew
 rfl'
 (refine(aR hb (by lia) (by lia)).mono ?_;rintro _ _ ⟨d8,rfl,l_d8,u_d8,n'⟩;replace n:=n.trans n';replace hb:=n'.bx hb;clear n')
 obtain⟨c,ec,hc⟩:=wW (l:="9876543210".toList.map Char.toNat) l_d8 (by simpa using Int.lt_trans u_d8 (by decide)) (by decide)
 rw[aZ "9876543210"]
 refine kU ec (by decide) ?_
 rfl'
 (refine(aR hb (by lia) (by lia)).mono ?_;rintro _ _ ⟨d9,rfl,l_d9,u_d9,n'⟩;replace n:=n.trans n';replace hb:=n'.bx hb;clear n')
 rfl'
 refine dH (K:=6000) rfl (Pn.one hc) ⟨by lia,by lia⟩ (by lia) (by lia) λa5 p5=>?_
 refine bL rfl rfl pu p5 (by lia) λz3 q3=>?_
 rfl'
 refine dH (aZ _) (Pn.lit (n:=5) (by decide)) ⟨k0,k1⟩ (by lia) (by lia) λa6 p6=>?_
 refine bL (aZ _) rfl (Pn.lit (n:=11) (by decide)) p6 (by lia) λa7 p7=>?_
 rfl'
 refine bL rfl (aZ _) p7 (Pn.lit (n:=1) (by decide)) (by lia) λa8 p8=>?_
 rfl'
 refine dH (K:=62) (aZ _) (Pn.lit (n:=1) (by decide)) ⟨by lia,by lia⟩ (by lia) (by lia) λa9 p9=>?_
 refine bL rfl rfl p8 p9 (by lia) λa10 p10=>?_
 have p10':=p10.mono (m:=10000) (by lia)
 refine mM (gD (Ok.mono (Q:=λ(o:Out) M'=>Nx b M M'/\Bx M' b/\∃z,Pn 10000 z/\o=.nx [some (.ref b),some (.d (.int k)),some (.d (.str (T z1))),some (.d (.str (T z2))),some (.d (.str (T z3))),some (.d (.str (T z)))]) ?_ ?_))
 ·rfl'
  (refine(aR hb (by lia) (by lia)).mono ?_;rintro _ _ ⟨d10,rfl,l_d10,u_d10,n'⟩;replace n:=n.trans n';replace hb:=n'.bx hb;clear n')
  rfl'
  refine dL (λh=>?_) (λh=>?_)
  ·rfl'
   refine dH (K:=62) (aZ _) (Pn.lit (n:=1) (by decide)) ⟨by lia,by lia⟩ (by lia) (by lia) λa1 p1=>?_
   rfl'
   refine bL rfl (aZ _) p1 (Pn.lit (n:=13) (by decide)) (by lia) λa2 p2=>?_
   rfl'
   refine dH (aZ _) (Pn.lit (n:=5) (by decide)) ⟨k0,k1⟩ (by lia) (by lia) λa3 p3=>?_
   refine bL rfl rfl p2 p3 (by lia) λa4 p4=>?_
   rfl'
   exact⟨n,hb,a4,p4.mono (by lia),rfl⟩
  ·rfl'
   exact⟨n,hb,a10,p10',rfl⟩
 clear n hb
 rintro _ M2 ⟨n,hb,z4,q4,rfl⟩
 rfl'
 (refine(aR hb (by lia) (by lia)).mono ?_;rintro _ _ ⟨d11,rfl,l_d11,u_d11,n'⟩;replace n:=n.trans n';replace hb:=n'.bx hb;clear n')
 rfl'
 refine dH (K:=3000) (aZ _) (Pn.lit (n:=1) (by decide)) ⟨by lia,by lia⟩ (by lia) (by lia) λz5 q5=>?_
 rfl'
 rw[n.take]
 refine⟨[z1,z2,z5,z3,z4,z1],rfl,rfl,λl hl=>?_,n⟩
 simp only[aBH,aDQ,or_false]at hl
 rcases hl with rfl|rfl|rfl|rfl|rfl|rfl
 ·exact q1.mono (by lia)
 ·exact q2.mono (by lia)
 ·exact q5.mono (by lia)
 ·exact q3.mono (by lia)
 ·exact q4.mono (by lia)
 ·exact q1.mono (by lia)
theorem Bx.push{a b c:Int}:Bx (M++[[.int a,.int b,.int c]]) M.length:=⟨a,b,c,by simp⟩
theorem uF(n:Nat):(dig n).all (· < 128)=true:=aBE.mpr λc hc=>by
 have:=nE n c hc
 simp[isF]at this ⊢;lia
theorem pG:∀e:E,(txt e).all (· < 128)=true
 |.num c=>uF _
 |.giv i=>by simp only[txt,aFH,uF];decide
 |.op w a b=>by
  have p3:(sg w).all (· < 128)=true:=by cases w <;> decide
  simp only[txt,aFH,List.all_append,pG a,pG b,p3];decide
noncomputable def B(t:Nat):Nat:=5621*4 ^ t
theorem aIz{t:Nat}(h:t<=3):20<=B t/\B t<=400000:=by
 have:t=0\/t=1\/t=2\/t=3:=by lia
 rcases this with rfl|rfl|rfl|rfl <;> decide
theorem aDj(t:Nat):4*B t=B (t+1):=by unfold B;rw[Nat.pow_succ];lia
theorem aGq(ns:List Int)(hn:ns.length<=63):Ok (mO [.d (.fz (ns.map D.int))] []) λw _=>w=.d (.bl true):=by
 unfold mO
 refine eQ rfl ?_
 unfold b_15
 rfl'
 refine(mJ (by lia) hn).mono ?_
 rintro _ _ ⟨x0,y0,z0,rfl,rfl⟩
 have hb:Bx ([]++[[D.int x0,D.int y0,D.int z0]]) ([]:Mm).length:=Bx.push
 have n:=Nx.refl hb
 rfl'
 (refine(aR hb (by lia) (by lia)).mono ?_;rintro _ _ ⟨d1,rfl,l_d1,u_d1,n'⟩;replace n:=n.trans n';replace hb:=n'.bx hb;clear n')
 obtain⟨w,ew,hw⟩:=at3 l_d1 u_d1 (.int 1) (.int 9) (.int 40)
 refine eW ew ?_
 obtain⟨r,rfl,hr⟩:∃r:Int,w=.int r/\r < 1000:=by
  rcases hw with rfl|rfl|rfl <;> exact⟨_,rfl,by lia⟩
 rfl'
 refine(vN (G:=8) (by lia) 8 50 _ _ r 8 hb hr rfl (by lia)).mono ?_
 rintro _ _ ⟨e,rfl,de,fe,n'⟩
 have hnw:nw e<=511:=by have:=xS e 8 de;lia
 rfl'
 refine(qZ e 50 _ (by lia) fe (by lia)).mono ?_
 rintro _ M0 ⟨rfl,rfl⟩
 have p0:Pn 5621 (txt e):=⟨pG e,by have:=gF e fe;lia⟩
 clear n n' hb hw ew hnw de fe
 generalize txt e=l at p0
 rfl'
 refine⟨by decide,?_⟩
 refine mK (λi L M'=>∃(ts:List (List Nat)) (o1 o4 o5 o6:Option W),ts.length=1+2*i/\(∀t∈ts,Pn 400000 t)/\L=[some (.d (.fz (ns.map D.int))),o1,some (.d (.str (T l))),some (.d (.lst (ts.map tx))),o4,o5,o6]) ⟨[l],_,_,_,_,rfl,λt ht=>by rw[aCG.mp ht];exact p0.mono (by lia),rfl⟩ (λi L M _ _ t e=>by cases e) ?_ ?_
 ·rintro i d _ M1 hd ⟨ts,o1,o4,o5,o6,hl,ht,rfl⟩
  obtain⟨hi,rfl⟩:=mI hd
  have hi:i < 6:=hi
  rfl'
  refine(mJ (by lia) hn).mono ?_
  rintro _ _ ⟨x1,y1,z1,rfl,rfl⟩
  rfl'
  refine(aR Bx.push (by lia) (by lia)).mono ?_
  rintro _ M2 ⟨d2,rfl,l2,u2,n2⟩
  have hb:=n2.bx Bx.push
  clear n2
  rfl'
  refine⟨by simp only[in62,aAU];lia,?_⟩
  refine mK (λt L M'=>Bx M' M1.length/\∃(u:List Nat) (o6:Option W),Pn (B t) u/\L=[some (.d (.fz (ns.map D.int))),some (.ref M1.length),some (.d (.str (T l))),some (.d (.lst (ts.map tx))),some (.d (.int (0+(i:Int)))),some (.d (.str (T u))),o6]) ⟨hb,l,_,p0,rfl⟩ (λi L M _ _ t e=>by cases e) ?_ ?_
  ·clear hb
   rintro t d _ M3 hd ⟨hb,u,o6,pu,rfl⟩
   obtain⟨ht3,rfl⟩:=mI hd
   have ht3:t < 3:=by lia
   have hB:=aIz (show t<=3 by lia)
   rfl'
   refine(pU hb pu hB.1 (by lia)).mono ?_
   rintro _ M4 ⟨u',rfl,pu',n'⟩
   rfl'
   exact⟨n'.bx hb,u',_,by rw[<- aDj];exact pu',rfl⟩
  ·clear hb
   rintro _ M3 ⟨hb,u,o6,pu,rfl⟩
   have hl3:(rngD 0 (1+d2).toNat).length<=3:=by simp[rngD];lia
   have hB:=aIz hl3
   rfl'
   refine gP (xs:=ts.map tx) (ys:=[tx u,tx l]) rfl rfl (by simp;lia) ?_
   rw[show ts.map tx++[tx u,tx l]=(ts++[u,l]).map tx by simp]
   rfl'
   refine⟨ts++[u,l],_,_,_,_,by simp;lia,λt h=>?_,rfl⟩
   rcases aCE.mp h with h|h
   ·exact ht t h
   ·simp only[aBH,aDQ,or_false]at h
    rcases h with rfl|rfl
    ·exact pu.mono hB.2
    ·exact p0.mono (by lia)
 ·rintro _ M1 ⟨ts,o1,o4,o5,o6,hl,ht,rfl⟩
  have hl6:(rngD 0 (6:Int).toNat).length=6:=by simp[rngD]
  rw[hl6]at hl
  rfl'
  refine(mJ (by lia) hn).mono ?_
  rintro _ _ ⟨x1,y1,z1,rfl,rfl⟩
  rfl'
  refine(wL Bx.push).mono ?_
  rintro _ M2 ⟨ls,rfl,hls,hlp,_⟩
  refine gP (xs:=ts.map tx) (ys:=ls.map tx) rfl rfl (by simp;lia) ?_
  rw[<- List.map_append]
  have hal:(ts++ls).length=19:=by simp;lia
  have hap:∀t∈ts++ls,Tx8 t:=λt h=>by
   rcases aCE.mp h with h|h
   ·exact(ht t h).tx (by lia)
   ·exact(hlp t h).tx (by lia)
  generalize ts++ls=us at hal hap
  rfl'
  refine xP ?_
  rfl'
  refine aAo ?_
  refine gP (xs:=us.map tx) (ys:=cut (us.map tx) none (some 3)) rfl rfl (by have:=tX (xs:=us.map tx) (lo:=none) (hi:=some 3);simp at this;simp;lia) ?_
  have hlc:=tX (xs:=us.map tx) (lo:=none) (hi:=some 3)
  refine⟨_,rfl,λ_=>.bl true,by simp at hlc;simp;lia,rM,λd hd acc=>?_,?_⟩
  ·obtain⟨t,ht',rfl⟩:∃t,t∈us/\d=tx t:=by
    have hm:d∈us.map tx:=by
     rcases aCE.mp hd with hm|hm
     ·exact hm
     ·exact aCv hm
    obtain⟨t,h1,rfl⟩:=List.mem_map.mp hm
    exact⟨t,h1,rfl⟩
   rfl'
   refine(oY (hap t ht')).mono ?_
   rintro _ _ ⟨rfl,rfl⟩
   exact⟨rfl,rfl⟩
  ·rfl'
   refine aGr (bs:=List.replicate (us.map tx++cut (us.map tx) none (some 3)).length true) rfl (by simp[List.map_const',Function.comp_def]) ?_
   rfl'
   simp
theorem yC(ns:List Int)(hn:ns.length<=63):∃M',mO [.d (.fz (ns.map D.int))] []=.ok (.d (.bl true)) M':=by
 obtain⟨_,M,e,rfl⟩:=jD.mp (aGq ns hn)
 exact⟨M,e⟩
theorem aFg{l:PySem.W.OpenLaw}{fa:Addr}{f1 f2 f3 f4 f5 f6 f7 f8 f9 f10 f11 f12 f13 f14 f15 f16 f17 f18 f19 f20 f21 f22 eL eBadText jBadText eNoDeed jNoDeed eNoInverse jNoInverse eNoMove jNoMove eNoPaper jNoPaper eNoRest eNoRoot jNoRoot eNoRow eTooMany jTooMany tSIGNS tWORDS:Addr}{od1 an1 od2 an2 od3 an3 od4 an4 od5 an5 od6 an6 od7 an7 od8 an8 od9 an9 od10 an10 od11 an11 od12 an12 od13 an13 od14 an14 od15 an15 od16 an16 od17 an17 od18 an18 od19 an19 od20 an20 od21 an21 od22 an22 odBadText anBadText:Option Addr}{sl1 sl2 sl3 sl4 sl5 sl6 sl7 sl8 sl9 sl10 sl11 sl12 sl13 sl14 sl15 sl16 sl17 sl18 sl19 sl20 sl21 sl22 slBadText:Array (Option Value)}{oc1 kV1 dc1 pm1 cd1 ct1 oc2 kV2 dc2 pm2 cd2 ct2 oc3 kV3 dc3 pm3 cd3 ct3 oc4 kV4 dc4 pm4 cd4 ct4 oc5 kV5 dc5 pm5 cd5 ct5 oc6 kV6 dc6 pm6 cd6 ct6 oc7 kV7 dc7 pm7 cd7 ct7 oc8 kV8 dc8 pm8 cd8 ct8 oc9 kV9 dc9 pm9 cd9 ct9 oc10 kV10 dc10 pm10 cd10 ct10 oc11 kV11 dc11 pm11 cd11 ct11 oc12 kV12 dc12 pm12 cd12 ct12 oc13 kV13 dc13 pm13 cd13 ct13 oc14 kV14 dc14 pm14 cd14 ct14 oc15 kV15 dc15 pm15 cd15 ct15 oc16 kV16 dc16 pm16 cd16 ct16 oc17 kV17 dc17 pm17 cd17 ct17 oc18 kV18 dc18 pm18 cd18 ct18 oc19 kV19 dc19 pm19 cd19 ct19 oc20 kV20 dc20 pm20 cd20 ct20 oc21 kV21 dc21 pm21 cd21 ct21 oc22 kV22 dc22 pm22 cd22 ct22 ocBadText kVBadText dcBadText pmBadText cdBadText ctBadText:Value}{tFIGURES tLAST_GIVEN tMOST_BRACKETS tMOST_FIGURES:Tok}(X:K.In h)(G:h.Ns mainGlobals mg)(hfa:mg "law"=some (.ref fa))
  (a1:nsIn K mainGlobals "figures_end"=some (some (.ref f1)))
  (l1:K.lookup f1=some ⟨oc1,od1,.func (fnOf "figures_end" "figures_end" (defArgs bF) (defBody bF) (defScope bF) .none kV1 dc1 pm1 an1 cd1 ct1),sl1⟩)
  (c1:codeIn K cd1 "figures_end"=true)
  (k1:keepIn K (.ref f1)=true)
  (a2:nsIn K mainGlobals "number_of"=some (some (.ref f2)))
  (l2:K.lookup f2=some ⟨oc2,od2,.func (fnOf "number_of" "number_of" (defArgs bQ) (defBody bQ) (defScope bQ) .none kV2 dc2 pm2 an2 cd2 ct2),sl2⟩)
  (c2:codeIn K cd2 "number_of"=true)
  (k2:keepIn K (.ref f2)=true)
  (a3:nsIn K mainGlobals "show_expr"=some (some (.ref f3)))
  (l3:K.lookup f3=some ⟨oc3,od3,.func (fnOf "show_expr" "show_expr" (defArgs bT) (defBody bT) (defScope bT) .none kV3 dc3 pm3 an3 cd3 ct3),sl3⟩)
  (c3:codeIn K cd3 "show_expr"=true)
  (k3:keepIn K (.ref f3)=true)
  (a4:nsIn K mainGlobals "read_expr"=some (some (.ref f4)))
  (l4:K.lookup f4=some ⟨oc4,od4,.func (fnOf "read_expr" "read_expr" (defArgs bU) (defBody bU) (defScope bU) .none kV4 dc4 pm4 an4 cd4 ct4),sl4⟩)
  (c4:codeIn K cd4 "read_expr"=true)
  (k4:keepIn K (.ref f4)=true)
  (a5:nsIn K mainGlobals "read_part"=some (some (.ref f5)))
  (l5:K.lookup f5=some ⟨oc5,od5,.func (fnOf "read_part" "read_part" (defArgs bP) (defBody bP) (defScope bP) .none kV5 dc5 pm5 an5 cd5 ct5),sl5⟩)
  (c5:codeIn K cd5 "read_part"=true)
  (k5:keepIn K (.ref f5)=true)
  (a6:nsIn K mainGlobals "read_pair"=some (some (.ref f6)))
  (l6:K.lookup f6=some ⟨oc6,od6,.func (fnOf "read_pair" "read_pair" (defArgs bS) (defBody bS) (defScope bS) .none kV6 dc6 pm6 an6 cd6 ct6),sl6⟩)
  (c6:codeIn K cd6 "read_pair"=true)
  (k6:keepIn K (.ref f6)=true)
  (a7:nsIn K mainGlobals "read_given"=some (some (.ref f7)))
  (l7:K.lookup f7=some ⟨oc7,od7,.func (fnOf "read_given" "read_given" (defArgs bK) (defBody bK) (defScope bK) .none kV7 dc7 pm7 an7 cd7 ct7),sl7⟩)
  (c7:codeIn K cd7 "read_given"=true)
  (k7:keepIn K (.ref f7)=true)
  (a8:nsIn K mainGlobals "read_num"=some (some (.ref f8)))
  (l8:K.lookup f8=some ⟨oc8,od8,.func (fnOf "read_num" "read_num" (defArgs bZ) (defBody bZ) (defScope bZ) .none kV8 dc8 pm8 an8 cd8 ct8),sl8⟩)
  (c8:codeIn K cd8 "read_num"=true)
  (k8:keepIn K (.ref f8)=true)
  (a9:nsIn K mainGlobals "_law_box"=some (some (.ref f9)))
  (l9:K.lookup f9=some ⟨oc9,od9,.func (fnOf "_law_box" "_law_box" (defArgs dU) (defBody dU) (defScope dU) .none kV9 dc9 pm9 an9 cd9 ct9),sl9⟩)
  (c9:codeIn K cd9 "_law_box"=true)
  (k9:keepIn K (.ref f9)=true)
  (a10:nsIn K mainGlobals "_law_take"=some (some (.ref f10)))
  (l10:K.lookup f10=some ⟨oc10,od10,.func (fnOf "_law_take" "_law_take" (defArgs dA) (defBody dA) (defScope dA) .none kV10 dc10 pm10 an10 cd10 ct10),sl10⟩)
  (c10:codeIn K cd10 "_law_take"=true)
  (k10:keepIn K (.ref f10)=true)
  (a11:nsIn K mainGlobals "_law_expr"=some (some (.ref f11)))
  (l11:K.lookup f11=some ⟨oc11,od11,.func (fnOf "_law_expr" "_law_expr" (defArgs cV) (defBody cV) (defScope cV) .none kV11 dc11 pm11 an11 cd11 ct11),sl11⟩)
  (c11:codeIn K cd11 "_law_expr"=true)
  (k11:keepIn K (.ref f11)=true)
  (a12:nsIn K mainGlobals "_law_alike"=some (some (.ref f12)))
  (l12:K.lookup f12=some ⟨oc12,od12,.func (fnOf "_law_alike" "_law_alike" (defArgs cK) (defBody cK) (defScope cK) .none kV12 dc12 pm12 an12 cd12 ct12),sl12⟩)
  (c12:codeIn K cd12 "_law_alike"=true)
  (k12:keepIn K (.ref f12)=true)
  (a13:nsIn K mainGlobals "_law_text"=some (some (.ref f13)))
  (l13:K.lookup f13=some ⟨oc13,od13,.func (fnOf "_law_text" "_law_text" (defArgs cY) (defBody cY) (defScope cY) .none kV13 dc13 pm13 an13 cd13 ct13),sl13⟩)
  (c13:codeIn K cd13 "_law_text"=true)
  (k13:keepIn K (.ref f13)=true)
  (a14:nsIn K mainGlobals "_law_signs"=some (some (.ref f14)))
  (l14:K.lookup f14=some ⟨oc14,od14,.func (fnOf "_law_signs" "_law_signs" (defArgs cH) (defBody cH) (defScope cH) .none kV14 dc14 pm14 an14 cd14 ct14),sl14⟩)
  (c14:codeIn K cd14 "_law_signs"=true)
  (k14:keepIn K (.ref f14)=true)
  (a15:nsIn K mainGlobals "_law_read"=some (some (.ref f15)))
  (l15:K.lookup f15=some ⟨oc15,od15,.func (fnOf "_law_read" "_law_read" (defArgs cZ) (defBody cZ) (defScope cZ) .none kV15 dc15 pm15 an15 cd15 ct15),sl15⟩)
  (c15:codeIn K cd15 "_law_read"=true)
  (k15:keepIn K (.ref f15)=true)
  (a16:nsIn K mainGlobals "_law_due"=some (some (.ref f16)))
  (l16:K.lookup f16=some ⟨oc16,od16,.func (fnOf "_law_due" "_law_due" (defArgs dS) (defBody dS) (defScope dS) .none kV16 dc16 pm16 an16 cd16 ct16),sl16⟩)
  (c16:codeIn K cd16 "_law_due"=true)
  (k16:keepIn K (.ref f16)=true)
  (a17:nsIn K mainGlobals "_law_refused"=some (some (.ref f17)))
  (l17:K.lookup f17=some ⟨oc17,od17,.func (fnOf "_law_refused" "_law_refused" (defArgs bV) (defBody bV) (defScope bV) .none kV17 dc17 pm17 an17 cd17 ct17),sl17⟩)
  (c17:codeIn K cd17 "_law_refused"=true)
  (k17:keepIn K (.ref f17)=true)
  (a18:nsIn K mainGlobals "_law_right"=some (some (.ref f18)))
  (l18:K.lookup f18=some ⟨oc18,od18,.func (fnOf "_law_right" "_law_right" (defArgs cJ) (defBody cJ) (defScope cJ) .none kV18 dc18 pm18 an18 cd18 ct18),sl18⟩)
  (c18:codeIn K cd18 "_law_right"=true)
  (k18:keepIn K (.ref f18)=true)
  (a19:nsIn K mainGlobals "_law_odd"=some (some (.ref f19)))
  (l19:K.lookup f19=some ⟨oc19,od19,.func (fnOf "_law_odd" "_law_odd" (defArgs dW) (defBody dW) (defScope dW) .none kV19 dc19 pm19 an19 cd19 ct19),sl19⟩)
  (c19:codeIn K cd19 "_law_odd"=true)
  (k19:keepIn K (.ref f19)=true)
  (a20:nsIn K mainGlobals "_law_spoilt"=some (some (.ref f20)))
  (l20:K.lookup f20=some ⟨oc20,od20,.func (fnOf "_law_spoilt" "_law_spoilt" (defArgs cA) (defBody cA) (defScope cA) .none kV20 dc20 pm20 an20 cd20 ct20),sl20⟩)
  (c20:codeIn K cd20 "_law_spoilt"=true)
  (k20:keepIn K (.ref f20)=true)
  (a21:nsIn K mainGlobals "_law_deep"=some (some (.ref f21)))
  (l21:K.lookup f21=some ⟨oc21,od21,.func (fnOf "_law_deep" "_law_deep" (defArgs cW) (defBody cW) (defScope cW) .none kV21 dc21 pm21 an21 cd21 ct21),sl21⟩)
  (c21:codeIn K cd21 "_law_deep"=true)
  (k21:keepIn K (.ref f21)=true)
  (a22:nsIn K mainGlobals "law"=some (some (.ref f22)))
  (l22:K.lookup f22=some ⟨oc22,od22,.func (fnOf "law" "law" (defArgs iB) (defBody iB) (defScope iB) .none kV22 dc22 pm22 an22 cd22 ct22),sl22⟩)
  (c22:codeIn K cd22 "law"=true)
  (k22:keepIn K (.ref f22)=true)
  (aL:nsIn K mainGlobals "LentError"=some (some (.ref eL)))
  (oL:xcB K eL vb none=true)
  (rL:PySem.W.readsIn K eL (.type "type")=true)
  (gL:PySem.W.specialIn K (.ref eL) "__getattribute__"=some (some (.builtin "type.__getattribute__")))
  (iL:PySem.W.findCls K (.ref eL) (.type "type") "__init__"=some (.val (.builtin "ValueError.__init__")))
  (tL:PySem.W.tailIn K vb (.ref eL::vb)=true)
  (aBadText:nsIn K mainGlobals "BadText"=some (some (.ref eBadText)))
  (xBadText:xkB K "BadText" eBadText eL=true)
  (jBadText_:PySem.W.findIn K (.ref eBadText) "__init__"=some (some (.ref jBadText)))
  (bBadText:xcB K eBadText (.ref eL::vb) (some (.ref jBadText))=true)
  (lBadText:K.lookup jBadText=some ⟨ocBadText,odBadText,.func (fnOf "__init__" "BadText.__init__" (defArgs cD) (defBody cD) (defScope cD) .none kVBadText dcBadText pmBadText anBadText cdBadText ctBadText),slBadText⟩)
  (cBadText:codeIn K cdBadText "BadText.__init__"=true)
  (kBadText:keepIn K (.ref jBadText)=true)
  (tBadText:PySem.W.typeIn K (.ref jBadText)=some (.type "function"))
  (nBadText:PySem.W.findIn K (.ref eBadText) "row"=some none)
  (sBadText:PySem.W.findIn K (.ref eBadText) "__setattr__"=some (some (.builtin "object.__setattr__")))
  (qBadText:keepIn K (.ref eBadText)=true)
  (aNoDeed:nsIn K mainGlobals "NoDeed"=some (some (.ref eNoDeed)))
  (xNoDeed:xkB K "NoDeed" eNoDeed eL=true)
  (jNoDeed_:PySem.W.findIn K (.ref eNoDeed) "__init__"=some (some (.ref jNoDeed)))
  (bNoDeed:xcB K eNoDeed (.ref eL::vb) (some (.ref jNoDeed))=true)
  (aNoInverse:nsIn K mainGlobals "NoInverse"=some (some (.ref eNoInverse)))
  (xNoInverse:xkB K "NoInverse" eNoInverse eL=true)
  (jNoInverse_:PySem.W.findIn K (.ref eNoInverse) "__init__"=some (some (.ref jNoInverse)))
  (bNoInverse:xcB K eNoInverse (.ref eL::vb) (some (.ref jNoInverse))=true)
  (aNoMove:nsIn K mainGlobals "NoMove"=some (some (.ref eNoMove)))
  (xNoMove:xkB K "NoMove" eNoMove eL=true)
  (jNoMove_:PySem.W.findIn K (.ref eNoMove) "__init__"=some (some (.ref jNoMove)))
  (bNoMove:xcB K eNoMove (.ref eL::vb) (some (.ref jNoMove))=true)
  (aNoPaper:nsIn K mainGlobals "NoPaper"=some (some (.ref eNoPaper)))
  (xNoPaper:xkB K "NoPaper" eNoPaper eL=true)
  (jNoPaper_:PySem.W.findIn K (.ref eNoPaper) "__init__"=some (some (.ref jNoPaper)))
  (bNoPaper:xcB K eNoPaper (.ref eL::vb) (some (.ref jNoPaper))=true)
  (aNoRest:nsIn K mainGlobals "NoRest"=some (some (.ref eNoRest)))
  (xNoRest:xkB K "NoRest" eNoRest eL=true)
  (bNoRest:xcB K eNoRest (.ref eL::vb) none=true)
  (aNoRoot:nsIn K mainGlobals "NoRoot"=some (some (.ref eNoRoot)))
  (xNoRoot:xkB K "NoRoot" eNoRoot eL=true)
  (jNoRoot_:PySem.W.findIn K (.ref eNoRoot) "__init__"=some (some (.ref jNoRoot)))
  (bNoRoot:xcB K eNoRoot (.ref eL::vb) (some (.ref jNoRoot))=true)
  (aNoRow:nsIn K mainGlobals "NoRow"=some (some (.ref eNoRow)))
  (xNoRow:xkB K "NoRow" eNoRow eL=true)
  (bNoRow:xcB K eNoRow (.ref eL::vb) none=true)
  (aTooMany:nsIn K mainGlobals "TooMany"=some (some (.ref eTooMany)))
  (xTooMany:xkB K "TooMany" eTooMany eL=true)
  (jTooMany_:PySem.W.findIn K (.ref eTooMany) "__init__"=some (some (.ref jTooMany)))
  (bTooMany:xcB K eTooMany (.ref eL::vb) (some (.ref jTooMany))=true)
  (vFIGURES:nsIn K mainGlobals "FIGURES"=some (some (.str "0123456789" tFIGURES)))
  (vLAST_GIVEN:nsIn K mainGlobals "LAST_GIVEN"=some (some (.int 7 tLAST_GIVEN)))
  (vMOST_BRACKETS:nsIn K mainGlobals "MOST_BRACKETS"=some (some (.int 20 tMOST_BRACKETS)))
  (vMOST_FIGURES:nsIn K mainGlobals "MOST_FIGURES"=some (some (.int 6 tMOST_FIGURES)))
  (vSIGNS:nsIn K mainGlobals "SIGNS"=some (some (.ref tSIGNS)))
  (wSIGNS:tabB K tSIGNS [("sum"," + "),("less"," - "),("times"," * ")]=true)
  (vWORDS:nsIn K mainGlobals "WORDS"=some (some (.ref tWORDS)))
  (wWORDS:tabB K tWORDS [(" + ","sum"),(" - ","less"),(" * ","times")]=true)
  (z_ValueError:nsIn K mainGlobals "ValueError"=some none)
  (z_all:nsIn K mainGlobals "all"=some none)
  (z_bool:nsIn K mainGlobals "bool"=some none)
  (z_int:nsIn K mainGlobals "int"=some none)
  (z_isinstance:nsIn K mainGlobals "isinstance"=some none)
  (z_len:nsIn K mainGlobals "len"=some none)
  (z_list:nsIn K mainGlobals "list"=some none)
  (z_max:nsIn K mainGlobals "max"=some none)
  (z_range:nsIn K mainGlobals "range"=some none)
  (z_str:nsIn K mainGlobals "str"=some none)
  (z_tuple:nsIn K mainGlobals "tuple"=some none)
  (z_zip:nsIn K mainGlobals "zip"=some none)
  : ∃fd:FuncData,(∀(s:Shared) (v:Value),BindsTo s fd ⟨[v],[]⟩ [("_law_script",v)])/\∀base:Heap,K.In base->base.Ns mainGlobals mg->FnOk l.prog w K mg base (CX1 l.prog w) 57 fa fd aHB (spX K 1 mO):=by
 have e:=hfa.symm.trans (aAM X G a22)
 cases e
 have T:Tx K mg ⟨f1,(fnOf "figures_end" "figures_end" (defArgs bF) (defBody bF) (defScope bF) .none kV1 dc1 pm1 an1 cd1 ct1),f2,(fnOf "number_of" "number_of" (defArgs bQ) (defBody bQ) (defScope bQ) .none kV2 dc2 pm2 an2 cd2 ct2),f3,(fnOf "show_expr" "show_expr" (defArgs bT) (defBody bT) (defScope bT) .none kV3 dc3 pm3 an3 cd3 ct3),f4,(fnOf "read_expr" "read_expr" (defArgs bU) (defBody bU) (defScope bU) .none kV4 dc4 pm4 an4 cd4 ct4),f5,(fnOf "read_part" "read_part" (defArgs bP) (defBody bP) (defScope bP) .none kV5 dc5 pm5 an5 cd5 ct5),f6,(fnOf "read_pair" "read_pair" (defArgs bS) (defBody bS) (defScope bS) .none kV6 dc6 pm6 an6 cd6 ct6),f7,(fnOf "read_given" "read_given" (defArgs bK) (defBody bK) (defScope bK) .none kV7 dc7 pm7 an7 cd7 ct7),f8,(fnOf "read_num" "read_num" (defArgs bZ) (defBody bZ) (defScope bZ) .none kV8 dc8 pm8 an8 cd8 ct8),f9,(fnOf "_law_box" "_law_box" (defArgs dU) (defBody dU) (defScope dU) .none kV9 dc9 pm9 an9 cd9 ct9),f10,(fnOf "_law_take" "_law_take" (defArgs dA) (defBody dA) (defScope dA) .none kV10 dc10 pm10 an10 cd10 ct10),f11,(fnOf "_law_expr" "_law_expr" (defArgs cV) (defBody cV) (defScope cV) .none kV11 dc11 pm11 an11 cd11 ct11),f12,(fnOf "_law_alike" "_law_alike" (defArgs cK) (defBody cK) (defScope cK) .none kV12 dc12 pm12 an12 cd12 ct12),f13,(fnOf "_law_text" "_law_text" (defArgs cY) (defBody cY) (defScope cY) .none kV13 dc13 pm13 an13 cd13 ct13),f14,(fnOf "_law_signs" "_law_signs" (defArgs cH) (defBody cH) (defScope cH) .none kV14 dc14 pm14 an14 cd14 ct14),f15,(fnOf "_law_read" "_law_read" (defArgs cZ) (defBody cZ) (defScope cZ) .none kV15 dc15 pm15 an15 cd15 ct15),f16,(fnOf "_law_due" "_law_due" (defArgs dS) (defBody dS) (defScope dS) .none kV16 dc16 pm16 an16 cd16 ct16),f17,(fnOf "_law_refused" "_law_refused" (defArgs bV) (defBody bV) (defScope bV) .none kV17 dc17 pm17 an17 cd17 ct17),f18,(fnOf "_law_right" "_law_right" (defArgs cJ) (defBody cJ) (defScope cJ) .none kV18 dc18 pm18 an18 cd18 ct18),f19,(fnOf "_law_odd" "_law_odd" (defArgs dW) (defBody dW) (defScope dW) .none kV19 dc19 pm19 an19 cd19 ct19),f20,(fnOf "_law_spoilt" "_law_spoilt" (defArgs cA) (defBody cA) (defScope cA) .none kV20 dc20 pm20 an20 cd20 ct20),f21,(fnOf "_law_deep" "_law_deep" (defArgs cW) (defBody cW) (defScope cW) .none kV21 dc21 pm21 an21 cd21 ct21),fa,(fnOf "law" "law" (defArgs iB) (defBody iB) (defScope iB) .none kV22 dc22 pm22 an22 cd22 ct22),eL,eBadText,jBadText,(fnOf "__init__" "BadText.__init__" (defArgs cD) (defBody cD) (defScope cD) .none kVBadText dcBadText pmBadText anBadText cdBadText ctBadText),eNoDeed,eNoInverse,eNoMove,eNoPaper,eNoRest,eNoRoot,eNoRow,eTooMany,tFIGURES,tLAST_GIVEN,tMOST_BRACKETS,tMOST_FIGURES,tSIGNS,tWORDS⟩ :=
  ⟨aS l1 c1 k1,
   (aS (st:=bF) l1 c1 k1).binds (ps:=aGP) (λ_ _ _ _ _ _=>ex2 λ_ _=>rfl),
   k1,
   aAM X G a1,
   aS l2 c2 k2,
   (aS (st:=bQ) l2 c2 k2).binds (ps:=aGQ) (λ_ _ _ _ _ _=>ex2 λ_ _=>rfl),
   k2,
   aAM X G a2,
   aS l3 c3 k3,
   (aS (st:=bT) l3 c3 k3).binds (ps:=["expr"]) (λ_ _ _ _ _ _=>ex1 λ_=>rfl),
   k3,
   aAM X G a3,
   aS l4 c4 k4,
   (aS (st:=bU) l4 c4 k4).binds (ps:=["text"]) (λ_ _ _ _ _ _=>ex1 λ_=>rfl),
   k4,
   aAM X G a4,
   aS l5 c5 k5,
   (aS (st:=bP) l5 c5 k5).binds (ps:=aGR) (λ_ _ _ _ _ _=>ex3 λ_ _ _=>rfl),
   k5,
   aAM X G a5,
   aS l6 c6 k6,
   (aS (st:=bS) l6 c6 k6).binds (ps:=aGR) (λ_ _ _ _ _ _=>ex3 λ_ _ _=>rfl),
   k6,
   aAM X G a6,
   aS l7 c7 k7,
   (aS (st:=bK) l7 c7 k7).binds (ps:=aGP) (λ_ _ _ _ _ _=>ex2 λ_ _=>rfl),
   k7,
   aAM X G a7,
   aS l8 c8 k8,
   (aS (st:=bZ) l8 c8 k8).binds (ps:=aGP) (λ_ _ _ _ _ _=>ex2 λ_ _=>rfl),
   k8,
   aAM X G a8,
   aS l9 c9 k9,
   (aS (st:=dU) l9 c9 k9).binds (ps:=aGS) (λ_ _ _ _ _ _=>ex2 λ_ _=>rfl),
   k9,
   aAM X G a9,
   aS l10 c10 k10,
   (aS (st:=dA) l10 c10 k10).binds (ps:=aGT) (λ_ _ _ _ _ _=>ex2 λ_ _=>rfl),
   k10,
   aAM X G a10,
   aS l11 c11 k11,
   (aS (st:=cV) l11 c11 k11).binds (ps:=aGU) (λ_ _ _ _ _ _=>ex4 λ_ _ _ _=>rfl),
   k11,
   aAM X G a11,
   aS l12 c12 k12,
   (aS (st:=cK) l12 c12 k12).binds (ps:=aGV) (λ_ _ _ _ _ _=>ex2 λ_ _=>rfl),
   k12,
   aAM X G a12,
   aS l13 c13 k13,
   (aS (st:=cY) l13 c13 k13).binds (ps:=aGW) (λ_ _ _ _ _ _=>ex1 λ_=>rfl),
   k13,
   aAM X G a13,
   aS l14 c14 k14,
   (aS (st:=cH) l14 c14 k14).binds (ps:=[]) (λ_ _ _ _ _ _=>ex0 rfl),
   k14,
   aAM X G a14,
   aS l15 c15 k15,
   (aS (st:=cZ) l15 c15 k15).binds (ps:=aGX) (λ_ _ _ _ _ _=>ex2 λ_ _=>rfl),
   k15,
   aAM X G a15,
   aS l16 c16 k16,
   (aS (st:=dS) l16 c16 k16).binds (ps:=aGY) (λ_ _ _ _ _ _=>ex1 λ_=>rfl),
   k16,
   aAM X G a16,
   aS l17 c17 k17,
   (aS (st:=bV) l17 c17 k17).binds (ps:=aGY) (λ_ _ _ _ _ _=>ex1 λ_=>rfl),
   k17,
   aAM X G a17,
   aS l18 c18 k18,
   (aS (st:=cJ) l18 c18 k18).binds (ps:=aGY) (λ_ _ _ _ _ _=>ex1 λ_=>rfl),
   k18,
   aAM X G a18,
   aS l19 c19 k19,
   (aS (st:=dW) l19 c19 k19).binds (ps:=aGZ) (λ_ _ _ _ _ _=>ex1 λ_=>rfl),
   k19,
   aAM X G a19,
   aS l20 c20 k20,
   (aS (st:=cA) l20 c20 k20).binds (ps:=aHA) (λ_ _ _ _ _ _=>ex2 λ_ _=>rfl),
   k20,
   aAM X G a20,
   aS l21 c21 k21,
   (aS (st:=cW) l21 c21 k21).binds (ps:=aGZ) (λ_ _ _ _ _ _=>ex1 λ_=>rfl),
   k21,
   aAM X G a21,
   aS l22 c22 k22,
   (aS (st:=iB) l22 c22 k22).binds (ps:=aHB) (λ_ _ _ _ _ _=>ex1 λ_=>rfl),
   k22,
   aAM X G a22,
   aL,
   aAM X G aL,
   ⟨rL,gL,iL,tL⟩,
   jH aBadText aL xBadText bBadText oL (by decide),
   aAM X G aBadText,
   aS lBadText cBadText kBadText,
   (aS (st:=cD) lBadText cBadText kBadText).binds (ps:=aHC) (λ_ _ _ _ _ _=>ex2 λ_ _=>rfl),
   tBadText,
   nBadText,
   sBadText,
   bBadText,
   qBadText,
   jH aNoDeed aL xNoDeed bNoDeed oL (by decide),
   aAM X G aNoDeed,
   jH aNoInverse aL xNoInverse bNoInverse oL (by decide),
   aAM X G aNoInverse,
   jH aNoMove aL xNoMove bNoMove oL (by decide),
   aAM X G aNoMove,
   jH aNoPaper aL xNoPaper bNoPaper oL (by decide),
   aAM X G aNoPaper,
   jH aNoRest aL xNoRest bNoRest oL (by decide),
   aAM X G aNoRest,
   jH aNoRoot aL xNoRoot bNoRoot oL (by decide),
   aAM X G aNoRoot,
   jH aNoRow aL xNoRow bNoRow oL (by decide),
   aAM X G aNoRow,
   jH aTooMany aL xTooMany bTooMany oL (by decide),
   aAM X G aTooMany,
   aAM X G vFIGURES,
   aAM X G vLAST_GIVEN,
   aAM X G vMOST_BRACKETS,
   aAM X G vMOST_FIGURES,
   aAM X G vSIGNS,
   wSIGNS,
   aAM X G vWORDS,
   wWORDS,
   aBJ X G z_ValueError,
   aBJ X G z_all,
   aBJ X G z_bool,
   aBJ X G z_int,
   aBJ X G z_isinstance,
   aBJ X G z_len,
   aBJ X G z_list,
   aBJ X G z_max,
   aBJ X G z_range,
   aBJ X G z_str,
   aBJ X G z_tuple,
   aBJ X G z_zip⟩
 exact⟨_,λs v=>.of_eq rfl,λbase _ _=>(aGg T).mono (by lia)⟩
theorem xC{l:PySem.W.OpenLaw}{q:Program}{d:DefRec}{K:Params->Frag}(hn:l.most=some 63)(hdf:d.params.defaults=[])
  (hY:∀(w:World) (h:Heap),YP w h->(K w.params).In h)
  (F:∀(w:World) (mg:Str->Option Value) (fa:Addr) (h:Heap),(K w.params).In h->h.Ns mainGlobals mg->mg d.name=some (.ref fa) ->
   ∃fd:FuncData,(∀(s:Shared) (u:Value),BindsTo s fd ⟨[u],[]⟩ [("_law_script",u)])/\∀base:Heap,(K w.params).In base->base.Ns mainGlobals mg->FnOk l.prog w (K w.params) mg base (CX1 l.prog w) 57 fa fd aHB (spX (K w.params) 1 mO)) :
  PySem.W.WalkO q loose XP YP l.row.toRowW d [] (λf vs=>PySem.call f vs) :=
 L2.uI (n:=63) (k:=57) (x:="_law_script") (CX:=λw=>(CX1 l.prog w)) (sp:=λw=>(spX (K w.params) 1 mO)) hn (by decide) hdf ⟨rfl,by decide,by decide⟩ hY F (λ_ _ a ns hl hO hS=>aAd hO hS (yC ns hl)) λ_ _ _ _ _ ⟨_,_,_,_,_,_,_,_,_,_,_,z⟩=>z
end K07
open PySem PySem.W PyProof.Rows
end
namespace PySem.W.Fast
noncomputable def tw9678594934949919194:List Stmt:=[]
theorem te9678594934949919194:tw9678594934949919194=tw9678594934949919194:=rfl
noncomputable def tw8218436598295644093:List Stmt:=[]
theorem te8218436598295644093:tw8218436598295644093=tw8218436598295644093:=rfl
noncomputable def tw11699949700563473742:Params->Obj:=fun _=>default
theorem te11699949700563473742:tw11699949700563473742=tw11699949700563473742:=rfl
noncomputable def tw6919948541933097655:Params->Obj:=fun _=>default
theorem te6919948541933097655:tw6919948541933097655=tw6919948541933097655:=rfl
noncomputable def tw15088326948341932353:Params->Obj:=fun _=>default
theorem te15088326948341932353:tw15088326948341932353=tw15088326948341932353:=rfl
noncomputable def tw15425777346639756522:Params->Obj:=fun _=>default
theorem te15425777346639756522:tw15425777346639756522=tw15425777346639756522:=rfl
noncomputable def tw3583281493987197525:Params->Obj:=fun _=>default
theorem te3583281493987197525:tw3583281493987197525=tw3583281493987197525:=rfl
noncomputable def tw692514825249126074:Params->Obj:=fun _=>default
theorem te692514825249126074:tw692514825249126074=tw692514825249126074:=rfl
noncomputable def tw5937748532375151967:Params->Obj:=fun _=>default
theorem te5937748532375151967:tw5937748532375151967=tw5937748532375151967:=rfl
noncomputable def tw16695848508149031174:Params->Obj:=fun _=>default
theorem te16695848508149031174:tw16695848508149031174=tw16695848508149031174:=rfl
noncomputable def tw3059633837956909003:Params->Obj:=fun _=>default
theorem te3059633837956909003:tw3059633837956909003=tw3059633837956909003:=rfl
noncomputable def tw13838343484408286051:Params->Obj:=fun _=>default
theorem te13838343484408286051:tw13838343484408286051=tw13838343484408286051:=rfl
noncomputable def tw16212840449773346292:Params->Obj:=fun _=>default
theorem te16212840449773346292:tw16212840449773346292=tw16212840449773346292:=rfl
noncomputable def tw18283229083917771788:Params->Obj:=fun _=>default
theorem te18283229083917771788:tw18283229083917771788=tw18283229083917771788:=rfl
noncomputable def tw8810729074986203960:Params->Obj:=fun _=>default
theorem te8810729074986203960:tw8810729074986203960=tw8810729074986203960:=rfl
noncomputable def tw6201295675706496150:Params->Obj:=fun _=>default
theorem te6201295675706496150:tw6201295675706496150=tw6201295675706496150:=rfl
noncomputable def tw557768197509929566:List Stmt:=[]
theorem te557768197509929566:tw557768197509929566=tw557768197509929566:=rfl
noncomputable def tw6568136144258049462:Params->Obj:=fun _=>default
theorem te6568136144258049462:tw6568136144258049462=tw6568136144258049462:=rfl
noncomputable def tw15822191904707096933:Params->Obj:=fun _=>default
theorem te15822191904707096933:tw15822191904707096933=tw15822191904707096933:=rfl
noncomputable def tw11595715127617416478:Params->Obj:=fun _=>default
theorem te11595715127617416478:tw11595715127617416478=tw11595715127617416478:=rfl
noncomputable def tw7810399632932035447:Params->Obj:=fun _=>default
theorem te7810399632932035447:tw7810399632932035447=tw7810399632932035447:=rfl
noncomputable def tw2333744043676469861:Params->Obj:=fun _=>default
theorem te2333744043676469861:tw2333744043676469861=tw2333744043676469861:=rfl
noncomputable def tw7287754804909248923:Params->Obj:=fun _=>default
theorem te7287754804909248923:tw7287754804909248923=tw7287754804909248923:=rfl
noncomputable def tw1173981359383242270:Params->BT:=fun _=>BT.nil
theorem te1173981359383242270:tw1173981359383242270=tw1173981359383242270:=rfl
noncomputable def tw8506439361191280772:Params->Obj:=fun _=>default
theorem te8506439361191280772:tw8506439361191280772=tw8506439361191280772:=rfl
noncomputable def tw4235003427073861473:Params->Obj:=fun _=>default
theorem te4235003427073861473:tw4235003427073861473=tw4235003427073861473:=rfl
noncomputable def tw873352639156141715:Params->Obj:=fun _=>default
theorem te873352639156141715:tw873352639156141715=tw873352639156141715:=rfl
noncomputable def tw4963668880577998200:Params->Obj:=fun _=>default
theorem te4963668880577998200:tw4963668880577998200=tw4963668880577998200:=rfl
noncomputable def tw291091873716623729:Params->Heap:=fun _=>⟨#[],default⟩
theorem te291091873716623729:tw291091873716623729=tw291091873716623729:=rfl
noncomputable def tw960195789425266847:Params->Heap:=fun _=>⟨#[],default⟩
theorem te960195789425266847:tw960195789425266847=tw960195789425266847:=rfl
noncomputable def tw8505019217954658250:Params->BT:=fun _=>BT.nil
theorem te8505019217954658250:tw8505019217954658250=tw8505019217954658250:=rfl
noncomputable def tw9911236305442101434:Program:=Challenge.pw_lentshelf_k07_texts_of_no_expression
theorem te9911236305442101434:tw9911236305442101434=tw9911236305442101434:=rfl
noncomputable def tw15219190981354184812:Program:=Challenge.pw_lentshelf_k07_texts_of_no_expression
theorem te15219190981354184812:Challenge.pw_lentshelf_k07_texts_of_no_expression=tw15219190981354184812:=rfl
noncomputable def tw14285639264053559653:Params->BT:=fun _=>BT.nil
theorem te14285639264053559653:tw14285639264053559653=tw14285639264053559653:=rfl
noncomputable def tw11550936257821061847:List Stmt:=[]
theorem te11550936257821061847:tw11550936257821061847=tw11550936257821061847:=rfl
noncomputable def tw14913500746953034616:Params->BT:=fun _=>BT.nil
theorem te14913500746953034616:tw14913500746953034616=tw14913500746953034616:=rfl
noncomputable def tw3590475384368311837:Params->BT:=fun _=>BT.nil
theorem te3590475384368311837:tw3590475384368311837=tw3590475384368311837:=rfl
noncomputable def tw13126297955584492803:Params->BT:=fun _=>BT.nil
theorem te13126297955584492803:tw13126297955584492803=tw13126297955584492803:=rfl
noncomputable def tw15330993616920072133:Params->BT:=fun _=>BT.nil
theorem te15330993616920072133:tw15330993616920072133=tw15330993616920072133:=rfl
noncomputable def tw1387704594722056231:Params->BT:=fun _=>BT.nil
theorem te1387704594722056231:tw1387704594722056231=tw1387704594722056231:=rfl
noncomputable def tw15954709417217734882:List Stmt:=[]
theorem te15954709417217734882:tw15954709417217734882=tw15954709417217734882:=rfl
noncomputable def tw8922136224132514380:Params->BT:=fun _=>BT.nil
theorem te8922136224132514380:tw8922136224132514380=tw8922136224132514380:=rfl
noncomputable def tw17214439522886645556:Params->Obj:=fun _=>default
theorem te17214439522886645556:tw17214439522886645556=tw17214439522886645556:=rfl
noncomputable def tw8311406351072412868:Params->Obj:=fun _=>default
theorem te8311406351072412868:tw8311406351072412868=tw8311406351072412868:=rfl
noncomputable def tw494767147602875539:Params->Obj:=fun _=>default
theorem te494767147602875539:tw494767147602875539=tw494767147602875539:=rfl
noncomputable def tw8883378604078251346:Params->BT:=fun _=>BT.nil
theorem te8883378604078251346:tw8883378604078251346=tw8883378604078251346:=rfl
noncomputable def tw13679808716895208172:Params->Obj:=fun _=>default
theorem te13679808716895208172:tw13679808716895208172=tw13679808716895208172:=rfl
noncomputable def tw239438644707801482:Params->Obj:=fun _=>default
theorem te239438644707801482:tw239438644707801482=tw239438644707801482:=rfl
noncomputable def tw10944246652236467011:Params->Obj:=fun _=>default
theorem te10944246652236467011:tw10944246652236467011=tw10944246652236467011:=rfl
noncomputable def tw17361723068316288898:Params->Obj:=fun _=>default
theorem te17361723068316288898:tw17361723068316288898=tw17361723068316288898:=rfl
noncomputable def tw17345367960790067077:Params->BT:=fun _=>BT.nil
theorem te17345367960790067077:tw17345367960790067077=tw17345367960790067077:=rfl
noncomputable def tw14573638632289445885:Params->Obj:=fun _=>default
theorem te14573638632289445885:tw14573638632289445885=tw14573638632289445885:=rfl
noncomputable def tw11984306405891404991:Params->Obj:=fun _=>default
theorem te11984306405891404991:tw11984306405891404991=tw11984306405891404991:=rfl
noncomputable def tw17889422587677252979:Params->Obj:=fun _=>default
theorem te17889422587677252979:tw17889422587677252979=tw17889422587677252979:=rfl
noncomputable def tw14617071980653473214:Params->Obj:=fun _=>default
theorem te14617071980653473214:tw14617071980653473214=tw14617071980653473214:=rfl
noncomputable def tw8916647359572327754:Params->Obj:=fun _=>default
theorem te8916647359572327754:tw8916647359572327754=tw8916647359572327754:=rfl
noncomputable def tw13056450243881662895:Params->Obj:=fun _=>default
theorem te13056450243881662895:tw13056450243881662895=tw13056450243881662895:=rfl
noncomputable def tw7111754372859723874:Params->Obj:=fun _=>default
theorem te7111754372859723874:tw7111754372859723874=tw7111754372859723874:=rfl
noncomputable def tw13762132627318443140:Params->Obj:=fun _=>default
theorem te13762132627318443140:tw13762132627318443140=tw13762132627318443140:=rfl
end PySem.W.Fast
set_option maxRecDepth 100000 in
set_option maxHeartbeats 0 in
theorem PySem.Challenge.cw_lentshelf_k07_texts_of_no_expression_holds : PySem.Challenge.rw_lentshelf_k07_texts_of_no_expression.Holds := by
 w_on; o_law; k_head; (case hw=>w_witness2)
 k_fill
 refine K07.xC (l:=PySem.Challenge.rw_lentshelf_k07_texts_of_no_expression) rfl rfl (fun w h Y=>PySem.W.kIn_of Y) ?F
 case F =>
  intro w mg fa h KX G hmg
  refine' K07.aFg KX G hmg ?a1 ?l1 ?c1 ?k1 ?a2 ?l2 ?c2 ?k2 ?a3 ?l3 ?c3 ?k3 ?a4 ?l4 ?c4 ?k4 ?a5 ?l5 ?c5 ?k5 ?a6 ?l6 ?c6 ?k6 ?a7 ?l7 ?c7 ?k7 ?a8 ?l8 ?c8 ?k8 ?a9 ?l9 ?c9 ?k9 ?a10 ?l10 ?c10 ?k10 ?a11 ?l11 ?c11 ?k11 ?a12 ?l12 ?c12 ?k12 ?a13 ?l13 ?c13 ?k13 ?a14 ?l14 ?c14 ?k14 ?a15 ?l15 ?c15 ?k15 ?a16 ?l16 ?c16 ?k16 ?a17 ?l17 ?c17 ?k17 ?a18 ?l18 ?c18 ?k18 ?a19 ?l19 ?c19 ?k19 ?a20 ?l20 ?c20 ?k20 ?a21 ?l21 ?c21 ?k21 ?a22 ?l22 ?c22 ?k22 ?aL ?oL ?rL ?gL ?iL ?tL ?aBadText ?xBadText ?jBadText_ ?bBadText ?lBadText ?cBadText ?kBadText ?tBadText ?nBadText ?sBadText ?qBadText ?aNoDeed ?xNoDeed ?jNoDeed_ ?bNoDeed ?aNoInverse ?xNoInverse ?jNoInverse_ ?bNoInverse ?aNoMove ?xNoMove ?jNoMove_ ?bNoMove ?aNoPaper ?xNoPaper ?jNoPaper_ ?bNoPaper ?aNoRest ?xNoRest ?bNoRest ?aNoRoot ?xNoRoot ?jNoRoot_ ?bNoRoot ?aNoRow ?xNoRow ?bNoRow ?aTooMany ?xTooMany ?jTooMany_ ?bTooMany ?vFIGURES ?vLAST_GIVEN ?vMOST_BRACKETS ?vMOST_FIGURES ?vSIGNS ?wSIGNS ?vWORDS ?wWORDS ?z_ValueError ?z_all ?z_bool ?z_int ?z_isinstance ?z_len ?z_list ?z_max ?z_range ?z_str ?z_tuple ?z_zip
  (case a1=>k_is)
  (case l1=>k_is)
  (case c1=>k_is)
  (case k1=>k_is)
  (case a2=>k_is)
  (case l2=>k_is)
  (case c2=>k_is)
  (case k2=>k_is)
  (case a3=>k_is)
  (case l3=>k_is)
  (case c3=>k_is)
  (case k3=>k_is)
  (case a4=>k_is)
  (case l4=>k_is)
  (case c4=>k_is)
  (case k4=>k_is)
  (case a5=>k_is)
  (case l5=>k_is)
  (case c5=>k_is)
  (case k5=>k_is)
  (case a6=>k_is)
  (case l6=>k_is)
  (case c6=>k_is)
  (case k6=>k_is)
  (case a7=>k_is)
  (case l7=>k_is)
  (case c7=>k_is)
  (case k7=>k_is)
  (case a8=>k_is)
  (case l8=>k_is)
  (case c8=>k_is)
  (case k8=>k_is)
  (case a9=>k_is)
  (case l9=>k_is)
  (case c9=>k_is)
  (case k9=>k_is)
  (case a10=>k_is)
  (case l10=>k_is)
  (case c10=>k_is)
  (case k10=>k_is)
  (case a11=>k_is)
  (case l11=>k_is)
  (case c11=>k_is)
  (case k11=>k_is)
  (case a12=>k_is)
  (case l12=>k_is)
  (case c12=>k_is)
  (case k12=>k_is)
  (case a13=>k_is)
  (case l13=>k_is)
  (case c13=>k_is)
  (case k13=>k_is)
  (case a14=>k_is)
  (case l14=>k_is)
  (case c14=>k_is)
  (case k14=>k_is)
  (case a15=>k_is)
  (case l15=>k_is)
  (case c15=>k_is)
  (case k15=>k_is)
  (case a16=>k_is)
  (case l16=>k_is)
  (case c16=>k_is)
  (case k16=>k_is)
  (case a17=>k_is)
  (case l17=>k_is)
  (case c17=>k_is)
  (case k17=>k_is)
  (case a18=>k_is)
  (case l18=>k_is)
  (case c18=>k_is)
  (case k18=>k_is)
  (case a19=>k_is)
  (case l19=>k_is)
  (case c19=>k_is)
  (case k19=>k_is)
  (case a20=>k_is)
  (case l20=>k_is)
  (case c20=>k_is)
  (case k20=>k_is)
  (case a21=>k_is)
  (case l21=>k_is)
  (case c21=>k_is)
  (case k21=>k_is)
  (case a22=>k_is)
  (case l22=>k_is)
  (case c22=>k_is)
  (case k22=>k_is)
  (case aL=>k_is)
  (case oL=>kernel_rfl)
  (case rL=>k_is)
  (case gL=>k_is)
  (case iL=>k_is)
  (case tL=>kernel_rfl)
  (case aBadText=>k_is)
  (case xBadText=>kernel_rfl)
  (case jBadText_=>k_is)
  (case bBadText=>kernel_rfl)
  (case lBadText=>k_is)
  (case cBadText=>k_is)
  (case kBadText=>k_is)
  (case tBadText=>k_is)
  (case nBadText=>k_is)
  (case sBadText=>k_is)
  (case qBadText=>k_is)
  (case aNoDeed=>k_is)
  (case xNoDeed=>kernel_rfl)
  (case jNoDeed_=>k_is)
  (case bNoDeed=>kernel_rfl)
  (case aNoInverse=>k_is)
  (case xNoInverse=>kernel_rfl)
  (case jNoInverse_=>k_is)
  (case bNoInverse=>kernel_rfl)
  (case aNoMove=>k_is)
  (case xNoMove=>kernel_rfl)
  (case jNoMove_=>k_is)
  (case bNoMove=>kernel_rfl)
  (case aNoPaper=>k_is)
  (case xNoPaper=>kernel_rfl)
  (case jNoPaper_=>k_is)
  (case bNoPaper=>kernel_rfl)
  (case aNoRest=>k_is)
  (case xNoRest=>kernel_rfl)
  (case bNoRest=>kernel_rfl)
  (case aNoRoot=>k_is)
  (case xNoRoot=>kernel_rfl)
  (case jNoRoot_=>k_is)
  (case bNoRoot=>kernel_rfl)
  (case aNoRow=>k_is)
  (case xNoRow=>kernel_rfl)
  (case bNoRow=>kernel_rfl)
  (case aTooMany=>k_is)
  (case xTooMany=>kernel_rfl)
  (case jTooMany_=>k_is)
  (case bTooMany=>kernel_rfl)
  (case vFIGURES=>k_is)
  (case vLAST_GIVEN=>k_is)
  (case vMOST_BRACKETS=>k_is)
  (case vMOST_FIGURES=>k_is)
  (case vSIGNS=>k_is)
  (case wSIGNS=>kernel_rfl)
  (case vWORDS=>k_is)
  (case wWORDS=>kernel_rfl)
  (case z_ValueError=>k_is)
  (case z_all=>k_is)
  (case z_bool=>k_is)
  (case z_int=>k_is)
  (case z_isinstance=>k_is)
  (case z_len=>k_is)
  (case z_list=>k_is)
  (case z_max=>k_is)
  (case z_range=>k_is)
  (case z_str=>k_is)
  (case z_tuple=>k_is)
  (case z_zip=>k_is)

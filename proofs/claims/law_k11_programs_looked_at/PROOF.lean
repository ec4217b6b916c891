import PyProof.Rows.All
import Wide.All
import OpenK.AllK
import Wide.FinOn
import Lean
import PyProof.EqAt
import PyProof.EqKinds
import PyProof.TupleCall
import PyProof.Rows.SortShell
import PySem.Challenge.RW_lentshelf_k11_programs_looked_at
set_option Elab.async false
set_option linter.all false
set_option bootstrap.genMatcherCode false
set_option maxRecDepth 100000
section
open PySem.W (Frag fnOf keepIn nsIn codeIn)
section
open PySem PySem.Spec PyProof.Rows
def aAA:=@wpAny_bind
def aAB:=@Heap.get?_push_of_some
def aAC:=@wpAny_pure
def aAD:=@List.getElem?_eq_some_iff
def aAE:=@Nat.le_refl
def aAF:=@wpS_bind
def aAG:=@Heap.lt_size
def aAH:=@if_pos
def aAI:=@if_neg
def aAJ:=@wpS_pure
def aAK:=@List.size_toArray
def aAL:=@List.length_map
def aAM:=@Heap.get?_push_size
def aAN:=@PySem.W.mg_of
def aAO:=@Option.some.injEq
def aAP:=@Nat.lt_of_lt_of_le
def aAQ:=@Nat.ne_of_lt
def aAR:=@List.take_length
def aAS:=@Bool.false_eq_true
def aAT:=@List.mem_singleton
def aAU:=@List.getElem?_append_left
def aAV:=@wpAny_field
def aAW:=@decide_eq_true_eq
def aAX:=@Nat.le_trans
def aAY:=@sizeLine_eq
def aAZ:=@wpAny_newObj_type
def aBA:=@PySem.W.mg_none_of
def aBB:=@wpAny_loadPart'
def aBC:=@List.mem_append
def aBD:=@List.getElem?_set_self
def aBE:=@List.mem_of_getElem?
def aBF:=@List.mem_of_mem_take
def aBG:=@Option.map_eq_some_iff
def aBH:=@List.getElem?_set_ne
def aBI:=@Bool.false_ne_true
def aBJ:=@List.mem_append_right
def aBK:=@List.mem_cons
def aBL:=@List.getElem?_append_right
def aBM:=@List.pairwise_iff_getElem
def aBN:=@Int.emod_lt_of_pos
def aBO:=@Bool.and_eq_true
def aBP:=@wpS_forRange
def aBQ:=@wpAny_call_entry
def aBR:=@List.getElem?_map
def aBS:=@PyProof.Rows.slot_tuple_getitem
def aBT:=@wpAny_callSpecial?_slot
def aBU:=@if_false
def aBV:=@wpAny_holding
def aBW:=@decide_eq_false
def aBX:=@List.mem_iff_getElem
def aBY:=@List.drop_eq_getElem_cons
def aBZ:=@Array.toList_append
def aCA:=@bind_congr
def aCB:=@PySem.boot_len
def aCC:=@List.getElem?_eq_getElem
def aCD:=@Heap.get?_update_self
def aCE:=@PySem.W.kia_one
def aCF:=@List.length_append
def aCG:=@List.mem_cons_of_mem
def aCH:=@Array.perm_iff_toList_perm
def aCI:=@if_true
def aCJ:=@List.take_of_length_le
def aCK:=@wpAny_setField
def aCL:=@Nat.zero_le
def aCM:=@List.append_assoc
def aCN:=@wpAny_mono
def aCO:=@wpAny_rule
def aCP:=@Int.emod_nonneg
def aCQ:=@List.lookup_cons
def aCR:=@List.length_cons
def aCS:=@wpS_mono
def aCT:=@Array.toList_extract
def aCU:=@List.length_range
def aCV:=@Int.toNat_natCast
def aCW:=@PyProof.Rows.callWith_type1
def aCX:=@wpAny_of_eq
def aCY:=@Nat.ne_of_gt
def aCZ:=@wpAny_attempt
def aDA:=@builtinLookup_eq_fast
def aDB:=@wpAny_Call_Name_kw
def aDC:=@List.extract_eq_take_drop
def aDD:=@Int.le_refl
def aDE:=@Option.isSome_iff_exists
def aDF:=@wpAny_loadPart_at
def aDG:=@List.map_cons
def aDH:=@List.replicate_succ
def aDI:=@List.length_take
def aDJ:=@Heap.get?_update_other
def aDK:=@Obj.data_mapFields
def aDL:=@List.mem_cons_self
def aDM:=@F.slot_enumerate_next
def aDN:=@wpAny_passesOwn
def aDO:=@List.length_nil
def aDP:=@List.getElem?_eq_none
def aDQ:=@F.slot_tuple_iterator_next
def aDR:=@Nat.lt_irrefl
def aDS:=@Classical.byContradiction
def aDT:=@List.pairwise_append
def aDU:=@wpS_modify
def aDV:=@isSubtype_type
def aDW:=@List.getElem?_take_of_lt
def aDX:=@List.filterMap_cons
def aDY:=@PySem.mem_of_lookup
def aDZ:=@Heap.SameBut.update
def aEA:=@Int.dvd_mul_of_dvd_left
def aEB:=@List.any_cons
def aEC:=@List.find?_cons
def aED:=@List.append_nil
def aEE:=@wpAny_execs_nil
def aEF:=@List.filter_append
def aEG:=@wpAny_setField_rec
def aEH:=@typeLookup_type
def aEI:=@Nat.le_succ
def aEJ:=@List.drop_eq_nil_of_le
def aEK:=@wpAny_truthy_bool
def aEL:=@List.take_add_one
def aEM:=@decide_false
def aEN:=@Array.getElem?_toList
def aEO:=@wpAny_typeOf
def aEP:=@List.getElem?_concat_length
def aEQ:=@List.not_mem_nil
def aER:=@Array.toList_reverse
def aES:=@wpAny_call
def aET:=@F.slot_tuple_mul
def aEU:=@codeAny_call_builtin
def aEV:=@Heap.get?_none_of_le
def aEW:=@Array.getElem_toList
def aEX:=@PySem.F.excBase_ValueError
def aEY:=@Array.getElem?_eq_some_iff
def aEZ:=@decide_true
def aFA:=@List.reverse_append
def aFB:=@List.length_pos_iff
def aFC:=@wpAny_isSubtype_exc
def aFD:=@wpAny_specialOf
def aFE:=@Array.getElem?_eq_getElem
def aFF:=@Calls.spliced_cons
def aFG:=@PySem.F.args_tuple_add_2
def aFH:=@beq_iff_eq
def aFI:=@call_meets
def aFJ:=@wpS_get
def aFK:=@PySem.F.entry_tuple_add
def aFL:=@of_decide_eq_true
def aFM:=@List.flatten_cons
def aFN:=@Int.emod_eq_of_lt
def aFO:=@List.ext_getElem?
def aFP:=@PySem.F.slot_tuple_add
def aFQ:=@List.drop_of_length_le
def aFR:=@Bool.not_true
def aFS:=@wpAny_standAt
def aFT:=@List.all_cons
def aFU:=@List.mem_reverse
def aFV:=@wpAny_isInstance
def aFW:=@List.length_drop
def aFX:=@List.getElem_mem
def aFY:=@Option.bind_some
def aFZ:=@List.pairwise_reverse
def aGA:=@Obj.isFreed_of_fields
def aGB:=@List.length_replicate
def aGC:=@List.take_append_drop
def aGD:=@List.length_filter_le
def aGE:=@List.mem_of_mem_drop
def aGF:=@F.slot_int_rmul
def aGG:=@Bool.or_eq_false_iff
def aGH:=@List.nodup_cons
def aGI:=@codeAny_mono
def aGJ:=@codeAny_builtin
def aGK:=@List.mem_filter
def aGL:=@F.args_object_init_2
def aGM:=@wpAny_ite_false
def aGN:=@Array.length_toList
def aGO:=@wpS_lift
def aGP:=@Bool.and_false
def aGQ:=@wpAny_pyIter_tuple
def aGR:=@Code.quiet_builtin
def aGS:=@List.map_replicate
def aGT:=@List.getElem?_take
def aGU:=@assignInOrder_cons
def aGV:=@F.args_tuple_mul_2
def aGW:=@PySem.W.callWith_K
def aGX:=@F.entry_tuple_mul
def aGY:=@Calls.spliced_nil
def aGZ:=@PassesOwn.leaving
def aHA:=@List.reverse_perm
def aHB:=@Function.comp_def
def aHC:=@typeIs_int
abbrev aHD:List Str:=["n","givens","shelves","deed"]
abbrev aHE:List Str:=["numbers","many"]
abbrev aHF:List Str:=["_law_script","_law_k"]
abbrev aHG:List Str:=["_law_box_here","_law_many"]
abbrev aHH:List Str:=["_law_box_here"]
abbrev aHI:List Str:=["_law_box_here","_law_n_here"]
abbrev aHJ:List Str:=["_law_one","_law_other"]
abbrev aHK:List Str:=["_law_box_here","_law_n_here","_law_givens","_law_shelves"]
abbrev aHL:List Str:=["_law_box_here","_law_n_here","_law_givens","_law_shelves","_law_most"]
abbrev aHM:List Str:=["_law_n_here","_law_givens","_law_shelves","_law_deed_here"]
abbrev aHN:List Str:=["_law_box_here","_law_numbers","_law_many","_law_own"]
abbrev aHO:List Str:=["_law_box_here","_law_n_here","_law_givens","_law_shelves","_law_deed_here"]
abbrev aHP:List Str:=["_law_program"]
abbrev aHQ:List Str:=["_law_script"]
abbrev aHR:List Str:=["self","at"]
abbrev aHS:List Str:=["_law_box_here","_law_n_here","_law_givens","_law_shelves","_law_ks","_law_mode","_law_many","_law_gs","_law_others","_law_ts"]
abbrev aHT:List Str:=["_law_n_here","_law_givens","_law_shelves","_law_deed_here","_law_numbers","_law_many"]
abbrev aHU:List Str:=["_law_k","_law_box_here","_law_givens"]
abbrev aHV:List Str:=["_law_k","_law_others","_law_box_here"]
end
variable{xs ys arr:Array PyProof.Rows.Keyed}{us its bm:List PySem.Value}{x name qual cn ff:PySem.Str}{u u2:PySem.Value}{κ:PyProof.Rows.SortKind}{P:PySem.Program}{w:PySem.World}{h h' base:PySem.Heap}{α β:Type}{pins:List (PySem.Addr×PySem.Obj)}{s s' s₂:PySem.Shared}{t' i j n G ia ib na:Nat}{ch fp μ μ1:List PySem.Addr}{it C dx l fI LE Dc src:PySem.Addr}{N ps loose Nc cns:List PySem.Str}{A A':PySem.Around}{Q:PySem.Value->PySem.Shared->Prop}{pos pos' p tpos apos p2 cpos q pos2:PySem.Pos}{K:Frag}{st st0:PyProof.Rows.SortSt}{body:List PySem.Stmt}{lo hi:Option Int}{op:PySem.CmpOp}{mA mg mN:PySem.Str->Option PySem.Value}{env:PySem.Env}{kw:List (PySem.Str×PySem.Value)}{fd:PySem.FuncData}{outer:List PySem.Env}{m:Int}{cd:PySem.ClassData}{od:Option PySem.Obj}{osl sl:Array (Option PySem.Value)}{items:Array PySem.Value}{XP:(PySem.Str->Option PySem.Value)->PySem.Heap->Prop}{YP:PySem.World->PySem.Heap->Prop}{d:Option PySem.Addr}{ns:List Int}{js:List (Option Nat)}{cl:List (PySem.Str×PySem.Addr)}{tn:Nat->PySem.Heap->Prop}{ini:Option PySem.Value}{S:PyProof.Rows.Keyed->Prop}{ky:PyProof.Rows.Keyed->Int}
section
open PySem PySem.Spec PyProof.Rows
namespace L2
noncomputable section
abbrev Key:=Sum Int Str
def keyIs:Key->Value->Bool
 |.inl k,v=>Value.isInt k v
 |.inr x,v=>Value.isStrOf x v
def keyH(w:World):Key->Int
 |.inl k=>hashInt k
 |.inr x=>hashStr w x
theorem bO:∀{k:Key} {v:Value},keyIs k v=true->(∃i t,k=Sum.inl i/\v=Value.int i t)\/(∃x t,k=Sum.inr x/\v=Value.str x t)
 |.inl i,v,h=>by
  obtain⟨t,e⟩:=Value.isInt_shape (k:=i) (v:=v) h
  exact .inl ⟨i,t,rfl,e⟩
 |.inr x,v,h=>by
  obtain⟨t,e⟩:=Value.isStrOf_shape (x:=x) (v:=v) h
  exact .inr ⟨x,t,rfl,e⟩
theorem aFm(a b:Int):decide ((Sum.inl a:Key)=Sum.inl b)=(a==b):=by
 by_cases e:a=b
 ·subst e;simp
 ·have h:¬(Sum.inl a:Key)=Sum.inl b:=λq=>e (Sum.inl.inj q)
  rw[aBW h]
  exact(beq_eq_false_iff_ne.mpr e).symm
theorem aFf(a b:Str):decide ((Sum.inr a:Key)=Sum.inr b)=decide (a=b):=by
 by_cases e:a=b
 ·subst e;simp
 ·have h:¬(Sum.inr a:Key)=Sum.inr b:=λq=>e (Sum.inr.inj q)
  rw[aBW h,aBW e]
theorem aCk(a:Int)(b:Str):decide ((Sum.inl a:Key)=Sum.inr b)=false:=aBW (λq=>nomatch q)
theorem aCm(a:Str)(b:Int):decide ((Sum.inr a:Key)=Sum.inl b)=false:=aBW (λq=>nomatch q)
def mixKind(prog:Program)(w:World):PySem.KeyKind prog w Key where
 is:=keyIs
 hash:=keyH w
 inj:=λv a b ha hb=>by
  rcases bO ha with⟨i,t,rfl,rfl⟩|⟨x,t,rfl,rfl⟩
  ·rcases bO hb with⟨j,u,rfl,e⟩|⟨y,u,rfl,e⟩
   ·injection e with e1 _;rw[e1]
   ·exact nomatch e
  ·rcases bO hb with⟨j,u,rfl,e⟩|⟨y,u,rfl,e⟩
   ·exact nomatch e
   ·injection e with e1 _;rw[e1]
 byValue:=λk v h=>by
  rcases bO h with⟨i,t,rfl,rfl⟩|⟨x,t,rfl,rfl⟩ <;> rfl
 pyHash:=λhv h=>by
  rcases bO hv with⟨i,t,rfl,rfl⟩|⟨x,t,rfl,rfl⟩
  ·exact wpAny_pyHash_int h
  ·exact wpAny_pyHash_str h
 eqBool:=λhu hv h=>by
  rcases bO hu with⟨i,t,rfl,rfl⟩|⟨x,t,rfl,rfl⟩
  ·rcases bO hv with⟨j,u,rfl,rfl⟩|⟨y,u,rfl,rfl⟩
   ·rw[aFm]at h;exact wpAny_eqBool_int h
   ·rw[aCk]at h;exact SeqAt.EqAt.int_str i t y u _ _ _ _ h
  ·rcases bO hv with⟨j,u,rfl,rfl⟩|⟨y,u,rfl,rfl⟩
   ·rw[aCm]at h;exact SeqAt.EqAt.str_int x t j u _ _ _ _ h
   ·rw[aFf]at h;exact wpAny_eqBool_str h
 «strs»:=λk x t v h=>by
  rcases bO h with⟨i,u,rfl,e⟩|⟨y,u,rfl,e⟩
  ·exact nomatch e
  ·injection e with e1 _
   subst e1
   cases v <;> rfl
end
inductive V where
 |non|bl (b:Bool)|int (i:Int)|str (x:Str)|byt (b:Array UInt8)|flt (b:UInt64)|ref (a:Addr)|ty (n:String)
 deriving DecidableEq
noncomputable section
def RelV:V->Value->Prop
 |.non,u=>u=Value.none
 |.bl b,u=>u=Value.bool b
 |.int i,u=>∃t,u=Value.int i t
 |.str x,u=>∃t,u=Value.str x t
 |.byt b,u=>∃t,u=Value.bytes b t
 |.flt b,u=>∃t,u=Value.float b t
 |.ref a,u=>u=Value.ref a
 |.ty n,u=>u=Value.type n
abbrev Vals:List V->List Value->Prop:=Paired RelV
theorem Vals.length{xs:List V}{us:List Value}(r:Vals xs us):xs.length=us.length:=Paired.length r
theorem Vals.get:∀{xs:List V} {us:List Value} {i:Nat} {x:V},Vals xs us->xs[i]?=some x->∃u,us[i]?=some u/\RelV x u
 |_,_,_,_,.nil,e=>by simp at e
 |_,_,0,_,.cons r _,e=>by simp at e;subst e;exact⟨_,rfl,r⟩
 |_,_,i+1,x,.cons _ t,e=>by
  obtain⟨u,h1,h2⟩:=Vals.get (i:=i) (x:=x) t (by simpa using e)
  exact⟨u,by simpa using h1,h2⟩
theorem Vals.set{x:V}{u:Value}(r:RelV x u):∀{xs:List V} {us:List Value} (i:Nat),Vals xs us->Vals (xs.set i x) (us.set i u)
 |_,_,_,.nil=>.nil
 |_,_,0,.cons _ t=>.cons r t
 |_,_,i+1,.cons q t=>.cons q (Vals.set r i t)
theorem Vals.append:∀{xs ys:List V} {us ws:List Value},Vals xs us->Vals ys ws->Vals (xs++ys) (us++ws)
 |_,_,_,_,.nil,s=>s
 |_,_,_,_,.cons r t,s=>.cons r (Vals.append t s)
theorem Vals.take:∀{xs:List V} {us:List Value} (n:Nat),Vals xs us->Vals (xs.take n) (us.take n)
 |_,_,0,_=>.nil
 |_,_,_+1,.nil=>.nil
 |_,_,n+1,.cons r t=>.cons r (Vals.take n t)
theorem Vals.drop:∀{xs:List V} {us:List Value} (n:Nat),Vals xs us->Vals (xs.drop n) (us.drop n)
 |_,_,0,r=>r
 |_,_,_+1,.nil=>.nil
 |_,_,n+1,.cons _ t=>Vals.drop n t
def RelO:Option V->Option Value->Prop
 |some v,some u=>RelV v u
 |none,none=>True
 |_,_=>False
def KV{κ:Type}:List (κ×V)->List (κ×Value)->Prop:=Paired λ(p:κ×V) (q:κ×Value)=>p.1=q.1/\RelV p.2 q.2
def kV:Key->V
 |.inl i=>.int i
 |.inr x=>.str x
end
inductive HO where
 |lst (xs:List V)
 |tup (xs:List V)
 |dK (kvs:List (Key×V))|dT (kvs:List (List Key×V))
 |set (S:Int->Bool) (n:Nat)
 |ins (C dx:Addr) (fs:List (Str×V))
 |own (x:Addr)
 |xd (fs:List (Str×V))
 |met (f x:Addr)
 |rng (lo hi:Int)
 |frz (o:Obj) (u:HO)
 |tbl (ps:Array Value)
 |ext (φ:Heap->Prop)
noncomputable abbrev Hp:=Addr->Option HO
noncomputable def upd(H:Hp)(a:Addr)(o:HO):Hp:=λb=>if b=a then some o else H b
variable{H:Hp}{a:Addr}{o:HO}
theorem aU :upd H a o a=some o:=by unfold upd;rw[aAH rfl]
variable{b:Addr}
theorem aP(h:b≠a):upd H a o b=H b:=by unfold upd;rw[aAI h]
variable{u:HO}
theorem zI :upd (upd H a o) a u=upd H a u:=by
 funext b;unfold upd;split <;> rfl
theorem aX(h:H a=some o)(h':H b=none):a≠b:=by
 intro e;subst e;rw[h]at h';cases h'
section
variable(P:Program)(w:World)
noncomputable def ObjOk(H:Hp)(h:Heap)(a:Addr):HO->Prop
 |.lst xs=>xs.length<=sizeLine/\∃(its:List Value) (n:Nat),Vals xs its/\h.get? a=some {cls:=.type "list",data:=.seq its.toArray n}
 |.tup xs=>xs.length<=sizeLine/\∃its:List Value,Vals xs its/\IsTup h a its.toArray
 |.dK kvs=>kvs.length<=sizeLine/\(a==sysModules)=false/\∃vs,KV kvs vs/\h.DictOf (mixKind P w) a vs
 |.dT kvs=>kvs.length<=sizeLine/\(a==sysModules)=false/\∃xs:List (List Key×Addr×Value),
   Paired (λ(p:List Key×V) (q:List Key×Addr×Value)=>p.1=q.1/\H q.2.1=some (.tup (p.1.map kV))/\RelV p.2 q.2.2) kvs xs /\
   ∃o es ep,h.get? a=some o/\o.ExactDict/\o.data=.dict es ep/\es.toList=xs.map (entryOfKey (tupleKind (mixKind P w)))/\(xs.map (·.1)).Nodup
 |.set S n=>h.SetOf (intKind P w) a S n
 |.ins C dx fs=>H dx=some (.own a)/\fs.length<=1000/\dx≠a/\h.get? a=some (PySem.W.instObj C dx) /\
   ∃mA,h.Ns1 dx mA/\(∀f,RelO (fs.lookup f) (mA f))/\PySem.Within mA (fs.map (·.1))
 |.own _=>∃o,h.get? a=some o
 |.xd fs=>∃mA,h.Ns1 a mA/\∀f,RelO (fs.lookup f) (mA f)
 |.rng lo hi=>∃t u v,h.get? a=some {cls:=.type "range",data:=.fields #[.int lo t,.int hi u,.int 1 v]}
 |.frz o u=>h.get? a=some o/\ObjOk H h a u
 |.tbl ps=>h.get? a=some {cls:=.none,data:=.fields ps}
 |.met f x=>h.get? a=some (PySem.W.methodObj (.ref f) (.ref x))
 |.ext φ=>φ h/\(∃o,h.get? a=some o)/\∀h1 h2:Heap,φ h1->(∀o,h1.get? a=some o->h2.get? a=some o)->φ h2
noncomputable def HOk(H:Hp)(h:Heap):Prop:=∀a o,H a=some o->ObjOk P w H h a o
end
variable{H':Hp}
theorem ObjOk.lt(x:ObjOk P w H h a o):a < h.objs.size:=by
 cases o with
 |lst xs=>obtain⟨_,_,_,_,e⟩:=x;exact aAG e
 |tup xs=>obtain⟨_,_,_,p⟩:=x;exact p.lt
 |dK kvs=>obtain⟨_,_,_,_,o,_,_,e,_⟩:=x;exact aAG e
 |dT kvs=>obtain⟨_,_,_,_,o,_,_,e,_⟩:=x;exact aAG e
 |set S n=>obtain⟨o,_,_,_,e,_⟩:=x;exact aAG e
 |ins C dx fs=>obtain⟨_,_,_,e,_⟩:=x;exact aAG e
 |own y=>obtain⟨_,e⟩:=x;exact aAG e
 |xd fs=>obtain⟨_,⟨_,_,_,e,_⟩,_⟩:=x;exact aAG e
 |rng lo hi=>obtain⟨_,_,_,e⟩:=x;exact aAG e
 |frz ob u=>obtain⟨e,_⟩:=x;exact aAG e
 |tbl ps=>exact aAG (show h.get? a=some _ from x)
 |met f y=>exact aAG (show h.get? a=some _ from x)
 |ext φ=>obtain⟨_,⟨_,e⟩,_⟩:=x;exact aAG e
theorem Paired.mapP{α β:Type}{F G:α->β->Prop}:∀{l₁:List α} {l₂:List β},Paired F l₁ l₂->(∀a b,F a b->G a b)->Paired G l₁ l₂
 |_,_,.nil,_=>.nil
 |_,_,.cons r t,f=>.cons (f _ _ r) (Paired.mapP t f)
theorem ObjOk.stay(x:ObjOk P w H h a o)(k:∀b u,(b=a\/H b=some (.own a))->h.get? b=some u->h'.get? b=some u)
  (ho:∀b,H b=some (.own a)->H' b=some (.own a))(ht:∀b xs,H b=some (.tup xs)->H' b=some (.tup xs)):ObjOk P w H' h' a o:=by
 induction o with
 |lst xs=>obtain⟨z,its,n,r,e⟩:=x;exact⟨z,its,n,r,k _ _ (.inl rfl) e⟩
 |tup xs=>obtain⟨z,its,r,ob,e,c⟩:=x;exact⟨z,its,r,ob,k _ _ (.inl rfl) e,c⟩
 |dK kvs=>obtain⟨z,y,vs,r,ob,es,ep,e,c⟩:=x;exact⟨z,y,vs,r,ob,es,ep,k _ _ (.inl rfl) e,c⟩
 |dT kvs =>
  obtain⟨z,y,xs,r,ob,es,ep,e,c⟩:=x
  exact⟨z,y,xs,Paired.mapP r λp q z=>⟨z.1,ht _ _ z.2.1,z.2.2⟩,ob,es,ep,k _ _ (.inl rfl) e,c⟩
 |set S n=>obtain⟨ob,es,ep,t,e,c⟩:=x;exact⟨ob,es,ep,t,k _ _ (.inl rfl) e,c⟩
 |ins C dx fs =>
  obtain⟨d,z,ne,e,mA,⟨od,es,ep,e2,c⟩,r⟩:=x
  exact⟨ho _ d,z,ne,k _ _ (.inl rfl) e,mA,⟨od,es,ep,k _ _ (.inr d) e2,c⟩,r⟩
 |own y=>obtain⟨ob,e⟩:=x;exact⟨ob,k _ _ (.inl rfl) e⟩
 |xd fs=>obtain⟨mA,⟨od,es,ep,e,c⟩,r⟩:=x;exact⟨mA,⟨od,es,ep,k _ _ (.inl rfl) e,c⟩,r⟩
 |rng lo hi=>obtain⟨t,u,v,e⟩:=x;exact⟨t,u,v,k _ _ (.inl rfl) e⟩
 |frz ob u ih=>obtain⟨e,q⟩:=x;exact⟨k _ _ (.inl rfl) e,ih q⟩
 |tbl ps =>
  have e:h.get? a=some {cls:=.none,data:=.fields ps}:=x
  show h'.get? a=some {cls:=.none,data:=.fields ps}
  exact k a _ (.inl rfl) e
 |met f y =>
  have e:h.get? a=some (PySem.W.methodObj (.ref f) (.ref y)):=x
  show h'.get? a=some (PySem.W.methodObj (.ref f) (.ref y))
  exact k a _ (.inl rfl) e
 |ext φ=>obtain⟨p,⟨o,e⟩,st⟩:=x;exact⟨st _ _ p λo q=>k _ _ (.inl rfl) q,⟨o,k _ _ (.inl rfl) e⟩,st⟩
theorem HOk.lt(x:HOk P w H h)(e:H a=some o):a < h.objs.size:=(x a o e).lt
theorem HOk.fresh(x:HOk P w H h)(e:h.objs.size<=a):H a=none:=by
 cases q:H a with
 |none=>rfl
 |some u=>exact absurd (aAP (x.lt q) e) (aDR _)
theorem HOk.kept(x:HOk P w H h)(k:∀b u,h.get? b=some u->h'.get? b=some u):HOk P w H h':=λa o e =>
 (x a o e).stay (λb u _ q=>k b u q) (λ_ q=>q) λ_ _ q=>q
theorem HOk.laid(x:HOk P w H h)(k:∀b u,h.get? b=some u->h'.get? b=some u)(hp:h.objs.size<=a)(new:ObjOk P w (upd H a o) h' a o):HOk P w (upd H a o) h':=λb u e=>by
 have hn:=x.fresh hp
 by_cases hb:b=a
 ·subst hb;rw[aU]at e;cases e;exact new
 ·rw[aP hb]at e
  exact(x b u e).stay (λc v _ q=>k c v q) (λc q=>by rw[aP (aX q hn)];exact q) λc xs q=>by rw[aP (aX q hn)];exact q
noncomputable def Rd(H:Hp)(a:Addr)(u:HO):Prop:=H a=some u\/∃o,H a=some (.frz o u)
theorem Rd.of(h:H a=some u):Rd H a u:=.inl h
theorem Rd.ok(r:Rd H a u)(x:HOk P w H h):ObjOk P w H h a u:=by
 rcases r with r|⟨o,r⟩
 ·exact x a u r
 ·obtain⟨_,q⟩:=x a _ r
  exact q
noncomputable def Mut:Option HO->Prop
 |some (.lst _)=>True
 |some (.dK _)=>True
 |some (.dT _)=>True
 |some (.set _ _)=>True
 |some (.ins _ _ _)=>True
 |some (.ext _)=>True
 |_=>False
variable{x e:Addr}{o':HO}
theorem HOk.write(ok:HOk P w H h)(mu:Mut (H x))(he:e=x\/H e=some (.own x))(k:∀b u,b≠e->h.get? b=some u->h'.get? b=some u)(heo:∃u,h'.get? e=some u)
  (new:ObjOk P w (upd H x o') h' x o'):HOk P w (upd H x o') h':=λb u q=>by
 have nown:∀c y,H c=some (.own y)->c≠x:=λc y r z=>by subst z;rw[r]at mu;exact mu
 have ntup:∀c xs,H c=some (.tup xs)->c≠x:=λc xs r z=>by subst z;rw[r]at mu;exact mu
 by_cases hb:b=x
 ·subst hb;rw[aU]at q;cases q;exact new
 ·rw[aP hb]at q
  by_cases hbe:b=e
  ·have q':H b=some (.own x):=by
    rcases he with z|z
    ·exact absurd (hbe.trans z) hb
    ·rw[hbe];exact z
   rw[q]at q';cases q'
   obtain⟨v,hv⟩:=heo
   exact⟨v,by rw[hbe];exact hv⟩
  ·refine(ok b u q).stay (λc v hc r=>k c v ?_ r) (λc r=>by rw[aP (nown c b r)];exact r) λc xs r=>by rw[aP (ntup c xs r)];exact r
   rcases hc with rfl|hc
   ·exact hbe
   ·rintro rfl
    rcases he with z|z
    ·exact nown c b hc z
    ·rw[hc]at z;cases z;exact hb rfl
structure Un(fs ex:List Addr)(H H':Hp)(h h':Heap):Prop where
 keep:∀b o,h.get? b=some o->H b=none->b∉fs->b∉ex->h'.get? b=some o
 slot:∀b o,h.get? b=some o->H b=none->b∈fs->b∉ex->∃sl,h'.get? b=some {o with slots:=sl}
 free:∀b o,h.get? b=some o->H b=none->b∉ex->H' b=none
 there:∀b o,h.get? b=some o->b∉ex->∃o',h'.get? b=some o'
 tups:∀b xs,H b=some (.tup xs)->H' b=some (.tup xs)
 frzs:∀b o u,H b=some (.frz o u)->H' b=some (.frz o u)
 tbls:∀b ps,H b=some (.tbl ps)->∃more,H' b=some (.tbl (ps++more))
section
variable{fs fs' ex ex':List Addr}{H1 H2:Hp}{h1 h2:Heap}
theorem Un.any(u:Un fs ex H H1 h h1){ob:Obj}(q:h.get? b=some ob)(n:H b=none)(hx:b∉ex):∃sl,h1.get? b=some {ob with slots:=sl}:=by
 by_cases hb:b∈fs
 ·exact u.slot b ob q n hb hx
 ·exact⟨ob.slots,u.keep b ob q n hb hx⟩
theorem Un.trans(a:Un fs ex H H1 h h1)(b:Un fs ex H1 H2 h1 h2):Un fs ex H H2 h h2 where
 keep:=λc ob q n hc hx=>b.keep c ob (a.keep c ob q n hc hx) (a.free c ob q n hx) hc hx
 slot:=λc ob q n hc hx=>by
  obtain⟨sl,e1⟩:=a.slot c ob q n hc hx
  obtain⟨sl',e2⟩:=b.slot c _ e1 (a.free c ob q n hx) hc hx
  exact⟨sl',e2⟩
 free:=λc ob q n hx=>by
  obtain⟨o',e1⟩:=a.there c ob q hx
  exact b.free c o' e1 (a.free c ob q n hx) hx
 there:=λc ob q hx=>by
  obtain⟨o',e1⟩:=a.there c ob q hx
  exact b.there c o' e1 hx
 tups:=λc xs q=>b.tups c xs (a.tups c xs q)
 frzs:=λc ob xs q=>b.frzs c ob xs (a.frzs c ob xs q)
 tbls:=λc ps q=>by
  obtain⟨m1,e1⟩:=a.tbls c ps q
  obtain⟨m2,e2⟩:=b.tbls c _ e1
  exact⟨m1++m2,by rw[e2,Array.append_assoc]⟩
theorem Un.kept(k:∀b u,h.get? b=some u->h'.get? b=some u):Un fs ex H H h h' :=
 ⟨λb ob q _ _ _=>k b ob q,λb ob q _ _ _=>⟨ob.slots,k b ob q⟩,λ_ _ _ n _=>n,λb ob q _=>⟨ob,k b ob q⟩,λ_ _ q=>q,λ_ _ _ q=>q,λ_ ps q=>⟨#[],by rw[q];simp⟩⟩
theorem Un.refl:Un fs ex H H h h:=Un.kept λ_ _ q=>q
theorem Un.laid(k:∀b u,h.get? b=some u->h'.get? b=some u)(hp:h.objs.size<=a)(hn:H a=none):Un fs ex H (upd H a o) h h' where
 keep:=λb u q _ _ _=>k b u q
 slot:=λb u q _ _ _=>⟨u.slots,k b u q⟩
 free:=λb u q n _=>by rw[aP (aAQ (aAP (aAG q) hp))];exact n
 there:=λb u q _=>⟨u,k b u q⟩
 tups:=λb xs q=>by rw[aP (aX q hn)];exact q
 frzs:=λb u xs q=>by rw[aP (aX q hn)];exact q
 tbls:=λb ps q=>⟨#[],by rw[aP (aX q hn),q];simp⟩
theorem Un.write(mu:Mut (H x))(he:e=x\/H e=some (.own x))(k:∀b u,b≠e->h.get? b=some u->h'.get? b=some u)(heo:∃u,h'.get? e=some u):Un fs ex H (upd H x o) h h':=by
 have hx:∀b,H b=none->b≠x:=λb n z=>by subst z;rw[n]at mu;exact mu
 have hb:∀b,H b=none->b≠e:=λb n z=>by
  subst z
  rcases he with r|r
  ·exact hx b n r
  ·rw[n]at r;cases r
 have hm:∀b u,H b=some u->¬Mut (some u)->b≠x:=λb u q nm z=>by subst z;rw[q]at mu;exact nm mu
 refine⟨λb u q n _ _=>k b u (hb b n) q,λb u q n _ _=>⟨u.slots,k b u (hb b n) q⟩,λb u q n _=>by rw[aP (hx b n)];exact n,λb u q _=>?_,
  λb xs q=>by rw[aP (hm b _ q λz=>z)];exact q,λb u xs q=>by rw[aP (hm b _ q λz=>z)];exact q,λb ps q=>⟨#[],by rw[aP (hm b _ q λz=>z),q];simp⟩⟩
 by_cases hbe:b=e
 ·subst hbe;exact heo
 ·exact⟨u,k b u hbe q⟩
end
noncomputable def trk(h:Heap)(H:Hp):List Addr:=(List.range h.objs.size).filter λa=>(H a).isSome
noncomputable def hidT(h:Heap)(H:Hp):Heap:=PySem.W.hideAll h (trk h H)
theorem vO(h:Heap)(H:Hp):(hidT h H).objs.size=h.objs.size:=PySem.W.hideAll_size _ _
variable{o:Obj}
theorem xS(e:h.get? b=some o)(n:H b=none):(hidT h H).get? b=some o :=
 PySem.W.hideAll_get _ e λhm=>by
  have q:(H b).isSome=true:=(aGK.mp hm).2
  rw[n]at q;simp at q
theorem yY(e:(hidT h H).get? b=some o):h.get? b=some o/\H b=none:=by
 have e':h.get? b=some o:=PySem.W.of_hideAll (trk h H) e
 refine⟨e',?_⟩
 cases q:H b with
 |none=>rfl
 |some x =>
  have hm:b∈trk h H:=aGK.mpr ⟨List.mem_range.mpr (aAG e'),by simp[q]⟩
  have z:(hidT h H).get? b=none:=PySem.W.hideAll_none (trk h H) hm
  rw[z]at e;cases e
noncomputable def allNews(g h:Heap)(L:Addr):List (Addr×Obj):=(List.range h.objs.size).filterMap λa=>if a=L\/(g.get? a).isSome=true then none else(h.get? a).map λo=>(a,o)
noncomputable def rest(g h:Heap)(L d:Addr):List (Addr×Obj):=(allNews g h L).filter λp=>decide (p.1≠d)
structure Mod(K:Frag)(mg:Str->Option Value)(base:Heap):Prop where
 kin:K.In base
 glob:base.Ns mainGlobals mg
 blt:∃mb,base.Ns builtinsNs mb/\∀x:Str,x≠"__name__"->mb x=bootBuiltins x
 nolimit:base.NoLimit
structure Cx where
 prog:Program
 w:World
 K:Frag
 mg:Str->Option Value
 base:Heap
 A:Around
 N:List Str
 s₀:Shared
 H₀:Hp
 env:Env
 outer:List Env
 stack:List Env
 ex:List Addr
 fn:Str->Bool
 calm:Bool
 pn:List (Addr×Obj)
 xe:Value->Shared->Prop
noncomputable section
def frs(l:List Env):List Addr:=l.filterMap (·.frame)
abbrev Cx.fs(X:Cx):List Addr:=frs X.outer
def Vis(sc:Scope)(x:Str):Prop:=sc.names.lookup x=some .local\/sc.names.lookup x=some .cell\/sc.names.lookup x=some .free
def Loc(sc:Scope)(x:Str):Prop:=sc.names.lookup x=some .local\/sc.names.lookup x=some .cell
def Look(env:Env)(h:Heap)(m:Str->Option Value)(x:Str)(u:Value):Prop :=
 (env.kindOf x=some .local/\m x=some u)\/((env.kindOf x=some .cell\/env.kindOf x=some .free)/\∃c,env.cells.lookup x=some c/\h.IsCell c (some u))
end
structure Cx.Ok(X:Cx):Prop where
 mod:Mod X.K X.mg X.base
 kind:X.env.scope.kind=.function
 glob:X.env.globals=mainGlobals
 blt:X.env.builtins=builtinsNs
 above:X.s₀.heap.objs.size<=X.env.locals
 inj:∀x y c,X.env.cells.lookup x=some c->X.env.cells.lookup y=some c->x=y
 has:∀x,(X.env.kindOf x=some .cell\/X.env.kindOf x=some .free)->∃c,X.env.cells.lookup x=some c
 cab:∀x c,X.fn x=true->X.env.cells.lookup x=some c->X.s₀.heap.objs.size<=c
 hd:X.calm=true->X.A.handled=none
 frames:X.A.frames=some X.stack
 stk:X.stack=X.outer\/(X.stack=X.env::X.outer/\X.env.frame=some X.env.locals)
 exf:∀b∈X.ex,b≠X.env.locals/\∀x c,X.env.cells.lookup x=some c->c≠b
 bs:∀b o,X.base.get? b=some o->X.s₀.heap.get? b=some o/\X.H₀ b=none
 bsz:X.base.objs.size<=X.s₀.heap.objs.size
 noex:∀b o,X.base.get? b=some o->b∉X.ex
 exfs:∀b∈X.ex,b∉X.fs
 funs:X.s₀.heap.FunFrames X.base X.outer
 frf:∀b∈X.fs,X.H₀ b=none
structure Inv(X:Cx)(pins:List (Addr×Obj))(σ:List (Option V))(H:Hp)(s:Shared):Prop where
 ok:X.Ok
 os:s.os=X.s₀.os
 bare:AllBare s.gens
 base:Un X.fs X.ex X.H₀ H X.s₀.heap s.heap
 loc:∃m,s.heap.Ns X.env.locals m/\∀(i:Nat) (x:Str) (v:V),X.N[i]?=some x->σ[i]?=some (some v)->Vis X.env.scope x->∃u,RelV v u/\Look X.env s.heap m x u
 cell:∀x c,X.env.cells.lookup x=some c->∃v,s.heap.IsCell c v
 free:H X.env.locals=none
 freeC:∀x c,X.env.cells.lookup x=some c->H c=none
 pin:∀p∈X.pn++pins,s.heap.get? p.1=some p.2/\H p.1=none/\p.1≠X.env.locals/\p.1∉X.fs/\∀v,p.2.data≠.cell v
 hok:HOk X.prog X.w H s.heap
 len:σ.length=X.N.length
variable{X:Cx}{σ:List (Option V)}
theorem Cx.Ok.nofr(ok:X.Ok)(e:X.base.get? b=some o):b∉X.fs:=λhb=>by
 have:=(ok.funs.mem hb).1
 rw[e]at this;cases this
theorem Inv.bs(I:Inv X pins σ H s):∀b o,X.base.get? b=some o->s.heap.get? b=some o/\H b=none:=λb o e =>
 ⟨I.base.keep b o (I.ok.bs b o e).1 (I.ok.bs b o e).2 (I.ok.nofr e) (I.ok.noex b o e),I.base.free b o (I.ok.bs b o e).1 (I.ok.bs b o e).2 (I.ok.noex b o e)⟩
theorem Inv.bk(I:Inv X pins σ H s):∀b o,X.base.get? b=some o->s.heap.get? b=some o:=λb o e=>(I.bs b o e).1
theorem Inv.mod(I:Inv X pins σ H s):Mod X.K X.mg X.base:=I.ok.mod
theorem Inv.kIn(I:Inv X pins σ H s):X.K.In s.heap:=I.ok.mod.kin.keeps I.bk
theorem Inv.lt(I:Inv X pins σ H s):X.env.locals < s.heap.objs.size:=let⟨_,hn,_⟩:=I.loc;hn.lt
theorem Inv.sz(I:Inv X pins σ H s):X.s₀.heap.objs.size<=s.heap.objs.size:=aAX I.ok.above (Nat.le_of_lt I.lt)
theorem Inv.nofs(I:Inv X pins σ H s)(h:s.heap.objs.size<=a):a∉X.fs:=λhb=>by
 obtain⟨_,o,ho,_⟩:=I.ok.funs.mem hb
 exact absurd (aAP (aAG ho) (aAX I.sz h)) (aDR _)
theorem Inv.cne(I:Inv X pins σ H s):∀x c,X.env.cells.lookup x=some c->c≠X.env.locals:=λx c e z=>by
 obtain⟨v,o,ho,hd⟩:=I.cell x c e
 obtain⟨m,⟨o',es,ep,ho',hd',_⟩,_⟩:=I.loc
 rw[z,ho']at ho;cases ho;rw[hd']at hd;cases hd
theorem Inv.funs(I:Inv X pins σ H s):s.heap.FunFrames X.base X.outer:=by
 have all:∀(l:List Env),(∀b∈frs l,b∈X.fs)->X.s₀.heap.FunFrames X.base l->s.heap.FunFrames X.base l:=by
  intro l
  induction l with
  |nil=>intro _ _;trivial
  |cons env r ih =>
   intro hs hl
   obtain⟨hk,⟨L,o,hf,hn,ho,hd⟩,hr⟩:=hl
   have hL:L∈X.fs:=hs L (by unfold frs;rw[aDX,hf];exact aDL)
   obtain⟨sl,e⟩:=I.base.slot L o ho (I.ok.frf L hL) hL λz=>I.ok.exfs L z hL
   exact⟨hk,⟨L,_,hf,hn,e,hd⟩,ih (λb hb=>hs b (by unfold frs;rw[aDX,hf];exact aCG _ hb)) hr⟩
 exact all X.outer (λ_ hb=>hb) I.ok.funs
theorem Inv.stack(I:Inv X pins σ H s):s.heap.FunFrames X.base X.stack:=by
 rcases I.ok.stk with e|⟨e,hf⟩
 ·rw[e];exact I.funs
 ·rw[e]
  obtain⟨m,hn,_⟩:=I.loc
  refine .cons (by rw[I.ok.kind];decide) hf hn ?_ I.funs
  exact aEV (aAX I.ok.bsz I.ok.above)
theorem Inv.stkSub(I:Inv X pins σ H s):∀b∈frs X.stack,b∈X.env.locals::X.fs:=λb hb=>by
 rcases I.ok.stk with e|⟨e,hf⟩
 ·rw[e]at hb;exact aCG _ hb
 ·rw[e]at hb
  unfold frs at hb
  rw[aDX,hf]at hb
  exact hb
theorem Inv.stkFree(I:Inv X pins σ H s):∀b∈frs X.stack,H b=none:=λb hb=>by
 rcases aBK.mp (I.stkSub b hb)with e|hb
 ·rw[e];exact I.free
 ·obtain⟨_,o,ho,_⟩:=I.ok.funs.mem hb
  exact I.base.free b o ho (I.ok.frf b hb) λz=>I.ok.exfs b z hb
variable{g':Array GenState}{d':Drawn}
theorem Inv.step{ch:List Addr}(I:Inv X pins σ H s)
  (hch:∀b∈ch,(b∈X.ex\/X.s₀.heap.objs.size<=b)/\b≠X.env.locals/\(∀x c,X.env.cells.lookup x=some c->c≠b)/\∀p∈X.pn++pins,p.1≠b)
  (keep:∀b o,b≠X.env.locals->b∉X.fs->b∉ch->s.heap.get? b=some o->H b=none->h'.get? b=some o)
  (slot:∀b o,b≠X.env.locals->b∈X.fs->b∉ch->s.heap.get? b=some o->H b=none->∃sl,h'.get? b=some {o with slots:=sl})(free:∀b o,b∉ch->s.heap.get? b=some o->H b=none->H' b=none)
  (there:∀b o,b∉ch->s.heap.get? b=some o->∃o',h'.get? b=some o')
  (tups:∀b xs,H b=some (.tup xs)->H' b=some (.tup xs))(frzs:∀b o u,H b=some (.frz o u)->H' b=some (.frz o u))(tbls:∀b ps,H b=some (.tbl ps)->∃more,H' b=some (.tbl (ps++more)))
  (ns:∀m,s.heap.Ns X.env.locals m->h'.Ns X.env.locals m)(hok:HOk X.prog X.w H' h')(hg:AllBare g') :
  Inv X pins σ H' {s with heap:=h',gens:=g',drawn:=d',toks:=t'}:=by
 have neL:∀b o,X.s₀.heap.get? b=some o->b≠X.env.locals:=λb o e=>aAQ (aAP (aAG e) I.ok.above)
 have neC:∀b o,X.s₀.heap.get? b=some o->b∉X.ex->b∉ch:=λb o e hx hb=>by
  rcases(hch b hb).1 with z|z
  ·exact hx z
  ·exact absurd (aAP (aAG e) z) (aDR _)
 have cellK:∀x c,X.env.cells.lookup x=some c->∀v,s.heap.IsCell c v->h'.IsCell c v:=λx c e v ⟨o,ho,hd⟩=>by
  have nch:c∉ch:=λz=>(hch c z).2.2.1 x c e rfl
  by_cases hc:c∈X.fs
  ·obtain⟨sl,q⟩:=slot c o (I.cne x c e) hc nch ho (I.freeC x c e)
   exact⟨_,q,hd⟩
  ·exact⟨o,keep c o (I.cne x c e) hc nch ho (I.freeC x c e),hd⟩
 refine⟨I.ok,I.os,hg,⟨λb o e n hb hx=>?_,λb o e n hb hx=>?_,λb o e n hx=>?_,λb o e hx=>?_,λb xs e=>tups b xs (I.base.tups b xs e),λb o xs e=>frzs b o xs (I.base.frzs b o xs e),λb ps e=>?_⟩,?_,λx c e=>?_,?_,λx c e=>?_,λp hp=>?_,hok,I.len⟩
 ·exact keep b o (neL b o e) hb (neC b o e hx) (I.base.keep b o e n hb hx) (I.base.free b o e n hx)
 ·obtain⟨sl,e1⟩:=I.base.slot b o e n hb hx
  obtain⟨sl',e2⟩:=slot b _ (neL b o e) hb (neC b o e hx) e1 (I.base.free b o e n hx)
  exact⟨sl',e2⟩
 ·obtain⟨o',e1⟩:=I.base.there b o e hx
  exact free b o' (neC b o e hx) e1 (I.base.free b o e n hx)
 ·obtain⟨o',e1⟩:=I.base.there b o e hx
  exact there b o' (neC b o e hx) e1
 ·obtain⟨m1,e1⟩:=I.base.tbls b ps e
  obtain⟨m2,e2⟩:=tbls b _ e1
  exact⟨m1++m2,by rw[e2,Array.append_assoc]⟩
 ·obtain⟨m,hn,hl⟩:=I.loc
  refine⟨m,ns m hn,λi x v e1 e2 e3=>?_⟩
  obtain⟨u,r,l⟩:=hl i x v e1 e2 e3
  refine⟨u,r,?_⟩
  rcases l with l|⟨k,c,e,z⟩
  ·exact .inl l
  ·exact .inr ⟨k,c,e,cellK x c e _ z⟩
 ·obtain⟨v,z⟩:=I.cell x c e
  exact⟨v,cellK x c e v z⟩
 ·obtain⟨m,⟨o,_,_,ho,_⟩,_⟩:=I.loc
  exact free _ o (λz=>(hch _ z).2.1 rfl) ho I.free
 ·obtain⟨v,o,ho,hd⟩:=I.cell x c e
  exact free c o (λz=>(hch c z).2.2.1 x c e rfl) ho (I.freeC x c e)
 ·obtain⟨e,n,ne,nf,d⟩:=I.pin p hp
  have nch:p.1∉ch:=λz=>(hch p.1 z).2.2.2 p hp rfl
  exact⟨keep p.1 p.2 ne nf nch e n,free p.1 p.2 nch e n,ne,nf,d⟩
theorem Inv.un(I:Inv X pins σ H s)(u:Un X.fs [] H H' s.heap h')(hok:HOk X.prog X.w H' h'):Inv X pins σ H' {s with heap:=h',toks:=t'}:=by
 obtain⟨m,⟨o,es,ep,ho,r⟩,_⟩:=id I.loc
 obtain⟨sl,hL⟩:=u.any ho I.free (by simp)
 exact I.step (g':=s.gens) (d':=s.drawn) (ch:=[]) (λ_ z=>nomatch z) (λb o _ hb _ e n=>u.keep b o e n hb (by simp)) (λb o _ hb _ e n=>u.slot b o e n hb (by simp)) (λb o _ e n=>u.free b o e n (by simp)) (λb o _ e=>u.there b o e (by simp)) u.tups u.frzs u.tbls (λm' hm=>by
  obtain⟨o',es',ep',ho',r'⟩:=hm
  rw[ho]at ho';cases ho'
  exact⟨_,es',ep',hL,r'⟩) hok I.bare
theorem Inv.call{ch:List Addr}(I:Inv X pins σ H s)(u:Un (frs X.stack) ch H H' s.heap h')(hok:HOk X.prog X.w H' h')(hg:AllBare g')
  (hch:∀b∈ch,(b∈X.ex\/X.s₀.heap.objs.size<=b)/\b≠X.env.locals/\(∀x c,X.env.cells.lookup x=some c->c≠b)/\∀p∈X.pn++pins,p.1≠b) :
  Inv X pins σ H' {s with heap:=h',gens:=g',drawn:=d',toks:=t'}:=by
 obtain⟨m,⟨o,es,ep,ho,r⟩,_⟩:=id I.loc
 obtain⟨sl,hL⟩:=u.any ho I.free λz=>(hch _ z).2.1 rfl
 exact I.step (ch:=ch) hch (λb o hL hb hc e n=>u.keep b o e n (λz=>(aBK.mp (I.stkSub b z)).elim hL hb) hc) (λb o _ _ hc e n=>u.any e n hc) (λb o hc e n=>u.free b o e n hc) (λb o hc e=>u.there b o e hc) u.tups u.frzs u.tbls (λm' hm=>by
  obtain⟨o',es',ep',ho',r'⟩:=hm
  rw[ho]at ho';cases ho'
  exact⟨_,es',ep',hL,r'⟩) hok hg
theorem Inv.turned(I:Inv X pins σ H s)(k:∀b o,b≠it->s.heap.get? b=some o->h'.get? b=some o)(hn:H it=none)(hL:it≠X.env.locals)
  (h1:it∈X.ex\/X.s₀.heap.objs.size<=it)(h2:∀x c,X.env.cells.lookup x=some c->c≠it)(h3:∀p∈X.pn++pins,p.1≠it):Inv X pins σ H {s with heap:=h',toks:=t'}:=by
 have nit:∀b u,H b=some u->b≠it:=λb u e z=>by rw[z,hn]at e;cases e
 refine I.step (g':=s.gens) (d':=s.drawn) (ch:=[it]) (λb hb=>?_) (λb o _ _ hc e _=>k b o (λz=>hc (by simp[z])) e) (λb o _ _ hc e _=>⟨o.slots,k b o (λz=>hc (by simp[z])) e⟩) (λ_ _ _ _ n=>n)
  (λb o hc e=>⟨o,k b o (λz=>hc (by simp[z])) e⟩) (λ_ _ e=>e) (λ_ _ _ e=>e) (λb ps e=>⟨#[],by rw[e];simp⟩) (λm hm=>?_) (λb u e=>?_) I.bare
 ·have e:b=it:=by simpa using hb
  subst e
  exact⟨h1,hL,h2,h3⟩
 ·obtain⟨o,es,ep,ho,r⟩:=hm
  exact⟨o,es,ep,k _ o (Ne.symm hL) ho,r⟩
 ·refine(I.hok b u e).stay (λc v hc q=>k c v ?_ q) (λ_ q=>q) λ_ _ q=>q
  rcases hc with z|z
  ·rw[z];exact nit b u e
  ·exact nit c _ z
theorem Inv.tok(I:Inv X pins σ H s)(t:Nat):Inv X pins σ H {s with toks:=t}:=I.un (h':=s.heap) (t':=t) Un.refl I.hok
theorem Inv.kept{t':Nat}(I:Inv X pins σ H s)(k:∀b u,s.heap.get? b=some u->h'.get? b=some u):Inv X pins σ H {s with heap:=h',toks:=t'}:=I.un (Un.kept k) (I.hok.kept k)
theorem Inv.laid{a:Addr}{o:HO}{t':Nat}(I:Inv X pins σ H s)(k:∀b u,s.heap.get? b=some u->h'.get? b=some u)(hp:s.heap.objs.size<=a)(new:ObjOk X.prog X.w (upd H a o) h' a o) :
  Inv X pins σ (upd H a o) {s with heap:=h',toks:=t'}:=I.un (Un.laid k hp (I.hok.fresh hp)) (I.hok.laid k hp new)
theorem Inv.write{x e:Addr}{o:HO}{t':Nat}(I:Inv X pins σ H s)(mu:Mut (H x))(he:e=x\/H e=some (.own x))(k:∀b u,b≠e->s.heap.get? b=some u->h'.get? b=some u)(heo:∃u,h'.get? e=some u)
  (new:ObjOk X.prog X.w (upd H x o) h' x o):Inv X pins σ (upd H x o) {s with heap:=h',toks:=t'}:=I.un (Un.write mu he k heo) (I.hok.write mu he k heo new)
theorem Inv.pins_of{pins':List (Addr×Obj)}(I:Inv X pins σ H s)(h:∀p∈pins',s.heap.get? p.1=some p.2/\H p.1=none/\p.1≠X.env.locals/\p.1∉X.fs/\∀v,p.2.data≠.cell v):Inv X pins' σ H s :=
 ⟨I.ok,I.os,I.bare,I.base,I.loc,I.cell,I.free,I.freeC,λp hp=>(aBC.mp hp).elim (λz=>I.pin p (List.mem_append_left _ z)) (h p),I.hok,I.len⟩
variable{x:Str}
theorem kU(hN:N.Nodup)(a:N[i]?=some x)(b:N[j]?=some x):i=j:=by
 obtain⟨h1,e1⟩:=aAD.mp a
 obtain⟨h2,e2⟩:=aAD.mp b
 exact(List.getElem_inj hN).mp (e1.trans e2.symm)
variable{M:Model}{E:Value->Shared->Prop}{v:V}{u:Value}{Q:Unit->Shared->Prop}
theorem uU(I:Inv X pins σ H s)(hN:X.N.Nodup)(hi:X.N[i]?=some x)(hx:Loc X.env.scope x)(r:RelV v u)
  (h:∀s',Inv X pins (σ.set i (some v)) H s'->(∃a,Heap.SameBut a s.heap s'.heap/\(a=X.env.locals\/X.env.cells.lookup x=some a))->Q () s')(hf:X.fn x=true\/X.env.scope.names.lookup x=some .local:=by first|exact .inl rfl|exact .inr rfl|assumption):wpAny M A (storeName X.env x u) Q E s:=by
 obtain⟨m,hn,hl⟩:=id I.loc
 have hcls:(X.env.scope.kind==.class || (X.env.scope.kind==.module&&X.env.locals != X.env.globals))=false:=by rw[I.ok.kind];rfl
 have hiσ:i < σ.length:=by rw[I.len];exact(aAD.mp hi).1
 have cne:=I.cne
 have tracked:∀{a:Addr} {h':Heap},(∃o,s.heap.get? a=some o/\H a=none)->Heap.SameBut a s.heap h'->HOk X.prog X.w H h':=λ{a h'} ha hs b ob e=>by
  obtain⟨_,_,hfree⟩:=ha
  refine(I.hok b ob e).stay (λc w' hc q=>(hs.2 c ?_).trans q) (λ_ q=>q) λ_ _ q=>q
  rintro rfl
  rcases hc with rfl|hc
  ·rw[hfree]at e;cases e
  ·rw[hfree]at hc;cases hc
 rcases hx with hk|hk
 ·refine wpAny_storeName_local hk hn (λh' hn' hs=>?_) hcls
  obtain⟨oL,_,_,hoL,_⟩:=id hn
  refine h _ ⟨I.ok,I.os,I.bare,⟨λb o e n hb hx=>?_,λb o e n hb hx=>?_,I.base.free,λb o e hx=>?_,I.base.tups,I.base.frzs,I.base.tbls⟩,⟨_,hn',λj y v' e1 e2 e3=>?_⟩,λy c e=>?_,I.free,I.freeC,λp hp=>?_,tracked ⟨oL,hoL,I.free⟩ hs,by simpa using I.len⟩ ⟨_,hs,.inl rfl⟩
  ·exact(hs.2 b (aAQ (aAP (aAG e) I.ok.above))).trans (I.base.keep b o e n hb hx)
  ·obtain⟨sl,e1⟩:=I.base.slot b o e n hb hx
   exact⟨sl,(hs.2 b (aAQ (aAP (aAG e) I.ok.above))).trans e1⟩
  ·obtain⟨o',e1⟩:=I.base.there b o e hx
   exact⟨o',(hs.2 b (aAQ (aAP (aAG e) I.ok.above))).trans e1⟩
  ·by_cases hj:j=i
   ·subst hj
    rw[hi]at e1;cases e1
    rw[aBD hiσ]at e2
    cases e2
    exact⟨u,r,.inl ⟨hk,by simp⟩⟩
   ·rw[aBH (Ne.symm hj)]at e2
    obtain⟨u',r',q⟩:=hl j y v' e1 e2 e3
    refine⟨u',r',?_⟩
    rcases q with⟨k,e⟩|⟨k,c,e,z⟩
    ·refine .inl ⟨k,?_⟩
     have:y≠x:=λe=>hj (kU hN e1 (e▸hi))
     simp[this,e]
    ·exact .inr ⟨k,c,e,z.sameBut hs (cne y c e)⟩
  ·obtain⟨w',z⟩:=I.cell y c e
   exact⟨w',z.sameBut hs (cne y c e)⟩
  ·obtain⟨e,n,ne,nf,d⟩:=I.pin p hp
   exact⟨(hs.2 p.1 ne).trans e,n,ne,nf,d⟩
 ·have hfn:X.fn x=true:=by
   rcases hf with z|z
   ·exact z
   ·rw[z]at hk;cases hk
  obtain⟨c,hc⟩:=I.ok.has x (.inl hk)
  obtain⟨w',z⟩:=I.cell x c hc
  refine wpAny_storeName_cell I.ok.kind hk hc z (λh' hc' hs=>?_)
  obtain⟨oc,hoc,hocd⟩:=id z
  refine h {s with heap:=h'} ⟨I.ok,I.os,I.bare,⟨λb o e n hb hx=>?_,λb o e n hb hx=>?_,I.base.free,λb o e hx=>?_,I.base.tups,I.base.frzs,I.base.tbls⟩,⟨m,hn.sameBut hs (Ne.symm (cne x c hc)),λj y v' e1 e2 e3=>?_⟩,λy c' e=>?_,I.free,I.freeC,λp hp=>?_,tracked ⟨oc,hoc,I.freeC x c hc⟩ hs,by simpa using I.len⟩ ⟨c,hs,.inr hc⟩
  ·exact(hs.2 b (aAQ (aAP (aAG e) (I.ok.cab x c hfn hc)))).trans (I.base.keep b o e n hb hx)
  ·obtain⟨sl,e1⟩:=I.base.slot b o e n hb hx
   exact⟨sl,(hs.2 b (aAQ (aAP (aAG e) (I.ok.cab x c hfn hc)))).trans e1⟩
  ·obtain⟨o',e1⟩:=I.base.there b o e hx
   exact⟨o',(hs.2 b (aAQ (aAP (aAG e) (I.ok.cab x c hfn hc)))).trans e1⟩
  ·by_cases hj:j=i
   ·subst hj
    rw[hi]at e1;cases e1
    rw[aBD hiσ]at e2
    cases e2
    exact⟨u,r,.inr ⟨.inl hk,c,hc,hc'⟩⟩
   ·rw[aBH (Ne.symm hj)]at e2
    obtain⟨u',r',q⟩:=hl j y v' e1 e2 e3
    refine⟨u',r',?_⟩
    rcases q with q|⟨k,c',e,z'⟩
    ·exact .inl q
    ·refine .inr ⟨k,c',e,z'.sameBut hs ?_⟩
     rintro rfl
     exact hj (kU hN e1 (I.ok.inj _ _ _ e hc▸hi))
  ·by_cases hcc:c'=c
   ·subst hcc;exact⟨_,hc'⟩
   ·obtain⟨w2,z2⟩:=I.cell y c' e
    exact⟨w2,z2.sameBut hs hcc⟩
  ·obtain⟨e,n,ne,nf,d⟩:=I.pin p hp
   refine⟨(hs.2 p.1 ?_).trans e,n,ne,nf,d⟩
   intro q
   rw[q,hoc]at e
   have q':oc=p.2:=Option.some.inj e
   exact d w' (by rw[<- q'];exact hocd)
theorem eS(I:Inv X pins σ H s)(hN:X.N.Nodup)(hi:X.N[i]?=some x)(hx:Loc X.env.scope x)(r:RelV v u)
  (h:∀s',Inv X pins (σ.set i (some v)) H s'->Q () s')(hf:X.fn x=true\/X.env.scope.names.lookup x=some .local:=by first|exact .inl rfl|exact .inr rfl|assumption):wpAny M A (storeName X.env x u) Q E s :=
 uU I hN hi hx r (λs' I' _=>h s' I') hf
theorem Inv.call'{ch:List Addr}(I:Inv X pins σ H s)(ho:s'.os=s.os)(u:Un (frs X.stack) ch H H' s.heap s'.heap)(hok:HOk X.prog X.w H' s'.heap)(hg:AllBare s'.gens)
  (hch:∀b∈ch,(b∈X.ex\/X.s₀.heap.objs.size<=b)/\b≠X.env.locals/\(∀x c,X.env.cells.lookup x=some c->c≠b)/\∀p∈X.pn++pins,p.1≠b):Inv X pins σ H' s':=by
 obtain⟨h',g',d',t',o'⟩:=s'
 have e:o'=s.os:=ho
 subst e
 exact I.call (g':=g') (t':=t') (d':=d') u hok hg hch
noncomputable section
abbrev XK:=Value->Option Addr->Hp->Prop
abbrev St:=List (Option V)
abbrev VK:=V->Hp->Prop
abbrev TE:=St->Hp->VK->Prop
abbrev TT:=St->Hp->(Bool->Hp->Prop)->Prop
abbrev TA:=St->Hp->(List V->Hp->Prop)->Prop
end
structure Ends where
 nx:St->Hp->Prop
 rt:VK
 bk:St->Hp->Prop:=λ_ _=>False
 ct:St->Hp->Prop:=λ_ _=>False
noncomputable section
abbrev TS:=Ends->St->Hp->Prop
def EP(X:Cx)(pins:List (Addr×Obj))(σ:St)(Q:VK)(u:Value)(s':Shared):Prop:=∃v H',Inv X pins σ H' s'/\RelV v u/\Q v H'
def TP(X:Cx)(pins:List (Addr×Obj))(σ:St)(Q:Bool->Hp->Prop)(b:Bool)(s':Shared):Prop:=∃H',Inv X pins σ H' s'/\Q b H'
def AP(X:Cx)(pins:List (Addr×Obj))(σ:St)(Q:List V->Hp->Prop)(us:List Value)(s':Shared):Prop:=∃vs H',Inv X pins σ H' s'/\Vals vs us/\Q vs H'
def SP(X:Cx)(pins:List (Addr×Obj))(D:Ends)(f:Flow)(s':Shared):Prop :=
 match f with
 |.next=>∃σ' H',Inv X pins σ' H' s'/\D.nx σ' H'
 |.brk=>∃σ' H',Inv X pins σ' H' s'/\D.bk σ' H'
 |.cont=>∃σ' H',Inv X pins σ' H' s'/\D.ct σ' H'
 |.ret u=>∃v σ' H',Inv X pins σ' H' s'/\RelV v u/\D.rt v H'
def PE(X:Cx)(e:Expr)(t:TE):Prop :=
 ∀(pins:List (Addr×Obj)) (s:Shared) (σ:St) (H:Hp) (Q:VK),Inv X pins σ H s->t σ H Q->wpAny (model X.prog X.w) X.A (eval e X.env) (EP X pins σ Q) X.xe s
def PT(X:Cx)(e:Expr)(t:TT):Prop :=
 ∀(pins:List (Addr×Obj)) (s:Shared) (σ:St) (H:Hp) (Q:Bool->Hp->Prop),Inv X pins σ H s->t σ H Q->wpAny (model X.prog X.w) X.A (isTrue e X.env (eval e X.env)) (TP X pins σ Q) X.xe s
def PW(X:Cx)(e:Expr)(t:TT):Prop :=
 ∀(whole:Sem Value) (pins:List (Addr×Obj)) (s:Shared) (σ:St) (H:Hp) (Q:Bool->Hp->Prop),Inv X pins σ H s->t σ H Q->wpAny (model X.prog X.w) X.A (isTrue e X.env whole) (TP X pins σ Q) X.xe s
end
variable{e:Expr}
theorem PW.pt{t:TT}(h:PW X e t):PT X e t:=h _
noncomputable section
def PA(X:Cx)(es:List Expr)(t:TA):Prop :=
 ∀(pos:Pos) (pins:List (Addr×Obj)) (s:Shared) (σ:St) (H:Hp) (Q:List V->Hp->Prop),Inv X pins σ H s->t σ H Q->wpAny (model X.prog X.w) X.A (spliced (backTo pos (starEach es X.env))) (AP X pins σ Q) X.xe s
def PS(X:Cx)(st:Stmt)(t:TS):Prop :=
 ∀(pins:List (Addr×Obj)) (s:Shared) (σ:St) (H:Hp) (D:Ends),Inv X pins σ H s->t D σ H->wpAny (model X.prog X.w) X.A (exec st X.env) (SP X pins D) X.xe s
def PSs(X:Cx)(st:List Stmt)(t:TS):Prop :=
 ∀(pins:List (Addr×Obj)) (s:Shared) (σ:St) (H:Hp) (D:Ends),Inv X pins σ H s->t D σ H->wpAny (model X.prog X.w) X.A (execs st X.env) (SP X pins D) X.xe s
end
theorem thn{t:Sem α}{Q Q':α->Shared->Prop}{s:Shared}(h:wpAny M A t Q E s)(hQ:∀a s,Q a s->Q' a s):wpAny M A t Q' E s:=aCN h hQ λ_ _ x=>x
section
noncomputable section
def tVar(i:Nat):TE:=λσ H Q=>∃v,σ[i]?=some (some v)/\Q v H
def tC(v:V):TE:=λ_ H Q=>Q v H
theorem yF(hN:X.N[i]?=some x)(hv:Vis X.env.scope x)(hd:(x==("__debug__":Str))=false:=by decide)(hcd:(x==("__classdict__":Str))=false:=by decide):PE X (.Name x pos) (tVar i):=by
 intro pins s σ H Q I h
 obtain⟨v,e,h⟩:=h
 obtain⟨m,hn,hl⟩:=I.loc
 obtain⟨u,r,l⟩:=hl i x v hN e hv
 have fin:EP X pins σ Q u s:=⟨v,H,I,r,h⟩
 rcases l with⟨hk,hm⟩|⟨hk,c,hc,hcell⟩
 ·exact wpAny_Name (wpAny_loadName_local I.ok.kind hk hn hm fin) hd
 ·rcases hk with hk|hk
  ·exact wpAny_Name (wpAny_loadName_cell I.ok.kind hk hc hcell fin) hd
  ·exact wpAny_Name (wpAny_loadName_free I.ok.kind hk hc hcell fin hcd) hd
theorem wA{i j pos}:PE X (.Constant (.int i) j pos) (tC (.int i)):=λ_ _ _ H _ I h=>wpAny_Constant_int ⟨.int i,H,I.tok _,⟨_,rfl⟩,h⟩
theorem aGp{b j pos}:PE X (.Constant (.bool b) j pos) (tC (.bl b)):=λ_ _ _ H _ I h=>Constant_bool ⟨.bl b,H,I,rfl,h⟩
theorem aDs{j pos}:PE X (.Constant .none j pos) (tC .non):=λ_ _ _ H _ I h=>Constant_none ⟨.non,H,I,rfl,h⟩
theorem xD{x j pos}:PE X (.Constant (.str x) j pos) (tC (.str x)):=λ_ _ _ H _ I h=>Calls.Constant_str ⟨.str x,H,I.tok _,⟨_,rfl⟩,h⟩
def Gl(X:Cx)(x:Str):Prop:=X.env.kindOf x=some .globalImplicit
end
variable{σ:St}{Q:Value->Shared->Prop}
theorem fG(I:Inv X pins σ H s)(hg:Gl X x)(hm:X.mg x=some u)(h:Q u s)
  (hd:(x==("__debug__":Str))=false:=by decide):wpAny (model X.prog X.w) X.A (eval (.Name x pos) X.env) Q E s :=
 Calls.Name_function_global I.ok.kind hg (Calls.loadGlobal_global (by rw[I.ok.glob];exact I.mod.glob.keeps I.bk) hm h) hd
theorem gM(I:Inv X pins σ H s)(hg:Gl X x)(hm:X.mg x=none)(hv:bootBuiltins x=some u)(h:Q u s)
  (hn:x≠"__name__":=by decide)(hd:(x==("__debug__":Str))=false:=by decide):wpAny (model X.prog X.w) X.A (eval (.Name x pos) X.env) Q E s:=by
 obtain⟨mb,h1,h2⟩:=I.mod.blt
 exact Calls.Name_function_global I.ok.kind hg (Calls.loadGlobal_builtin (by rw[I.ok.glob];exact I.mod.glob.keeps I.bk) hm (by rw[I.ok.blt];exact h1.keeps I.bk) ((h2 x hn).trans hv) h) hd
theorem oK(hg:Gl X x)(hm:X.mg x=some u)(r:RelV v u)(hd:(x==("__debug__":Str))=false:=by decide):PE X (.Name x pos) (tC v) :=
 λ_ _ _ H _ I h=>fG I hg hm ⟨v,H,I,r,h⟩ hd
theorem tF(hg:Gl X x)(hm:X.mg x=none)(hv:bootBuiltins x=some u)(r:RelV v u)(hn:x≠"__name__":=by decide)(hd:(x==("__debug__":Str))=false:=by decide):PE X (.Name x pos) (tC v) :=
 λ_ _ _ H _ I h=>gM I hg hm hv ⟨v,H,I,r,h⟩ hn hd
noncomputable def t2I(ta tb:TE)(k:Int->Int->Hp->Prop):St->Hp->Prop:=λσ H=>ta σ H λx H1=>tb σ H1 λy H2=>∃i j,x=.int i/\y=.int j/\k i j H2
variable{a b:Expr}{ta tb:TE}
noncomputable section
def tCmp(p:Int->Int->Bool)(ta tb:TE):TE:=λσ H Q=>t2I ta tb (λi j H2=>Q (.bl (p i j)) H2) σ H
abbrev tLt:TE->TE->TE:=tCmp λi j=>decide (i < j)
def tB(t:TE):TT:=λσ H Q=>t σ H λx H1=>∃c,x=.bl c/\Q c H1
end
variable{tA tB':TT}{rest:List Expr}
noncomputable section
def tAnd(t u:TT):TT:=λσ H Q=>t σ H λc H1=>if c=true then u σ H1 Q else Q false H1
def tOr(t u:TT):TT:=λσ H Q=>t σ H λc H1=>if c=true then Q true H1 else u σ H1 Q
def tNot(t:TT):TT:=λσ H Q=>t σ H λc H1=>Q (!c) H1
theorem zL(ha:PT X a tA):PW X (.BoolOp .And [a] pos) tA:=by
 intro wh pins s σ H Q I h
 refine isTrue_and (thn (ha pins s σ H Q I h) λc s1 e=>?_)
 cases c with
 |true=>exact isTrue_and_nil e
 |false=>exact e
theorem aDy(ha:PT X a tA):PW X (.BoolOp .Or [a] pos) tA:=by
 intro wh pins s σ H Q I h
 refine isTrue_or (thn (ha pins s σ H Q I h) λc s1 e=>?_)
 cases c with
 |false=>exact isTrue_or_nil e
 |true=>exact e
theorem aEu(ha:PT X a tA)(hb:PW X (.BoolOp .And (b::rest) pos) tB'):PW X (.BoolOp .And (a::b::rest) pos) (tAnd tA tB'):=by
 intro wh pins s σ H Q I h
 refine isTrue_and (thn (ha pins s σ H _ I h) λc s1 ⟨H1,I1,q1⟩=>?_)
 cases c with
 |true=>exact hb wh pins s1 σ H1 Q I1 q1
 |false=>exact⟨H1,I1,q1⟩
theorem aGd(ha:PT X a tA)(hb:PW X (.BoolOp .Or (b::rest) pos) tB'):PW X (.BoolOp .Or (a::b::rest) pos) (tOr tA tB'):=by
 intro wh pins s σ H Q I h
 refine isTrue_or (thn (ha pins s σ H _ I h) λc s1 ⟨H1,I1,q1⟩=>?_)
 cases c with
 |true=>exact⟨H1,I1,q1⟩
 |false=>exact hb wh pins s1 σ H1 Q I1 q1
theorem aDr(ha:PT X a tA):PT X (.UnaryOp .Not a pos) (tNot tA):=by
 intro pins s σ H Q I h
 exact isTrue_not (ha pins s σ H (λc H1=>Q (!c) H1) I h)
def tAndV(ta tb:TE):TE:=λσ H Q=>ta σ H λx H1=>∃c,x=.bl c/\if c=true then tb σ H1 Q else Q (.bl false) H1
end
theorem aDk{op}{t:TE}(h:PE X a t):PE X (.BoolOp op [a] pos) t:=λpins s σ H Q I hw=>BoolOp_one (h pins s σ H Q I hw)
theorem aDb(ha:PE X a ta)(hb:PE X (.BoolOp .And (b::rest) pos) tb):PE X (.BoolOp .And (a::b::rest) pos) (tAndV ta tb):=by
 intro pins s σ H Q I h
 refine BoolOp_and (thn (ha pins s σ H _ I h) λv s1 ⟨x,H1,I1,r1,q1⟩=>?_)
 obtain⟨c,rfl,q1⟩:=q1
 cases r1
 refine aEK ?_
 cases c with
 |true=>exact hb pins s1 σ H1 Q I1 q1
 |false=>exact⟨.bl false,H1,I1,rfl,q1⟩
end
noncomputable section
def SqL(K:Frag)(H:Hp)(a:Addr)(xs:List V):Prop :=
 Rd H a (.lst xs) \/
  ∃(o:Obj) (its:Array Value) (n:Nat),K.lookup a=some o/\o.cls=.type "list"/\o.dict=none/\o.data=.seq its n/\its.size<=sizeLine/\Vals xs its.toList
def SqT(K:Frag)(H:Hp)(a:Addr)(xs:List V):Prop :=
 Rd H a (.tup xs) \/
  ∃(o:Obj) (its:Array Value) (n:Nat),K.lookup a=some o/\o.cls=.type "tuple"/\o.data=.seq its n/\its.size<=sizeLine/\Vals xs its.toList
def absV:Value->Option V
 |.none=>some .non
 |.bool b=>some (.bl b)
 |.int i _=>some (.int i)
 |.str x _=>some (.str x)
 |.bytes b _=>some (.byt b)
 |.float b _=>some (.flt b)
 |.ref a=>some (.ref a)
 |.type n=>some (.ty n)
 |_=>none
end
theorem RelV.abs{x:V}(r:RelV x u):absV u=some x:=by
 cases x with
 |non=>cases r;rfl
 |bl _=>cases r;rfl
 |int _=>obtain⟨t,rfl⟩:=r;rfl
 |str _=>obtain⟨t,rfl⟩:=r;rfl
 |byt _=>obtain⟨t,rfl⟩:=r;rfl
 |flt _=>obtain⟨t,rfl⟩:=r;rfl
 |ref _=>cases r;rfl
 |ty _=>cases r;rfl
theorem RelV.inj{x y:V}{u:Value}(r:RelV x u)(q:RelV y u):x=y:=Option.some.inj (r.abs.symm.trans q.abs)
theorem Vals.inj:∀{xs ys:List V} {us:List Value},Vals xs us->Vals ys us->xs=ys
 |_,_,_,.nil,.nil=>rfl
 |_,_,_,.cons r t,.cons r' t'=>by rw[r.inj r',Vals.inj t t']
variable{σ:St}{xs ys:List V}
theorem SqL.of(h:H a=some (.lst xs)):SqL K H a xs:=.inl (.inl h)
theorem SqT.of(h:H a=some (.tup xs)):SqT K H a xs:=.inl (.inl h)
theorem Inv.list(I:Inv X pins σ H s)(h:SqL X.K H a xs):∃its:List Value,Vals xs its/\PlainL s.heap a its.toArray/\xs.length<=sizeLine:=by
 rcases h with h|⟨o,its,n,hk,hc,hd,hs,hz,r⟩
 ·obtain⟨z,its,n,r,e⟩:=h.ok I.hok
  exact⟨its,r,⟨_,n,e,rfl,rfl,rfl⟩,z⟩
 ·refine⟨its.toList,r,⟨o,n,I.kIn a o hk,hc,hd,by simpa using hs⟩,?_⟩
  have e:=r.length
  simp only[aGN]at e
  lia
theorem Inv.tuple(I:Inv X pins σ H s)(h:SqT X.K H a xs):∃its:List Value,Vals xs its/\IsTup s.heap a its.toArray/\xs.length<=sizeLine:=by
 rcases h with h|⟨o,its,n,hk,hc,hs,hz,r⟩
 ·obtain⟨z,its,r,p⟩:=h.ok I.hok
  exact⟨its,r,p,z⟩
 ·refine⟨its.toList,r,⟨o,I.kIn a o hk,hc,n,by simpa using hs⟩,?_⟩
  have e:=r.length
  simp only[aGN]at e
  lia
theorem Inv.list_inj(I:Inv X pins σ H s)(h:SqL X.K H a xs)(h':SqL X.K H a ys):xs=ys:=by
 obtain⟨its,r,⟨o,n,e,_,_,d⟩,_⟩:=I.list h
 obtain⟨its',r',⟨o',n',e',_,_,d'⟩,_⟩:=I.list h'
 rw[e]at e';cases e'
 rw[d]at d'
 injection d' with d1 _
 have:its=its':=by simpa using congrArg Array.toList d1
 subst this
 exact r.inj r'
theorem Inv.tuple_inj(I:Inv X pins σ H s)(h:SqT X.K H a xs)(h':SqT X.K H a ys):xs=ys:=by
 obtain⟨its,r,⟨o,e,_,n,d⟩,_⟩:=I.tuple h
 obtain⟨its',r',⟨o',e',_,n',d'⟩,_⟩:=I.tuple h'
 rw[e]at e';cases e'
 rw[d]at d'
 injection d' with d1 _
 have:its=its':=by simpa using congrArg Array.toList d1
 subst this
 exact r.inj r'
noncomputable abbrev Cx.wish(X:Cx)(E:Value->Shared->Prop):Cx:={X with xe:=E}
noncomputable abbrev Cx.nox(X:Cx):Cx:=X.wish λ_ _=>False
theorem Cx.Ok.wish{X:Cx}(ok:X.Ok)(E:Value->Shared->Prop):(X.wish E).Ok :=
 ⟨ok.mod,ok.kind,ok.glob,ok.blt,ok.above,ok.inj,ok.has,ok.cab,ok.hd,ok.frames,ok.stk,ok.exf,ok.bs,ok.bsz,ok.noex,ok.exfs,ok.funs,ok.frf⟩
theorem Cx.Ok.unwish(ok:(X.wish E).Ok):X.Ok :=
 ⟨ok.mod,ok.kind,ok.glob,ok.blt,ok.above,ok.inj,ok.has,ok.cab,ok.hd,ok.frames,ok.stk,ok.exf,ok.bs,ok.bsz,ok.noex,ok.exfs,ok.funs,ok.frf⟩
theorem Inv.wish(I:Inv X pins σ H s)(E:Value->Shared->Prop):Inv (X.wish E) pins σ H s:=⟨I.ok.wish E,I.os,I.bare,I.base,I.loc,I.cell,I.free,I.freeC,I.pin,I.hok,I.len⟩
theorem Inv.unwish(I:Inv (X.wish E) pins σ H s):Inv X pins σ H s:=⟨I.ok.unwish,I.os,I.bare,I.base,I.loc,I.cell,I.free,I.freeC,I.pin,I.hok,I.len⟩
theorem SP.unwish{D:Ends}{f:Flow}{s':Shared}(h:SP (X.wish E) pins D f s'):SP X pins D f s':=by
 cases f with
 |next=>obtain⟨σ',H',I,q⟩:=h;exact⟨σ',H',I.unwish,q⟩
 |brk=>obtain⟨σ',H',I,q⟩:=h;exact⟨σ',H',I.unwish,q⟩
 |cont=>obtain⟨σ',H',I,q⟩:=h;exact⟨σ',H',I.unwish,q⟩
 |ret u=>obtain⟨v,σ',H',I,r,q⟩:=h;exact⟨v,σ',H',I.unwish,r,q⟩
theorem PSs.nox{st:List Stmt}{t:TS}(h:PSs X.nox st t):PSs X st t:=λpins s σ H D I hw =>
 aCN (h pins s σ H D (I.wish _) hw) (λ_ _ q=>q.unwish) λ_ _ z=>False.elim z
section
variable{st:Stmt}{rest:List Stmt}{t u:TS}{te:TE}
noncomputable section
def tNext:TS:=λD σ H=>D.nx σ H
def tSeq(t u:TS):TS:=λD σ H=>t {D with nx:=u D} σ H
theorem yV:PSs X [] tNext:=λ_ _ σ H _ I h=>aEE ⟨σ,H,I,h⟩
theorem oU(h1:PS X st t)(h2:PSs X rest u):PSs X (st::rest) (tSeq t u):=by
 intro pins s σ H D I h
 refine wpAny_execs_cons (thn (h1 pins s σ H {D with nx:=u D} I h) λf s1 q=>?_)
 cases f with
 |next =>
  obtain⟨σ',H',I',q⟩:=q
  exact h2 pins s1 σ' H' D I' q
 |ret v=>exact q
 |brk=>exact q
 |cont=>exact q
theorem tX(h1:PS X st t):PSs X [st] t:=by
 intro pins s σ H D I h
 refine wpAny_execs_cons (thn (h1 pins s σ H D I h) λf s1 q=>?_)
 cases f with
 |next=>exact aEE q
 |ret v=>exact q
 |brk=>exact q
 |cont=>exact q
theorem Inv.quiet(I:Inv X pins σ H s):interactive X.env=false:=by simp[interactive,I.ok.kind]
def tDrop(te:TE):TS:=λD σ H=>te σ H λ_ H1=>D.nx σ H1
theorem tS(he:PE X e te)(hs:swapsWith e none pos.line X.env=pure false:=by rfl):PS X (.Expr e pos) (tDrop te):=by
 intro pins s σ H D I h
 exact wpAny_Expr_any (thn (he pins s σ H _ I h) λv s1 ⟨x,H1,I1,r1,q1⟩=>⟨σ,H1,I1,q1⟩) I.quiet hs
def tRet(te:TE):TS:=λD σ H=>te σ H D.rt
theorem aDq(he:PE X e te):PS X (.Return (some e) pos) (tRet te):=by
 intro pins s σ H D I h
 exact wpAny_Return_some (thn (he pins s σ H _ I h) λv s1 ⟨x,H1,I1,r1,q1⟩=>⟨x,σ,H1,I1,r1,q1⟩)
def tIfS(c:TT)(t u:TS):TS:=λD σ H=>c σ H λb H1=>if b=true then t D σ H1 else u D σ H1
end
theorem aFv{c:Expr}{a b:List Stmt}{tc:TT}(hc:PT X c tc)(ha:PSs X a t)(hb:PSs X b u):PS X (.If c a b pos) (tIfS tc t u):=by
 intro pins s σ H D I h
 refine wpAny_If (thn (hc pins s σ H _ I h) λd s1 ⟨H1,I1,q1⟩=>?_)
 cases d with
 |true=>exact ha pins s1 σ H1 D I1 q1
 |false=>exact hb pins s1 σ H1 D I1 q1
end
noncomputable section
abbrev TG:=V->St->Hp->(St->Hp->Prop)->Prop
abbrev TGs:=List V->St->Hp->(St->Hp->Prop)->Prop
def PG(X:Cx)(target:Expr)(t:TG):Prop :=
 ∀(pins:List (Addr×Obj)) (s:Shared) (σ:St) (H:Hp) (v:V) (u:Value) (Q:St->Hp->Prop),Inv X pins σ H s->RelV v u->t v σ H Q ->
  wpAny (model X.prog X.w) X.A (assign target X.env u) (λ_ s'=>∃σ' H',Inv X pins σ' H' s'/\Q σ' H') X.xe s
def PGs(X:Cx)(ts:List Expr)(t:TGs):Prop :=
 ∀(pins:List (Addr×Obj)) (s:Shared) (σ:St) (H:Hp) (vs:List V) (us:List Value) (Q:St->Hp->Prop),Inv X pins σ H s->Vals vs us->t vs σ H Q ->
  wpAny (model X.prog X.w) X.A (assignInOrder ((assignEach ts X.env).map (·.2)) us) (λ_ s'=>∃σ' H',Inv X pins σ' H' s'/\Q σ' H') X.xe s
abbrev TSet:=V->V->V->Hp->(Hp->Prop)->Prop
def PSet(X:Cx)(t:TSet):Prop :=
 ∀(pins:List (Addr×Obj)) (s:Shared) (σ:St) (H:Hp) (o i v:V) (ov iv u:Value) (Q:Hp->Prop),Inv X pins σ H s->RelV o ov->RelV i iv->RelV v u->t o i v H Q ->
  wpAny (model X.prog X.w) X.A (setItem ov iv u) (λ_ s'=>∃H',Inv X pins σ H' s'/\Q H') X.xe s
def gName(i:Nat):TG:=λv σ H Q=>Q (σ.set i (some v)) H
theorem zE(hN:X.N.Nodup)(hi:X.N[i]?=some x)(hx:Loc X.env.scope x)(hf:X.fn x=true\/X.env.scope.names.lookup x=some .local:=by first|exact .inl rfl|exact .inr rfl|assumption):PG X (.Name x pos) (gName i):=by
 intro pins s σ H v u Q I r h
 exact wpAny_assign_Name (eS I hN hi hx r (λs' I'=>⟨_,H,I',h⟩) hf)
def gNil:TGs:=λvs σ H Q=>vs=[]/\Q σ H
def gCons(t:TG)(u:TGs):TGs:=λvs σ H Q=>∃v r,vs=v::r/\t v σ H λσ' H'=>u r σ' H' Q
end
theorem aBm:PGs X [] gNil:=by
 intro pins s σ H vs us Q I r h
 obtain⟨e,h⟩:=h
 subst e
 cases r
 exact assignInOrder_nil ⟨σ,H,I,h⟩
variable{es:List Expr}
theorem wV{t:TG}{u:TGs}(h1:PG X e t)(h2:PGs X es u)
  (hs:(assignEach (e::es) X.env).map (·.2)=assign e X.env::(assignEach es X.env).map (·.2):=by rfl):PGs X (e::es) (gCons t u):=by
 intro pins s σ H vs us Q I r h
 obtain⟨v,vr,e1,h⟩:=h
 subst e1
 cases r with
 |cons r rr =>
  rw[hs]
  refine aGU (thn (h1 pins s σ H _ _ _ I r h) λ_ s1 ⟨σ1,H1,I1,q1⟩=>?_)
  exact h2 pins s1 σ1 H1 _ _ Q I1 rr q1
noncomputable section
def gTup(K:Frag)(n:Nat)(t:TGs):TG:=λv σ H Q=>∃a xs,v=.ref a/\SqT K H a xs/\xs.length=n/\t xs σ H Q
theorem aCw{k:Nat}{t:TGs}(hc:X.calm=true)(h:PGs X es t)
  (hn:(assignEach es X.env).length=n:=by rfl)(hst:(assignEach es X.env).findIdx? (·.1)=none:=by rfl):PG X (.Tuple es k pos) (gTup X.K n t):=by
 intro pins s σ H v u Q I r hw
 obtain⟨a,xs,e1,hq,hl,hw⟩:=hw
 subst e1
 cases r
 obtain⟨its,rv,ht,hz⟩:=I.tuple hq
 refine assign_Tuple_tuple (I.ok.hd hc) ht (by simp[hn,<- hl,rv.length]) hst λh' hx=>?_
 have I1:Inv X pins σ H {s with heap:=h'}:=I.kept (t':=s.toks) λb o e=>hx b o (aAQ (aAG e)) e
 exact h pins _ σ H xs _ Q I1 (by simpa using rv) hw
def gSub(to ti:TE)(t:TSet):TG:=λv σ H Q=>to σ H λo H1=>ti σ H1 λi H2=>t o i v H2 λH3=>Q σ H3
theorem aEa{o i:Expr}{to ti:TE}{t:TSet}(ho:PE X o to)(hi:PE X i ti)(hs:PSet X t)
  (ha:∀v,assign (.Subscript o i pos) X.env v=(do
   let ov <- holding [v] (eval o X.env)
   let iv <- holding [v,ov] (eval i X.env)
   standAt pos
   holding [v,ov,iv] (setItem ov iv v)
   release [v,ov,iv] []):=by intro _;rfl):PG X (.Subscript o i pos) (gSub to ti t):=by
 intro pins s σ H v u Q I r h
 rw[ha]
 refine aAA (aBV (thn (ho pins s σ H _ I h) λov s1 ⟨x,H1,I1,r1,q1⟩=>?_))
 refine aAA (aBV (thn (hi pins s1 σ H1 _ I1 q1) λiv s2 ⟨y,H2,I2,r2,q2⟩=>?_))
 refine aAA (aFS (aAA (aBV (thn (hs pins s2 σ H2 x y v ov iv u _ I2 r1 r2 r q2) λ_ s3 ⟨H3,I3,q3⟩=>?_))))
 exact wpAny_release ⟨σ,H3,I3,q3⟩
def tAsg(te:TE)(g:TG):TS:=λD σ H=>te σ H λx H1=>g x σ H1 D.nx
end
variable{tg:Expr}{te:TE}{g:TG}
theorem aBx(he:PE X e te)(hg:PG X tg g)(hs:swapsWithSole [tg] e pos.line X.env=pure false:=by rfl)(hw:swappedStores [tg] e X.env=pure none:=by rfl)
  (h1:(assignEach [tg] X.env).map (·.2)=[assign tg X.env]:=by rfl):PS X (.Assign [tg] e pos) (tAsg te g):=by
 intro pins s σ H D I h
 refine wpAny_Assign_stores (thn (he pins s σ H _ I h) λv s1 ⟨x,H1,I1,r1,q1⟩=>?_) hs hw
 rw[h1]
 exact thn (hg pins s1 σ H1 x v _ I1 r1 q1) λ_ s2 q=>q
theorem aEx(hN:X.N.Nodup)(hi:X.N[i]?=some x)(hx:Loc X.env.scope x)(he:PE X e te)(hs:swapsWith e (some (.Name x pos')) pos.line X.env=pure false:=by rfl)(hf:X.fn x=true\/X.env.scope.names.lookup x=some .local:=by first|exact .inl rfl|exact .inr rfl|assumption) :
  PS X (.Assign [.Name x pos'] e pos) (tAsg te (gName i)):=by
 intro pins s σ H D I h
 refine wpAny_Assign_Name (thn (he pins s σ H _ I h) λv s1 ⟨y,H1,I1,r1,q1⟩=>?_) hs
 exact eS I1 hN hi hx r1 (λs2 I2=>⟨_,H1,I2,q1⟩) hf
noncomputable def tPar(i j:Nat)(ta:TA):TS:=λD σ H=>ta σ H λvs H1=>∃v w,vs=[v,w]/\D.nx ((σ.set i (some v)).set j (some w)) H1
variable{a:Expr}{ta:TA}
theorem aEt{y:Str}{b:Expr}{px py pt:Pos}{kt k2 pt2}(hc:X.calm=true)(hN:X.N.Nodup)(hi:X.N[i]?=some x)(hj:X.N[j]?=some y)(hij:i≠j)
  (hx:X.env.scope.names.lookup x=some .local)(hy:X.env.scope.names.lookup y=some .local)(ha:PA X [a,b] ta)
  (hw:swappedStores [.Tuple [.Name x px,.Name y py] kt pt] (.Tuple [a,b] k2 pt2) X.env=pure (some [x,y]))
  (hs:swapsWithSole [.Tuple [.Name x px,.Name y py] kt pt] (.Tuple [a,b] k2 pt2) pos.line X.env=pure false:=by rfl) :
  PS X (.Assign [.Tuple [.Name x px,.Name y py] kt pt] (.Tuple [a,b] k2 pt2) pos) (tPar i j ta):=by
 intro pins s σ H D I h
 rw[exec_Assign_arm]
 refine aAA (aFS ?_)
 rw[hs]
 refine aAA (aAC ?_)
 rw[aAI (by decide)]
 refine aAA (Tuple_ (thn (ha _ pins s σ H _ I h) λus s1 ⟨vs,H1,I1,r1,q1⟩=>?_))
 obtain⟨v,w,e1,q1⟩:=q1
 subst e1
 obtain⟨u1,u2,rfl,rv,rw'⟩:∃u1 u2,us=[u1,u2]/\RelV v u1/\RelV w u2:=by
  cases r1 with
  |cons p q =>
   cases q with
   |cons p' q' =>
    cases q'
    exact⟨_,_,rfl,p,p'⟩
 refine aAZ ?_ (by show 2<=sizeLine;decide)
 have I2:Inv X pins σ H1 {s1 with heap:=s1.heap.push {cls:=.type "tuple",data:=.seq [u1,u2].toArray}}:=I1.kept (t':=s1.toks) λb o e=>aAB _ e
 rw[hw]
 refine aAA (aAC ?_)
 show wpAny (model X.prog X.w) X.A (do rule "assign.swapped-stores";let items <- unpackItems (.ref s1.heap.objs.size) 2 none;assignInOrder [λv=>bindName X.env y v,λv=>bindName X.env x v] items.reverse;pure Flow.next) _ _ _
 refine aAA (aCO (aAA (unpackItems_tuple (items:=#[u1,u2]) (I.ok.hd hc) (IsTup.new s1.heap _) λh' hx'=>?_)))
 have I3:=I2.kept (h':=h') (t':=s1.toks) λb o e=>hx' b o (aAQ (aAG e)) e
 show wpAny _ _ (assignInOrder [λv=>bindName X.env y v,λv=>bindName X.env x v] [u2,u1] >>= λ_=>pure Flow.next) _ _ _
 refine aAA (aGU (wpAny_bindName (eS I3 hN hj (.inl hy) rw' (λs2 I4=>?_) (.inr hy))))
 refine aGU (wpAny_bindName (eS I4 hN hi (.inl hx) rv (λs3 I5=>assignInOrder_nil (aAC ?_)) (.inr hx)))
 rw[List.set_comm _ _ (Ne.symm hij)]at I5
 exact⟨_,H1,I5,q1⟩
noncomputable def tWhile(c:TT)(tb:TS):TS:=λD σ H=>∃W:Nat->St->Hp->Prop,(∃m,W m σ H)/\∀m σ H,W m σ H ->
 c σ H λb H1=>if b=true then ∃N:St->Hp->Prop,(∀σ' H',N σ' H'->∃m',m' < m/\W m' σ' H')/\tb {D with nx:=N,ct:=N,bk:=D.nx} σ H1 else D.nx σ H1
variable{c:Expr}{tb:TS}
theorem wN{tc:TT}(hp:PassesOwn (model X.prog X.w) X.A X.env X.xe)(hc:PT X c tc)(hb:PSs X body tb):PS X (.While c body [] pos) (tWhile tc tb):=by
 intro pins s σ H D I h
 obtain⟨W,⟨m0,w0⟩,turn⟩:=h
 refine wpAny_While (codeAny_whileLoop (λn s'=>∃σ' H',Inv X pins σ' H' s'/\W n σ' H') ?_ m0 ⟨σ,H,I,w0⟩)
 rintro n s1 ⟨σ1,H1,I1,w1⟩
 refine aDN hp (thn (hc pins s1 σ1 H1 _ I1 (turn n σ1 H1 w1)) λb s2 ⟨H2,I2,q2⟩=>?_)
 cases b with
 |true =>
  obtain⟨N,hN,q2⟩:=q2
  rw[aAH rfl]
  refine aDN hp (thn (hb pins s2 σ1 H2 _ I2 q2) λf s3 q3=>?_)
  cases f with
  |next =>
   obtain⟨σ3,H3,I3,n3⟩:=q3
   obtain⟨m',hm,w3⟩:=hN σ3 H3 n3
   exact⟨m',hm,σ3,H3,I3,w3⟩
  |cont =>
   obtain⟨σ3,H3,I3,n3⟩:=q3
   obtain⟨m',hm,w3⟩:=hN σ3 H3 n3
   exact⟨m',hm,σ3,H3,I3,w3⟩
  |brk=>exact q3
  |ret v=>exact q3
 |false =>
  rw[aAI aBI]
  exact aEE ⟨σ1,H2,I2,q2⟩
structure It where
 go:Nat->Hp->Prop
 yld:Nat->Hp->V->Hp->Prop
 stop:Nat->Hp->Prop
noncomputable def FpOk(X:Cx)(pins:List (Addr×Obj))(H:Hp)(b:Addr):Prop :=
 H b=none/\b≠X.env.locals/\b∉X.fs/\(b∈X.ex\/X.s₀.heap.objs.size<=b)/\(∀x c,X.env.cells.lookup x=some c->c≠b)/\∀p∈X.pn++pins,p.1≠b
theorem Inv.fpOk(I:Inv X pins σ H s)(hb:s.heap.objs.size<=b)(hn:H' b=none):FpOk X pins H' b:=by
 refine⟨hn,aCY (aAP I.lt hb),I.nofs hb,.inr (aAX I.sz hb),λx c e z=>?_,λp hp z=>?_⟩
 ·obtain⟨v,q⟩:=I.cell x c e
  exact absurd (aAP q.lt (by rw[z];exact hb)) (aDR _)
 ·exact absurd (aAP (aAG (I.pin p hp).1) (by rw[z];exact hb)) (aDR _)
structure Turn(P:Program)(w:World)(K:Frag)(tg:Expr)(J:It)(fp:List Addr)(it:Addr)(tn:Nat->Heap->Prop):Prop where
 mem:it∈fp
 obj:∀i h,tn i h->∀b∈fp,∃o,h.get? b=some o/\∀v,o.data≠.cell v
 keep:∀i h h',tn i h->(∀b∈fp,∀o,h.get? b=some o->h'.get? b=some o)->tn i h'
 item:∀(X:Cx),X.prog=P->X.w=w->X.K=K->X.calm=true->∀(i:Nat) (pins:List (Addr×Obj)) (s:Shared) (σ:St) (H:Hp) (E:Value->Shared->Prop),Inv X pins σ H s->(∀b∈fp,FpOk X pins H b)->tn i s.heap->J.go i H ->
  wpAny (model P w) X.A (pyNext (.ref it)) (λr s1=>∃u,r=some u /\
   wpAny (model P w) X.A (letOwnedTupleGo tg (.ref it) u) (λ_ s2=>∃x H',Inv X pins σ H' s2/\RelV x u/\J.yld i H x H'/\tn (i+1) s2.heap/\∀b∈fp,H' b=none) E s1) E s
 done:∀(X:Cx),X.prog=P->X.w=w->X.K=K->X.calm=true->∀(i:Nat) (pins:List (Addr×Obj)) (s:Shared) (σ:St) (H:Hp) (E:Value->Shared->Prop),Inv X pins σ H s->(∀b∈fp,FpOk X pins H b)->tn i s.heap->J.stop i H ->
  wpAny (model P w) X.A (pyNext (.ref it)) (λr s1=>r=none/\Inv X pins σ H s1) E s
 self:∀(A:Around) (i:Nat) (s:Shared) (Q:Value->Shared->Prop) (E:Value->Shared->Prop),tn i s.heap->Q (.ref it) s->wpAny (model P w) A (pyIter (.ref it)) Q E s
noncomputable section
abbrev TI:=St->Hp->(It->Hp->Prop)->Prop
def PIE(X:Cx)(pins:List (Addr×Obj))(σ:St)(tg:Expr)(R:It->Hp->Prop)(itv:Value)(s2:Shared):Prop :=
 ∃(it:Addr) (fp:List Addr) (tn:Nat->Heap->Prop) (J:It) (H':Hp),itv=.ref it/\Inv X pins σ H' s2/\Turn X.prog X.w X.K tg J fp it tn/\tn 0 s2.heap/\(∀b∈fp,FpOk X pins H' b)/\R J H'
def PI(X:Cx)(tg iter:Expr)(wi:TI):Prop :=
 ∀(pins:List (Addr×Obj)) (s:Shared) (σ:St) (H:Hp) (R:It->Hp->Prop),Inv X pins σ H s->wi σ H R ->
  wpAny (model X.prog X.w) X.A (eval iter X.env) (λv s1=>wpAny (model X.prog X.w) X.A (pyIter v) (PIE X pins σ tg R) X.xe s1) X.xe s
theorem wS{n:String}{vs:Array Value}(ho:s.heap.get? it=some o)(hc:o.cls=.type n)(hd:o.data=.fields vs)
  (hn:["enumerate","zip","dict_itemiterator","dict_reverseitemiterator","odict_iterator","itertools.zip_longest","itertools.pairwise"].contains n=false)(hQ:Q () s):wpAny M A (letOwnedTupleGo tg (.ref it) u) Q E s:=by
 unfold letOwnedTupleGo
 cases tg <;> first
  |exact aAC hQ
  |(cases u <;> first
    |exact aAC hQ
    |(refine aAA (wpAny_load ho ?_)
      rw[hc,hd]
      show wpAny M A (if(["enumerate","zip","dict_itemiterator","dict_reverseitemiterator","odict_iterator","itertools.zip_longest","itertools.pairwise"].contains n&&vs[0]?==some (rawInt _))=true then _ else _) Q E s
      rw[aAI (by intro h;rw[hn,Bool.false_and]at h;cases h)]
      exact aAC hQ))
def Itl(K:Frag)(a:Addr):It :=
 ⟨λi H=>∃xs x,SqL K H a xs/\xs[i]?=some x,λi H x H'=>H'=H/\∀xs,SqL K H a xs->xs[i]?=some x,λi H=>∃xs,SqL K H a xs/\xs.length<=i⟩
def Itt(K:Frag)(a:Addr):It :=
 ⟨λi H=>∃xs x,SqT K H a xs/\xs[i]?=some x,λi H x H'=>H'=H/\∀xs,SqT K H a xs->xs[i]?=some x,λi H=>∃xs,SqT K H a xs/\xs.length<=i⟩
def Itr(lo:Int)(n:Nat):It:=⟨λi _=>i < n,λi H x H'=>H'=H/\x=.int (lo+i),λi _=>n<=i⟩
theorem uX(a it:Addr):Turn P w K tg (Itl K a) [it] it (λi h=>h.IsListIter it a i)where
 mem:=by simp
 obj:=λi h st b hb=>by
  have e:b=it:=by simpa using hb
  subst e
  obtain⟨o,e,c,d⟩:=st
  exact⟨o,e,λv z=>by rw[d]at z;cases z⟩
 keep:=λi h h' st k=>st.at λo e=>k it (by simp) o e
 item:=by
  intro X hP hw hK hc i pins s σ H E I hf st hg
  subst hP hw hK
  obtain⟨xs,x,hq,hx⟩:=hg
  obtain⟨its,rv,p,hz⟩:=I.list hq
  obtain⟨u,hu,ru⟩:=rv.get hx
  obtain⟨f0,f1,f2,f3,f4,f5⟩:=hf it (by simp)
  refine wpAny_pyNext_list_item st p.isList (x:=u) (by simpa using hu) λh' st' sb=>?_
  have I1:Inv X pins σ H {s with heap:=h'}:=I.turned (t':=s.toks) (λb o hb e=>(sb.2 b hb).trans e) f0 f1 f3 f4 f5
  obtain⟨o,e,c,d⟩:=id st'
  exact⟨u,rfl,wS (s:={s with heap:=h'}) e c d (by decide) ⟨x,H,I1,ru,⟨rfl,λys hy=>by rw[I.list_inj hy hq];exact hx⟩,st',λb hb=>(hf b hb).1⟩⟩
 done:=by
  intro X hP hw hK hc i pins s σ H E I hf st hg
  subst hP hw hK
  obtain⟨xs,hq,hx⟩:=hg
  obtain⟨its,rv,p,hz⟩:=I.list hq
  obtain⟨f0,f1,f2,f3,f4,f5⟩:=hf it (by simp)
  have hl:=rv.length
  exact wpAny_pyNext_list_end (I.ok.hd hc) st p.isList (by simp;lia) λh' eb=>⟨rfl,I.turned (t':=s.toks) (λb o hb e=>eb b o hb e) f0 f1 f3 f4 f5⟩
 self:=λ_ _ _ _ _ st h=>wpAny_pyIter_listiter st h
theorem rD(a it:Addr):Turn P w K tg (Itt K a) [it] it (λi h=>h.IsTupleIter it a i)where
 mem:=by simp
 obj:=λi h st b hb=>by
  have e:b=it:=by simpa using hb
  subst e
  obtain⟨o,e,c,d⟩:=st
  exact⟨o,e,λv z=>by rw[d]at z;cases z⟩
 keep:=λi h h' st k=>st.at λo e=>k it (by simp) o e
 item:=by
  intro X hP hw hK hc i pins s σ H E I hf st hg
  subst hP hw hK
  obtain⟨xs,x,hq,hx⟩:=hg
  obtain⟨its,rv,p,hz⟩:=I.tuple hq
  obtain⟨u,hu,ru⟩:=rv.get hx
  obtain⟨f0,f1,f2,f3,f4,f5⟩:=hf it (by simp)
  refine wpAny_pyNext_tuple_item st (show s.heap.IsTuple a its.toArray from p) (x:=u) (by simpa using hu) λh' st' sb=>?_
  have I1:Inv X pins σ H {s with heap:=h'}:=I.turned (t':=s.toks) (λb o hb e=>(sb.2 b hb).trans e) f0 f1 f3 f4 f5
  obtain⟨o,e,c,d⟩:=id st'
  exact⟨u,rfl,wS (s:={s with heap:=h'}) e c d (by decide) ⟨x,H,I1,ru,⟨rfl,λys hy=>by rw[I.tuple_inj hy hq];exact hx⟩,st',λb hb=>(hf b hb).1⟩⟩
 done:=by
  intro X hP hw hK hc i pins s σ H E I hf st hg
  subst hP hw hK
  obtain⟨xs,hq,hx⟩:=hg
  obtain⟨its,rv,p,hz⟩:=I.tuple hq
  obtain⟨f0,f1,f2,f3,f4,f5⟩:=hf it (by simp)
  have hl:=rv.length
  exact wpAny_pyNext_tuple_end (I.ok.hd hc) st (show s.heap.IsTuple a its.toArray from p) (by simp;lia) λh' eb=>⟨rfl,I.turned (t':=s.toks) (λb o hb e=>eb b o hb e) f0 f1 f3 f4 f5⟩
 self:=λ_ _ _ _ _ st h=>wpAny_pyIter_tupleiter st h
theorem qO(it:Addr)(lo:Int)(n:Nat):Turn P w K tg (Itr lo n) [it] it (λi h=>IsRangeIter h it (lo+(i:Nat)*1) ((n:Int) - (i:Nat)) 1)where
 mem:=by simp
 obj:=λi h st b hb=>by
  have e:b=it:=by simpa using hb
  subst e
  exact⟨_,st,λv z=>by
   have z':Data.fields _=Data.cell v:=z
   cases z'⟩
 keep:=λi h h' st k=>k it (by simp) _ st
 item:=by
  intro X hP hw hK hc i pins s σ H E I hf st hg
  subst hP hw hK
  obtain⟨f0,f1,f2,f3,f4,f5⟩:=hf it (by simp)
  have W:=Walks.range (prog:=X.prog) (w:=X.w) (I.ok.hd hc) it lo 1 n
  refine W.item i s _ _ hg st λv h' tk hv st' kk=>?_
  obtain⟨t,rfl⟩:=hv
  have I1:Inv X pins σ H {s with heap:=h',toks:=tk}:=I.turned (λb o hb e=>kk b o (by simpa using hb) e) f0 f1 f3 f4 f5
  refine⟨_,rfl,wS (s:={s with heap:=h',toks:=tk}) (n:="range_iterator") st' rfl rfl (by decide) ⟨.int (lo+i),H,I1,⟨t,?_⟩,⟨rfl,rfl⟩,st',λb hb=>(hf b hb).1⟩⟩
  rw[Int.mul_one]
 done:=by
  intro X hP hw hK hc i pins s σ H E I hf st hg
  subst hP hw hK
  obtain⟨f0,f1,f2,f3,f4,f5⟩:=hf it (by simp)
  exact wpAny_pyNext_range_end (I.ok.hd hc) st (by have:n<=i:=hg;lia) λh' eb=>⟨rfl,I.turned (t':=s.toks) (λb o hb e=>eb b o hb e) f0 f1 f3 f4 f5⟩
 self:=λ_ _ _ _ _ st h=>wpAny_pyIter_rangeiter st h
theorem wX{R:It->Hp->Prop}{lo hi:Int}{t u v:Tok}{tk:Nat}(I:Inv X pins σ H s)(h1 : -(2 ^ 62)<=lo)(h2:lo < 2 ^ 62)(h3 : -(2 ^ 62)<=hi)(h4:hi < 2 ^ 62)
  (q:R (Itr lo (hi - lo).toNat) H):wpAny (model X.prog X.w) X.A (pyIter (.ref s.heap.objs.size)) (PIE X pins σ tg R) E {s with heap:=s.heap.push {cls:=.type "range",data:=.fields #[.int lo t,.int hi u,.int 1 v]},toks:=tk}:=by
 refine wpAny_pyIter_range (IsRange.new ..) (small_one h1 h2 h3 h4) ?_
 have I1:Inv X pins σ H {s with heap:=s.heap.push {cls:=.type "range",data:=.fields #[.int lo t,.int hi u,.int 1 v]},toks:=tk}:=I.kept λb o e=>aAB _ e
 refine⟨(s.heap.push {cls:=.type "range",data:=.fields #[.int lo t,.int hi u,.int 1 v]}).objs.size,[(s.heap.push {cls:=.type "range",data:=.fields #[.int lo t,.int hi u,.int 1 v]}).objs.size],_,_,H,rfl,
  I1.kept (t':=tk) λb o e=>aAB _ e,qO _ lo (hi - lo).toNat,?_,λb hb=>?_,q⟩
 ·have e1:lo+((0:Nat):Int)*1=lo:=by simp
  have e2:(((hi - lo).toNat:Nat):Int) - ((0:Nat):Int)=Builtin.Range.rangeSize lo hi 1:=by rw[rangeSize_one];split <;> lia
  show IsRangeIter _ _ (lo+((0:Nat):Int)*1) ((((hi - lo).toNat:Nat):Int) - ((0:Nat):Int)) 1
  rw[e1,e2]
  exact aAM _ rfl
 ·have e:b=(s.heap.push {cls:=.type "range",data:=.fields #[.int lo t,.int hi u,.int 1 v]}).objs.size:=by simpa using hb
  subst e
  exact I1.fpOk (aAE _) (I1.hok.fresh (aAE _))
def iRng1(ta:TA):TI:=λσ H R=>ta σ H λvs H1=>∃j:Int,vs=[.int j] /\ -(2 ^ 62)<=j/\j < 2 ^ 62/\R (Itr 0 j.toNat) H1
theorem uD(hg:Gl X "range")(hm:X.mg "range"=none)(ha:PA X [a] ta)(hs:starEach [a] X.env=[(false,eval a X.env)]:=by rfl):PI X tg (.Call (.Name "range" p) [a] [] pos) (iRng1 ta):=by
 intro pins s σ H R I h
 refine Call_ (gM I hg hm boot_range (aCW (thn (ha pos pins s σ H _ I h) λus s1 ⟨vs,H1,I1,r1,q1⟩=>?_) hs rfl))
 obtain⟨j,e,q1,q2,q⟩:=q1
 subst e
 cases r1 with
 |cons r rr =>
  cases rr
  obtain⟨t,rfl⟩:=r
  exact call_range_1 (wX I1 (by lia) (by lia) q1 q2 (by simpa using q))
def tFor(wi:TI)(g:TG)(tb:TS):TS:=λD σ H=>wi σ H λJ H1=>∃W:Nat->Nat->St->Hp->Prop,(∃m,W 0 m σ H1)/\∀i m σ H,W i m σ H ->
 (J.stop i H/\D.nx σ H)\/(J.go i H/\∃N:St->Hp->Prop,(∀σ' H',N σ' H'->∃m',m' < m/\W (i+1) m' σ' H')/\∀x H',J.yld i H x H'->g x σ H' λσ2 H2=>tb {D with nx:=N,ct:=N,bk:=D.nx} σ2 H2)
def pinsAt(fp:List Addr)(h:Heap):List (Addr×Obj):=fp.filterMap λb=>(h.get? b).map λo=>(b,o)
theorem fC(hb:b∈fp)(e:h.get? b=some o):(b,o)∈pinsAt fp h:=List.mem_filterMap.mpr ⟨b,hb,by rw[e];rfl⟩
theorem vA{p:Addr×Obj}(hp:p∈pinsAt fp h):p.1∈fp/\h.get? p.1=some p.2:=by
 obtain⟨b,hb,e⟩:=List.mem_filterMap.mp hp
 cases q:h.get? b with
 |none=>rw[q]at e;cases e
 |some o =>
  rw[q]at e
  have e':(b,o)=p:=Option.some.inj e
  subst e'
  exact⟨hb,q⟩
theorem Inv.pinned{fp:List Addr}(I:Inv X pins σ H s)(hf:∀b∈fp,FpOk X pins H b)(ho:∀b∈fp,∃o,s.heap.get? b=some o/\∀v,o.data≠.cell v):Inv X (pins++pinsAt fp s.heap) σ H s :=
 I.pins_of λp hp=>(aBC.mp hp).elim (λz=>I.pin p (aBJ _ z)) λz=>by
  obtain⟨hb,e⟩:=vA z
  obtain⟨f0,f1,f2,_⟩:=hf p.1 hb
  obtain⟨o,e',d⟩:=ho p.1 hb
  rw[e]at e';cases e'
  exact⟨e,f0,f1,f2,d⟩
theorem Inv.unpinned{pl:List (Addr×Obj)}(I:Inv X (pins++pl) σ H s):Inv X pins σ H s:=I.pins_of λp hp=>I.pin p (aBJ _ (List.mem_append_left _ hp))
theorem aEo{iter:Expr}{wi:TI}(hp:PassesOwn (model X.prog X.w) X.A X.env X.xe)(hc:X.calm=true)(hi:PI X tg iter wi)(hg:PG X tg g)(hb:PSs X body tb)
  (hs:∀x,foldedSetIterable iter X.env x=pure x:=by intro _;rfl):PS X (.For tg iter body [] pos) (tFor wi g tb):=by
 intro pins s σ H D I h
 refine wpAny_For (thn (hi pins s σ H _ I h) λv s1 h1=>thn h1 λitv s2 h2=>?_) hs
 obtain⟨it,fp,tn,J,H2,e,I2,T,st2,f2,W,⟨m0,w0⟩,turn⟩:=h2
 subst e
 have stat:∀{H':Hp},(∀b∈fp,H' b=none)->∀b∈fp,FpOk X pins H' b:=λhn b hb=>⟨hn b hb,(f2 b hb).2⟩
 refine codeAny_forLoop_any (λn s'=>∃i σ' H',Inv X pins σ' H' s'/\tn i s'.heap/\(∀b∈fp,H' b=none)/\W i n σ' H') ?_ m0 ⟨0,σ,H2,I2,st2,λb hb=>(f2 b hb).1,w0⟩
 rintro n s3 ⟨i,σ3,H3,I3,st3,fr3,w3⟩
 rcases turn i n σ3 H3 w3 with⟨stop,qn⟩|⟨go,N,hN,step⟩
 ·refine aDN hp (thn (T.done X rfl rfl rfl hc i pins s3 σ3 H3 X.xe I3 (stat fr3) st3 stop) λr s4 ⟨hr,I4⟩=>?_)
  subst hr
  exact aEE ⟨σ3,H3,I4,qn⟩
 ·refine aDN hp (thn (T.item X rfl rfl rfl hc i pins s3 σ3 H3 X.xe I3 (stat fr3) st3 go) λr s4 ⟨u,hr,h4⟩=>?_)
  subst hr
  refine aDN hp (thn h4 λ_ s5 ⟨x,H5,I5,r5,y5,st5,fr5⟩=>?_)
  have I5':=I5.pinned (stat fr5) (T.obj _ _ st5)
  refine aDN hp (thn (hg _ s5 σ3 H5 x u _ I5' r5 (step x H5 y5)) λ_ s6 ⟨σ6,H6,I6,q6⟩=>?_)
  refine aDN hp (thn (hb _ s6 σ6 H6 _ I6 q6) λf s7 q7=>?_)
  have again:∀{σ7:St} {H7:Hp},Inv X (pins++pinsAt fp s5.heap) σ7 H7 s7->N σ7 H7->∃m,m < n/\∃i σ' H',Inv X pins σ' H' s7/\tn i s7.heap/\(∀b∈fp,H' b=none)/\W i m σ' H':=λ{σ7 H7} I7 n7=>by
   obtain⟨m',hm,w7⟩:=hN σ7 H7 n7
   refine⟨m',hm,i+1,σ7,H7,I7.unpinned,T.keep _ _ _ st5 λb hb o e=>(I7.pin (b,o) (aBJ _ (aBJ _ (fC hb e)))).1,λb hb=>?_,w7⟩
   obtain⟨o,e,d⟩:=T.obj _ _ st5 b hb
   exact(I7.pin (b,o) (aBJ _ (aBJ _ (fC hb e)))).2.1
  cases f with
  |next=>obtain⟨σ7,H7,I7,n7⟩:=q7;exact again I7 n7
  |cont=>obtain⟨σ7,H7,I7,n7⟩:=q7;exact again I7 n7
  |brk=>obtain⟨σ7,H7,I7,q7⟩:=q7;exact⟨σ7,H7,I7.unpinned,q7⟩
  |ret v=>obtain⟨x7,σ7,H7,I7,r7,q7⟩:=q7;exact⟨x7,σ7,H7,I7.unpinned,r7,q7⟩
abbrev R2:=V->V->Hp->VK->Prop
def OpR(X:Cx)(f:Value->Value->Sem Value)(r:R2):Prop :=
 ∀(pins:List (Addr×Obj)) (s:Shared) (σ:St) (H:Hp) (x y:V) (v u:Value) (Q:VK),Inv X pins σ H s->RelV x v->RelV y u->r x y H Q ->
  wpAny (model X.prog X.w) X.A (f v u) (EP X pins σ Q) X.xe s
def CallR(X:Cx)(f:Value)(r:List V->Hp->VK->Prop):Prop :=
 ∀(pins:List (Addr×Obj)) (s:Shared) (σ:St) (H:Hp) (xs:List V) (us:List Value) (Q:VK),Inv X pins σ H s->Vals xs us->r xs H Q ->
  wpAny (model X.prog X.w) X.A (call f us) (EP X pins σ Q) X.xe s
def TruR(X:Cx)(r:V->Hp->(Bool->Hp->Prop)->Prop):Prop :=
 ∀(pins:List (Addr×Obj)) (s:Shared) (σ:St) (H:Hp) (x:V) (v:Value) (Q:Bool->Hp->Prop),Inv X pins σ H s->RelV x v->r x H Q ->
  wpAny (model X.prog X.w) X.A (truthy v) (TP X pins σ Q) X.xe s
def tOp(r:R2)(ta tb:TE):TE:=λσ H Q=>ta σ H λx H1=>tb σ H1 λy H2=>r x y H2 Q
def rI(C:Int->Int->Prop)(g:Int->Int->V):R2:=λx y H Q=>∃i j,x=.int i/\y=.int j/\C i j/\Q (g i j) H
def rI0(g:Int->Int->V):R2:=λx y H Q=>∃i j,x=.int i/\y=.int j/\Q (g i j) H
end
variable{b:Expr}{ta tb tc:TE}{f:Value->Value->Sem Value}
theorem binT(ha:PE X a ta)(hb:PE X b tb){R:V->V->Hp->Prop}(I:Inv X pins σ H s)
  (h:ta σ H λx H1=>tb σ H1 λy H2=>R x y H2){Q:Value->Shared->Prop}
  (hf:∀v u s2 x y H2,Inv X pins σ H2 s2->RelV x v->RelV y u->R x y H2->wpAny (model X.prog X.w) X.A (f v u) Q X.xe s2) :
  wpAny (model X.prog X.w) X.A (eval a X.env) (λv s₁=>wpAny (model X.prog X.w) X.A (eval b X.env) (λu s₂=>wpAny (model X.prog X.w) X.A (f v u) Q X.xe s₂) X.xe s₁) X.xe s:=by
 refine thn (ha pins s σ H _ I h) λv s1 ⟨x,H1,I1,r1,q1⟩=>?_
 refine thn (hb pins s1 σ H1 _ I1 q1) λu s2 ⟨y,H2,I2,r2,q2⟩=>?_
 exact hf v u s2 x y H2 I2 r1 r2 q2
variable{r:R2}
theorem aGh{op:Operator}(ho:OpR X (binaryOp op) r)(ha:PE X a ta)(hb:PE X b tb):PE X (.BinOp a op b pos) (tOp r ta tb):=by
 intro pins s σ H Q I h
 exact wpAny_BinOp (binT ha hb I h λv u s2 x y H2 I2 rx ry q=>ho pins s2 σ H2 x y v u Q I2 rx ry q)
variable{g:Int->Int->Int}
theorem opI{C:Int->Int->Prop}
  (rule:∀(i j:Int) (t u:Tok) (s:Shared) (Q:Value->Shared->Prop) (E:Value->Shared->Prop),C i j->Q (.int (g i j) s.toks) {s with toks:=s.toks+1}->wpAny (model X.prog X.w) X.A (f (.int i t) (.int j u)) Q E s) :
  OpR X f (rI C λi j=>.int (g i j)):=by
 intro pins s σ H x y v u Q I rx ry h
 obtain⟨i,j,rfl,rfl,hc,q⟩:=h
 obtain⟨t,rfl⟩:=rx
 obtain⟨t',rfl⟩:=ry
 exact rule i j t t' s _ _ hc ⟨.int (g i j),H,I.tok _,⟨_,rfl⟩,q⟩
theorem opI0 
  (rule:∀(i j:Int) (t u:Tok) (s:Shared) (Q:Value->Shared->Prop) (E:Value->Shared->Prop),Q (.int (g i j) s.toks) {s with toks:=s.toks+1}->wpAny (model X.prog X.w) X.A (f (.int i t) (.int j u)) Q E s) :
  OpR X f (rI0 λi j=>.int (g i j)):=by
 intro pins s σ H x y v u Q I rx ry h
 obtain⟨i,j,rfl,rfl,q⟩:=h
 obtain⟨t,rfl⟩:=rx
 obtain⟨t',rfl⟩:=ry
 exact rule i j t t' s _ _ ⟨.int (g i j),H,I.tok _,⟨_,rfl⟩,q⟩
theorem opB0{g:Int->Int->Bool}
  (rule:∀(i j:Int) (t u:Tok) (s:Shared) (Q:Value->Shared->Prop) (E:Value->Shared->Prop),Q (.bool (g i j)) s->wpAny (model X.prog X.w) X.A (f (.int i t) (.int j u)) Q E s) :
  OpR X f (rI0 λi j=>.bl (g i j)):=by
 intro pins s σ H x y v u Q I rx ry h
 obtain⟨i,j,rfl,rfl,q⟩:=h
 obtain⟨t,rfl⟩:=rx
 obtain⟨t',rfl⟩:=ry
 exact rule i j t t' s _ _ ⟨.bl (g i j),H,I,rfl,q⟩
noncomputable section
def CPow(i j:Int):Prop:=0<=j/\j<=1000000/\i.natAbs < 2 ^ 64
def CMul(i j:Int):Prop:=(-(2 ^ 64) < i/\i < 2 ^ 64)\/(-(2 ^ 64) < j/\j < 2 ^ 64)
theorem CMul.ok{i j:Int}(h:CMul i j):IntMulOk i j:=by
 rcases h with⟨h1,h2⟩|⟨h1,h2⟩
 ·exact .of_left (intBits_le_64 h1 h2)
 ·exact .of_right (intBits_le_64 h1 h2)
theorem aEn:OpR X (binaryOp .Add) (rI0 λi j=>.int (i+j)):=opI0 λ_ _ _ _ _ _ _ q=>add_int q
theorem aEq:OpR X (binaryOp .Sub) (rI0 λi j=>.int (i - j)):=opI0 λ_ _ _ _ _ _ _ q=>sub_int q
theorem aCj:OpR X (binaryOp .Mod) (rI (λ_ j=>0 < j) λi j=>.int (i % j)):=opI λi j _ _ _ _ _ hc q=>by
 have h1:(0:Int) < j:=hc
 exact mod_int' (by lia) (by rw[Int.fmod_eq_emod_of_nonneg i (by lia)];exact q)
theorem aCz:OpR X (binaryOp .Pow) (rI CPow λi j=>.int (i ^ j.toNat)):=opI λ_ _ _ _ _ _ _ hc q=>pow_int_small hc.1 hc.2.1 hc.2.2 q
theorem aFc{Q:VK}{k k':Bool}(I:Inv X pins σ H s)(q:Q (.bl k) H)(e:k=k'):EP X pins σ Q (.bool k') s:=by
 subst e
 exact⟨.bl k,H,I,rfl,q⟩
theorem aFt:OpR X (compareOp .Lt) (rI0 λi j=>.bl (decide (i < j))):=opB0 λ_ _ _ _ _ _ _ q=>lt_int q
theorem aGy:OpR X (compareOp .LtE) (rI0 λi j=>.bl (decide (i<=j))):=opB0 λ_ _ _ _ _ _ _ q=>le_int q
theorem aGz:OpR X (compareOp .Gt) (rI0 λi j=>.bl (decide (j < i))):=opB0 λ_ _ _ _ _ _ _ q=>gt_int q
theorem aGt:OpR X (compareOp .GtE) (rI0 λi j=>.bl (decide (j<=i))):=opB0 λ_ _ _ _ _ _ _ q=>ge_int q
theorem aAx:OpR X (compareOp .IsNot) (λx y H Q=>y=.non/\Q (.bl (!decide (x=.non))) H):=by
 intro pins s σ H x y v u Q I rx ry h
 obtain⟨rfl,q⟩:=h
 cases ry
 refine isnot_none_gen (aFc I q ?_)
 cases x <;> first
  |(cases rx;rfl)
  |(obtain⟨t,rfl⟩:=rx;rfl)
theorem nomark(b:Expr)(h:op≠.In:=by decide)(h2:op≠.NotIn:=by decide):behindInMarks op b=false:=by
 have e1:(op==CmpOp.In)=false:=by cases op <;> first|rfl|exact absurd rfl h
 have e2:(op==CmpOp.NotIn)=false:=by cases op <;> first|rfl|exact absurd rfl h2
 cases b <;> simp[behindInMarks,e1,e2]
theorem yS(ho:OpR X (compareOp op) r)(ha:PE X a ta)(hb:PE X b tb)(hm:behindInMarks op b=false):PE X (.Compare a [op] [b] pos) (tOp r ta tb):=by
 intro pins s σ H Q I h
 exact wpAny_Compare1 (binT ha hb I h λv u s2 x y H2 I2 rx ry q=>ho pins s2 σ H2 x y v u Q I2 rx ry q) hm
def tTest(t:TE):TT:=λσ H Q=>t σ H λx H'=>∃k,x=.bl k/\Q k H'
theorem aAo(ho:OpR X (compareOp op) r)(ha:PE X a ta)(hb:PE X b tb)(hm:behindInMarks op b=false):PT X (.Compare a [op] [b] pos) (tTest (tOp r ta tb)):=by
 intro pins s σ H Q I h
 refine wpAny_isTrue_Compare1 (thn (ha pins s σ H _ I h) λv s1 ⟨x,H1,I1,r1,q1⟩=>thn (hb pins s1 σ H1 _ I1 q1) λu s2 ⟨y,H2,I2,r2,q2⟩ =>
  thn (ho pins s2 σ H2 x y v u _ I2 r1 r2 q2) λc s3 ⟨z,H3,I3,r3,k,e,q3⟩=>?_) hm
 subst e
 cases r3
 exact aEK ⟨H3,I3,q3⟩
def tChain(r r':R2)(ta tb tc:TE):TE:=λσ H Q=>ta σ H λx H1=>tb σ H1 λy H2=>r x y H2 λz H3=>∃k,z=.bl k /\
 (if k=true then tc σ H3 λw' H4=>r' y w' H4 Q else Q (.bl false) H3)
theorem xF{op':CmpOp}{r':R2}(ho:OpR X (compareOp op) r)(ho':OpR X (compareOp op') r')(ha:PE X a ta)(hb:PE X b tb)(hc:PE X c tc)
  (hm:lastMarks [op,op'] [b,c]=false:=by with_unfolding_all rfl):PT X (.Compare a [op,op'] [b,c] pos) (tTest (tChain r r' ta tb tc)):=by
 intro pins s σ H Q I h
 refine isTrue_chain (thn (ha pins s σ H _ I h) λv s1 ⟨x,H1,I1,r1,q1⟩=>test_link (thn (hb pins s1 σ H1 _ I1 q1) λu s2 ⟨y,H2,I2,r2,q2⟩ =>
  thn (ho pins s2 σ H2 x y v u _ I2 r1 r2 q2) λd s3 ⟨z,H3,I3,r3,k,e,q3⟩=>?_)) hm
 subst e
 cases r3
 refine aEK ?_
 cases k with
 |false =>
  obtain⟨k',e',q'⟩:=q3
  cases e'
  exact ite_ff ⟨H3,I3,q'⟩
 |true =>
  refine ite_tt (test_last (thn (hc pins s3 σ H3 _ I3 q3) λw' s4 ⟨z',H4,I4,r4,q4⟩=>thn (ho' pins s4 σ H4 y z' u w' _ I4 r2 r4 q4) λd' s5 ⟨z2,H5,I5,r5,k2,e2,q5⟩=>?_))
  subst e2
  cases r5
  exact aEK ⟨H5,I5,q5⟩
def TruV(K:Frag)(x:V)(H:Hp)(k:Bool):Prop :=
 match x with
 |.non=>k=false
 |.bl b=>k=b
 |.int i=>k=(i != 0)
 |.str y=>y.length<=sizeLine/\k=((y.length:Int) != 0)
 |.byt y=>y.size<=sizeLine/\k=((y.size:Int) != 0)
 |.ref p=>(∃xs,SqL K H p xs/\k=!xs.isEmpty)\/(∃xs,SqT K H p xs/\k=!xs.isEmpty)\/∃kvs,H p=some (.dK kvs)/\k=!kvs.isEmpty
 |_=>False
end
theorem qR{κ:Type}{kvs:List (κ×V)}{vs:List (κ×Value)}(r:KV kvs vs):(!vs.isEmpty)=!kvs.isEmpty:=by
 cases r <;> rfl
theorem lK(r:Vals xs its):(!its.toArray.isEmpty)=!xs.isEmpty:=by
 cases r <;> simp
theorem line63:(sizeLine:Nat) < 2 ^ 63:=by rw[aAY];decide
theorem aEs:TruR X (λx H Q=>∃k,TruV X.K x H k/\Q k H):=by
 intro pins s σ H x v Q I rx h
 obtain⟨k,e,q⟩:=h
 have hl:=line63
 have hs:sizeLine=16777216:=aAY
 cases x with
 |non =>
  cases rx
  have e':k=false:=e
  subst e'
  exact truthy_none ⟨H,I,q⟩
 |bl b =>
  cases rx
  have e':k=b:=e
  subst e'
  exact aEK ⟨H,I,q⟩
 |int i =>
  obtain⟨t,rfl⟩:=rx
  have e':k=(i != 0):=e
  subst e'
  exact PySem.P.truthy_int ⟨H,I,q⟩
 |str y =>
  obtain⟨t,rfl⟩:=rx
  obtain⟨hy,e'⟩:y.length<=sizeLine/\k=((y.length:Int) != 0):=e
  subst e'
  exact PySem.P.truthy_str (by lia) ⟨H,I.tok _,q⟩
 |byt y =>
  obtain⟨t,rfl⟩:=rx
  obtain⟨hy,e'⟩:y.size<=sizeLine/\k=((y.size:Int) != 0):=e
  subst e'
  exact PySem.W.truthy_bytes (by lia) ⟨H,I.tok _,q⟩
 |ref p =>
  cases rx
  have e':(∃xs,SqL X.K H p xs/\k=!xs.isEmpty)\/(∃xs,SqT X.K H p xs/\k=!xs.isEmpty)\/∃kvs,H p=some (.dK kvs)/\k=!kvs.isEmpty:=e
  rcases e' with⟨xs,hx,e'⟩|⟨xs,hx,e'⟩|⟨kvs,hx,e'⟩
  ·subst e'
   obtain⟨its,r,pl,hz⟩:=I.list hx
   have hlen:=r.length
   exact wpAny_truthy_list pl.isList (by simp only[aAK];lia) ⟨H,I.tok _,by rw[lK r];exact q⟩
  ·subst e'
   obtain⟨its,r,pl,hz⟩:=I.tuple hx
   have hlen:=r.length
   exact truthy_tuple pl (by simp only[aAK];lia) ⟨H,I.tok _,by rw[lK r];exact q⟩
  ·subst e'
   obtain⟨hz,hS,vs,r,m⟩:kvs.length<=sizeLine/\(p==sysModules)=false/\∃vs,KV kvs vs/\s.heap.DictOf (mixKind X.prog X.w) p vs:=I.hok p _ hx
   have hlen:kvs.length=vs.length:=Paired.length r
   exact wpAny_truthy_dict hS m (by lia) ⟨H,I.tok _,by rw[qR r];exact q⟩
 |_=>exact(show False from e).elim
theorem wR(ha:PE X a ta)(he:∀whole,isTrue a X.env whole=(do let v <- whole;standAt a.pos;holding [v] (truthy v))) :
  PT X a (λσ H Q=>ta σ H λx H'=>∃k,TruV X.K x H' k/\Q k H'):=by
 intro pins s σ H Q I h
 exact isTrue_plain (thn (ha pins s σ H _ I h) λv s1 ⟨x,H1,I1,r1,q1⟩=>aEs pins s1 σ H1 x v Q I1 r1 q1) (he _)
theorem rN:OpR X (binaryOp .Add) (λx y H Q=>∃i j,x=.str i/\y=.str j/\i.length+j.length<=sizeLine/\Q (.str (i++j)) H):=by
 intro pins s σ H x y v u Q I rx ry h
 obtain⟨i,j,rfl,rfl,hz,q⟩:=h
 obtain⟨t,rfl⟩:=rx
 obtain⟨t',rfl⟩:=ry
 exact add_str (λt' tk=>⟨.str (i++j),H,I.tok _,⟨_,rfl⟩,q⟩) hz
variable{x:V}
theorem vals1(r:Vals [x] us):∃u,us=[u]/\RelV x u:=by
 cases r with
 |cons r1 r2=>cases r2;exact⟨_,rfl,r1⟩
theorem vals2{y:V}(r:Vals [x,y] us):∃u w',us=[u,w']/\RelV x u/\RelV y w':=by
 cases r with
 |cons r1 r2 =>
  cases r2 with
  |cons r3 r4=>cases r4;exact⟨_,_,rfl,r1,r3⟩
theorem vG(hc:X.calm=true):CallR X (.builtin "max") (λxs H Q=>∃i j,xs=[.int i,.int j]/\Q (.int (if j > i then j else i)) H):=by
 intro pins s σ H xs us Q I r h
 obtain⟨i,j,rfl,q⟩:=h
 obtain⟨u,w',rfl,⟨t,rfl⟩,⟨t',rfl⟩⟩:=vals2 r
 refine max_two_ints (I.ok.hd hc) λh' tk k=>⟨_,H,I.kept k,?_,q⟩
 by_cases hj:j > i
 ·rw[aAH hj,aAH hj];exact⟨_,rfl⟩
 ·rw[aAI hj,aAI hj];exact⟨_,rfl⟩
theorem vP(hc:X.calm=true):CallR X (.builtin "min") (λxs H Q=>∃i j,xs=[.int i,.int j]/\Q (.int (if j < i then j else i)) H):=by
 intro pins s σ H xs us Q I r h
 obtain⟨i,j,rfl,q⟩:=h
 obtain⟨u,w',rfl,⟨t,rfl⟩,⟨t',rfl⟩⟩:=vals2 r
 refine min_two_ints (I.ok.hd hc) λh' tk k=>⟨_,H,I.kept k,?_,q⟩
 by_cases hj:j < i
 ·rw[aAH hj,aAH hj];exact⟨_,rfl⟩
 ·rw[aAI hj,aAI hj];exact⟨_,rfl⟩
theorem vK:CallR X (.type "int") (λxs H Q=>(∃i,xs=[.int i]/\Q (.int i) H)\/∃k,xs=[.bl k]/\Q (.int (if k then 1 else 0)) H):=by
 intro pins s σ H xs us Q I r h
 rcases h with⟨i,rfl,q⟩|⟨k,rfl,q⟩
 ·obtain⟨u,rfl,t,rfl⟩:=vals1 r
  exact call_int_int ⟨.int i,H,I,⟨_,rfl⟩,q⟩
 ·obtain⟨u,rfl,r1⟩:=vals1 r
  cases r1
  exact call_int_bool ⟨.int (if k then 1 else 0),H,I.tok _,⟨_,rfl⟩,q⟩
structure ObjM(h:Heap)(x dx C:Addr)(mA:Str->Option Value):Prop where
 obj:h.get? x=some (PySem.W.instObj C dx)
 ns:h.Ns1 dx mA
 ne:dx≠x
theorem jS(n:h.Ns1 dx mA):∃od,h.get? dx=some od/\∀name,PySem.W.lookIn name od=some (mA name):=by
 obtain⟨o,es,ep,ho,hd,hk,_,hm⟩:=n
 refine⟨o,ho,λname=>?_⟩
 have e:=hm name
 unfold nsFind findBy at e
 rw[<- Array.find?_toList]at e
 unfold PySem.W.lookIn
 rw[hd]
 dsimp only
 split
 ·rename_i y q
  rw[q]at e
  exact congrArg some e
 ·rename_i q
  rw[q]at e
  have a:es.toList.any (·.refKey)=false:=by
   rw[List.any_eq_false]
   intro y hy
   obtain⟨z,t,hkey⟩:=hk y (Array.mem_toList_iff.mp hy)
   simp[DictEntry.refKey,hkey]
  have a':¬es.toList.any (·.refKey)=true:=by rw[a];exact aBI
  rw[aAI a']
  exact congrArg some e
theorem ObjM.look{x:Addr}(I:ObjM h x dx C mA):∃od,PySem.W.InstAt h x (PySem.W.instObj C dx) C (some od)/\∀name,PySem.W.lookIn name od=some (mA name) :=
 let⟨od,ho,hl⟩:=jS I.ns
 ⟨od,⟨I.obj,rfl,rfl,ho⟩,hl⟩
variable{prog:Program}{K:Frag}{x f:Addr}{v:Value}
section
variable{a:Addr}{fs fs':List (Str×V)}
theorem zC(hok:HOk P w H h)(e:H a=some (.ins C dx fs)):∃mA,ObjM h a dx C mA/\(∀f,RelO (fs.lookup f) (mA f))/\PySem.Within mA (fs.map (·.1))/\fs.length<=1000/\H dx=some (.own a):=by
 obtain⟨d,z,ne,ob,mA,n,r,q⟩:=(show ObjOk P w H h a (.ins C dx fs)from hok a _ e)
 exact⟨mA,⟨ob,n,ne⟩,r,q,z,d⟩
end
structure Cls(K:Frag)(C:Addr):Prop where
 pg:PySem.W.plainGet K C Str.empty=true
 hd:PySem.W.hasDictIn K C=true
 po:PySem.W.plainOver K C=true
 sa:PySem.W.findIn K (.ref C) "__setattr__"=some (some (.builtin "object.__setattr__"))
theorem Cls.get{K:Frag}{C:Addr}(c:Cls K C)(f:Str):PySem.W.plainGet K C f=true:=c.pg
structure Con(K:Frag)(C:Addr)(f:Str)(v:V)(u:Value):Prop where
 at_:PySem.W.findIn K (.ref C) f=some (some u)
 rel:RelV v u
 get:PySem.W.specialIn K u "__get__"=some none
 cp:PySem.W.copiedNames.contains f=false
structure Meth(K:Frag)(C:Addr)(m:Str)(f:Addr):Prop where
 at_:PySem.W.findIn K (.ref C) m=some (some (.ref f))
 fn:PySem.W.isFn K (.ref f)=true
 kp:keepIn K (.ref f)=true
section
variable{a:Addr}{fs:List (Str×V)}{f:Str}{v:V}
theorem aAv{Q:Value->Shared->Prop}(hb:attributeBase e f env (eval e env)=eval e env)
  (h:wpAny (model prog w) A (eval e env) (λo s₁=>wpAny (model prog w) A (getAttr o f true) Q E s₁) E s):wpAny (model prog w) A (eval (.Attribute e f pos) env) Q E s :=
 Attribute_any_ h (by rw[arm_eval_Attribute,hb])
end
variable{o value:Expr}{f:Str}{tv:TE}{Q:Value->Shared->Prop}{c:Value}{b:Bool}
inductive TyOf(K:Frag)(H:Hp):V->Value->Prop where
 |non:TyOf K H .non (.type "NoneType")
 |bl (x:Bool):TyOf K H (.bl x) (.type "bool")
 |int (i:Int):TyOf K H (.int i) (.type "int")
 |str (x:Str):TyOf K H (.str x) (.type "str")
 |flt (x:UInt64):TyOf K H (.flt x) (.type "float")
 |lst {a:Addr} {xs:List V} (e:H a=some (.lst xs)):TyOf K H (.ref a) (.type "list")
 |frz {a:Addr} {o:Obj} {xs:List V} (e:H a=some (.frz o (.lst xs))):TyOf K H (.ref a) (.type "list")
 |tup {a:Addr} {xs:List V} (e:H a=some (.tup xs)):TyOf K H (.ref a) (.type "tuple")
 |dK {a:Addr} {kvs:List (Key×V)} (e:H a=some (.dK kvs)):TyOf K H (.ref a) (.type "dict")
 |dT {a:Addr} {kvs:List (List Key×V)} (e:H a=some (.dT kvs)):TyOf K H (.ref a) (.type "dict")
 |ins {a C dx:Addr} {fs:List (Str×V)} (e:H a=some (.ins C dx fs)) (cl:Cls K C) (ha:PySem.W.findIn K (.ref C) "__class__"=some (some (.builtin "object.__class__")))
   (hn:PySem.W.specialIn K (.builtin "object.__class__") "__get__"=some (some (.builtin "getset_descriptor.__get__"))) (htk:PySem.W.takesIn K (.builtin "object.__class__")=some true)
   (hm:PySem.W.mroIn K C (.type "object")=some true):TyOf K H (.ref a) (.ref C)
theorem uY{x:V}{t:Value}(I:Inv X pins σ H s)(rx:RelV x u)(ty:TyOf X.K H x t)(e:PySem.W.kitOne X.K t c=some b)(h:∀tk,Q (.bool b) {s with toks:=tk}) :
  wpAny (model X.prog X.w) A (call (.builtin "isinstance") [u,c]) Q E s:=by
 cases ty with
 |non=>cases(show u=Value.none from rx);exact aCE PySem.W.kitx_none I.kIn True.intro e (λz=>nomatch z) h
 |bl y=>cases(show u=Value.bool y from rx);exact aCE PySem.W.kitx_bool I.kIn True.intro e (λz=>nomatch z) h
 |int i=>obtain⟨t,q⟩:=(show ∃t,u=Value.int i t from rx);cases q;exact aCE PySem.W.kitx_int I.kIn True.intro e (λz=>nomatch z) h
 |str y=>obtain⟨t,q⟩:=(show ∃t,u=Value.str y t from rx);cases q;exact aCE PySem.W.kitx_str I.kIn True.intro e (λz=>nomatch z) h
 |flt y=>obtain⟨t,q⟩:=(show ∃t,u=Value.float y t from rx);cases q;exact aCE PySem.W.kitx_float I.kIn True.intro e (λz=>nomatch z) h
 |@lst a xs ea =>
  cases(show u=Value.ref a from rx)
  obtain⟨_,_,n,_,h1⟩:=(show ObjOk X.prog X.w H s.heap a (.lst xs)from I.hok a _ ea)
  exact aCE PySem.W.kitx_list I.kIn ⟨_,h1,rfl⟩ e (λz=>nomatch z) h
 |@frz a ob xs ea =>
  cases(show u=Value.ref a from rx)
  obtain⟨_,_,_,n,_,h1⟩:=(show ObjOk X.prog X.w H s.heap a (.frz ob (.lst xs))from I.hok a _ ea)
  exact aCE PySem.W.kitx_list I.kIn ⟨_,h1,rfl⟩ e (λz=>nomatch z) h
 |@tup a xs ea =>
  cases(show u=Value.ref a from rx)
  obtain⟨_,_,_,p⟩:=(show ObjOk X.prog X.w H s.heap a (.tup xs)from I.hok a _ ea)
  obtain⟨o,h1,h2,_⟩:=p
  exact aCE PySem.W.kitx_tuple I.kIn ⟨o,h1,h2⟩ e (λz=>nomatch z) h
 |@dK a kvs ea =>
  cases(show u=Value.ref a from rx)
  obtain⟨_,_,vs,_,p⟩:=(show ObjOk X.prog X.w H s.heap a (.dK kvs)from I.hok a _ ea)
  obtain⟨o,es,ep,h1,h2,_⟩:=p
  exact aCE PySem.W.kitx_dict I.kIn ⟨o,h1,h2.1⟩ e (λz=>nomatch z) h
 |@dT a kvs ea =>
  cases(show u=Value.ref a from rx)
  obtain⟨_,_,xs,_,o,es,ep,h1,h2,_⟩:=(show ObjOk X.prog X.w H s.heap a (.dT kvs)from I.hok a _ ea)
  exact aCE PySem.W.kitx_dict I.kIn ⟨o,h1,h2.1⟩ e (λz=>nomatch z) h
 |@ins a C dx fs ea cl ha hn htk hm =>
  cases(show u=Value.ref a from rx)
  obtain⟨mA,O,_⟩:=zC I.hok ea
  obtain⟨od,J,_⟩:=O.look
  exact aCE (PySem.W.kitx_own (cl.get _) cl.hd ha hn htk hm) I.kIn J e (λz=>nomatch z) h
structure Room(k:Nat)(A:Around):Prop where
 hd:A.handled=none
 dp:A.depth+3*k+5 < recursionLimit
 un:A.units+16*k+200 < cLine
theorem Room.mono{k:Nat}(r:Room k A)(h:j<=k):Room j A:=⟨r.hd,by have:=r.dp;lia,by have:=r.un;lia⟩
theorem Room.deeper{k:Nat}{A:Around}(r:Room (k+1) A)(env:Env):Room k (A.deeper env) :=
 ⟨r.hd,by have:=r.dp;show A.depth+1+3*k+5 < _;lia,by have:=r.un;show A.units+3+16*k+200 < _;lia⟩
theorem rH :(A.under (.builtin "type.__call__" ⟨.ref C::us,kw⟩)).depth=A.depth+1:=by
 first|rfl|simp[Around.under,Code.weight,Code.isCreation,Code.isGuard,Code.isCaller,Code.frames,Code.isFrame,guardIds]
theorem qY :(A.under (.builtin "type.__call__" ⟨.ref C::us,kw⟩)).units=A.units+1:=by
 first|rfl|simp[Around.under,Code.cUnits,Code.frames,Code.isFrame]
theorem Room.make{k:Nat}(r:Room (k+1) A)(C:Addr)(us:List Value)(kw:List (Str×Value)):Room k (A.under (.builtin "type.__call__" ⟨.ref C::us,kw⟩)) :=
 ⟨r.hd,by have:=r.dp;rw[rH];lia,by have:=r.un;rw[qY];lia⟩
theorem Room.depth{k:Nat}{A:Around}(r:Room k A):A.depth < recursionLimit:=by have:=r.dp;lia
noncomputable def tNil:TA:=λ_ H Q=>Q [] H
noncomputable def tCons(ta:TE)(tr:TA):TA:=λσ H Q=>ta σ H λx H1=>tr σ H1 λxs H2=>Q (x::xs) H2
section
variable{t:TA}
theorem dH:PA X [] tNil:=λ_ _ _ _ H Q I h=>aGY ⟨[],H,I,.nil,h⟩
theorem bQ(ha:PE X e te)(hr:PA X es t)(hs:starEach (e::es) X.env=(false,eval e X.env)::starEach es X.env:=by rfl):PA X (e::es) (tCons te t):=by
 intro pos pins s σ H Q I h
 rw[hs]
 show wpAny _ _ (spliced ((false,eval e X.env)::backTo pos (starEach es X.env))) _ _ s
 refine aFF (thn (ha pins s σ H _ I h) λu s1 ⟨x,H1,I1,r1,q1⟩=>?_)
 exact thn (hr pos pins s1 σ H1 _ I1 q1) λus s2 ⟨xs,H2,I2,r2,q2⟩=>⟨x::xs,H2,I2,.cons r1 r2,q2⟩
noncomputable def tTup(t:TA):TE:=λσ H Q=>t σ H λxs H1=>xs.length<=sizeLine/\∀p,H1 p=none->Q (.ref p) (upd H1 p (.tup xs))
noncomputable def tLst(t:TA):TE:=λσ H Q=>t σ H λxs H1=>xs.length<=sizeLine/\∀p,H1 p=none->Q (.ref p) (upd H1 p (.lst xs))
theorem wC{x1}(h:PA X es t):PE X (.Tuple es x1 pos) (tTup t):=by
 intro pins s σ H Q I hq
 refine wpAny_Tuple_spliced (thn (h pos pins s σ H _ I hq) λus s1 ⟨xs,H1,I1,r,z,q⟩=>⟨by rw[<- r.length];exact z,?_⟩)
 have hf:H1 s1.heap.objs.size=none:=I1.hok.fresh (aAE _)
 refine⟨.ref s1.heap.objs.size,upd H1 s1.heap.objs.size (.tup xs),I1.laid (t':=s1.toks) (λb u e=>aAB _ e) (aAE _) ?_,rfl,q _ hf⟩
 exact⟨z,us,r,⟨_,aAM _ rfl,rfl,_,rfl⟩⟩
theorem rP(h:PA X es t):PE X (.List es pos) (tLst t):=by
 intro pins s σ H Q I hq
 refine wpAny_List_spliced (thn (h pos pins s σ H _ I hq) λus s1 ⟨xs,H1,I1,r,z,q⟩=>⟨by rw[<- r.length];exact z,?_⟩)
 have hf:H1 s1.heap.objs.size=none:=I1.hok.fresh (aAE _)
 refine⟨.ref s1.heap.objs.size,upd H1 s1.heap.objs.size (.lst xs),I1.laid (t':=s1.toks) (λb u e=>aAB _ e) (aAE _) ?_,rfl,q _ hf⟩
 exact⟨z,us,0,r,aAM _ rfl⟩
end
noncomputable abbrev Sp:=List V->Hp->VK->XK->Prop
noncomputable abbrev CXT:=List Env->Hp->Shared->XK->Value->Shared->Prop
structure Env0(P:Program)(w:World)(K:Frag)(mg:Str->Option Value)(base:Heap)(A:Around)(outer:List Env)(s:Shared)(H:Hp):Prop where
 frames:A.frames=some outer
 mod:Mod K mg base
 bs:∀b o,base.get? b=some o->s.heap.get? b=some o/\H b=none
 bsz:base.objs.size<=s.heap.objs.size
 funs:s.heap.FunFrames base outer
 frf:∀b∈frs outer,H b=none
 hok:HOk P w H s.heap
 bare:AllBare s.gens
noncomputable def CE(outer:List Env)(P:Program)(w:World)(H:Hp)(s:Shared)(Q:VK)(u:Value)(s':Shared):Prop :=
 ∃v H',s'.os=s.os/\AllBare s'.gens/\Un (frs outer) [] H H' s.heap s'.heap/\HOk P w H' s'.heap/\RelV v u/\Q v H'
noncomputable def CR(CX:CXT)(outer:List Env)(P:Program)(w:World)(H:Hp)(s:Shared)(Q:VK)(E:XK)(r:Result)(s':Shared):Prop :=
 match r with
 |.ok (.ret u)=>CE outer P w H s Q u s'
 |.ok _=>False
 |.error e=>CX outer H s E e s'
structure FnOk(P:Program)(w:World)(K:Frag)(mg:Str->Option Value)(base:Heap)(CX:CXT)(k:Nat)(f:Addr)(fd:FuncData)(ps:List Str)(sp:Sp):Prop where
 len:∀vs H Q E,sp vs H Q E->vs.length=ps.length
 run:∀(A:Around) (outer:List Env) (s:Shared) (H:Hp) (args:Args) (us:List Value) (vs:List V) (Q:VK) (E:XK),Room k A->Env0 P w K mg base A outer s H->BindsTo s fd args (ps.zip us)->Vals vs us->sp vs H Q E ->
  codeAny (model P w) A (.call (.ref f) args) (CR CX outer P w H s Q E) s
theorem FnOk.mono{P:Program}{w:World}{K:Frag}{mg:Str->Option Value}{base:Heap}{CX:CXT}{j k:Nat}{f:Addr}{fd:FuncData}{ps:List Str}{sp:Sp}(F:FnOk P w K mg base CX j f fd ps sp)(h:j<=k) :
  FnOk P w K mg base CX k f fd ps sp:=⟨F.len,λA outer s H args us vs Q E hr=>F.run A outer s H args us vs Q E (hr.mono h)⟩
theorem Env0.make(e:Env0 P w K mg base A outer s H)(C:Addr)(us:List Value)(kw:List (Str×Value)) :
  Env0 P w K mg base (A.under (.builtin "type.__call__" ⟨.ref C::us,kw⟩)) outer s H:=⟨by first|exact e.frames|(simpa[Around.under,Code.envs,Code.isFrame,pushEnvs]using e.frames),e.mod,e.bs,e.bsz,e.funs,e.frf,e.hok,e.bare⟩
theorem Inv.env0(I:Inv X pins σ H s):Env0 X.prog X.w X.K X.mg X.base X.A X.stack s H :=
 ⟨I.ok.frames,I.ok.mod,I.bs,aAX I.ok.bsz I.sz,I.stack,I.stkFree,I.hok,I.bare⟩
variable{Q:VK}
theorem Inv.after(I:Inv X pins σ H s)(h:CE X.stack X.prog X.w H s Q u s'):EP X pins σ Q u s':=by
 obtain⟨v,H',os,bare,un,hok,r,q⟩:=h
 obtain⟨hh,g,d,t,os'⟩:=s'
 obtain rfl:os'=s.os:=os
 exact⟨v,H',I.call (h':=hh) (g':=g) (d':=d) (t':=t) (ch:=[]) un hok bare (λb z=>absurd z (by simp)),r,q⟩
noncomputable section
def tCall(sp:Sp)(dvs:List V)(E:XK)(t:TA):TE:=λσ H Q=>t σ H λvs H1=>sp (vs++dvs) H1 Q E
def Binds(K:Frag)(fd:FuncData)(ps:List Str)(ds:List Value):Prop :=
 ∀(s:Shared) (us:List Value),K.In s.heap->(us++ds).length=ps.length->BindsTo s fd ⟨us,[]⟩ (ps.zip (us++ds))
theorem Binds.all(h:∀us:List Value,us.length=ps.length->bindArgs fd ⟨us,[]⟩=pure (ps.zip us)):Binds K fd ps []:=λs us _ hl=>by
 rw[aED]at hl ⊢
 exact .of_eq (h us hl)
def Passes(CX:CXT)(X:Cx)(E:XK):Prop:=∀(pins:List (Addr×Obj)) (σ:St) (H:Hp) (s:Shared) (e:Value) (s':Shared),Inv X pins σ H s->CX X.stack H s E e s'->X.xe e s'
end
section
variable{CX:CXT}{k:Nat}{f:Addr}{sp:Sp}{dvs:List V}{ds:List Value}{E:XK}{x m:Str}{t:TA}
theorem aDn{vs:List V}(F:FnOk X.prog X.w X.K X.mg X.base CX k f fd ps sp)(hr:Room k X.A)(hb:Binds X.K fd ps ds)(hd:Vals dvs ds)(hx:Passes CX X E)
  (I:Inv X pins σ H s)(r:Vals vs us)(h:sp (vs++dvs) H Q E):wpAny (model X.prog X.w) X.A (call (.ref f) us) (EP X pins σ Q) X.xe s:=by
 have r2:Vals (vs++dvs) (us++ds):=r.append hd
 have hl:(us++ds).length=ps.length:=by rw[<- r2.length];exact F.len _ _ _ _ h
 refine aES (aGI (F.run X.A X.stack s H ⟨us,[]⟩ (us++ds) (vs++dvs) Q E hr I.env0 (hb s us I.kIn hl) r2 h) λr s' hq=>?_)
 cases r with
 |error e=>exact hx pins σ H s e s' I hq
 |ok fl =>
  cases fl with
  |ret u=>exact I.after hq
  |next=>exact False.elim hq
  |brk=>exact False.elim hq
  |cont=>exact False.elim hq
theorem nF(F:FnOk X.prog X.w X.K X.mg X.base CX k f fd ps sp)(hr:Room k X.A)(hg:Gl X x)(hm:X.mg x=some (.ref f))(hk:keepIn X.K (.ref f)=true)(hb:Binds X.K fd ps ds)(hd:Vals dvs ds)(hx:Passes CX X E)
  (ha:PA X (e::es) t)(hdb:(x==("__debug__":Str))=false:=by decide)(he:starEach (e::es) X.env=(false,eval e X.env)::starEach es X.env:=by rfl)(hpl:(backTo pos (starEach es X.env)).any (·.1)=false:=by rfl) :
  PE X (.Call (.Name x p) (e::es) [] pos) (tCall sp dvs E t):=by
 intro pins s σ H Q I h
 refine aDB (fG I hg hm ?_ hdb)
 refine aGW (h₀:=X.base) I.ok.mod.kin hk (thn (ha pos pins s σ H _ I h) λus s1 ⟨vs,H1,I1,r,q⟩=>⟨I1.kIn,?_⟩) he hpl
 exact aDn F hr hb hd hx I1 r q
structure Mk(K:Frag)(C f:Addr):Prop where
 makes:PySem.W.makesIn K C=true
 init:PySem.W.findIn K (.ref C) "__init__"=some (some (.ref f))
 fn:PySem.W.isFn K (.ref f)=true
 kp:keepIn K (.ref C)=true
end
section
variable{CX:CXT}{k:Nat}{f:Addr}{ks:List Str}{sp:Sp}{E:XK}{x m:Str}{kpos:Pos}{kws:List Keyword}{t tk:TA}{nm:Option Str}
structure KBinds(K:Frag)(fd:FuncData)(ps ks:List Str)(g:List Value->List Value->List Value)(gV:List V->List V->List V):Prop where
 to:∀(s:Shared) (us ws:List Value),K.In s.heap->(g us ws).length=ps.length->BindsTo s fd ⟨us,ks.zip ws⟩ (ps.zip (g us ws))
 rel:∀{vs:List V} {us:List Value} {zs:List V} {ws:List Value},Vals vs us->Vals zs ws->Vals (gV vs zs) (g us ws)
variable{g:List Value->List Value->List Value}{gV:List V->List V->List V}
end
structure FnScope(N P:List Str)(sc:Scope):Prop where
 kind:sc.kind=.function
 co:sc.isCoroutine=false
 gen:sc.isGenerator=false
 nd:N.Nodup
 pre:N.take P.length=P
 par:∀x∈P,sc.names.lookup x=some .local\/sc.names.lookup x=some .cell
 nofree:∀y∈sc.names,y.2≠.free
theorem mF{kindOf:Str->Option NameKind}{x:Str}:∀{binds:List (Str×Value)} {m:Str->Option Value},(∀v,(x,v)∉binds)->bindL kindOf binds m x=m x
 |[],_,_=>rfl
 |(n,v)::r,m,h=>by
  unfold bindL
  rw[mF λw hw=>h w (aCG _ hw)]
  split
  ·have:x≠n:=by rintro rfl;exact h v aDL
   simp[this]
  ·rfl
theorem mW{kindOf:Str->Option NameKind}{x:Str}:∀{binds:List (Str×Value)} {m:Str->Option Value},(∀v,(x,v)∉binds)->bindC kindOf binds m x=m x
 |[],_,_=>rfl
 |(n,v)::r,m,h=>by
  unfold bindC
  rw[mW λw hw=>h w (aCG _ hw)]
  split
  ·rfl
  ·have:x≠n:=by rintro rfl;exact h v aDL
   simp[this]
theorem mO{kindOf:Str->Option NameKind}{x:Str}{v:Value}:∀{P:List Str} {vs:List Value} {i:Nat} {m:Str->Option Value},P.Nodup->P[i]?=some x->vs[i]?=some v->kindOf x=some .local ->
  bindL kindOf (P.zip vs) m x=some v
 |[],_,_,_,_,h,_,_=>by simp at h
 |_::_,[],_,_,_,_,h,_=>by simp at h
 |p::P,w::vs,0,m,nd,h1,h2,hk=>by
  simp at h1 h2;subst h1;subst h2
  show bindL kindOf ((p,w)::P.zip vs) m p=_
  unfold bindL
  rw[mF λv hv=>(aGH.mp nd).1 (List.of_mem_zip hv).1,aAH hk]
  simp
 |p::P,w::vs,i+1,m,nd,h1,h2,hk=>by
  show bindL kindOf ((p,w)::P.zip vs) m x=_
  unfold bindL
  exact mO (i:=i) (aGH.mp nd).2 (by simpa using h1) (by simpa using h2) hk
theorem mV{kindOf:Str->Option NameKind}{x:Str}{v:Value}:∀{P:List Str} {vs:List Value} {i:Nat} {m:Str->Option Value},P.Nodup->P[i]?=some x->vs[i]?=some v->kindOf x≠some .local ->
  bindC kindOf (P.zip vs) m x=some v
 |[],_,_,_,_,h,_,_=>by simp at h
 |_::_,[],_,_,_,_,h,_=>by simp at h
 |p::P,w::vs,0,m,nd,h1,h2,hk=>by
  simp at h1 h2;subst h1;subst h2
  show bindC kindOf ((p,w)::P.zip vs) m p=_
  unfold bindC
  rw[mW λv hv=>(aGH.mp nd).1 (List.of_mem_zip hv).1,aAI hk]
  simp
 |p::P,w::vs,i+1,m,nd,h1,h2,hk=>by
  show bindC kindOf ((p,w)::P.zip vs) m x=_
  unfold bindC
  exact mV (i:=i) (aGH.mp nd).2 (by simpa using h1) (by simpa using h2) hk
noncomputable def start(N:List Str)(vs:List V):St:=vs.map some++List.replicate (N.length - vs.length) none
noncomputable def cxOf(CX:CXT)(P:Program)(w:World)(K:Frag)(mg:Str->Option Value)(base:Heap)(N:List Str)(qual:Str)(scope:Scope)(f:Addr)(cd:Value)(A:Around)(outer:List Env)(s:Shared)(H:Hp)(E:XK):Cx where
 prog:=P
 w:=w
 K:=K
 mg:=mg
 base:=base
 A:=A.deeper (envOfC qual scope s.heap.objs.size f cd)
 N:=N
 s₀:=s
 H₀:=H
 env:=envOfC qual scope s.heap.objs.size f cd
 outer:=outer
 stack:=envOfC qual scope s.heap.objs.size f cd::outer
 ex:=[]
 calm:=true
 fn:=λ_=>true
 pn:=[]
 xe:=λe s'=>wpAny (model P w) (A.deeper (envOfC qual scope s.heap.objs.size f cd)) (leaving (envOfC qual scope s.heap.objs.size f cd) e) (λ_ s''=>CX outer H s E e s'') (λe' s''=>CX outer H s E e' s'') s'
variable{x:Str}
theorem qB{sc:Scope}(h:sc.names.lookup x=some .cell):∃c,(cellsFrom n sc.names []).lookup x=some c:=by
 have q:=PySem.W.cellsFrom_some sc.names n [] (.inl h)
 exact aDE.mp q
variable{CX:CXT}{scope:Scope}{f:Addr}
theorem vW{cd:Value}{s1:Shared}{E:XK}{vs:List V}
  (S:FnScope N ps scope)(hd:A.handled=none)(e0:Env0 P w K mg base A outer s H)(hl:vs.length=ps.length)(r:Vals vs us)
  (x:InCallC s s.heap.objs.size (bindL (envOfC qual scope s.heap.objs.size f cd).kindOf (ps.zip us) λ_=>none) (cellsFrom (s.heap.objs.size+1) scope.names []) (bindC (envOfC qual scope s.heap.objs.size f cd).kindOf (ps.zip us) λ_=>none) s1) :
  Inv (cxOf CX P w K mg base N qual scope f cd A outer s H E) [] (start N vs) H s1:=by
 have hpl:ps.length<=N.length:=by have:=congrArg List.length S.pre;rw[aDI]at this;lia
 obtain⟨h1,tk,rfl,hk⟩:=x.done
 have noA:∀b:Addr,b∉(cxOf CX P w K mg base N qual scope f cd A outer s H E).ex:=λb z=>absurd (show b∈([]:List Addr)from z) (by simp)
 refine⟨⟨e0.mod,S.kind,rfl,rfl,aAE _,λy z c h1 h2=>?_,λy hy=>?_,λy c _ h=>?_,λ_=>hd,Around.frames_deeper e0.frames,.inr ⟨rfl,rfl⟩,λb z=>absurd z (noA b),e0.bs,e0.bsz,λb _ _=>noA b,λb z=>absurd z (noA b),e0.funs,e0.frf⟩,
  rfl,e0.bare,Un.kept hk,⟨_,x.toInCall.ns,λi y v h1 h2 h3=>?_⟩,λy c h=>⟨_,x.cell y c h⟩,e0.hok.fresh (aAE _),λy c h=>?_,λp hp=>absurd (show p∈([]:List (Addr×Obj))from hp) (by simp),e0.hok.kept hk,?_⟩
 ·exact name_of_addr x.apart (aDY h1) (aDY h2)
 ·have hy:scope.names.lookup y=some .cell\/scope.names.lookup y=some .free:=hy
  rcases hy with hy|hy
  ·exact qB hy
  ·exact absurd rfl (S.nofree _ (aDY hy))
 ·exact Nat.le_of_lt (x.above y c (aDY h))
 ·have hi:i < vs.length:=by
   unfold start at h2
   by_cases hi:i < vs.length
   ·exact hi
   ·rw[aBL (by simpa using hi)]at h2
    rw[List.getElem?_replicate]at h2
    split at h2 <;> cases h2
  have ha:vs[i]?=some v:=by
   unfold start at h2
   rw[aAU (by simpa using hi),aBR]at h2
   cases e:vs[i]? with
   |none=>rw[e]at h2;cases h2
   |some a=>rw[e]at h2;cases h2;rfl
  obtain⟨u,hu,rv⟩:=r.get ha
  have hp:ps[i]?=some y:=by
   rw[<- S.pre,aDW (by lia)];exact h1
  have ndP:ps.Nodup:=by rw[<- S.pre];exact S.nd.sublist (List.take_sublist _ _)
  refine⟨u,rv,?_⟩
  rcases S.par y (aBE hp)with k|k
  ·exact .inl ⟨k,mO ndP hp hu k⟩
  ·obtain⟨c,e⟩:=qB (n:=s.heap.objs.size+1) k
   refine .inr ⟨.inl k,c,e,?_⟩
   have q:=x.cell y c e
   rw[mV ndP hp hu (by show scope.names.lookup y≠_;rw[k];decide)]at q
   exact q
 ·exact e0.hok.fresh (Nat.le_of_lt (x.above y c (aDY h)))
 ·unfold start
  show _=N.length
  rw[aCF,aAL,aGB]
  lia
theorem wZ{k:Nat}{params:Arguments}{dV kV doc pm cdv ct oc:Value}{an od:Option Addr}
  {sp:Sp}(lk:K.lookup f=some ⟨oc,od,.func (fnOf name qual params body scope dV kV doc pm an cdv ct),osl⟩)(hcd:codeIn K cdv qual=true)(S:FnScope N ps scope)
  (len:∀vs H Q E,sp vs H Q E->vs.length=ps.length)
  (hbody:∀(A:Around) (outer:List Env) (s:Shared) (H:Hp) (vs:List V) (Q:VK) (E:XK),Room k (A.deeper (envOfC qual scope s.heap.objs.size f cdv))->sp vs H Q E ->
   ∃t,PSs (cxOf CX P w K mg base N qual scope f cdv A outer s H E) body t/\t {nx:=λ_ H'=>Q .non H',rt:=Q} (start N vs) H) :
  FnOk P w K mg base CX (k+1) f (fnOf name qual params body scope dV kV doc pm an cdv ct) ps sp:=by
 refine⟨len,λA outer s H args us vs Q E hr e0 hb r hsp=>?_⟩
 have hl:=len _ _ _ _ hsp
 have KX:K.In s.heap:=e0.mod.kin.keeps λb o e=>(e0.bs b o e).1
 have lim:s.heap.NoLimit:=e0.mod.nolimit.keeps λb o e=>(e0.bs b o e).1
 have hkind:∀y∈ps.zip us,scope.names.lookup y.1=some .local\/(scope.names.lookup y.1=some .cell/\((cellsFrom (s.heap.objs.size+1) scope.names []).lookup y.1).isSome=true):=λ⟨n,v⟩ hy=>by
  rcases S.par n (List.of_mem_zip hy).1 with q|q
  ·exact .inl q
  ·exact .inr ⟨q,PySem.W.cellsFrom_some _ _ _ (.inl q)⟩
 refine codeAny_call_function hr.depth (KX _ _ lk) rfl S.co S.gen rfl (PySem.W.codeRec_of KX hcd) (hb _ _ _ _ ?_)
 refine wpAny_newFunctionEnv_cells S.kind hkind λenv he s1 x=>?_
 subst he
 refine⟨lim.keeps x.toInCall.keep,codeAny_func ?_⟩
 obtain⟨t,ht,hq⟩:=hbody A outer s H vs Q E (hr.deeper _) hsp
 have I:Inv (cxOf CX P w K mg base N qual scope f cdv A outer s H E) [] (start N vs) H s1:=vW S hr.hd e0 hl r x
 refine aCN (ht [] s1 (start N vs) H _ I hq) (λfl s' hs=>?_) λe s' hs=>hs
 have fin:∀{σ':St} {H':Hp} {v:V} {u:Value},Inv (cxOf CX P w K mg base N qual scope f cdv A outer s H E) [] σ' H' s'->RelV v u->Q v H'->CE outer P w H s Q u s' :=
  λ{σ' H' v u} J rv q=>⟨v,H',J.os,J.bare,J.base,J.hok,rv,q⟩
 cases fl with
 |ret u =>
  obtain⟨v,σ',H',J,rv,q⟩:=hs
  exact fin J rv q
 |next =>
  obtain⟨σ',H',J,q⟩:=hs
  exact fin (v:=V.non) (u:=Value.none) J rfl q
 |brk =>
  obtain⟨_,_,_,q⟩:=hs
  exact False.elim q
 |cont =>
  obtain⟨_,_,_,q⟩:=hs
  exact False.elim q
section
variable{t:TA}{id T:String}{r:List V->Hp->VK->Prop}
noncomputable def tCB(r:List V->Hp->VK->Prop)(t:TA):TE:=λσ H Q=>t σ H λvs H1=>r vs H1 Q
theorem iT(hc:CallR X (.builtin id) r)(hg:Gl X x)(hm:X.mg x=none)(hv:bootBuiltins x=some (.builtin id))(ha:PA X (e::es) t)(hn:x≠"__name__":=by decide)(hdb:(x==("__debug__":Str))=false:=by decide)
  (he:starEach (e::es) X.env=(false,eval e X.env)::starEach es X.env:=by rfl)(hpl:(backTo pos (starEach es X.env)).any (·.1)=false:=by rfl):PE X (.Call (.Name x p) (e::es) [] pos) (tCB r t):=by
 intro pins s σ H Q I h
 refine aDB (gM I hg hm hv ?_ hn hdb)
 exact PyProof.Rows.callWith_builtin1 (thn (ha pos pins s σ H _ I h) λus s1 ⟨vs,H1,I1,r1,q1⟩=>hc pins s1 σ H1 vs us Q I1 r1 q1) he hpl
theorem uZ(hc:CallR X (.type T) r)(hg:Gl X x)(hm:X.mg x=none)(hv:bootBuiltins x=some (.type T))(ha:PA X (e::es) t)(hn:x≠"__name__":=by decide)(hdb:(x==("__debug__":Str))=false:=by decide)
  (he:starEach (e::es) X.env=(false,eval e X.env)::starEach es X.env:=by rfl)(hpl:(backTo pos (starEach es X.env)).any (·.1)=false:=by rfl):PE X (.Call (.Name x p) (e::es) [] pos) (tCB r t):=by
 intro pins s σ H Q I h
 refine aDB (gM I hg hm hv ?_ hn hdb)
 exact aCW (thn (ha pos pins s σ H _ I h) λus s1 ⟨vs,H1,I1,r1,q1⟩=>hc pins s1 σ H1 vs us Q I1 r1 q1) he hpl
end
end L2
end
variable{H H' H1 H2:L2.Hp}{X:L2.Cx}{v y:L2.V}{ta tb te:L2.TE}{vs:List L2.V}{R:PySem.Addr->L2.Hp->Prop}{r:List L2.V->L2.Hp->L2.VK->Prop}{CX:L2.CXT}{sp:L2.Sp}{kvs:List (L2.Key×L2.V)}
section
open PySem PySem.Spec PyProof.Rows
end
namespace HT
open PySem PyProof.Rows
noncomputable def lexLt:List Int->List Int->Bool
 |[],[]=>false
 |[],_::_=>true
 |_::_,[]=>false
 |x::xs,y::ys=>if x=y then lexLt xs ys else decide (x < y)
section
open PySem.SeqAt
open PySem.AutoSeq1 (wpAny_loadPart')
open PySem.MeetsSeq PySem.MeetsSeq2 PySem.MeetsSeq3
end
variable{prog:Program}{E:Value->Shared->Prop}
theorem cat_tup{t b:Addr}{vs ws:List Value}(ht:IsTup s.heap t vs.toArray)(hb:IsTup s.heap b ws.toArray)(hv:vs≠[])
  (h1:ws=[]->Q (.ref t) s)(h2:ws≠[]->Q (.ref s.heap.objs.size) {s with heap:=s.heap.push {cls:=.type "tuple",data:=.seq (vs++ws).toArray}})
  (hsz:vs.length+ws.length<=sizeLine):wpAny (model prog w) A (binaryOp .Add (.ref t) (.ref b)) Q E s:=by
 obtain⟨⟨cls,dd,data,sl⟩,ho,hc,n,hd⟩:=id ht
 obtain⟨⟨cls2,dd2,data2,sl2⟩,ho2,hc2,n2,hd2⟩:=id hb
 simp only at hc hd hc2 hd2
 subst hc hd hc2 hd2
 have e:vs.toArray++ws.toArray=(vs++ws).toArray:=by simp
 by_cases hw:ws=[]
 ·exact concat_meets ⟨_,ho,rfl⟩ ⟨_,ho2,rfl⟩ noFill_tuple_add seq_tuple_add aFP aFK (aFG _ _)
   (tuple_addW1 t b vs.toArray ws.toArray n n2 dd dd2 sl sl2 (by simpa using hv) (by simp[hw])) ⟨ho,ho2,h1 hw⟩
 ·refine concat_meets ⟨_,ho,rfl⟩ ⟨_,ho2,rfl⟩ noFill_tuple_add seq_tuple_add aFP aFK (aFG _ _)
   (tuple_addW2 t b vs.toArray ws.toArray n n2 dd dd2 sl sl2 (by simpa using hv) (by simpa using hw) (by rw[aAK,aAK];exact hsz)) ⟨ho,ho2,?_⟩
  rw[e]
  exact h2 hw
noncomputable def sIx(n d:Nat):Option Int->Nat
 |none=>d
 |some v=>if v < 0 then(v+(n:Int)).toNat else min v.toNat n
theorem sIx_none(n d:Nat):sIx n d none=d:=rfl
theorem sIx_nat(n d k:Nat):sIx n d (some (k:Int))=min k n:=by
 show(if(k:Int) < 0 then((k:Int)+(n:Int)).toNat else min (k:Int).toNat n)=min k n
 rw[aAI (by lia),aCV]
theorem aCg(n d:Nat)(hd:d<=n)(o:Option Int):sIx n d o<=n:=by
 cases o with
 |none=>exact hd
 |some v =>
  show(if v < 0 then(v+(n:Int)).toNat else min v.toNat n)<=n
  by_cases hv:v < 0
  ·rw[aAH hv];lia
  ·rw[aAI hv];exact Nat.min_le_right _ _
theorem tY(v:Int)(n d:Nat):(if v < 0 then max (v+(n:Int)) 0 else min v (n:Int))=((sIx n d (some v):Nat):Int):=by
 show(if v < 0 then max (v+(n:Int)) 0 else min v (n:Int))=(((if v < 0 then(v+(n:Int)).toNat else min v.toNat n):Nat):Int)
 by_cases hv:v < 0
 ·simp only[aAH hv];lia
 ·simp only[aAI hv];lia
theorem qL(lo hi:Option Int)(n:Nat):Builtin.Slice.sliceAdjust lo hi 1 (n:Int)=(((sIx n 0 lo:Nat):Int),((sIx n n hi:Nat):Int)):=by
 have h1:¬((1:Int) < 0):=by lia
 unfold Builtin.Slice.sliceAdjust
 simp only[h1,aBU]
 refine Prod.ext ?_ ?_
 ·cases lo with
  |none=>rfl
  |some v=>exact tY v n 0
 ·cases hi with
  |none=>rfl
  |some v=>exact tY v n n
theorem rR(i j:Nat):Builtin.Slice.slicePlaces (i:Int) (j:Int) 1=j - i:=by
 unfold Builtin.Slice.slicePlaces
 have h1:(1:Int) > 0:=by lia
 simp only[h1,aCI,Int.ediv_one]
 split <;> lia
theorem kZ{v:Value}{o:Option Int}{Q:Option Int->Shared->Prop}(p:IsPart v o)(h:Q o s):wpAny (model prog w) A (Builtin.Slice.slicePartIndex v) Q E s:=by
 cases p with
 |none=>exact slicePart_none h
 |int i t=>exact slicePart_int h
variable{sl:Addr}
theorem eM{vl vu:Value}{Q:Int×Int×Nat->Shared->Prop}(hs:s.heap.IsSliceOf sl vl vu .none)(pl:IsPart vl lo)(pu:IsPart vu hi)
  (h:Q (((sIx n 0 lo:Nat):Int),1,sIx n n hi - sIx n 0 lo) s):wpAny (model prog w) A (Builtin.Slice.sliceApplied (.ref sl) (pure (n:Int))) Q E s:=by
 obtain⟨os,hos,hcs,hds⟩:=id hs
 unfold Builtin.Slice.sliceApplied Builtin.Slice.sliceFields
 refine aAA (aAA (aAV hos hds (x:=vl) rfl (aAA (aAV hos hds (x:=vu) rfl (aAA (aAV hos hds (x:=.none) rfl (aAC ?_)))))))
 refine aAA (slicePart_none ?_)
 show wpAny _ _ (if((1:Int)==0)=true then _ else _) _ _ s
 rw[aAI (by decide)]
 refine aAA (kZ pl (aAA (kZ pu (aAA (aAC ?_)))))
 show wpAny _ _ (match Builtin.Slice.sliceAdjust lo hi 1 (n:Int)with|(lo,hi)=>pure (lo,(1:Int),Builtin.Slice.slicePlaces lo hi 1)) _ _ s
 rw[qL lo hi n]
 show wpAny _ _ (pure (((sIx n 0 lo:Nat):Int),(1:Int),Builtin.Slice.slicePlaces ((sIx n 0 lo:Nat):Int) ((sIx n n hi:Nat):Int) 1)) _ _ s
 rw[rR]
 exact aAC h
theorem wT(xs:Array Value)(i k:Nat):((List.range k).filterMap λ(m:Nat)=>xs[((i:Int)+(m:Int)*1).toNat]?).toArray=((xs.toList.drop i).take k).toArray:=by
 have e:(λ(m:Nat)=>xs[((i:Int)+(m:Int)*1).toNat]?)=λm=>xs[i+m]?:=by
  funext m
  have:((i:Int)+(m:Int)*1).toNat=i+m:=by lia
  rw[this]
 rw[e]
 have:=pick_run xs i k
 rw[List.filterMap_map]at this
 have e2:((λx=>xs[x]?) ∘ λx=>i+x)=λm=>xs[i+m]?:=rfl
 rw[e2]at this
 rw[this]
theorem getItem_tuple_cut{t:Addr}{vl vu:Value}(ht:IsTup s.heap t items)(hs:s.heap.IsSliceOf sl vl vu .none)(pl:IsPart vl lo)(pu:IsPart vu hi)
  (hw:¬(sIx items.size 0 lo=0/\sIx items.size items.size hi=items.size))
  (h:Q (.ref s.heap.objs.size) {s with heap:=s.heap.push {cls:=.type "tuple",data:=.seq ((items.toList.drop (sIx items.size 0 lo)).take (sIx items.size items.size hi - sIx items.size 0 lo)).toArray}})
  (hsz:items.size<=sizeLine):wpAny (model prog w) A (getItem (.ref t) (.ref sl)) Q E s:=by
 have htake:sizeOk (.seq ((items.toList.drop (sIx items.size 0 lo)).take (sIx items.size items.size hi - sIx items.size 0 lo)).toArray):=by
  show((items.toList.drop (sIx items.size 0 lo)).take (sIx items.size items.size hi - sIx items.size 0 lo)).toArray.size<=sizeLine
  rw[aAK,aDI,aFW,aGN]
  lia
 have hj:sIx items.size items.size hi<=items.size:=aCg _ _ (aAE _) hi
 obtain⟨os,hos,hcs,hds⟩:=id hs
 have hTs:s.TypeIs (.ref sl) "slice":=⟨os,hos,hcs⟩
 unfold getItem
 try with_reducible refine aBV ?_
 first|refine aAA (aAC ?_)|skip
 refine aAA (wpAny_sequenceKey ht.typeIs (by decide) ?_)
 refine aAA (aBT (name:=Str.ofString "__getitem__") ht.typeIs aBS
  (aBQ aBS ht.typeIs entry_tuple_getitem ?_ (args_tuple_getitem _ _)))
 show wpAny _ _ (Builtin.Tuple.tupleItemsOf (.ref t) >>= _) _ _ s
 refine aAA (tupleItemsOf_ ht ?_)
 refine aAA (aEO hTs ?_)
 rw[aAH (by decide)]
 refine aAA (eM hs pl pu ?_)
 have hno:¬((((sIx items.size 0 lo:Nat):Int)==0&&(1:Int)==1&&(sIx items.size items.size hi - sIx items.size 0 lo)==items.size)=true):=by
  intro q
  rw[aBO,aBO]at q
  have q1:((sIx items.size 0 lo:Nat):Int)=0:=eq_of_beq q.1.1
  have q2:sIx items.size items.size hi - sIx items.size 0 lo=items.size:=eq_of_beq q.2
  exact hw ⟨by lia,by lia⟩
 show wpAny _ _ (if(((sIx items.size 0 lo:Nat):Int)==0&&(1:Int)==1&&(sIx items.size items.size hi - sIx items.size 0 lo)==items.size)=true then _ else _) _ _ s
 rw[aAI hno,wT]
 first
  |exact aAA (m:=Builtin.Tuple.tupleExact _) (aAZ (aAC ⟨_,rfl,aAC h⟩) htake)
  |exact aAA (m:=Builtin.Tuple.tupleExact _) (aAZ (aAA (aAC (aAC ⟨_,rfl,aAC h⟩))) htake)
  |exact aAA (aAA (m:=Builtin.Tuple.tupleExact _) (aAZ (aAC (aAC ⟨_,rfl,aAC h⟩)) htake))
  |exact aAA (aAA (m:=Builtin.Tuple.tupleExact _) (aAZ (aAC ⟨_,rfl,aAC h⟩) htake))
end HT
section
open PySem PySem.Spec PyProof.Rows
namespace L2
noncomputable section
abbrev TO:=St->Hp->(Option Int->Hp->Prop)->Prop
def PO(X:Cx)(e:Option Expr)(t:TO):Prop :=
 ∀(pins:List (Addr×Obj)) (s:Shared) (σ:St) (H:Hp) (Q:Option Int->Hp->Prop),Inv X pins σ H s->t σ H Q ->
  wpAny (model X.prog X.w) X.A (evalPart e X.env) (λu s'=>∃o H',Inv X pins σ H' s'/\IsPart u o/\Q o H') X.xe s
def tNoPart:TO:=λ_ H Q=>Q none H
def tPart(t:TE):TO:=λσ H Q=>t σ H λx H1=>∃i,x=.int i/\Q (some i) H1
end
variable{e:Expr}{lo hi:Option Expr}{tl th:TO}
theorem yU:PO X none tNoPart:=by
 intro pins s σ H Q I h
 rw[evalPart_none]
 exact aAC ⟨none,H,I,.none,h⟩
theorem aBd(h:PE X e te):PO X (some e) (tPart te):=by
 intro pins s σ H Q I hw
 rw[evalPart_some]
 refine thn (h pins s σ H _ I hw) λu s1 ⟨x,H1,I1,r1,q1⟩=>?_
 obtain⟨i,rfl,q⟩:=q1
 obtain⟨t,rfl⟩:=r1
 exact⟨some i,H1,I1,.int i t,q⟩
noncomputable def SlR(X:Cx)(r:V->Option Int->Option Int->Hp->VK->Prop):Prop :=
 ∀(pins:List (Addr×Obj)) (s:Shared) (σ:St) (H:Hp) (x:V) (v vl vu:Value) (lo hi:Option Int) (sl:Addr) (Q:VK),Inv X pins σ H s->RelV x v->s.heap.IsSliceOf sl vl vu .none->IsPart vl lo->IsPart vu hi->r x lo hi H Q ->
  ∃T id,typeLookup (.type T) "__getitem__"=pure (some (.builtin id))/\s.TypeIs v T/\wpAny (model X.prog X.w) X.A (getItem v (.ref sl)) (EP X pins σ Q) X.xe s
variable{r:V->Option Int->Option Int->Hp->VK->Prop}
theorem SlR.or{r':V->Option Int->Option Int->Hp->VK->Prop}(h:SlR X r)(h':SlR X r'):SlR X (λx lo hi H Q=>r x lo hi H Q\/r' x lo hi H Q):=by
 intro pins s σ H x v vl vu lo hi sl Q I rx hs pl pu q
 rcases q with q|q
 ·exact h pins s σ H x v vl vu lo hi sl Q I rx hs pl pu q
 ·exact h' pins s σ H x v vl vu lo hi sl Q I rx hs pl pu q
noncomputable section
def tSl(r:V->Option Int->Option Int->Hp->VK->Prop)(te:TE)(tl th:TO):TE:=λσ H Q=>te σ H λx H1=>tl σ H1 λl H2=>th σ H2 λu H3=>r x l u H3 Q
theorem xV(hr:SlR X r)(he:PE X e te)(hl:PO X lo tl)(hu:PO X hi th):PE X (.Subscript e (.Slice lo hi none p2) pos) (tSl r te tl th):=by
 intro pins s σ H Q I h
 refine Subscript_ (thn (he pins s σ H _ I h) λv s1 ⟨x,H1,I1,r1,q1⟩=>?_)
 refine wpAny_Slice (thn (hl pins s1 σ H1 _ I1 q1) λvl s2 ⟨l,H2,I2,pl,q2⟩=>thn (hu pins s2 σ H2 _ I2 q2) λvu s3 ⟨u,H3,I3,pu,q3⟩=>?_)
 rw[evalPart_none]
 refine aAC ?_
 have I4:Inv X pins σ H3 {s3 with heap:=s3.heap.push {cls:=.type "slice",data:=.fields #[vl,vu,.none]}}:=I3.kept (t':=s3.toks) λb ob q=>aAB _ q
 obtain⟨T,id,hT,ht,hg⟩:=hr pins {s3 with heap:=s3.heap.push {cls:=.type "slice",data:=.fields #[vl,vu,.none]}} σ H3 x v vl vu l u s3.heap.objs.size Q I4 r1 (Heap.IsSliceOf.new ..) pl pu q3
 show wpAny (model X.prog X.w) X.A (subscriptTail e (.Slice lo hi none p2) v (.ref s3.heap.objs.size)) (EP X pins σ Q) X.xe {s3 with heap:=s3.heap.push {cls:=.type "slice",data:=.fields #[vl,vu,.none]}}
 exact tail_any (ops:=[.ref s3.heap.objs.size,v]) ht hT hg (by with_unfolding_all rfl)
def cutV(xs:List V)(lo hi:Option Int):List V:=(xs.drop (HT.sIx xs.length 0 lo)).take (HT.sIx xs.length xs.length hi - HT.sIx xs.length 0 lo)
theorem jZ(xs:List V)(lo hi:Option Int):(cutV xs lo hi).length<=xs.length:=by
 unfold cutV
 rw[aDI,aFW]
 lia
def rSlT(K:Frag):V->Option Int->Option Int->Hp->VK->Prop:=λx lo hi H Q=>∃a xs,x=.ref a/\SqT K H a xs /\
 ¬(HT.sIx xs.length 0 lo=0/\HT.sIx xs.length xs.length hi=xs.length)/\∀p,H p=none->Q (.ref p) (upd H p (.tup (cutV xs lo hi)))
theorem aEm:SlR X (rSlT X.K):=by
 intro pins s σ H x v vl vu lo hi sl Q I rx hs pl pu h
 obtain⟨a,xs,rfl,hx,hw,q⟩:=h
 cases rx
 obtain⟨its,r,ht,hz⟩:=I.tuple hx
 have hlen:its.toArray.size=xs.length:=by rw[aAK];exact r.length.symm
 refine⟨"tuple",_,aBS.lookup,ht.typeIs,?_⟩
 refine HT.getItem_tuple_cut ht hs pl pu (by rw[hlen];exact hw) ?_ (by rw[hlen];exact hz)
 rw[hlen]
 refine⟨.ref s.heap.objs.size,_,I.laid (t':=s.toks) (o:=.tup (cutV xs lo hi)) (λb ob q=>aAB _ q) (aAE _) ?_,rfl,q _ (I.hok.fresh (aAE _))⟩
 exact⟨aAX (jZ xs lo hi) hz,_,(r.drop (HT.sIx xs.length 0 lo)).take (HT.sIx xs.length xs.length hi - HT.sIx xs.length 0 lo),IsTup.new _ _⟩
def rCatT(K:Frag):R2:=λx y H Q=>∃a b xs ys,x=.ref a/\y=.ref b/\SqT K H a xs/\SqT K H b ys/\xs≠[]/\xs.length+ys.length<=sizeLine /\
 (ys=[]->Q (.ref a) H)/\(ys≠[]->∀p,H p=none->Q (.ref p) (upd H p (.tup (xs++ys))))
end
variable{xs:List V}
theorem Vals.nil_iff(r:Vals xs us):us=[] ↔ xs=[]:=by
 cases r with
 |nil=>simp
 |cons _ _=>simp
theorem aBj:OpR X (binaryOp .Add) (rCatT X.K):=by
 intro pins s σ H x y v u Q I rx ry h
 obtain⟨a,b,xs,ys,rfl,rfl,ha,hb,hx,hz,q1,q2⟩:=h
 cases rx
 cases ry
 obtain⟨its,r1,p1,_⟩:=I.tuple ha
 obtain⟨its2,r2,p2,_⟩:=I.tuple hb
 refine HT.cat_tup p1 p2 (λz=>hx (r1.nil_iff.mp z)) (λz=>⟨.ref a,H,I,rfl,q1 (r2.nil_iff.mp z)⟩) (λz=>?_) (by rw[<- r1.length,<- r2.length];exact hz)
 refine⟨.ref s.heap.objs.size,_,I.laid (t':=s.toks) (o:=.tup (xs++ys)) (λb ob q=>aAB _ q) (aAE _) ?_,rfl,q2 (λw=>z (r2.nil_iff.mpr w)) _ (I.hok.fresh (aAE _))⟩
 exact⟨by rw[aCF];exact hz,_,r1.append r2,IsTup.new _ _⟩
noncomputable def ixN(n:Nat)(i:Int):Option Nat:=if 0<=i then(if i < n then some i.toNat else none)else if -(n:Int)<=i then some (i+n).toNat else none
noncomputable def atI(xs:List α)(i:Int):Option α:=(ixN xs.length i).bind λj=>xs[j]?
variable{i:Int}
theorem tI(h:ixN n i=some j):seqIndex? i n=some j/\j < n /\ -(n:Int)<=i/\i < n:=by
 unfold ixN at h
 by_cases h0:0<=i
 ·rw[aAH h0]at h
  by_cases h1:i < n
  ·rw[aAH h1]at h
   have e:i.toNat=j:=Option.some.inj h
   exact⟨by rw[seqIndex_of h0 h1,e],by lia,by lia,h1⟩
  ·rw[aAI h1]at h;cases h
 ·rw[aAI h0]at h
  by_cases h1 : -(n:Int)<=i
  ·rw[aAH h1]at h
   have e:(i+n).toNat=j:=Option.some.inj h
   exact⟨by rw[seqIndex_neg (by lia) h1,e],by lia,h1,by lia⟩
  ·rw[aAI h1]at h;cases h
theorem nU{xs:List α}{v:α}(h:atI xs i=some v):∃j,seqIndex? i xs.length=some j/\xs[j]?=some v/\j < xs.length /\ -(xs.length:Int)<=i/\i < xs.length:=by
 unfold atI at h
 cases e:ixN xs.length i with
 |none=>rw[e]at h;cases h
 |some j =>
  rw[e]at h
  obtain⟨h1,h2,h3,h4⟩:=tI e
  exact⟨j,h1,h,h2,h3,h4⟩
noncomputable section
def PlainIx(b:Expr):Prop:=∀o i,subscripted b false o i=operate [o,i] (getItem o i)
def IxR(X:Cx)(r:R2):Prop :=
 ∀(value slice:Expr) (pins:List (Addr×Obj)) (s:Shared) (σ:St) (H:Hp) (x y:V) (v u:Value) (Q:VK),Inv X pins σ H s->RelV x v->RelV y u->r x y H Q ->
  subscripted slice false v u=operate [v,u] (getItem v u)->wpAny (model X.prog X.w) X.A (subscriptTail value slice v u) (EP X pins σ Q) X.xe s
def MtR(X:Cx)(id:String)(r:V->List V->Hp->VK->Prop):Prop :=
 ∀(pins:List (Addr×Obj)) (s:Shared) (σ:St) (H:Hp) (x:V) (xs:List V) (v:Value) (us:List Value) (Q:VK),Inv X pins σ H s->RelV x v->Vals xs us->r x xs H Q ->
  wpAny (model X.prog X.w) X.A (call (.builtin id) (v::us)) (EP X pins σ Q) X.xe s
end
section
variable{a b:Expr}{r:R2}
theorem IxR.or{r':R2}(h:IxR X r)(h':IxR X r'):IxR X (λx y H Q=>r x y H Q\/r' x y H Q):=by
 intro value slice pins s σ H x y v u Q I rx ry q hs
 rcases q with q|q
 ·exact h value slice pins s σ H x y v u Q I rx ry q hs
 ·exact h' value slice pins s σ H x y v u Q I rx ry q hs
theorem aGq(hr:IxR X r)(ha:PE X a ta)(hb:PE X b tb)(hs:PlainIx b):PE X (.Subscript a b pos) (tOp r ta tb):=by
 intro pins s σ H Q I h
 exact Subscript_ (binT ha hb I h λv u s2 x y H2 I2 rx ry q=>hr a b pins s2 σ H2 x y v u Q I2 rx ry q (hs _ _))
noncomputable section
def rIxL(K:Frag):R2:=λx y H Q=>∃p xs i v,x=.ref p/\y=.int i/\SqL K H p xs/\atI xs i=some v/\Q v H
def rIxT(K:Frag):R2:=λx y H Q=>∃p xs i v,x=.ref p/\y=.int i/\SqT K H p xs/\atI xs i=some v/\Q v H
def rIxS:R2:=λx y H Q=>∃z i c,x=.str z/\y=.int i/\z.length<=sizeLine/\atI z.cps.toList i=some c/\Q (.str ⟨#[c]⟩) H
theorem zG:IxR X (rIxL X.K):=by
 intro value slice pins s σ H x y v u Q I rx ry h hs
 obtain⟨p,xs,i,z,rfl,rfl,hq,he,q⟩:=h
 cases rx
 obtain⟨t,rfl⟩:=ry
 obtain⟨its,r,pl,hz⟩:=I.list hq
 obtain⟨j,h1,h2,h3,h4,h5⟩:=nU he
 obtain⟨w,ew,rw'⟩:=r.get h2
 have hl:=r.length
 have hn:=line63
 have fin:EP X pins σ Q w s:=⟨z,H,I,rw',q⟩
 by_cases h0:0<=i
 ·have hj:i.toNat=j:=by
   rw[seqIndex_of h0 h5]at h1
   exact Option.some.inj h1
  exact item_listR pl.isList h0 (by lia) (by rw[hj];simpa using ew) fin hs
 ·have hj:(i+(its.toArray.size:Int)).toNat=j:=by
   rw[seqIndex_neg (by lia) h4]at h1
   rw[aAK,<- hl]
   exact Option.some.inj h1
  exact subscriptTail_builtinR (x:=w) pl.isList.typeIs slot_list_getitem.lookup
   (wpAny_getItem_list_neg (Q:=λr s'=>r=w/\EP X pins σ Q r s') pl.isList (by lia) (by rw[aAK] <;> lia) (by lia) (by rw[hj];simpa using ew) ⟨rfl,fin⟩) hs
theorem aFa:IxR X (rIxT X.K):=by
 intro value slice pins s σ H x y v u Q I rx ry h hs
 obtain⟨p,xs,i,z,rfl,rfl,hq,he,q⟩:=h
 cases rx
 obtain⟨t,rfl⟩:=ry
 obtain⟨its,r,pl,hz⟩:=I.tuple hq
 obtain⟨j,h1,h2,h3,h4,h5⟩:=nU he
 obtain⟨w,ew,rw'⟩:=r.get h2
 have hl:=r.length
 have hn:=line63
 have fin:EP X pins σ Q w s:=⟨z,H,I,rw',q⟩
 exact subscriptTail_builtinR (x:=w) pl.typeIs slot_tuple_getitem.lookup
  (getItem_tuple (j:=j) (Q:=λr s'=>r=w/\EP X pins σ Q r s') pl (by lia) (by lia) (by rw[aAK,<- hl];exact h1) (by simpa using ew) ⟨rfl,fin⟩) hs
theorem aEg:IxR X rIxS:=by
 intro value slice pins s σ H x y v u Q I rx ry h hs
 obtain⟨z,i,c,rfl,rfl,hz,he,q⟩:=h
 obtain⟨t,rfl⟩:=rx
 obtain⟨t',rfl⟩:=ry
 obtain⟨j,h1,h2,h3,h4,h5⟩:=nU he
 have hl:z.cps.toList.length=z.length:=by simp[Str.length]
 rw[hl]at h1 h4 h5
 have hn:=line63
 exact tail_any (typeIs_str s z t) slot_str_getitem.lookup (getItem_str (c:=c) (by
  have e1:decide (i < -(2 ^ 63:Int))=false:=aBW (by lia)
  have e2:decide (i>=2 ^ 63)=false:=aBW (by lia)
  rw[e1,e2,Bool.or_false]) (by rw[h1];simpa using h2) ⟨.str ⟨#[c]⟩,H,I.tok _,⟨_,rfl⟩,q⟩) hs
def rIx(K:Frag):R2:=λx y H Q=>rIxL K x y H Q\/rIxT K x y H Q\/rIxS x y H Q
end
theorem aFd:IxR X (rIx X.K):=zG.or (aFa.or aEg)
theorem sC(its:List Value)(n j:Nat)(u:Value):Obj.mapSeq (·.setIfInBounds j u) {cls:=.type "list",data:=.seq its.toArray n}={cls:=.type "list",data:=.seq (its.set j u).toArray n}:=by
 simp[Obj.mapSeq]
theorem Inv.lst{pins:List (Addr×Obj)}{σ:St}{H:Hp}{s:Shared}{p:Addr}{xs:List V}(I:Inv X pins σ H s)(h:H p=some (.lst xs)) :
  ∃(its:List Value) (n:Nat),Vals xs its/\s.heap.get? p=some {cls:=.type "list",data:=.seq its.toArray n}/\xs.length<=sizeLine:=by
 obtain⟨z,its,n,r,e⟩:=I.hok p _ h
 exact⟨its,n,r,e,z⟩
variable{σ:St}
theorem Inv.lstUpd{p:Addr}{ys:List V}{its':List Value}{n':Nat}{f:Obj->Obj}(I:Inv X pins σ H s)(h:H p=some (.lst xs))
  (ho:s.heap.get? p=some {cls:=.type "list",data:=.seq its.toArray n})(hf:f {cls:=.type "list",data:=.seq its.toArray n}={cls:=.type "list",data:=.seq its'.toArray n'})(r:Vals ys its')(hz:ys.length<=sizeLine)(t:Nat) :
  Inv X pins σ (upd H p (.lst ys)) {s with heap:=s.heap.update p f,toks:=t}:=by
 have e:(s.heap.update p f).get? p=some {cls:=.type "list",data:=.seq its'.toArray n'}:=by
  rw[aCD f ho (by rw[hf] <;> rfl),hf]
 refine I.write (x:=p) (e:=p) (by rw[h];trivial) (.inl rfl) (λb u hb q=>(aDJ _ _ (Ne.symm hb)).trans q) ⟨_,e⟩ ?_
 exact⟨hz,its',n',r,e⟩
noncomputable section
def rSetL:V->V->V->Hp->(Hp->Prop)->Prop:=λo i v H Q=>∃p xs k j,o=.ref p/\i=.int k/\H p=some (.lst xs)/\ixN xs.length k=some j/\Q (upd H p (.lst (xs.set j v)))
theorem xB:PSet X rSetL:=by
 intro pins s σ H o i v ov iv u Q I ro ri rv h
 obtain⟨p,xs,k,j,rfl,rfl,hp,hj,q⟩:=h
 cases ro
 obtain⟨t,rfl⟩:=ri
 obtain⟨its,n,r,ho,hz⟩:=I.lst hp
 obtain⟨h1,h2,h3,h4⟩:=tI hj
 have hl:=r.length
 have hn:=line63
 have I':Inv X pins σ (upd H p (.lst (xs.set j v))) {s with heap:=s.heap.update p (Obj.mapSeq (·.setIfInBounds j u))} :=
  I.lstUpd hp ho (sC its n j u) (r.set rv j) (by rw[List.length_set];exact hz) s.toks
 by_cases h0:0<=k
 ·have hk:k.toNat=j:=by
   rw[seqIndex_of h0 h4]at h1
   exact Option.some.inj h1
  exact PySem.W.ki_setAt ho h0 (by lia) (by rw[aAK,<- hl];exact h4) (by rw[hk];exact⟨_,I',q⟩)
 ·have hk:(k+(its.toArray.size:Int)).toNat=j:=by
   rw[seqIndex_neg (by lia) h3]at h1
   rw[aAK,<- hl]
   exact Option.some.inj h1
  exact PySem.W.ki_setBack ho (by lia) (by rw[aAK,<- hl];exact h3) (by lia) (by rw[hk];exact⟨_,I',q⟩)
theorem oB(lo hi:Option Int)(n:Nat):(sliceBounds lo hi none n).1=((HT.sIx n 0 lo:Nat):Int)/\(sliceBounds lo hi none n).2.1=((HT.sIx n n hi:Nat):Int)/\(sliceBounds lo hi none n).2.2=1:=by
 refine⟨?_,?_,rfl⟩
 ·cases lo with
  |none=>simp[sliceBounds,HT.sIx]
  |some i =>
   simp only[sliceBounds,HT.sIx,Option.getD_none,show(1:Int) > 0 by decide,aCI]
   by_cases h:i < 0
   ·simp only[h,aCI] <;> lia
   ·simp only[h,aBU] <;> lia
 ·cases hi with
  |none=>simp[sliceBounds,HT.sIx]
  |some i =>
   simp only[sliceBounds,HT.sIx,Option.getD_none,show(1:Int) > 0 by decide,aCI]
   by_cases h:i < 0
   ·simp only[h,aCI] <;> lia
   ·simp only[h,aBU] <;> lia
theorem lY(its:List Value)(lo hi:Option Int):slicePick its.toArray lo hi none=((its.drop (HT.sIx its.length 0 lo)).take (HT.sIx its.length its.length hi - HT.sIx its.length 0 lo)).toArray:=by
 obtain⟨h1,h2,h3⟩:=oB lo hi its.toArray.size
 unfold slicePick
 rw[h1,h2,h3]
 simp only[sliceRange_one,pick_run,aAK] <;> rfl
def rSlL(K:Frag):V->Option Int->Option Int->Hp->VK->Prop:=λx lo hi H Q=>∃a xs,x=.ref a/\SqL K H a xs/\∀p,H p=none->Q (.ref p) (upd H p (.lst (cutV xs lo hi)))
theorem aBo:SlR X (rSlL X.K):=by
 intro pins s σ H x v vl vu lo hi sl Q I rx hs pl pu h
 obtain⟨a,xs,rfl,hx,q⟩:=h
 cases rx
 obtain⟨its,r,ht,hz⟩:=I.list hx
 have hlen:=r.length
 refine⟨"list",_,slot_list_getitem.lookup,ht.isList.typeIs,?_⟩
 refine wpAny_getItem_list_slice ht.isList hs pl pu .none (by simp) ?_ (by rw[aAK] <;> lia)
 rw[lY,<- hlen]
 refine⟨.ref s.heap.objs.size,_,I.laid (t':=s.toks) (o:=.lst (cutV xs lo hi)) (λb ob q=>aAB _ q) (aAE _) ?_,rfl,q _ (I.hok.fresh (aAE _))⟩
 exact⟨aAX (jZ xs lo hi) hz,_,0,(r.drop (HT.sIx xs.length 0 lo)).take (HT.sIx xs.length xs.length hi - HT.sIx xs.length 0 lo),aAM _ rfl⟩
def flatV:V->Bool
 |.non=>true
 |.bl _=>true
 |.int _=>true
 |.str _=>true
 |_=>false
def eqV:V->V->Bool
 |.non,.non=>true
 |.bl a,.bl b=>a==b
 |.bl a,.int b=>(if a then 1 else 0)==b
 |.int a,.bl b=>a==(if b then 1 else 0)
 |.int a,.int b=>a==b
 |.str a,.str b=>a==b
 |_,_=>false
end
variable{x:V}{v:Value}
theorem xW(ry:RelV y u)(rx:RelV x v)(fy:flatV y=true)(fx:flatV x=true):SeqAt.EqAt A s u v (eqV y x):=by
 cases y with
 |non =>
  cases ry
  cases x with
  |non=>cases rx;exact SeqAt.EqAt.same _
  |bl b=>cases rx;exact SeqAt.EqAt.none_bool b
  |int b=>obtain⟨t,rfl⟩:=rx;exact SeqAt.EqAt.none_int b t
  |str b=>obtain⟨t,rfl⟩:=rx;exact SeqAt.EqAt.none_str b t
  |_=>exact absurd (show false=true from fx) aBI
 |bl a =>
  cases ry
  cases x with
  |non=>cases rx;exact SeqAt.EqAt.bool_none a
  |bl b=>cases rx;exact SeqAt.EqAt.bool_bool a b
  |int b=>obtain⟨t,rfl⟩:=rx;exact SeqAt.EqAt.bool_int a b t
  |str b=>obtain⟨t,rfl⟩:=rx;exact SeqAt.EqAt.bool_str a b t
  |_=>exact absurd (show false=true from fx) aBI
 |int a =>
  obtain⟨t',rfl⟩:=ry
  cases x with
  |non=>cases rx;exact SeqAt.EqAt.int_none a t'
  |bl b=>cases rx;exact SeqAt.EqAt.int_bool a t' b
  |int b=>obtain⟨t,rfl⟩:=rx;exact SeqAt.EqAt.int_int a t' b t
  |str b=>obtain⟨t,rfl⟩:=rx;exact SeqAt.EqAt.int_str a t' b t
  |_=>exact absurd (show false=true from fx) aBI
 |str a =>
  obtain⟨t',rfl⟩:=ry
  cases x with
  |non=>cases rx;exact SeqAt.EqAt.str_none a t'
  |bl b=>cases rx;exact SeqAt.EqAt.str_bool a t' b
  |int b=>obtain⟨t,rfl⟩:=rx;exact SeqAt.EqAt.str_int a t' b t
  |str b=>obtain⟨t,rfl⟩:=rx;exact SeqAt.EqAt.str_str a t' b t
  |_=>exact absurd (show false=true from fx) aBI
 |_=>exact absurd (show false=true from fy) aBI
noncomputable section
def eqU(x:V)(u:Value):Bool:=match u with
 |.none=>eqV .non x
 |.bool b=>eqV (.bl b) x
 |.int i _=>eqV (.int i) x
 |.str z _=>eqV (.str z) x
 |_=>false
theorem xH(r:RelV y u)(f:flatV y=true):eqU x u=eqV y x:=by
 cases y with
 |non=>cases r;rfl
 |bl b=>cases r;rfl
 |int i=>obtain⟨t,rfl⟩:=r;rfl
 |str z=>obtain⟨t,rfl⟩:=r;rfl
 |_=>exact absurd (show false=true from f) aBI
theorem iI{x:V}:∀{xs:List V} {us:List Value},Vals xs us->xs.all flatV=true->us.any (eqU x)=xs.any λy=>eqV y x
 |_,_,.nil,_=>rfl
 |y::xs,u::us,.cons r t,f=>by
  rw[aFT,aBO]at f
  rw[aEB,aEB,xH r f.1,iI t f.2]
theorem fS{A:Around}{s:Shared}{x:V}{v:Value}(rx:RelV x v)(fx:flatV x=true):∀{xs:List V} {us:List Value},Vals xs us->xs.all flatV=true->∀u∈us,SeqAt.EqAt A s u v (eqU x u)
 |_,_,.nil,_=>λu hu=>by cases hu
 |y::xs,u::us,.cons r t,f=>λu' hu=>by
  rw[aFT,aBO]at f
  rcases aBK.mp hu with rfl|hu
  ·rw[xH r f.1];exact xW r rx f.1 fx
  ·exact fS rx fx t f.2 u' hu
def inV(x:V)(xs:List V):Bool:=xs.any λy=>eqV y x
def rIn(K:Frag)(neg:Bool):R2:=λx y H Q=>∃p xs,y=.ref p/\(SqL K H p xs\/SqT K H p xs)/\flatV x=true/\xs.all flatV=true/\Q (.bl (if neg then !inV x xs else inV x xs)) H
theorem uO:OpR X (compareOp .In) (rIn X.K false):=by
 intro pins s σ H x y v u Q I rx ry h
 obtain⟨p,xs,rfl,hq,fx,fs,q⟩:=h
 cases ry
 rcases hq with hq|hq
 ·obtain⟨its,r,pl,hz⟩:=I.list hq
  refine SeqAt.in_listAt (eqU x) pl.isList (λw hw=>fS rx fx r fs w (by simpa using hw)) ⟨.bl _,H,I,rfl,?_⟩
  rw[show its.toArray.any (eqU x)=its.any (eqU x) by simp,iI r fs]
  exact q
 ·obtain⟨its,r,pl,hz⟩:=I.tuple hq
  refine SeqAt.in_tupleAt (eqU x) pl (λw hw=>fS rx fx r fs w (by simpa using hw)) ⟨.bl _,H,I,rfl,?_⟩
  rw[show its.toArray.any (eqU x)=its.any (eqU x) by simp,iI r fs]
  exact q
theorem oN:OpR X (compareOp .NotIn) (rIn X.K true):=by
 intro pins s σ H x y v u Q I rx ry h
 obtain⟨p,xs,rfl,hq,fx,fs,q⟩:=h
 cases ry
 rcases hq with hq|hq
 ·obtain⟨its,r,pl,hz⟩:=I.list hq
  refine SeqAt.notIn_listAt (eqU x) pl.isList (λw hw=>fS rx fx r fs w (by simpa using hw)) ⟨.bl _,H,I,rfl,?_⟩
  rw[show its.toArray.any (eqU x)=its.any (eqU x) by simp,iI r fs]
  exact q
 ·obtain⟨its,r,pl,hz⟩:=I.tuple hq
  refine SeqAt.notIn_tupleAt (eqU x) pl (λw hw=>fS rx fx r fs w (by simpa using hw)) ⟨.bl _,H,I,rfl,?_⟩
  rw[show its.toArray.any (eqU x)=its.any (eqU x) by simp,iI r fs]
  exact q
theorem oM:CallR X (.builtin "len") (λxs H Q=>∃p ys,xs=[.ref p]/\(SqL X.K H p ys\/SqT X.K H p ys)/\Q (.int ys.length) H):=by
 intro pins s σ H xs us Q I r h
 obtain⟨p,ys,rfl,hq,q⟩:=h
 obtain⟨u,rfl,rx⟩:=vals1 r
 cases rx
 have hn:=line63
 rcases hq with hq|hq
 ·obtain⟨its,r',pl,hz⟩:=I.list hq
  have hlen:=r'.length
  exact Calls.call_len_list pl.isList (by simp only[aAK] <;> lia) ⟨.int ys.length,H,I.tok _,⟨s.toks+1,by rw[aAK,hlen]⟩,q⟩
 ·obtain⟨its,r',pl,hz⟩:=I.tuple hq
  have hlen:=r'.length
  exact len_tuple pl (by simp only[aAK] <;> lia) ⟨.int ys.length,H,I.tok _,⟨s.toks+1,by rw[aAK,hlen]⟩,q⟩
theorem nA:CallR X (.builtin "len") (λxs H Q=>∃z,xs=[.str z]/\z.length<=sizeLine/\Q (.int z.length) H):=by
 intro pins s σ H xs us Q I r h
 obtain⟨z,rfl,hz,q⟩:=h
 obtain⟨u,rfl,t,rfl⟩:=vals1 r
 have hn:=line63
 exact len_str (by lia) ⟨.int z.length,H,I.tok _,⟨_,rfl⟩,q⟩
theorem CallR.or{f:Value}{r r':List V->Hp->VK->Prop}(h:CallR X f r)(h':CallR X f r'):CallR X f (λxs H Q=>r xs H Q\/r' xs H Q):=by
 intro pins s σ H xs us Q I rs q
 rcases q with q|q
 ·exact h pins s σ H xs us Q I rs q
 ·exact h' pins s σ H xs us Q I rs q
theorem iD:CallR X (.type "list") (λxs H Q=>∃p ys,xs=[.ref p]/\(SqL X.K H p ys\/SqT X.K H p ys)/\∀l,H l=none->Q (.ref l) (upd H l (.lst ys))):=by
 intro pins s σ H xs us Q I r h
 obtain⟨p,ys,rfl,hq,q⟩:=h
 obtain⟨u,rfl,rx⟩:=vals1 r
 cases rx
 have fin:∀(its:List Value),Vals ys its->ys.length<=sizeLine->∀(h':Heap) (c':Nat),(∀b o',s.heap.get? b=some o'->h'.get? b=some o') ->
   h'.get? s.heap.objs.size=some {cls:=.type "list",dict:=none,data:=.seq its.toArray c',slots:=#[]}->EP X pins σ Q (.ref s.heap.objs.size) {s with heap:=h'}:=λits r' hz h' c' kp e =>
  ⟨.ref s.heap.objs.size,_,I.laid (t':=s.toks) kp (aAE _) (show ObjOk X.prog X.w _ h' _ (.lst ys)from⟨hz,its,c',r',e⟩),rfl,q _ (I.hok.fresh (aAE _))⟩
 rcases hq with hq|hq
 ·obtain⟨its,r',pl,hz⟩:=I.list hq
  have hlen:=r'.length
  obtain⟨o,ho,hc,n,hd⟩:=pl.isList
  exact call_list_seq p (.inl rfl) ho hc hd (λh' c' kp e=>fin its r' hz h' c' kp e) (by simp only[aAK] <;> lia)
 ·obtain⟨its,r',pl,hz⟩:=I.tuple hq
  have hlen:=r'.length
  obtain⟨o,ho,hc,n,hd⟩:=pl
  exact call_list_seq p (.inr rfl) ho hc hd (λh' c' kp e=>fin its r' hz h' c' kp e) (by simp only[aAK] <;> lia)
theorem lQ:CallR X (.type "tuple") (λxs H Q=>∃p ys,xs=[.ref p]/\((SqL X.K H p ys/\∀l,H l=none->Q (.ref l) (upd H l (.tup ys)))\/(SqT X.K H p ys/\Q (.ref p) H))):=by
 intro pins s σ H xs us Q I r h
 obtain⟨p,ys,rfl,h⟩:=h
 obtain⟨u,rfl,rx⟩:=vals1 r
 cases rx
 rcases h with⟨hq,q⟩|⟨hq,q⟩
 ·obtain⟨its,r',pl,hz⟩:=I.list hq
  have hlen:=r'.length
  refine call_tuple_list pl.isList (λh' kp=>?_) (by simp only[aAK] <;> lia)
  have I1:Inv X pins σ H {s with heap:=h'}:=I.kept (t':=s.toks) kp
  have I2:Inv X pins σ (upd H h'.objs.size (.tup ys)) {s with heap:=h'.push {cls:=.type "tuple",data:=.seq its.toArray}} :=
   I1.laid (t':=s.toks) (λb o e=>aAB _ e) (aAE _) (show ObjOk X.prog X.w _ _ _ (.tup ys)from⟨hz,its,r',IsTup.new _ _⟩)
  exact⟨.ref h'.objs.size,_,I2,rfl,q _ (I1.hok.fresh (aAE _))⟩
 ·obtain⟨its,r',pl,hz⟩:=I.tuple hq
  exact call_tuple_same pl ⟨.ref p,H,I,rfl,q⟩
def tyV(K:Frag)(T:String)(x:V)(H:Hp):Prop:=match x with
 |.str _=>T="str"
 |.int _=>T="int"
 |.ref p=>(T="list"/\∃xs,SqL K H p xs)\/(T="tuple"/\∃o,K.lookup p=some o/\o.cls=.type "tuple"/\o.dict=none) \/
   (T="dict"/\((∃kvs,H p=some (.dK kvs))\/∃kvs,H p=some (.dT kvs)))\/(T="set"/\∃S n,H p=some (.set S n))
 |_=>False
end
variable{T:String}
theorem aDc(I:Inv X pins σ H s)(r:RelV x v)(ty:tyV X.K T x H) :
  s.TypeIs v T/\∀a,v=.ref a->∃ob,s.heap.get? a=some ob/\ob.dict=none:=by
 cases x with
 |str z =>
  obtain⟨t,rfl⟩:=r
  cases(show T="str"from ty)
  exact⟨typeIs_str s z t,λ_ e=>nomatch e⟩
 |int i =>
  obtain⟨t,rfl⟩:=r
  cases(show T="int"from ty)
  exact⟨aHC s i t,λ_ e=>nomatch e⟩
 |ref p =>
  cases r
  rcases ty with⟨rfl,xs,hq⟩|⟨rfl,o,hk,hc,hd⟩|⟨rfl,hk⟩|⟨rfl,S,n,hk⟩
  ·obtain⟨its,_,pl,_⟩:=I.list hq
   refine⟨pl.isList.typeIs,λa e=>?_⟩
   cases e
   obtain⟨o,n,e,c,hd,_⟩:=pl
   exact⟨o,e,hd⟩
  ·refine⟨⟨o,I.kIn p o hk,hc⟩,λa e=>?_⟩
   cases e
   exact⟨o,I.kIn _ o hk,hd⟩
  ·have z:∃o,s.heap.get? p=some o/\o.ExactDict:=by
    rcases hk with⟨kvs,hk⟩|⟨kvs,hk⟩
    ·obtain⟨_,_,_,_,o,_,_,e,ex,_⟩:=I.hok p _ hk
     exact⟨o,e,ex⟩
    ·obtain⟨_,_,_,_,o,_,_,e,ex,_⟩:=I.hok p _ hk
     exact⟨o,e,ex⟩
   obtain⟨o,e,ex⟩:=z
   refine⟨⟨o,e,ex.1⟩,λa e2=>?_⟩
   cases e2
   exact⟨o,e,ex.2.1⟩
  ·obtain⟨o,_,_,_,e,ex,_⟩:=I.hok p _ hk
   refine⟨⟨o,e,ex.1⟩,λa e2=>?_⟩
   cases e2
   exact⟨o,e,ex.2.1⟩
 |_=>exact False.elim ty
noncomputable def tBM(K:Frag)(T:String)(r:V->List V->Hp->VK->Prop)(to:TE)(t:TA):TE:=λσ H Q=>to σ H λx H1=>tyV K T x H1/\t σ H1 λxs H2=>r x xs H2 Q
variable{o:Expr}{es:List Expr}{to:TE}{t:TA}{id:String}{r:V->List V->Hp->VK->Prop}
theorem aGs(pa:PlainAttrs T)(slot:Slot T name id)(hty:typeOf (.builtin id)=pure (.type "method_descriptor"))(hm:MtR X id r)(ho:PE X o to)(ha:PA X (e::es) t)
  (hbase:attributeBase o name X.env (eval o X.env)=eval o X.env:=by rfl)
  (hfew:((backTo cpos (starEach (e::es) X.env)).all (λx=>!x.1)&&(backToKw cpos (keywordEach [] X.env)).all (λx=>x.1.isSome)
   && decide ((e::es).length+([]:List Keyword).length+(if([]:List Keyword).isEmpty then 0 else 1) < 30))=true:=by rfl)
  (hline:(apos.endLine==cpos.line)=true:=by rfl)(hs:starEach (e::es) X.env=(false,eval e X.env)::starEach es X.env:=by rfl)(hplain:(backTo cpos (starEach es X.env)).any (·.1)=false:=by rfl) :
  PE X (.Call (.Attribute o name apos) (e::es) [] cpos) (tBM X.K T r to t):=by
 intro pins s σ H Q I h
 refine wpAny_Call_method_late hbase hfew hline rfl (thn (ho pins s σ H _ I h) λv s1 ⟨x,H1,I1,r1,ty,q1⟩=>?_)
 obtain⟨h1,h2⟩:=aDc I1 r1 ty
 refine⟨T,id,pa,slot,hty,h1,h2,?_⟩
 have hA:=ha cpos pins s1 σ H1 _ I1 q1
 rw[hs]at hA ⊢
 refine Calls.callWith_builtin (by show(false || (backTo cpos (starEach es X.env)).any (·.1))=false;rw[hplain] <;> rfl) (Calls.evalArgs_plain ?_)
 exact thn hA λus s2 ⟨vs,H2,I2,r2,q2⟩=>hm pins s2 σ H2 x vs v us Q I2 r1 r2 q2
end
noncomputable def MtM(X:Cx)(id:String)(r:V->List V->Hp->VK->Prop):Prop :=
 ∀(pins:List (Addr×Obj)) (s:Shared) (σ:St) (H:Hp) (x:V) (xs:List V) (v:Value) (us:List Value) (Q:VK),Inv X pins σ H s->RelV x v->Vals xs us->r x xs H Q ->
  wpAny (model X.prog X.w) X.A (call (.builtin id) (v::us)) (EP X pins σ Q) X.xe s
theorem Vals.one:∀{x:V} {us:List Value},Vals [x] us->∃u,us=[u]/\RelV x u
 |_,_,.cons r .nil=>⟨_,rfl,r⟩
theorem Vals.two:∀{x y:V} {us:List Value},Vals [x,y] us->∃u v,us=[u,v]/\RelV x u/\RelV y v
 |_,_,_,.cons r (.cons q .nil)=>⟨_,_,rfl,r,q⟩
theorem Vals.zero:∀{us:List Value},Vals [] us->us=[]
 |_,.nil=>rfl
theorem Vals.reverse{xs:List V}{us:List Value}(h:Vals xs us):Vals xs.reverse us.reverse:=by
 induction h with
 |nil=>exact .nil
 |cons r t ih=>rw[List.reverse_cons,List.reverse_cons];exact Vals.append ih (.cons r .nil)
theorem Vals.rep{xs:List V}{us:List Value}(h:Vals xs us):∀k:Nat,Vals (List.replicate k xs).flatten (List.replicate k us).flatten
 |0=>.nil
 |k+1=>by
  rw[aDH,aDH,aFM,aFM]
  exact Vals.append h (Vals.rep h k)
theorem jO(its:List Value):∀(k:Nat) (acc:List Value),
  List.foldl (λx1 x2=>x1++x2) acc.toArray (List.replicate k its.toArray)=(acc++(List.replicate k its).flatten).toArray
 |0,acc=>by simp
 |k+1,acc=>by
  have e:acc.toArray++its.toArray=(acc++its).toArray:=by simp
  have e2:(acc++its)++(List.replicate k its).flatten=acc++(List.replicate (k+1) its).flatten:=by
   rw[aDH,aFM,aCM]
  rw[<- e2,<- jO its k (acc++its),<- e,aDH,List.foldl_cons]
variable{σ:St}{b:Addr}{ys zs:List V}
theorem Inv.lset{its':List Value}{f:Array Value->Array Value}(I:Inv X pins σ H s)(hH:H l=some (.lst xs))
  (e:s.heap.get? l=some {cls:=.type "list",data:=.seq its.toArray n})(hf:f its.toArray=its'.toArray)(hv:Vals ys its')(hz:ys.length<=sizeLine) :
  Inv X pins σ (upd H l (.lst ys)) {s with heap:=s.heap.update l (Obj.mapSeq f),toks:=t'}:=by
 have q:=PySem.IsL.update e f
 rw[hf]at q
 refine I.write (x:=l) (e:=l) (by rw[hH];exact trivial) (.inl rfl) (λb' u hb hu=>(aDJ s.heap (Obj.mapSeq f) (Ne.symm hb)).trans hu) ⟨_,q⟩ ?_
 exact⟨hz,its',_,hv,q⟩
theorem Inv.lnew(I:Inv X pins σ H s)(hv:Vals ys its)(hz:ys.length<=sizeLine) :
  Inv X pins σ (upd H s.heap.objs.size (.lst ys)) {s with heap:=s.heap.push {cls:=.type "list",data:=.seq its.toArray},toks:=t'} :=
 I.laid (λ_ _ q=>aAB _ q) (aAE _) ⟨hz,its,0,hv,aAM _ rfl⟩
theorem Inv.fresh(I:Inv X pins σ H s):H s.heap.objs.size=none:=I.hok.fresh (aAE _)
theorem Inv.lstM(I:Inv X pins σ H s)(hH:H l=some (.lst xs)):xs.length<=sizeLine/\∃(its:List Value) (n:Nat),Vals xs its/\xs.length=its.length/\s.heap.get? l=some {cls:=.type "list",data:=.seq its.toArray n}:=by
 obtain⟨z,its,n,r,e⟩:=I.hok l _ hH
 exact⟨z,its,n,r,r.length,e⟩
theorem notLongL(h:n<=sizeLine):Builtin.List.listTooLong n=false:=by
 unfold Builtin.List.listTooLong
 exact aBW (by lia)
noncomputable section
def rAppend:V->List V->Hp->VK->Prop:=λx vs H Q=>∃l xs y,x=.ref l/\vs=[y]/\H l=some (.lst xs)/\xs.length < sizeLine/\Q .non (upd H l (.lst (xs++[y])))
theorem mJ:MtM X "list.append" rAppend:=by
 intro pins s σ H x vs v us Q I rx rv h
 obtain⟨l,xs,y,rfl,rfl,hH,hz,q⟩:=h
 cases rx
 obtain⟨u,rfl,ru⟩:=rv.one
 obtain⟨z,its,n,r,hl,e⟩:=I.lstM hH
 refine aFI F.slot_list_append ⟨_,e,rfl⟩ F.entry_list_append (F.args_list_append_2 _ _) (PySem.list_append l its.toArray n u (by rw[aAK];lia)) ⟨e,?_⟩
 refine⟨.non,_,I.lset (its':=its++[u]) hH e (by simp) (r.append (.cons ru .nil)) ?_,rfl,q⟩
 rw[aCF,List.length_singleton]
 lia
def rCat:R2:=λx y H Q=>∃l b xs zs,x=.ref l/\y=.ref b/\H l=some (.lst xs)/\H b=some (.lst zs)/\xs.length+zs.length<=sizeLine/\∀p,H p=none->Q (.ref p) (upd H p (.lst (xs++zs)))
theorem aEw:OpR X (binaryOp .Add) rCat:=by
 intro pins s σ H x y v u Q I rx ry h
 obtain⟨l,b,xs,zs,rfl,rfl,hH,hB,hz,q⟩:=h
 cases rx
 cases ry
 obtain⟨z,its,n,r,hl,e⟩:=I.lstM hH
 obtain⟨z2,its2,n2,r2,hl2,e2⟩:=I.lstM hB
 refine PySem.P.add_list e e2 ?_ (by rw[aAK,aAK];lia)
 have ea:its.toArray++its2.toArray=(its++its2).toArray:=by simp
 rw[ea]
 exact⟨.ref _,_,I.lnew (t':=s.toks) (r.append r2) (by rw[aCF];lia),rfl,q _ I.fresh⟩
def rRep:R2:=λx y H Q=>∃l k xs,x=.ref l/\y=.int k/\H l=some (.lst xs) /\ -(2 ^ 63)<=k/\k < 2 ^ 63/\xs.length*k.toNat<=sizeLine /\
 ∀p,H p=none->Q (.ref p) (upd H p (.lst (List.replicate k.toNat xs).flatten))
end
theorem oO(xs:List α)(k:Nat):(List.replicate k xs).flatten.length=k*xs.length:=by
 induction k with
 |zero=>simp
 |succ k ih=>rw[aDH,aFM,aCF,ih,Nat.succ_mul,Nat.add_comm]
theorem aDi:OpR X (binaryOp .Mult) rRep:=by
 intro pins s σ H x y v u Q I rx ry h
 obtain⟨l,k,xs,rfl,rfl,hH,h1,h2,hz,q⟩:=h
 cases rx
 obtain⟨t,rfl⟩:=ry
 obtain⟨z,its,n,r,hl,e⟩:=I.lstM hH
 have hlen:its.toArray.size*k.toNat<=sizeLine:=by rw[aAK,<- hl];exact hz
 have hcap:¬its.toArray.size*k.toNat > (2 ^ 63 - 1) / 8:=by
  have:(sizeLine:Nat)<=(2 ^ 63 - 1) / 8:=by decide
  lia
 have hfit:¬(!Builtin.List.listFitsIndex k)=true:=by
  rw[fitsIndex_both h1 h2]
  exact aBI
 have hlong:¬Builtin.List.listTooLong (its.toArray.size*k.toNat)=true:=by
  rw[notLongL hlen]
  exact aBI
 have hnew:List.foldl (λx1 x2=>x1++x2) #[] (List.replicate (if its.toArray.isEmpty=true then 0 else k.toNat) its.toArray)=(List.replicate k.toNat its).flatten.toArray:=by
  have f0:∀m:Nat,List.foldl (λx1 x2=>x1++x2) #[] (List.replicate m its.toArray)=(List.replicate m its).flatten.toArray:=λm=>by
   have:=jO its m []
   rw[List.nil_append]at this
   exact this
  rw[f0]
  cases its with
  |nil=>simp
  |cons a r'=>rw[aAI (by simp)]
 refine wpAny_binaryOp_repeat_ref (T:="list") (U:="int") (by decide) ⟨_,e,rfl⟩ (λs'=>aHC s' k t) noFill_list_mul F.fills_int_mul aGF repeat_list F.slot_int_index.lookup
  (aFI aGF (aHC s k t) F.entry_int_rmul (F.args_int_rmul_2 _ _) (int___rmul___int_list k t l its.toArray n)
   ⟨e,rfl,⟨_,e,rfl⟩,aFI F.slot_list_mul ⟨_,e,rfl⟩ F.entry_list_mul (F.args_list_mul_2 _ _) (AutoListH.list___mul___list_int_3 l its.toArray n k t hfit hcap hlong) ⟨e,?_⟩⟩)
 rw[hnew]
 exact⟨.ref _,_,I.lnew (t':=s.toks) (r.rep k.toNat) (by rw[oO,Nat.mul_comm];exact hz),rfl,q _ I.fresh⟩
variable{prog:Program}{E:Value->Shared->Prop}
end L2
end
namespace Att
open PySem PySem.W PySem.Calls PyProof.Rows
variable{P:Params}
theorem kB :∀(ns:List Int) (vs:List Value),WellAll P h vs (ns.map WData.int)->IntsAre vs ns:=by
 intro ns
 induction ns with
 |nil =>
  intro vs w
  rw[List.map_nil]at w
  cases w
  exact .nil
 |cons n ns ih =>
  intro vs w
  rw[aDG]at w
  cases w with
  |cons a b =>
   cases a
   exact .cons _ _ (ih _ b)
variable{l:OpenLaw}
theorem uM(hn:l.most=some n){args:List WData}{vals:List Value}
  (hpre:l.row.toRowW.claim.pre args=true)(hwl:WellAll P h vals args) :
  ∃a vs ns,vals=[Value.ref a]/\args=[WData.list (ns.map WData.int)]/\h.get? a=some {cls:=.type "list",data:=.seq vs.toArray}/\IntsAre vs ns/\ns.length<=n:=by
 have hsh:WShape.hasAll [] args [.list .int]=true:=(pre_splitW hpre).1
 have hc:l.pre.holds [] {args:=args}=true:=(pre_splitW hpre).2
 obtain⟨d,r,rfl,h1,h2⟩:=hasAllW_cons hsh
 obtain rfl:=hasAllW_nil h2
 obtain⟨xs,rfl,h3⟩:=hasW_list h1
 obtain⟨ns,rfl⟩:=items_int h3
 have hlen:ns.length<=n:=by
  unfold OpenLaw.pre at hc
  have h4:(WTm.not (.lt (.lit (.int (n:Int))) (.len (.arg 0)))).holds [] {args:=[.list (ns.map .int)]}=true:=by
   have h4:=(holds_andW hc).1
   rw[hn]at h4
   exact h4
  have h5:=condW_of h4 (w_not (w_lt w_lit (w_len_list (w_arg rfl))))
  rw[aAL]at h5
  refine Nat.le_of_not_lt λq=>?_
  have q':(n:Int) < ((ns.length:Nat):Int):=by lia
  first
   |(rw[decide_eq_true q']at h5;exact absurd h5 (by decide))
   |(simp at h5;lia)
 cases hwl with
 |cons w1 w2 =>
  cases w2
  cases w1 with
  |list ho hall=>exact⟨_,_,ns,rfl,rfl,ho,kB ns _ hall,hlen⟩
theorem uI(l:OpenLaw)(args:List WData):l.row.toRowW.claim.post args (.bool true) args=true :=
 postW_of (r:=l.row.toRowW) (X:=(true==true))
  (show WShape.has [] (.bool true) .bool=true by first|rfl|decide|simp[WShape.has,WShape.arms,WShape.armsAll])
  (show(WTm.eq .res (.lit (.bool true))).value [] {args:=args,res:=some (.bool true),after:=args}=some (.bool (true==true))from w_eq_bool (w_res rfl) w_lit) rfl
theorem attach_call{q:Program}{d:DefRec}
  (hn:l.most=some n)(hdf:d.params.defaults=[])
  (call:∀(w:World) (s₀ s₁:Shared) (mg mb:Str->Option Value) (fa:Addr) (o:Obj) (pm cd doc:Value) (a:Addr) (vs:List Value) (ns:List Int),
   Ground q loose [] XP w s₀ mg mb s₁.heap->YP w s₁.heap ->
   s₁.heap.get? fa=some o->o.data=.func (docDef d.name d.params d.body d.scope pm cd doc)->s₁.heap.CodeRec cd d.name->mg d.name=some (.ref fa) ->
   s₁.heap.get? a=some {cls:=.type "list",data:=.seq vs.toArray}->IntsAre vs ns->ns.length<=n->s₁.gens=#[] ->
   codeAny (model l.prog w) callerA (.call (.ref fa) ⟨[.ref a],[]⟩) (λr s'=>r=.ok (.ret (.bool true))/\OldK s₁.heap s'.heap/\s'.os=s₁.os/\AllBare s'.gens) s₁) :
  WalkO q loose XP YP l.row.toRowW d [] (λf vs=>PySem.call f vs):=by
 intro w s₀ s₁ mg mb G Y fa o pm cd doc dV kV ho hd hcd hD hmg hg args vals as hpre hlay hrd hwl hlo
 obtain rfl:dV=.none:=Dflts.none hD hdf
 obtain rfl:kV=.none:=Dflts.noKw hD
 obtain⟨a,vs,ns,rfl,rfl,hobj,hints,hlen⟩:=uM hn hpre hwl
 refine enter_call (aGI (call w s₀ s₁ mg mb fa o pm cd doc a vs ns G Y ho (fd_plain hd) hcd hmg hobj hints hlen hg) λr s' hq=>?_)
 obtain⟨rfl,h2,h3,h4⟩:=hq
 exact⟨.inl ⟨.bool true,.bool true,[],rfl,λ_=>rfl,.bool true,uI l _,λ_=>⟨List.Pairwise.nil,λ_ hm=>(nomatch hm)⟩⟩,h2,h3,h4⟩
variable{prog:Program}{E:Value->Shared->Prop}{K:Frag}
noncomputable def ledger(h:Heap)(L d:Addr):List (Addr×Obj):=(List.range h.objs.size).filterMap λa=>if a=L\/a=d then none else(h.get? a).map λo=>(a,o)
end Att
section
open PySem PySem.Spec PyProof.Rows
namespace L2
theorem mT:∀{vs:List Value} {ns:List Int},IntsAre vs ns->Vals (ns.map V.int) vs
 |_,_,.nil=>.nil
 |_,_,.cons n t h=>.cons ⟨t,rfl⟩ (mT h)
noncomputable def Only(H:Hp):Prop:=∀b,H b=none\/∃o xs,H b=some (.frz o (.lst xs))
variable{a:Addr}
theorem wQ{mb:Str->Option Value}{k:Nat}{fa:Addr}{x:Str}{s₁:Shared}{vs:List Value}
  (KX:K.In s₁.heap)(hns:s₁.heap.Ns mainGlobals mg)(hb:s₁.heap.Ns builtinsNs mb)(hbb:∀x:Str,x≠"__name__"->mb x=bootBuiltins x)(hlim:s₁.heap.NoLimit)(hg:s₁.gens=#[])
  (ha:s₁.heap.get? a=some {cls:=.type "list",data:=.seq vs.toArray})(hi:IntsAre vs ns)(hl:ns.length<=sizeLine)(hr:Room k callerA)
  (F:∀base:Heap,K.In base->base.Ns mainGlobals mg->FnOk P w K mg base CX k fa fd [x] sp)(hbind:∀(s:Shared) (u:Value),BindsTo s fd ⟨[u],[]⟩ [(x,u)])
  (hsp:∀H:Hp,Only H->SqL K H a (ns.map V.int)->sp [.ref a] H (λv _=>v=.bl true) λ_ _ _=>False)
  (hCX:∀H e s',CX [] H s₁ (λ_ _ _=>False) e s'->False) :
  codeAny (model P w) callerA (.call (.ref fa) ⟨[.ref a],[]⟩) (λr s'=>r=.ok (.ret (.bool true))/\OldK s₁.heap s'.heap/\s'.os=s₁.os/\AllBare s'.gens) s₁:=by
 have rv:=mT hi
 have lenV:=hi.length
 have core:∀H:Hp,Only H->SqL K H a (ns.map V.int)->HOk P w H s₁.heap->(∀b,H b≠none->b=a)->(H a≠none->K.lookup a=none) ->
   codeAny (model P w) callerA (.call (.ref fa) ⟨[.ref a],[]⟩) (λr s'=>r=.ok (.ret (.bool true))/\OldK s₁.heap s'.heap/\s'.os=s₁.os/\AllBare s'.gens) s₁:=by
  intro H hO hS hok hA hK
  have base_of:∀{b:Addr} {o:Obj},s₁.heap.get? b=some o->H b=none->(hidT s₁.heap H).get? b=some o:=λe n=>xS e n
  have noA:∀{b:Addr} {o:Obj} {es:Array DictEntry} {ep:Nat},s₁.heap.get? b=some o->o.data=.dict es ep->H b=none:=λ{b o es ep} e d=>by
   cases q:H b with
   |none=>rfl
   |some u =>
    have e':b=a:=hA b (by rw[q];simp)
    subst e'
    rw[ha]at e;cases e
    have d':Data.seq vs.toArray _=Data.dict es ep:=d
    cases d'
  have nsK:∀{b:Addr} {m:Str->Option Value},s₁.heap.Ns b m->(hidT s₁.heap H).Ns b m:=λ{b m} ⟨o,es,ep,e,d,r⟩=>⟨o,es,ep,base_of e (noA e d),d,r⟩
  have hKb:K.In (hidT s₁.heap H):=λb o e=>base_of (KX b o e) (by
   cases q:H b with
   |none=>rfl
   |some u =>
    have e':b=a:=hA b (by rw[q];simp)
    subst e'
    rw[hK (by rw[q];simp)]at e;cases e)
  have hM:Mod K mg (hidT s₁.heap H):=⟨hKb,nsK hns,⟨mb,nsK hb,hbb⟩,let⟨mc,h1,h2⟩:=hlim;⟨mc,nsK h1,h2⟩⟩
  have e0:Env0 P w K mg (hidT s₁.heap H) callerA [] s₁ H:=⟨rfl,hM,λb o e=>yY e,Nat.le_of_eq (vO _ _),trivial,λb hb=>absurd (show b∈([]:List Addr)from hb) (by simp),hok,.of_eq hg⟩
  refine aGI ((F _ hKb (nsK hns)).run callerA [] s₁ H ⟨[.ref a],[]⟩ [.ref a] [.ref a] _ _ hr e0 (hbind s₁ (.ref a)) (.cons rfl .nil) (hsp H hO hS)) λr s' h=>?_
  cases r with
  |error e=>exact(hCX H e s' h).elim
  |ok fl =>
   cases fl with
   |next=>exact False.elim h
   |brk=>exact False.elim h
   |cont=>exact False.elim h
   |ret u =>
    obtain⟨v,H',os,bare,un,hok',r',q⟩:=h
    have q':v=.bl true:=q
    subst q'
    obtain rfl:u=Value.bool true:=r'
    refine⟨rfl,OldK.of_keep λb o e=>?_,os,bare⟩
    cases q:H b with
    |none=>exact un.keep b o e q (by intro z;exact absurd (show b∈([]:List Addr)from z) (by simp)) (by simp)
    |some u =>
     rcases hO b with z|⟨ob,xs,z⟩
     ·rw[q]at z;cases z
     ·have z2:=un.frzs b ob _ z
      obtain⟨e1,_⟩:=hok b _ z
      obtain⟨e2,_⟩:=hok' b _ z2
      rw[e]at e1;cases e1
      exact e2
 cases hk:K.lookup a with
 |some o =>
  have e:=KX a o hk
  rw[ha]at e
  cases e
  refine core (λ_=>none) (λ_=>.inl rfl) (.inr ⟨_,vs.toArray,_,hk,rfl,rfl,rfl,by rw[aAK,lenV];exact hl,by simpa using rv⟩) (λb u z=>by have z':(none:Option HO)=some u:=z;cases z') (λb z=>absurd rfl z) λz=>absurd rfl z
 |none =>
  refine core (λb=>if b=a then some (.frz {cls:=.type "list",data:=.seq vs.toArray} (.lst (ns.map V.int)))else none) (λb=>?_) (.inl (.inr ⟨{cls:=.type "list",data:=.seq vs.toArray},aAH rfl⟩)) (λb u z=>?_) (λb z=>?_) λ_=>hk
  ·by_cases hb:b=a
   ·exact .inr ⟨_,_,aAH hb⟩
   ·exact .inl (aAI hb)
  ·by_cases hb:b=a
   ·have z':=(aAH hb).symm.trans z
    cases z'
    subst hb
    exact⟨ha,by rw[aAL];exact hl,vs,_,rv,ha⟩
   ·have z':=(aAI hb).symm.trans z
    cases z'
  ·by_cases hb:b=a
   ·exact hb
   ·exact absurd (aAI hb) z
noncomputable section
abbrev KOf(_:K.In h):Frag:=K
theorem sW{l:PySem.W.OpenLaw}{k:Nat}{q:Program}{d:DefRec}{K:Params->Frag}{CX:World->CXT}{sp:World->Sp}
  (hn:l.most=some n)(hn2:n<=sizeLine)(hdf:d.params.defaults=[])(hr:Room k callerA)
  (hY:∀(w:World) (h:Heap),YP w h->(K w.params).In h)
  (F:∀(w:World) (mg:Str->Option Value) (fa:Addr) (h:Heap),(K w.params).In h->h.Ns mainGlobals mg->mg d.name=some (.ref fa) ->
   ∃fd:FuncData,(∀(s:Shared) (u:Value),BindsTo s fd ⟨[u],[]⟩ [(x,u)]) /\
    ∀base:Heap,(K w.params).In base->base.Ns mainGlobals mg->FnOk l.prog w (K w.params) mg base (CX w) k fa fd [x] (sp w))
  (hsp:∀(w:World) (H:Hp) (a:Addr) (ns:List Int),ns.length<=n->Only H->SqL (K w.params) H a (ns.map V.int)->sp w [.ref a] H (λv _=>v=.bl true) λ_ _ _=>False)
  (hCX:∀(w:World) (H:Hp) (s:Shared) (e:Value) (s':Shared),CX w [] H s (λ_ _ _=>False) e s'->False) :
  PySem.W.WalkO q loose XP YP l.row.toRowW d [] (λf vs=>PySem.call f vs):=by
 refine Att.attach_call hn hdf λw s₀ s₁ mg mb fa o pm cd doc a vs ns G Y ho hd hcd hmg hobj hints hlen hg=>?_
 have KX:=hY w _ Y
 obtain⟨fd,hb,hF⟩:=F w mg fa _ KX G.T.g hmg
 exact wQ KX G.T.g G.T.b G.T.builtins G.T.nolimit hg hobj hints (aAX hlen hn2) hr hF hb (λH hO hS=>hsp w H a ns hlen hO hS) λH e s'=>hCX w H s₁ e s'
def inClass(s:Stmt)(j:Nat):Stmt:=match s with
 |.ClassDef _ _ _ body _ _ _ _ _ _ _=>body.getD j (.Pass ⟨0,0,0,0⟩)
 |_=>.Pass ⟨0,0,0,0⟩
def defArgs(s:Stmt):Arguments:=match s with
 |.FunctionDef _ a _ _ _ _ _ _ _ _=>a
 |_=>{posonlyargs:=[],args:=[],vararg:=none,kwonlyargs:=[],kw_defaults:=[],kwarg:=none,defaults:=[]}
def defBody(s:Stmt):List Stmt:=match s with
 |.FunctionDef _ _ b _ _ _ _ _ _ _=>b
 |_=>[]
def defScope(s:Stmt):Scope:=match s with
 |.FunctionDef _ _ _ _ _ _ sc _ _ _=>sc
 |_=>{kind:=.function,names:=[],isGenerator:=false,isCoroutine:=false}
abbrev CX0:CXT:=λ_ _ _ _ _ _=>False
abbrev E0:XK:=λ_ _ _=>False
end
theorem pass0:Passes CX0 X E0:=λ_ _ _ _ _ _ _ h=>h.elim
structure Fun(K:Frag)(x qual:Str)(st:Stmt)(f:Addr)(fd:FuncData):Prop where
 ex:∃(oc:Value) (od:Option Addr) (kV doc pm:Value) (an:Option Addr) (cdv ct:Value) (osl:Array (Option Value)),
  fd=fnOf x qual (defArgs st) (defBody st) (defScope st) .none kV doc pm an cdv ct/\K.lookup f=some ⟨oc,od,.func fd,osl⟩/\codeIn K cdv qual=true
 kp:keepIn K (.ref f)=true
variable{K:Frag}{st:Stmt}{f:Addr}
theorem Fun.ok{k:Nat}(F:Fun K x qual st f fd)(S:FnScope N ps (defScope st))(len:∀vs H Q E,sp vs H Q E->vs.length=ps.length)
  (hbody:∀(cdv:Value) (A:Around) (outer:List Env) (s:Shared) (H:Hp) (vs:List V) (Q:VK) (E:XK),Room k (A.deeper (envOfC qual (defScope st) s.heap.objs.size f cdv))->sp vs H Q E ->
   ∃t,PSs (cxOf CX0 P w K mg base N qual (defScope st) f cdv A outer s H E).nox (defBody st) t/\t {nx:=λ_ H'=>Q .non H',rt:=Q} (start N vs) H):FnOk P w K mg base CX0 (k+1) f fd ps sp:=by
 obtain⟨oc,od,kV,doc,pm,an,cdv,ct,osl,rfl,lk,hcd⟩:=F.ex
 refine wZ lk hcd S len λA outer s H vs Q E hr hsp=>?_
 obtain⟨t,h,q⟩:=hbody cdv A outer s H vs Q E hr hsp
 exact⟨t,h.nox,q⟩
theorem Fun.binds(F:Fun K x qual st f fd)
  (h:∀(kV doc pm:Value) (an:Option Addr) (cdv ct:Value) (us:List Value),us.length=ps.length->bindArgs (fnOf x qual (defArgs st) (defBody st) (defScope st) .none kV doc pm an cdv ct) ⟨us,[]⟩=pure (ps.zip us)):Binds K fd ps []:=by
 obtain⟨oc,od,kV,doc,pm,an,cdv,ct,osl,rfl,lk,hcd⟩:=F.ex
 exact .all (h kV doc pm an cdv ct)
theorem aS{oc:Value}{od an:Option Addr}{kV doc pm cdv ct:Value}(l:K.lookup f=some ⟨oc,od,.func (fnOf x qual (defArgs st) (defBody st) (defScope st) .none kV doc pm an cdv ct),osl⟩)
  (c:codeIn K cdv qual=true)(k:keepIn K (.ref f)=true):Fun K x qual st f (fnOf x qual (defArgs st) (defBody st) (defScope st) .none kV doc pm an cdv ct):=⟨⟨oc,od,kV,doc,pm,an,cdv,ct,osl,rfl,l,c⟩,k⟩
theorem pv(i:Nat)(hN:X.N[i]?=some x:=by rfl)(hv:Vis X.env.scope x:=by first|exact Or.inl rfl|exact Or.inr (Or.inl rfl)|exact Or.inr (Or.inr rfl))(hd:(x==("__debug__":Str))=false:=by decide)
  (hcd:(x==("__classdict__":Str))=false:=by decide):PE X (.Name x pos) (tVar i):=yF hN hv hd hcd
noncomputable def Same(H H':Hp):Prop:=∀b o,H b=some o->H' b=some o
theorem Same.trans(a:Same H H1)(b:Same H1 H2):Same H H2:=λc o h=>b c o (a c o h)
theorem Same.free(e:Same H H')(h:H' l=Option.none):H l=Option.none:=by
 cases q:H l with
 |none=>rfl
 |some o =>
  rw[e l o q]at h
  cases h
theorem Same.seq{xs:List V}(e:Same H H')(h:SqL K H a xs):SqL K H' a xs:=by
 rcases h with(h|⟨o,h⟩)|h
 ·exact .inl (.inl (e _ _ h))
 ·exact .inl (.inr ⟨o,e _ _ h⟩)
 ·exact .inr h
end L2
set_option maxHeartbeats 4000000
namespace L2
variable{tg:Expr}
noncomputable def CDivW(_ j:Int):Prop:=0 < j/\j < 18446744073709551616
theorem uL(h:n < 18446744073709551616):n.log2 < 9000:=by
 by_cases h0:n=0
 ·subst h0;decide
 ·have:n.log2 < 64:=(Nat.log2_lt h0).2 (by simpa using h)
  lia
theorem yH:OpR X (binaryOp .FloorDiv) (rI CDivW λi j=>.int (i / j)):=opI λi j _ _ _ _ _ hc q=>by
 have h1:(0:Int) < j:=hc.1
 have h2:j < 18446744073709551616:=hc.2
 exact floordiv_int (by lia) (by rw[Int.fdiv_eq_ediv_of_nonneg i (by lia)];exact q) (.inl (PyProof.noPylong_of_log2 (uL (by lia))))
noncomputable def rIsT(K:Frag):List V->Hp->VK->Prop:=λxs H Q=>∃x T t b,xs=[x,.ty T]/\TyOf K H x t/\PySem.W.kitOne K t (.type T)=some b/\Q (.bl b) H
theorem oP:CallR X (.builtin "isinstance") (rIsT X.K):=by
 intro pins s σ H xs us Q I r h
 obtain⟨x,T,t,b,e,ty,ek,q⟩:=h
 subst e
 obtain⟨u,w',rfl,r1,r2⟩:=vals2 r
 obtain rfl:w'=Value.type T:=r2
 exact uY I r1 ty ek λtk=>⟨.bl b,H,I.tok tk,rfl,q⟩
theorem wH:bootBuiltins "reversed"=some (.type "reversed"):=by first|rfl|kernel_rfl
inductive IntsE:List Expr->List Int->Prop where
 |nil:IntsE [] []
 |cons {i:Int} {j:Nat} {p:Pos} {r:List Expr} {ns:List Int} (h:IntsE r ns):IntsE (.Constant (.int i) j p::r) (i::ns)
theorem zW{es:List Expr}(h:IntsE es ns):PA X es (λ_ H Q=>Q (ns.map V.int) H):=by
 induction h with
 |nil=>exact dH
 |cons h ih=>exact bQ wA ih
structure JE(X:Cx)(e:Expr)(t:TE):Prop where
 h:PE X e t
structure JS(X:Cx)(st:Stmt)(t:TS):Prop where
 h:PS X st t
structure JSs(X:Cx)(sts:List Stmt)(t:TS):Prop where
 h:PSs X sts t
theorem fU{env:Env}{f:Str×NameKind->List (Str×Addr)->Sem (ForInStep (List (Str×Addr)))}
  (hf:∀y acc c,y.2=NameKind.free->env.cells.lookup y.1=some c->f y acc=pure (.yield ((y.1,c)::acc)))(hf':∀y acc,y.2≠NameKind.free->f y acc=pure (.yield acc)) :
  ∀(names:List (Str×NameKind)) (acc:List (Str×Addr)),(∀y∈names,y.2=NameKind.free->∃c,env.cells.lookup y.1=some c)->(∀x c,acc.lookup x=some c->env.cells.lookup x=some c) ->
   ∃cl,forIn names acc f=(pure cl:Sem (List (Str×Addr)))/\(∀x c,cl.lookup x=some c->env.cells.lookup x=some c)/\(∀y∈names,y.2=NameKind.free->∃c,cl.lookup y.1=some c)/\(∀x c,acc.lookup x=some c->∃c',cl.lookup x=some c')
 |[],acc,_,ha=>⟨acc,rfl,ha,(λ_ h=>nomatch h),λx c h=>⟨c,h⟩⟩
 |y::r,acc,hn,ha=>by
  by_cases hy:y.2=NameKind.free
  ·obtain⟨c,hc⟩:=hn y aDL hy
   have ha':∀x d,((y.1,c)::acc).lookup x=some d->env.cells.lookup x=some d:=λx d h=>by
    rw[aCQ]at h
    cases e:x==y.1 with
    |true =>
     rw[e]at h
     have:x=y.1:=by simpa using e
     subst this
     cases h
     exact hc
    |false=>rw[e]at h;exact ha x d h
   obtain⟨cl,h1,h2,h3,h4⟩:=fU hf hf' r _ (λz hz=>hn z (aCG _ hz)) ha'
   have hyl:∃c',cl.lookup y.1=some c':=h4 y.1 c (by rw[aCQ];simp)
   refine⟨cl,?_,h2,λz hz hzf=>?_,λx d hx=>?_⟩
   ·rw[List.forIn_cons,hf y acc c hy hc]
    exact h1
   ·rcases aBK.mp hz with rfl|hz
    ·exact hyl
    ·exact h3 z hz hzf
   ·by_cases e:x=y.1
    ·rw[e];exact hyl
    ·have e':(x==y.1)=false:=by simpa using e
     exact h4 x d (by rw[aCQ,e'];exact hx)
  ·obtain⟨cl,h1,h2,h3,h4⟩:=fU hf hf' r acc (λz hz=>hn z (aCG _ hz)) ha
   refine⟨cl,?_,h2,λz hz hzf=>?_,h4⟩
   ·rw[List.forIn_cons,hf' y acc hy]
    exact h1
   ·rcases aBK.mp hz with rfl|hz
    ·exact absurd hzf hy
    ·exact h3 z hz hzf
theorem lX{scope:Scope}(h:∀y∈scope.names,y.2=NameKind.free->∃c,env.cells.lookup y.1=some c) :
  ∃cl,closureFor scope env=pure cl/\(∀x c,cl.lookup x=some c->env.cells.lookup x=some c)/\(∀y∈scope.names,y.2=NameKind.free->∃c,cl.lookup y.1=some c):=by
 obtain⟨cl,h1,h2,h3,_⟩:=fU (env:=env) (f:=λx cs=>match x with
   |(name,kind)=>if(kind==NameKind.free)=true then do
     let a <- cellOf env name
     pure (ForInStep.yield ((name,a)::cs))
     else pure (ForInStep.yield cs)) (λy acc c hy hc=>by
    obtain⟨n,k⟩:=y
    simp only at hy hc
    subst hy
    simp only[beq_self_eq_true,aCI,cellOf,hc]
    rfl) (λy acc hy=>by
    obtain⟨n,k⟩:=y
    simp only at hy
    have:(k==NameKind.free)=false:=by simpa using hy
    simp only[this,aAS,aBU]) scope.names [] h (λ_ _ z=>by simp at z)
 refine⟨cl,?_,h2,h3⟩
 show(forIn scope.names [] _ >>= λcs=>pure cs)=pure cl
 exact(congrArg (· >>= λcs=>(pure cs:Sem (List (Str×Addr)))) h1).trans rfl
theorem dJ{env:Env}(hk:env.scope.kind=.function):∀{names:List (Str×NameKind)} {x:Str},names.lookup x=some .free->env.kindOf x=some .cell ->
  (names.map λ(n,k)=>if(k==NameKind.free&&env.scope.kind==.function&&env.kindOf n==some .cell)then(n,NameKind.cell)else(n,k)).lookup x=some .cell
 |[],_,h,_=>by simp at h
 |(n,k)::r,x,h,hx=>by
  rw[aDG]
  rw[aCQ]at h
  cases e:x==n with
  |true =>
   rw[e]at h
   have:x=n:=by simpa using e
   subst this
   cases h
   simp[hk,hx,aCQ]
  |false =>
   rw[e]at h
   have ih:=dJ hk h hx
   simp only
   split <;> (rw[aCQ,e];exact ih)
theorem cZ{env:Env}:∀{names:List (Str×NameKind)} {x:Str} {k':NameKind},
  (names.map λ(n,k)=>if(k==NameKind.free&&env.scope.kind==.function&&env.kindOf n==some .cell)then(n,NameKind.cell)else(n,k)).lookup x=some k'->k'=.cell\/k'=.free ->
  ∃k,(x,k)∈names/\(k=.cell\/k=.free)
 |[],_,_,h,_=>by simp at h
 |(n,k)::r,x,k',h,hk=>by
  rw[aDG]at h
  simp only at h
  cases e:x==n with
  |true =>
   have:x=n:=by simpa using e
   subst this
   refine⟨k,aDL,?_⟩
   split at h
   ·rename_i hc
    simp only[aBO]at hc
    exact .inr (by simpa using hc.1.1)
   ·rw[aCQ,e]at h
    cases h
    exact hk
  |false =>
   have h':(r.map λ(n,k)=>if(k==NameKind.free&&env.scope.kind==.function&&env.kindOf n==some .cell)then(n,NameKind.cell)else(n,k)).lookup x=some k':=by
    split at h <;> (rw[aCQ,e]at h;exact h)
   obtain⟨k1,h1,h2⟩:=cZ h' hk
   exact⟨k1,aCG _ h1,h2⟩
noncomputable def compCx(X:Cx)(Nc:List Str)(scope:Scope)(cl:List (Str×Addr))(C:Addr)(fp:List Addr)(pins:List (Addr×Obj))(s₂:Shared)(H₂:Hp):Cx where
 prog:=X.prog
 w:=X.w
 K:=X.K
 mg:=X.mg
 base:=X.base
 A:=X.A
 N:=Nc
 s₀:=s₂
 H₀:=H₂
 env:=compEnvC scope cl C X.env
 outer:=X.stack
 stack:=X.stack
 ex:=fp
 fn:=λ_=>false
 calm:=true
 pn:=X.pn++pins
 xe:=λ_ _=>False
structure CompOk(N0:List Str)(sc0:Scope)(scope:Scope)(Nc:List Str)(js:List (Option Nat)):Prop where
 kind:scope.kind=.function
 nocell:∀y∈scope.names,y.2≠.cell
 names:∀y∈scope.names,y.2=.local->scope.names.lookup y.1=some .local
 free:∀y∈scope.names,y.2=.free->sc0.names.lookup y.1=some .cell
 len:js.length=Nc.length
 slots:∀p∈Nc.zip js,∀j∈p.2,N0[j]?=some p.1/\scope.names.lookup p.1=some .free/\sc0.names.lookup p.1=some .cell
noncomputable def outσ(js:List (Option Nat))(σ:St):St:=js.map λo=>o.bind λj=>(σ[j]?).join
variable{σ:St}{H₂:Hp}{scope:Scope}{js:List (Option Nat)}
theorem zT(I:Inv X pins σ H₂ s₂)(hc:X.calm=true)(T:CompOk X.N X.env.scope scope Nc js)(hcl:∀x c,cl.lookup x=some c->X.env.cells.lookup x=some c)(hfr:∀y∈scope.names,y.2=.free->∃c,cl.lookup y.1=some c)
  (hC:s₂.heap.objs.size<=C)(hf:∀b∈fp,FpOk X pins H₂ b)(ho:∀b∈fp,∃o,s₂.heap.get? b=some o):(compCx X Nc scope cl C fp pins s₂ H₂).Ok where
 mod:=I.ok.mod
 kind:=T.kind
 glob:=I.ok.glob
 blt:=I.ok.blt
 above:=hC
 inj:=λx y c h1 h2=>I.ok.inj x y c (hcl x c h1) (hcl y c h2)
 has:=λx hx=>by
  have hx':∃k',(relabel scope X.env).names.lookup x=some k'/\(k'=.cell\/k'=.free):=by
   rcases hx with h|h
   ·exact⟨_,h,.inl rfl⟩
   ·exact⟨_,h,.inr rfl⟩
  obtain⟨k',h1,h2⟩:=hx'
  obtain⟨k,h3,h4⟩:=cZ h1 h2
  rcases h4 with rfl|rfl
  ·exact absurd rfl (T.nocell _ h3)
  ·exact hfr _ h3 rfl
 cab:=λx c h=>by cases h
 hd:=λ_=>I.ok.hd hc
 frames:=I.ok.frames
 stk:=.inl rfl
 exf:=λb hb=>by
  obtain⟨f0,f1,f2,f3,f4,f5⟩:=hf b hb
  obtain⟨o,e⟩:=ho b hb
  exact⟨aAQ (aAP (aAG e) hC),λx c h=>f4 x c (hcl x c h)⟩
 bs:=λb o e=>I.bs b o e
 bsz:=aAX I.ok.bsz I.sz
 noex:=λb o e hb=>by
  obtain⟨f0,f1,f2,f3,f4,f5⟩:=hf b hb
  rcases f3 with z|z
  ·exact I.ok.noex b o e z
  ·exact absurd (aAP (aAG (I.ok.bs b o e).1) z) (aDR _)
 exfs:=λb hb z=>by
  obtain⟨f0,f1,f2,f3,f4,f5⟩:=hf b hb
  rcases aBK.mp (I.stkSub b z)with q|q
  ·exact f1 q
  ·exact f2 q
 funs:=I.stack
 frf:=I.stkFree
theorem rV(I:Inv X pins σ H₂ s₂)(hc:X.calm=true)(T:CompOk X.N X.env.scope scope Nc js)(hcl:∀x c,cl.lookup x=some c->X.env.cells.lookup x=some c)(hfr:∀y∈scope.names,y.2=.free->∃c,cl.lookup y.1=some c)
  (hf:∀b∈fp,FpOk X pins H₂ b)(ho:∀b∈fp,∃o,s₂.heap.get? b=some o){h₁:Heap}{m:Str->Option Value}{tk:Nat}(hC:C=s₂.heap.objs.size+1)(old:∀b u,s₂.heap.get? b=some u->h₁.get? b=some u)
  (hns:h₁.Ns C m)(hD:h₁.get? s₂.heap.objs.size=some {cls:=.type "list",data:=.seq #[] n}) :
  Inv (compCx X Nc scope cl C fp pins s₂ H₂) [] (outσ js σ) (upd H₂ s₂.heap.objs.size (.lst [])) {s₂ with heap:=h₁,toks:=tk}:=by
 have lt:∀b o,s₂.heap.get? b=some o->b < s₂.heap.objs.size:=λb o e=>aAG e
 have hle:s₂.heap.objs.size<=C:=by rw[hC];exact aEI _
 have cellc:∀x c,cl.lookup x=some c->c < s₂.heap.objs.size:=λx c h=>by
  obtain⟨v,o,e,_⟩:=I.cell x c (hcl x c h)
  exact lt c o e
 have new:ObjOk X.prog X.w (upd H₂ s₂.heap.objs.size (.lst [])) h₁ s₂.heap.objs.size (.lst []):=⟨aCL _,[],n,.nil,hD⟩
 refine⟨zT I hc T hcl hfr hle hf ho,rfl,I.bare,?_,⟨m,hns,λi x v e1 e2 e3=>?_⟩,λx c h=>?_,?_,λx c h=>?_,λp hp=>?_,I.hok.laid old (aAE _) new,?_⟩
 ·exact Un.laid old (aAE _) (I.hok.fresh (aAE _))
 ·have e1:Nc[i]?=some x:=e1
  have e2':∃j,js[i]?=some (some j)/\σ[j]?=some (some v):=by
   unfold outσ at e2
   rw[aBR]at e2
   cases hj:js[i]? with
   |none=>rw[hj]at e2;cases e2
   |some o =>
    rw[hj]at e2
    cases o with
    |none=>cases e2
    |some j =>
     refine⟨j,rfl,?_⟩
     have e2:(σ[j]?).join=some v:=Option.some.inj e2
     cases hq:σ[j]? with
     |none=>rw[hq]at e2;cases e2
     |some o=>rw[hq]at e2;exact congrArg some e2
  obtain⟨j,hj,hv⟩:=e2'
  have hz:(x,some j)∈Nc.zip js:=by
   refine aBE (i:=i) ?_
   rw[List.getElem?_zip_eq_some]
   exact⟨e1,hj⟩
  obtain⟨t1,t2,t3⟩:=T.slots _ hz j rfl
  obtain⟨m0,hn0,hl0⟩:=I.loc
  obtain⟨u,ru,lk⟩:=hl0 j x v t1 hv (.inr (.inl t3))
  refine⟨u,ru,.inr ⟨.inl (dJ I.ok.kind t2 t3),?_⟩⟩
  rcases lk with⟨k,_⟩|⟨_,c,hcc,hcell⟩
  ·have k:X.env.scope.names.lookup x=some .local:=k
   rw[t3]at k;cases k
  ·have hm:(x,NameKind.free)∈scope.names:=by
    have:∀(l:List (Str×NameKind)),l.lookup x=some .free->(x,NameKind.free)∈l:=λl=>by
     induction l with
     |nil=>intro h;simp at h
     |cons y r ih =>
      obtain⟨n',k'⟩:=y
      intro h
      rw[aCQ]at h
      cases e:x==n' with
      |true =>
       rw[e]at h
       have:x=n':=by simpa using e
       subst this
       cases h
       exact aDL
      |false=>rw[e]at h;exact aCG _ (ih h)
    exact this _ t2
   obtain⟨c',hc'⟩:=hfr _ hm rfl
   have hc'':=hcl x c' hc'
   rw[hcc]at hc''
   cases hc''
   obtain⟨o,ho,hd⟩:=hcell
   exact⟨c,hc',o,old c o ho,hd⟩
 ·obtain⟨v,o,e,d⟩:=I.cell x c (hcl x c h)
  exact⟨v,o,old c o e,d⟩
 ·show upd H₂ _ _ C=none
  rw[aP (by rw[hC];exact aCY (Nat.lt_succ_self _))]
  exact I.hok.fresh hle
 ·show upd H₂ _ _ c=none
  rw[aP (aAQ (cellc x c h))]
  exact I.freeC x c (hcl x c h)
 ·have hp:p∈X.pn++pins:=by
   have hp:p∈(X.pn++pins)++[]:=hp
   rwa[aED]at hp
  obtain⟨e,n0,ne,nf,d⟩:=I.pin p hp
  have hlt:=lt _ _ e
  refine⟨old _ _ e,?_,?_,λz=>?_,d⟩
  ·show upd H₂ _ _ p.1=none
   rw[aP (aAQ hlt)];exact n0
  ·show p.1≠C
   exact aAQ (aAP hlt hle)
  ·rcases aBK.mp (I.stkSub _ z)with q|q
   ·exact ne q
   ·exact nf q
 ·show(outσ js σ).length=Nc.length
  unfold outσ
  rw[aAL]
  exact T.len
noncomputable section
def tTurns(J:It)(g:TG)(ti:TT)(te:TE)(D:Addr)(σ0:St)(H0:Hp)(Q:Hp->Prop):Prop :=
 ∃W:Nat->Nat->St->Hp->Prop,(∃m,W 0 m σ0 H0)/\∀i m σ' H',W i m σ' H' ->
  (J.stop i H'/\Q H')\/(J.go i H'/\∃Nn:St->Hp->Prop,(∀σ'' H'',Nn σ'' H''->∃m',m' < m/\W (i+1) m' σ'' H'') /\
   ∀x H'',J.yld i H' x H''->g x σ' H'' λσ2 H2=>ti σ2 H2 λok H3=>if ok=true then te σ2 H3 λy H4=>∃ys,H4 D=some (.lst ys)/\ys.length < sizeLine/\Nn σ2 (upd H4 D (.lst (ys++[y])))else Nn σ2 H3)
def tComp(js:List (Option Nat))(wi:TI)(g:TG)(ti:TT)(te:TE):TE:=λσ H Q=>wi σ H λJ H1=>∀D,H1 D=none->tTurns J g ti te D (outσ js σ) (upd H1 D (.lst [])) λH'=>Q (.ref D) H'
def PIf(X:Cx)(ifs:List Expr)(ti:TT):Prop :=
 ∀(pins:List (Addr×Obj)) (s:Shared) (σ:St) (H:Hp) (Q:Bool->Hp->Prop),Inv X pins σ H s->ti σ H Q ->
  wpAny (model X.prog X.w) X.A (forIn ifs true λc r=>if r=true then do let ok <- isTrue c X.env (eval c X.env);pure (ForInStep.yield ok)else pure (ForInStep.yield r)) (TP X pins σ Q) X.xe s
def tYes:TT:=λ_ H Q=>Q true H
end
theorem aAa:PIf X [] tYes:=λ_ _ _ H _ I h=>wpAny_tests_nil ⟨H,I,h⟩
theorem aAw{c:Expr}{tc:TT}(h:PT X c tc):PIf X [c] tc:=λpins s σ H Q I hq=>wpAny_tests_one (h pins s σ H Q I hq)
variable{E:Value->Shared->Prop}
theorem thnE{t:Sem α}{Q Q':α->Shared->Prop}{M:Model}{E0:Value->Shared->Prop}{s:Shared}(hE:∀e s,¬E0 e s)(h:wpAny M A t Q E0 s)(hQ:∀a s,Q a s->Q' a s):wpAny M A t Q' E s:=aCN h hQ λe s z=>(hE e s z).elim
variable{ifs:List Expr}{J:It}{g:TG}{ti:TT}{D:Addr}{σ0:St}{H0:Hp}{Q:Hp->Prop}
theorem vE{Y:Cx}{iter elt:Expr}{fp:List Addr}{R:Result->Shared->Prop}{s:Shared}
  (hc:Y.calm=true)(hx:∀e s,¬Y.xe e s)(T:Turn Y.prog Y.w Y.K tg J fp it tn)(hg:PG Y tg g)(hi:PIf Y ifs ti)(he:PE Y elt te)
  (stat:∀H',(∀b∈fp,H' b=none)->∀b∈fp,FpOk Y [] H' b)(I0:Inv Y [] σ0 H0 s)(st0:tn 0 s.heap)(fr0:∀b∈fp,H0 b=none)(h:tTurns J g ti te D σ0 H0 Q)
  (hR:∀σ' H' s',Inv Y [] σ' H' s'->Q H'->R (.ok .next) s') :
  codeAny (model Y.prog Y.w) Y.A (.compLoop (.ListComp elt [⟨tg,iter,ifs,0⟩] scope pos) 0 (.ref it) (.ref D) Y.env) R s:=by
 obtain⟨W,⟨m0,w0⟩,turn⟩:=h
 refine codeAny_loop rfl (λn s'=>∃i σ' H',Inv Y [] σ' H' s'/\tn i s'.heap/\(∀b∈fp,H' b=none)/\W i n σ' H') (λn s' hI=>?_) m0 ⟨0,σ0,H0,I0,st0,fr0,w0⟩
 show wpAny _ Y.A ((compTurn (.ListComp elt [⟨tg,iter,ifs,0⟩] scope pos) 0 (.ref it) (.ref D) Y.env).onRaise (λx=>do noteFrame x Y.env;theTreesLotGoes x)) _ _ s'
 refine wpAny_noted ?_
 rw[compTurn_list]
 obtain⟨i,σ3,H3,I3,st3,fr3,w3⟩:=hI
 refine aAA (aFS (aAA ?_))
 rcases turn i n σ3 H3 w3 with⟨stop,qn⟩|⟨go,Nn,hN,step⟩
 ·refine aCN (T.done Y rfl rfl rfl hc i [] s' σ3 H3 _ I3 (stat H3 fr3) st3 stop) (λr s4 ⟨hr,I4⟩=>?_) (λ_ _ h=>h)
  subst hr
  exact aAC (hR σ3 H3 s4 I4 qn)
 ·refine aCN (T.item Y rfl rfl rfl hc i [] s' σ3 H3 _ I3 (stat H3 fr3) st3 go) (λr s4 ⟨u,hr,h4⟩=>?_) (λ_ _ h=>h)
  subst hr
  refine aAA (aCN h4 (λ_ s5 ⟨x,H5,I5,r5,y5,st5,fr5⟩=>?_) λ_ _ h=>h)
  have I5':=I5.pinned (stat H5 fr5) (T.obj _ _ st5)
  refine aAA (thnE hx (hg _ s5 σ3 H5 x u _ I5' r5 (step x H5 y5)) λ_ s6 ⟨σ6,H6,I6,q6⟩=>?_)
  refine aAA (thnE hx (hi _ s6 σ6 H6 _ I6 q6) λok s7 ⟨H7,I7,q7⟩=>?_)
  have again:∀{σ7:St} {H7:Hp} {s7:Shared},Inv Y ([]++pinsAt fp s5.heap) σ7 H7 s7->Nn σ7 H7->∃m,m < n/\∃i σ' H',Inv Y [] σ' H' s7/\tn i s7.heap/\(∀b∈fp,H' b=none)/\W i m σ' H':=λ{σ7 H7 s7} I7 n7=>by
   obtain⟨m',hm,w7⟩:=hN σ7 H7 n7
   refine⟨m',hm,i+1,σ7,H7,I7.unpinned,T.keep _ _ _ st5 λb hb o e=>(I7.pin (b,o) (aBJ _ (aBJ _ (fC hb e)))).1,λb hb=>?_,w7⟩
   obtain⟨o,e,d⟩:=T.obj _ _ st5 b hb
   exact(I7.pin (b,o) (aBJ _ (aBJ _ (fC hb e)))).2.1
  cases ok with
  |false=>exact aAC ⟨rfl,again I7 q7⟩
  |true =>
   refine aAA (aAA (thnE hx (he _ s7 σ6 H7 _ I7 q7) λy s8 ⟨yv,H8,I8,r8,ys,hD,hz,n8⟩=>aAA ?_))
   refine thnE hx (mJ _ s8 σ6 H8 (.ref D) [yv] (.ref D) [y] (λ_ H9=>Nn σ6 H9) I8 rfl (.cons r8 .nil) ⟨D,ys,yv,rfl,rfl,hD,hz,n8⟩) λ_ s9 ⟨_,H9,I9,_,q9⟩=>?_
   exact aAC (aAC ⟨rfl,again I9 q9⟩)
variable{iter elt:Expr}{js:List (Option Nat)}{wi:TI}
structure CompEnd(X:Cx)(pins:List (Addr×Obj))(σ:St)(H':Hp)(C:Addr)(s':Shared):Prop where
 inv:Inv X pins σ H' s'
 ns:∃m,s'.heap.Ns C m
 no:H' C=none
 ne:C≠X.env.locals
 ge:X.s₀.heap.objs.size<=C
 nc:∀x c,X.env.cells.lookup x=some c->c≠C
 np:∀p∈X.pn++pins,p.1≠C
theorem CompEnd.go{σ':St}{t:Shared}(e:CompEnd X pins σ H' C s')(I:Inv X pins σ' H' t)(hs:Heap.SameBut C t.heap h'):Inv X pins σ' H' {t with heap:=h'} :=
 I.turned (t':=t.toks) (it:=C) (λb o hb q=>(hs.2 b hb).trans q) e.no e.ne (.inr e.ge) e.nc e.np
theorem rG{pins:List (Addr×Obj)}{H₂:Hp}{s₂:Shared}{fp:List Addr}{cl:List (Str×Addr)}{RR:Value->Addr->Result->Shared->Prop}{Q':Addr->Hp->Prop}
  (hc:X.calm=true)(T:CompOk X.N X.env.scope scope Nc js)(hcl:∀x c,cl.lookup x=some c->X.env.cells.lookup x=some c)(hfr:∀y∈scope.names,y.2=.free->∃c,cl.lookup y.1=some c)
  (hg:∀cl C fp pins s₂ H₂,PG (compCx X Nc scope cl C fp pins s₂ H₂) tg g)(hi:∀cl C fp pins s₂ H₂,PIf (compCx X Nc scope cl C fp pins s₂ H₂) ifs ti)(he:∀cl C fp pins s₂ H₂,PE (compCx X Nc scope cl C fp pins s₂ H₂) elt te)
  (I2:Inv X pins σ H₂ s₂)(Tn:Turn X.prog X.w X.K tg J fp it tn)(st2:tn 0 s₂.heap)(f2:∀b∈fp,FpOk X pins H₂ b)
  (q:∀D,H₂ D=none->tTurns J g ti te D (outσ js σ) (upd H₂ D (.lst [])) (Q' D))
  (hRR:∀D C H' s',CompEnd X pins σ H' C s'->Q' D H'->RR (.ref D) C (.ok .next) s') :
  wpAny (model X.prog X.w) X.A (newList []) (λacc s₃=>wpAny (model X.prog X.w) X.A (newFunctionEnv scope X.env.globals cl [] X.env.qual none .none (some X.env)) (λcenv s₄ =>
   codeAny (model X.prog X.w) X.A (.compStart (.ListComp elt [⟨tg,iter,ifs,0⟩] scope pos) 0 (.ref it) acc {cenv with scope:=relabel scope X.env}) (RR acc cenv.locals) s₄) E s₃) E s₂:=by
 refine aAZ (wpAny_newFunctionEnv T.nocell (by intro y hy;simp at hy) (λh₁ hns₁ hsb₁=>?_) T.kind)
 dsimp only at hns₁ hsb₁ ⊢
 generalize hH2:s₂.heap.push {cls:=.type "list",dict:=none,data:=.seq ([]:List Value).toArray}=Hx at hns₁ hsb₁ ⊢
 have hC:Hx.objs.size=s₂.heap.objs.size+1:=by rw[<- hH2,Heap.size_push]
 have below:∀b,b < s₂.heap.objs.size->b≠Hx.objs.size:=λb hb=>by rw[hC];exact aAQ (Nat.lt_succ_of_lt hb)
 have old:∀b o,s₂.heap.get? b=some o->h₁.get? b=some o:=λb o e=>hsb₁.extBut b o (below b (aAG e)) (aAB _ (hH2▸aAB _ e))
 have hD:h₁.get? s₂.heap.objs.size=some {cls:=.type "list",data:=.seq #[]}:=hsb₁.extBut _ _ (by rw[hC];exact aAQ (Nat.lt_succ_self _)) (aAB _ (hH2▸aAM _ rfl))
 have ho:∀b∈fp,∃o,s₂.heap.get? b=some o:=λb hb=>let⟨o,e,_⟩:=Tn.obj _ _ st2 b hb;⟨o,e⟩
 have hDn:H₂ s₂.heap.objs.size=none:=I2.hok.fresh (aAE _)
 have hle:s₂.heap.objs.size<=Hx.objs.size:=by rw[hC];exact aEI _
 have st1:tn 0 h₁:=Tn.keep _ _ _ st2 λb _ o e=>old b o e
 have fr1:∀b∈fp,upd H₂ s₂.heap.objs.size (.lst []) b=none:=λb hb=>by
  obtain⟨o,e⟩:=ho b hb
  rw[aP (aAQ (aAG e))]
  exact(f2 b hb).1
 have stat:∀H',(∀b∈fp,H' b=none)->∀b∈fp,FpOk (compCx X Nc scope cl Hx.objs.size fp pins s₂ H₂) [] H' b:=λH' hn b hb=>by
  obtain⟨g0,g1,g2,g3,g4,g5⟩:=f2 b hb
  obtain⟨o,e⟩:=ho b hb
  refine⟨hn b hb,below b (aAG e),λz=>?_,.inl hb,λx c h=>g4 x c (hcl x c h),λp hp=>g5 p ?_⟩
  ·rcases aBK.mp (I2.stkSub b z)with y|y
   ·exact g1 y
   ·exact g2 y
  ·have hp:p∈(X.pn++pins)++[]:=hp
   rwa[aED]at hp
 have loop:∀tk,codeAny (model X.prog X.w) X.A (.compLoop (.ListComp elt [⟨tg,iter,ifs,0⟩] scope pos) 0 (.ref it) (.ref s₂.heap.objs.size) (compEnvC scope cl Hx.objs.size X.env)) (RR (.ref s₂.heap.objs.size) Hx.objs.size) {s₂ with heap:=h₁,toks:=tk}:=λtk=>by
  refine vE (Y:=compCx X Nc scope cl Hx.objs.size fp pins s₂ H₂) rfl (λ_ _ z=>z) Tn (hg _ _ _ _ _ _) (hi _ _ _ _ _ _) (he _ _ _ _ _ _) stat
   (rV (tk:=tk) I2 hc T hcl hfr f2 ho hC old hns₁ hD) st1 fr1 (q _ hDn) λσ' H' s' I' qQ=>?_
  obtain⟨m,hm,_⟩:=I'.loc
  refine hRR _ _ H' s' ⟨?_,⟨m,hm⟩,I'.free,aCY (aAP I2.lt hle),aAX I2.sz hle,λx c h=>?_,λp hp=>?_⟩ qQ
  ·exact I2.call' (ch:=fp) I'.os I'.base I'.hok I'.bare λb hb=>let⟨g0,g1,g2,g3,g4,g5⟩:=f2 b hb;⟨g3,g1,g4,g5⟩
  ·obtain⟨v,o,e,_⟩:=I2.cell x c h
   exact below c (aAG e)
  ·exact below _ (aAG (I2.pin p hp).1)
 exact codeAny_compStart_list (loop _) (Tn.self _ _ _ _ _ st1 (loop _))
theorem zK(hc:X.calm=true)(T:CompOk X.N X.env.scope scope Nc js)(hit:PI X tg iter wi)
  (hg:∀cl C fp pins s₂ H₂,PG (compCx X Nc scope cl C fp pins s₂ H₂) tg g)(hi:∀cl C fp pins s₂ H₂,PIf (compCx X Nc scope cl C fp pins s₂ H₂) ifs ti)(he:∀cl C fp pins s₂ H₂,PE (compCx X Nc scope cl C fp pins s₂ H₂) elt te)
  (hs:∀x,foldedSetIterable iter X.env x=pure x:=by intro _;rfl):PE X (.ListComp elt [⟨tg,iter,ifs,0⟩] scope pos) (tComp js wi g ti te):=by
 intro pins s σ H Q I h
 rw[eval_ListComp]
 obtain⟨cl,hcl0,hcl,hfr⟩:=lX (scope:=scope) (env:=X.env) (λy hy hf=>I.ok.has y.1 (.inl (T.free y hy hf)))
 refine wpAny_comprehension_free (use:=none) rfl hs hcl0 T.kind T.names (thn (hit pins s σ H _ I h) λxv s1 h1=>thn h1 λitv s2 h2=>?_)
 obtain⟨it,fp,tn,J,H2,e,I2,Tn,st2,f2,q⟩:=h2
 subst e
 refine rG (RR:=λacc C=>compPost (model X.prog X.w) X.A X.xe none (EP X pins σ Q) acc C) hc T hcl hfr hg hi he I2 Tn st2 f2 q λD C H' s' ce qD=>?_
 obtain⟨m,hm⟩:=ce.ns
 exact⟨m,hm,λh' hs'=>⟨.ref D,H',ce.go ce.inv hs',rfl,qD⟩⟩
noncomputable def compOkB(N0:List Str)(sc0 scope:Scope)(Nc:List Str)(js:List (Option Nat)):Bool :=
 decide (scope.kind=.function)&&scope.names.all (λy=>y.2 != .cell)&&scope.names.all (λy=>y.2 != .local || scope.names.lookup y.1==some .local)&&scope.names.all (λy=>y.2 != .free || sc0.names.lookup y.1==some .cell) &&
  (js.length==Nc.length)&&(Nc.zip js).all (λp=>match p.2 with|none=>true|some j=>N0[j]?==some p.1&&scope.names.lookup p.1==some .free&&sc0.names.lookup p.1==some .cell)
theorem CompOk.of{N0:List Str}{sc0:Scope}(h:compOkB N0 sc0 scope Nc js=true):CompOk N0 sc0 scope Nc js:=by
 unfold compOkB at h
 simp only[aBO,List.all_eq_true,aFH,aAW]at h
 obtain⟨⟨⟨⟨⟨h1,h2⟩,h3⟩,h4⟩,h5⟩,h6⟩:=h
 refine⟨h1,λy hy=>by simpa using h2 y hy,λy hy e=>?_,λy hy e=>?_,h5,λp hp j hj=>?_⟩
 ·have:=h3 y hy
  simpa[e]using this
 ·have:=h4 y hy
  simpa[e]using this
 ·have:=h6 p hp
  have hj:p.2=some j:=hj
  rw[hj]at this
  simpa[and_assoc]using this
section
variable{a b:Expr}{rest:List Expr}
end
variable{prog:Program}
section
variable{st:Stmt}{rest:List Stmt}{t u:TS}
end
theorem nB:bootBuiltins "int"=some (.type "int"):=by decide +kernel
theorem aAd:bootBuiltins "bool"=some (.type "bool"):=by decide +kernel
theorem eG:bootBuiltins "isinstance"=some (.builtin "isinstance"):=by decide +kernel
theorem nE:bootBuiltins "max"=some (.builtin "max"):=by decide +kernel
theorem aCb:bootBuiltins "min"=some (.builtin "min"):=by decide +kernel
theorem dQ:bootBuiltins "tuple"=some (.type "tuple"):=by decide +kernel
theorem tQ:bootBuiltins "list"=some (.type "list"):=by decide +kernel
theorem oF:bootBuiltins "enumerate"=some (.type "enumerate"):=by decide +kernel
theorem dO:bootBuiltins "sorted"=some (.builtin "sorted"):=by decide +kernel
end L2
end
namespace L2
open PySem
noncomputable def Scr(K:Frag)(H:Hp)(a:Addr)(xs:List V):Prop:=(∃o,H a=some (.frz o (.lst xs)))\/∀H',SqL K H' a xs
theorem Scr.of{a:Addr}{xs:List V}(hO:Only H)(h:SqL K H a xs):Scr K H a xs:=by
 rcases h with(h|⟨o,h⟩)|h
 ·rcases hO a with z|⟨o,ys,z⟩
  ·rw[h]at z;cases z
  ·rw[h]at z;cases z
 ·exact .inl ⟨o,h⟩
 ·exact .inr λ_=>.inr h
noncomputable def SB(l:Addr)(H H':Hp):Prop:=∀x o,x≠l->H x=some o->H' x=some o
theorem SB.trans(s:SB l H H1)(t:SB l H1 H2):SB l H H2:=λx u n e=>t x u n (s x u n e)
open PySem.Spec PyProof.Rows
end L2
namespace Com
open PySem L2
structure IW(n k high low past now:Int):Prop where
 h0:0<=high
 hb:high<=1000000
 l0:0<=low
 lb:low<=1000000
 g:Int.gcd high low=Int.gcd n (k % n)
 d1:n ∣ k*past - high
 d2:n ∣ k*now - low
structure PV(n k e told square left:Int):Prop where
 t0:0<=told
 t1:told < n
 s0:0<=square
 s1:square < n
 l0:0<=left
 eq:told*square ^ left.toNat % n=k ^ e.toNat % n
noncomputable def bitsN:List Int->Nat
 |[]=>0
 |b::r=>b.toNat+2*bitsN r
structure DG(e0 e:Int)(ds:List Int):Prop where
 nn:0<=e
 bit:∀d∈ds,d=0\/d=1
 len:∃m:Nat,e.toNat < 2 ^ m/\ds.length+m=62
 val:∀r,bitsN r=e.toNat->bitsN (ds++r)=e0.toNat
noncomputable def BoxAt(H:Hp)(b:Addr):Prop:=∃c s t:Int,H b=some (.lst [.int c,.int s,.int t])
noncomputable def Keep(b:Addr)(H H':Hp):Prop:=(∀a o,a≠b->H a=some o->H' a=some o)/\BoxAt H' b
theorem Keep.trans{b:Addr}(x:Keep b H H1)(y:Keep b H1 H2):Keep b H H2:=⟨λa o n e=>y.1 a o n (x.1 a o n e),y.2⟩
end Com
section
open PySem PySem.Spec PyProof.Rows
namespace L2
variable{K:Frag}
section
variable{W:World}{Ar:Around}{Ex:Value->Shared->Prop}{hp:Heap}{gn:Array GenState}{dr:Drawn}{tk:Nat}{oz:OsState}{nm qn:Str}{N:Addr}{bs bmB:List Value}{hdct:Bool}{sn:List Str}{sub:List Value}{ab:Bool}{col:Option Bool}{dd:Option Addr}{k0 k1 k2 k3 k5:Option Value}{B newId initId:String}{rs:List Value}{oI:Obj}
theorem nK(F:ExcBaseFacts B newId initId bmB)(T:OwnTail hp bmB bm){Q:Fin->Shared->Prop}
  (hC:hp.get? C=some (excClassObj nm qn C N bs bm hdct sn sub ab col dd k0 k1 k2 k3 k5 newId))(nsN:hp.Ns N mN)(iN:mN "__init__"=some (.ref fI))(gI:hp.get? fI=some oI)(cI:oI.cls=.type "function")
  (go:∀h' e,Heap.MadeExcOf hp h' e (.ref C) rs->wpAny (model P W) Ar (call (.ref fI) (.ref e::rs)) (λr s'=>r=.none/\Q (.done (.ret (.ref e))) s') Ex ⟨h',gn,dr,tk,oz⟩)(few:rs.length<=sizeLine:=by size_fits) :
  wpAny (model P W) Ar (Builtin.«type.__call__» ⟨.ref C::rs,[]⟩) Q Ex ⟨hp,gn,dr,tk,oz⟩:=by
 repeat(first|with_reducible refine aDF hC ?_ |with_reducible refine wpAny_madeBy_exc hC ?_ |wp_step)
 refine codeAny_call_builtin_code (aGR _ F.quiet) (wpAny_check_new_subT F T hC (codeAny_exc_new_subT F T hC ?_ few))
 show wpAny _ _ _ _ _ _
 generalize eO1:({cls:=.type "tuple",data:=.seq rs.toArray}:Obj)=O1
 generalize eO2:({cls:=.ref C,data:=.fields #[.ref hp.objs.size,.none,.none,.none,.bool false,.none]}:Obj)=O2
 have keep:∀b o,hp.get? b=some o->((hp.push O1).push O2).get? b=some o:=λb o e=>aAB _ (aAB _ e)
 have at2:((hp.push O1).push O2).get? (hp.objs.size+1)=some O2:=by subst eO1 eO2;heap_get
 have own:(Value.ref C::bm).contains (.ref C)=true:=by simp
 have C1:=keep _ _ hC
 unfold isInstance
 have c2:O2.cls=.ref C:=by subst eO2;rfl
 repeat(first|(with_reducible refine aDF at2 ?_;rw[c2])|(with_reducible refine aFC C1 ?_;rw[own])|wp_step)
 refine wpAny_typeLookup_tail C1 (nsN.keeps keep) (T.keeps keep) F.mroIs F.init.lookup ?_
 rw[iN]
 unfold bindSpecial
 refine aBV (aAA (aAA (aEO (T:="function") ⟨_,keep _ _ gI,cI⟩ ?_)))
 rw[aAH (by decide)]
 have made:Heap.MadeExcOf hp ((hp.push O1).push O2) (hp.objs.size+1) (.ref C) rs :=
  ⟨keep,aEV (aEI _),hp.objs.size,by rw[at2,<- eO2],aEV (aAE _),by subst eO1;exact aAB _ (Heap.get?_push_at rfl rfl)⟩
 refine aAC (aAA (aCN (go _ _ made) (λr s' z=>?_) λ_ _ x=>x))
 obtain⟨rfl,z⟩:=z
 wp_walk
 exact z
theorem qT(F:ExcBaseFacts B newId initId bmB)(T:OwnTail hp bmB bm) 
  (hC:hp.get? C=some (excClassObj nm qn C N bs bm hdct sn sub ab col dd k0 k1 k2 k3 k5 newId))(nsN:hp.Ns N mN)(iN:mN "__init__"=some (.ref fI))(gI:hp.get? fI=some oI)(cI:oI.cls=.type "function")
  (go:∀h' e,Heap.MadeExcOf hp h' e (.ref C) rs->wpAny (model P W) (Ar.under (.builtin "type.__call__" ⟨.ref C::rs,[]⟩)) (call (.ref fI) (.ref e::rs)) (λr s'=>r=.none/\Q (.ref e) s') Ex ⟨h',gn,dr,tk,oz⟩)(few:rs.length<=sizeLine:=by size_fits) :
  wpAny (model P W) Ar (call (.ref C) rs) Q Ex ⟨hp,gn,dr,tk,oz⟩:=by
 have f1:=tc_lookup
 have f2:=tc_bind (.ref C)
 have ty:(⟨hp,gn,dr,tk,oz⟩:Shared).TypeIs (.ref C) "type":=⟨_,hC,rfl⟩
 refine aES (codeAny_of_tree (show wpAny _ _ (callAny (.ref C) _) _ _ _ from ?_))
 repeat(any_goals (first|assumption|with_reducible refine aDF hC ?_ |wp_step))
 exact⟨rfl,codeAny_call_builtin_at (aGR _ (by decide +kernel)) entry_typeCall (wpAny_check_type_call_sub hC (nK (few:=few) F T hC nsN iN gI cI go))⟩
end
noncomputable def XRec(P:Addr->Prop)(H:Hp)(h:Heap)(e C:Addr)(d:Option Addr):Prop :=
 ∃vs sl,h.get? e=some ⟨.ref C,d,.fields vs,sl⟩/\1 < vs.size /\
  (vs[1]?=some .none\/∃T cT dT ts sT,vs[1]?=some (.ref T)/\P T/\H T=none/\h.get? T=some ⟨cT,dT,.fields ts,sT⟩/\3 < ts.size)
variable{e:Addr}
theorem XRec.imp{P P':Addr->Prop}(x:XRec P H h e C d)(i:∀T,P T->P' T):XRec P' H h e C d:=by
 obtain⟨vs,sl,h1,h2,h3|⟨T,cT,dT,ts,sT,a1,a2,a3⟩⟩:=x
 ·exact⟨vs,sl,h1,h2,.inl h3⟩
 ·exact⟨vs,sl,h1,h2,.inr ⟨T,cT,dT,ts,sT,a1,i T a2,a3⟩⟩
variable{M:Model}{E:Value->Shared->Prop}{L:Addr}{P:Addr->Prop}{Q:Unit->Shared->Prop}{a:Addr}{vs:Array Value}
theorem cB{c:Value}{x:Value}(ha:h.get? a=some ⟨c,d,.fields vs,sl⟩) :
  (h.update a (Obj.mapFields (·.setIfInBounds i x))).get? a=some ⟨c,d,.fields (vs.setIfInBounds i x),sl⟩:=aCD _ ha rfl
theorem bC{b:Addr}{f:Obj->Obj}(n:b≠a):(h.update a f).get? b=h.get? b:=aDJ _ _ (Ne.symm n)
theorem lA{sl:Array (Option Value)}{head:Value}{hb:Bool}(hfr:A.frames=some (env::outer))(hl:s.heap.FunFrames base (env::outer))(hf:env.frame=some L)
  (he:s.heap.get? e=some ⟨.ref C,d,.fields vs,sl⟩)(hz:1 < vs.size)(hP:∀T,s.heap.objs.size<=T->P T)(hN:∀T,s.heap.objs.size<=T->H T=none)
  (hQ:∀h',(∀b o,b≠e->b∉frs (env::outer)->s.heap.get? b=some o->h'.get? b=some o)->(∀b o,b∈frs (env::outer)->s.heap.get? b=some o->∃sl,h'.get? b=some {o with slots:=sl}) ->
   XRec P H h' e C d->Q () {s with heap:=h'}) :
  wpAny M A (do let a <- frameOf env;let pl <- entryPlaceOf L hb;let t <- EntryCells.newEntry head a .none (rawInt L) .none pl;setField (.ref e) 1 t) (λ_ s₂=>wpAny M A' (setFlight (.ref e) none) Q E s₂) E s:=by
 have nfr:e∉frs (env::outer):=λz=>by
  obtain⟨_,o,q,n⟩:=hl.mem z
  rw[he]at q;cases q;exact n vs rfl
 refine aAA (wpAny_frameOf_fun hfr hl hf λh1 so=>?_)
 refine aAA (wpAny_entryPlaceOf λpl isp=>aAA ?_)
 unfold EntryCells.newEntry newFields
 refine aAZ ?_ (isp.sizeOk5 _ _ _ _ _)
 generalize eT:([head,Value.ref L,.none,rawInt L,.none]++(if pl.isEmpty then List.replicate 6 Value.none else pl)).toArray=tv
 have hsz:3 < tv.size:=by rw[<- eT];simp only[aAK,aCF,aCR];lia
 have e1:h1.get? e=some ⟨.ref C,d,.fields vs,sl⟩:=(so.2.1 e nfr).trans he
 have ne:e≠h1.objs.size:=aAQ (aAG e1)
 generalize eo:({cls:=.type "traceback",dict:=none,data:=.fields tv}:Obj)=oT
 have e2:(h1.push oT).get? e=some ⟨.ref C,d,.fields vs,sl⟩:=aAB _ e1
 refine aCK e2 rfl hz ?_
 have e3:=cB (i:=1) (x:=.ref h1.objs.size) e2
 have t3:((h1.push oT).update e (Obj.mapFields (·.setIfInBounds 1 (.ref h1.objs.size)))).get? h1.objs.size=some ⟨.type "traceback",none,.fields tv,#[]⟩:=by
  rw[bC (Ne.symm ne),<- eo];exact aAM h1 rfl
 unfold setFlight
 refine aAA (aAV e3 rfl (x:=.ref h1.objs.size) (by simp[hz]) ?_)
 rw[aAH (by simp)]
 refine aCK t3 rfl hsz (hQ _ (λb o nb nf q=>?_) (λb o bf q=>?_) ?_)
 ·have q1:=(so.2.1 b nf).trans q
  rw[bC (aAQ (aAG q1)),bC nb]
  exact aAB _ q1
 ·obtain⟨sl',q1⟩:=so.2.2 b o q
  have nb:b≠e:=λz=>nfr (z▸bf)
  exact⟨sl',by rw[bC (aAQ (aAG q1)),bC nb];exact aAB _ q1⟩
 ·refine⟨_,sl,by rw[bC ne];exact e3,by simpa using hz,.inr ⟨h1.objs.size,_,_,_,_,by simp[hz],hP _ (by rw[so.1];exact aAE _),hN _ (by rw[so.1];exact aAE _),cB t3,?_⟩⟩
  simp[hsz]
theorem flight(hfr:A.frames=some (env::outer))(hl:s.heap.FunFrames base (env::outer))(hf:env.frame=some L)(x:XRec P H s.heap e C d)(he:H e≠none)
  (hP:∀T,s.heap.objs.size<=T->P T)(hN:∀T,s.heap.objs.size<=T->H T=none)
  (hQ:∀(h':Heap) (ch:List Addr),(∀b∈ch,P b/\H b=none/\b∉frs (env::outer))->(∀b o,b≠e->b∉frs (env::outer)->b∉ch->s.heap.get? b=some o->h'.get? b=some o)->(∀b o,b∈frs (env::outer)->s.heap.get? b=some o->∃sl,h'.get? b=some {o with slots:=sl}) ->
   (∀b o,s.heap.get? b=some o->∃o',h'.get? b=some o')->XRec P H h' e C d->Q () {s with heap:=h'}) :
  wpAny M A (noteFrame (.ref e) env) (λ_ s₂=>wpAny M A' (setFlight (.ref e) none) Q E s₂) E s:=by
 obtain⟨vs,sl,h1,h2,h3|⟨T,cT,dT,ts,sT,a1,a2,a3,a4,a5⟩⟩:=x
 ·unfold noteFrame
  simp only[hf]
  refine aAA (aAV h1 rfl h3 ?_)
  rw[aAI (by decide)]
  refine lA (P:=P) (H:=H) hfr hl hf h1 h2 hP hN λh' k1 k2 r=>hQ h' [] (λ_ z=>nomatch z) (λb o n nf _ q=>k1 b o n nf q) k2 (λb o q=>?_) r
  by_cases hb:b∈frs (env::outer)
  ·obtain⟨sl,q⟩:=k2 b o hb q;exact⟨_,q⟩
  ·by_cases hbe:b=e
   ·subst hbe;obtain⟨_,_,r,_⟩:=r;exact⟨_,r⟩
   ·exact⟨_,k1 b o hbe hb q⟩
 ·have ne:e≠T:=λz=>he (z▸a3)
  have nfr:T∉frs (env::outer):=λz=>by
   obtain⟨_,o,q,n⟩:=hl.mem z
   rw[a4]at q;cases q;exact n ts rfl
  unfold noteFrame
  simp only[hf]
  refine aAA (aAV h1 rfl a1 ?_)
  rw[aAH (show(Value.ref T != Value.none)=true by simp)]
  refine aAA (aAV a4 rfl (aFE a5) ?_)
  by_cases here:(ts[3]==rawInt L)=true
  ·rw[aAH here]
   refine aAC ?_
   unfold setFlight
   refine aAA (aAV h1 rfl a1 ?_)
   rw[aAH (show(Value.ref T != Value.none)=true by simp)]
   refine aCK a4 rfl a5 (hQ _ [T] (λb hb=>?_) (λb o _ _ nb q=>(bC λz=>nb (by simp[z])).trans q) (λb o hb q=>⟨o.slots,(bC (a:=T) (λ(z:b=T)=>nfr (z▸hb))).trans q⟩) (λb o q=>?_) ⟨vs,sl,(bC ne).trans h1,h2,.inr ⟨T,cT,dT,_,sT,a1,a2,a3,cB a4,by simpa using a5⟩⟩)
   ·rw[aAT]at hb;subst hb;exact⟨a2,a3,nfr⟩
   ·by_cases z:b=T
    ·subst z;exact⟨_,cB a4⟩
    ·exact⟨o,(bC z).trans q⟩
  rw[aAI here]
  refine aAA (aCK a4 rfl a5 ?_)
  have hsz:(s.heap.update T (Obj.mapFields (·.setIfInBounds 3 Value.none))).objs.size=s.heap.objs.size:=Heap.size_after_update ..
  refine lA (P:=P) (H:=H) hfr (hl.of_keeps λb o q n=>⟨o,(bC λz=>?_).trans q,rfl⟩) hf ((bC ne).trans h1) h2 (λU hU=>hP U (by rw[<- hsz];exact hU)) (λU hU=>hN U (by rw[<- hsz];exact hU)) λh' k1 k2 r=>hQ h' [T] (λb hb=>?_) (λb o n nf nc q=>k1 b o n nf ((bC λz=>nc (by simp[z])).trans q)) (λb o bf q=>k2 b o bf ((bC (a:=T) (λ(z:b=T)=>nfr (z▸bf))).trans q)) (λb o q=>?_) r
  ·subst z;rw[a4]at q;cases q;exact n ts rfl
  ·rw[aAT]at hb;subst hb;exact⟨a2,a3,nfr⟩
  ·have:∃o1,(s.heap.update T (Obj.mapFields (·.setIfInBounds 3 Value.none))).get? b=some o1:=by
    by_cases z:b=T
    ·subst z;exact⟨_,cB a4⟩
    ·exact⟨o,(bC z).trans q⟩
   obtain⟨o1,q⟩:=this
   by_cases hb:b∈frs (env::outer)
   ·obtain⟨sl,q⟩:=k2 b o1 hb q;exact⟨_,q⟩
   ·by_cases hbe:b=e
    ·subst hbe;obtain⟨_,_,r,_⟩:=r;exact⟨_,r⟩
    ·exact⟨_,k1 b o1 hbe hb q⟩
theorem rQ(x:XRec P H s.heap e C d)(he:H e≠none) 
  (hQ:∀(h':Heap) (ch:List Addr),(∀b∈ch,P b/\H b=none)->(∀b o,b∉ch->s.heap.get? b=some o->h'.get? b=some o)->(∀b o,s.heap.get? b=some o->∃o',h'.get? b=some o')->XRec P H h' e C d->Q () {s with heap:=h'}) :
  wpAny M A (setFlight (.ref e) none) Q E s:=by
 obtain⟨vs,sl,h1,h2,h3|⟨T,cT,dT,ts,sT,a1,a2,a3,a4,a5⟩⟩:=x
 ·unfold setFlight
  refine aAA (aAV h1 rfl h3 ?_)
  rw[aAI (by decide)]
  exact aAC (hQ s.heap [] (λ_ z=>nomatch z) (λ_ _ _ q=>q) (λb o q=>⟨o,q⟩) ⟨vs,sl,h1,h2,.inl h3⟩)
 ·have ne:e≠T:=λz=>he (z▸a3)
  have hz3:=a5
  unfold setFlight
  refine aAA (aAV h1 rfl a1 ?_)
  rw[aAH (show(Value.ref T != Value.none)=true by simp)]
  refine aCK a4 rfl hz3 (hQ _ [T] (λb hb=>?_) (λb o nb q=>(bC λz=>nb (by simp[z])).trans q) (λb o q=>?_) ⟨vs,sl,(bC ne).trans h1,h2,.inr ⟨T,cT,dT,_,sT,a1,a2,a3,cB a4,?_⟩⟩)
  ·rw[aAT]at hb;subst hb;exact⟨a2,a3⟩
  ·by_cases z:b=T
   ·subst z;exact⟨_,cB a4⟩
   ·exact⟨o,(bC z).trans q⟩
  ·simp[hz3]
noncomputable def XO(e C:Addr)(d:Option Addr):HO:=.ext λh=>∃vs sl,h.get? e=some ⟨.ref C,d,.fields vs,sl⟩
variable{P:Program}
theorem XO.ok(q:h.get? e=some ⟨.ref C,d,.fields vs,sl⟩):ObjOk P w H h e (XO e C d) :=
 ⟨⟨vs,sl,q⟩,⟨_,q⟩,λh1 h2 ⟨vs,sl,z⟩ k=>⟨vs,sl,k _ z⟩⟩
theorem XO.at(x:HOk P w H h)(q:H e=some (XO e C d)):∃vs sl,h.get? e=some ⟨.ref C,d,.fields vs,sl⟩:=(x e _ q).1
noncomputable def Free(X:Cx)(pins:List (Addr×Obj))(T:Addr):Prop:=X.s₀.heap.objs.size<=T/\T≠X.env.locals/\(∀x c,X.env.cells.lookup x=some c->c≠T)/\∀p∈X.pn++pins,p.1≠T
variable{σ:List (Option V)}
theorem Inv.freeNew(I:Inv X pins σ H s){T:Addr}(h:s.heap.objs.size<=T):Free X pins T:=by
 refine⟨aAX I.sz h,aCY (aAP I.lt h),λx c q=>?_,λp hp=>?_⟩
 ·obtain⟨v,o,ho,_⟩:=I.cell x c q
  exact aAQ (aAP (aAG ho) h)
 ·exact aAQ (aAP (aAG (I.pin p hp).1) h)
theorem Inv.moved{ch:List Addr}(I:Inv X pins σ H s)(he:H e=some (XO e C d))(hst:X.stack=X.env::X.outer)(hfm:X.env.frame=some X.env.locals)
  (hc:∀b∈ch,Free X pins b/\H b=none)(k1:∀b o,b≠e->b∉frs (X.env::X.outer)->b∉ch->s.heap.get? b=some o->h'.get? b=some o)
  (k2:∀b o,b∈frs (X.env::X.outer)->s.heap.get? b=some o->∃sl,h'.get? b=some {o with slots:=sl})(k3:∀b o,s.heap.get? b=some o->∃o',h'.get? b=some o')
  {sl:Array (Option Value)}(new:h'.get? e=some ⟨.ref C,d,.fields vs,sl⟩):Inv X pins σ H {s with heap:=h'}:=by
 have hfr:∀b,b∈frs (X.env::X.outer) ↔ b=X.env.locals\/b∈X.fs:=λb=>by
  unfold frs;rw[aDX,hfm];exact aBK
 have ne:∀b,H b=none->b≠e:=λb n z=>by subst z;rw[he]at n;cases n
 have hsf:=I.stkFree
 rw[hst]at hsf
 refine I.step (g':=s.gens) (d':=s.drawn) (t':=s.toks) (ch:=ch) (λb hb=>⟨.inr (hc b hb).1.1,(hc b hb).1.2⟩) (λb o nL nf nc q n=>k1 b o (ne b n) (λz=>((hfr b).mp z).elim nL nf) nc q)
  (λb o nL bf nc q n=>k2 b o ((hfr b).mpr (.inr bf)) q) (λ_ _ _ _ n=>n) (λb o _ q=>k3 b o q) (λ_ _ q=>q) (λ_ _ _ q=>q) (λb ps q=>⟨#[],by rw[q];simp⟩) (λm hm=>?_) (λa o q=>?_) I.bare
 ·obtain⟨o,es,ep,ho,r⟩:=hm
  obtain⟨sl,q⟩:=k2 _ o ((hfr _).mpr (.inl rfl)) ho
  exact⟨_,es,ep,q,r⟩
 ·by_cases ha:a=e
  ·subst ha;rw[he]at q;cases q;exact XO.ok new
  ·refine(I.hok a o q).stay (λb u hb q'=>k1 b u ?_ ?_ ?_ q') (λ_ z=>z) λ_ _ z=>z
   ·rcases hb with rfl|hb
    ·exact ha
    ·rintro rfl;rw[he]at hb;cases hb
   ·intro z
    have n:=hsf b z
    rcases hb with rfl|hb
    ·rw[q]at n;cases n
    ·rw[hb]at n;cases n
   ·intro z
    have n:=(hc b z).2
    rcases hb with rfl|hb
    ·rw[q]at n;cases n
    ·rw[hb]at n;cases n
theorem Inv.flight(I:Inv X pins σ H s)(hst:X.stack=X.env::X.outer)(hfm:X.env.frame=some X.env.locals)(hA:A.frames=some X.stack)(x:XRec (Free X pins) H s.heap e C d)(he:H e=some (XO e C d))
  (hQ:∀h',Inv X pins σ H {s with heap:=h'}->XRec (Free X pins) H h' e C d->Q () {s with heap:=h'}) :
  wpAny M A (noteFrame (.ref e) X.env) (λ_ s₂=>wpAny M A' (setFlight (.ref e) none) Q E s₂) E s:=by
 have hl:=I.stack
 rw[hst]at hl hA
 refine L2.flight hA hl hfm x (by rw[he];simp) (λT hT=>I.freeNew hT) (λT hT=>I.hok.fresh hT) λh' ch hc k1 k2 k3 r=>?_
 obtain⟨vs,sl,q,_⟩:=id r
 exact hQ h' (I.moved he hst hfm (λb hb=>⟨(hc b hb).1,(hc b hb).2.1⟩) k1 k2 k3 q) r
theorem Inv.again(I:Inv X pins σ H s)(hst:X.stack=X.env::X.outer)(hfm:X.env.frame=some X.env.locals)(x:XRec (Free X pins) H s.heap e C d)(he:H e=some (XO e C d))
  (hQ:∀h',Inv X pins σ H {s with heap:=h'}->XRec (Free X pins) H h' e C d->Q () {s with heap:=h'}) :
  wpAny M A (setFlight (.ref e) none) Q E s:=by
 refine rQ x (by rw[he];simp) λh' ch hc k1 k3 r=>?_
 obtain⟨vs,sl,q,_⟩:=id r
 have k2:∀b o,b∈frs (X.env::X.outer)->s.heap.get? b=some o->∃sl,h'.get? b=some {o with slots:=sl}:=λb o hb q=>by
  refine⟨o.slots,k1 b o (λz=>?_) q⟩
  have hl:=I.stack
  rw[hst]at hl
  rcases aBK.mp (show b∈X.env.locals::X.fs by unfold frs at hb;rw[aDX,hfm]at hb;exact hb)with rfl|hb'
  ·exact(hc _ z).1.2.1 rfl
  ·obtain⟨_,o',ho',_⟩:=I.ok.funs.mem hb'
   exact absurd (aAG ho') (Nat.not_lt.mpr (hc b z).1.1)
 exact hQ h' (I.moved he hst hfm hc (λb o _ _ nc q=>k1 b o nc q) k2 k3 q) r
noncomputable def CX1(P:Program)(w:World):CXT:=λouter H s E ev s'=>∃a H' C d,ev=.ref a/\s'.os=s.os/\AllBare s'.gens/\Un (frs outer) [] H H' s.heap s'.heap/\HOk P w H' s'.heap /\
 XRec (λT=>s.heap.objs.size<=T) H' s'.heap a C d/\H' a=some (XO a C d)/\E (.ref a) none H'
noncomputable def XE(X:Cx)(pins:List (Addr×Obj))(σ:List (Option V))(R:Addr->Hp->Prop)(ev:Value)(s':Shared):Prop :=
 ∃a H' C d,ev=.ref a/\Inv X pins σ H' s'/\XRec (Free X pins) H' s'.heap a C d/\H' a=some (XO a C d)/\R a H'
structure Xz(X:Cx)(R:Addr->Hp->Prop):Prop where
 go:∀pins σ ev s',XE X pins σ R ev s'->X.xe ev s'
variable{ev:Value}
theorem XE.imp{R':Addr->Hp->Prop}(x:XE X pins σ R ev s')(h:∀a H,R a H->R' a H):XE X pins σ R' ev s' :=
 let⟨a,H',C,d,x1,x2,x3,x4,x5⟩:=x
 ⟨a,H',C,d,x1,x2,x3,x4,h _ _ x5⟩
variable{E:XK}
theorem XE.call(I:Inv X pins σ H s)(h:CX1 X.prog X.w X.stack H s E ev s'):XE X pins σ (λa H'=>E (.ref a) none H') ev s':=by
 obtain⟨a,H',C,d,rfl,os,ba,un,hok,x,he,q⟩:=h
 exact⟨a,H',C,d,rfl,I.call' os un hok ba (λb z=>nomatch z),x.imp λT hT=>I.freeNew hT,he,q⟩
theorem yP(h:∀a H,¬R a H):Xz X R:=⟨λ_ _ _ _ ⟨_,_,_,_,_,_,_,_,q⟩=>(h _ _ q).elim⟩
theorem aGr{scope:Scope}{f:Addr}{cd:Value} :
  Xz (cxOf (CX1 P w) P w K mg base N qual scope f cd A outer s H E) (λa H'=>E (.ref a) none H'):=by
 refine⟨λpins σ ev s' ⟨a,H',C,d,e1,I,x,he,q⟩=>?_⟩
 subst e1
 refine aAA (I.flight rfl rfl I.ok.frames x he λh' I' x'=>?_)
 exact⟨a,H',C,d,rfl,I'.os,I'.bare,I'.base,I'.hok,x'.imp λT hT=>hT.1,he,q⟩
theorem mE(hP:X.prog=P)(hw:X.w=w)(z:Xz X (λa H'=>E (.ref a) none H')):Passes (CX1 P w) X E:=λpins σ H s e s' I h=>by
 subst hP hw
 exact z.go pins σ e s' (XE.call I h)
end L2
namespace L2
open PySem.W PySem.Calls Builtin Builtin.ObjectAttr
noncomputable abbrev vb:List Value:=[.type "ValueError",.type "Exception",.type "BaseException",.type "object"]
variable{prog:Program}{E:Value->Shared->Prop}{K:Frag}{x:Addr}{vs:Array Value}{v:Value}{M:Model}
theorem jT(X:K.In h)(hc:clsIn K C=some cd)(hm:cd.mro=.ref C::.ref LE::vb)(b:Value):Looks M h (isSubtype (.ref C) b) ((Value.ref C::.ref LE::vb).contains b):=by
 refine looks_mroIn X ?_
 unfold mroIn
 rw[hc,aFY,hm]
 rfl
theorem xset{Q:Unit->Shared->Prop}(X:K.In s.heap)(hx:s.heap.get? x=some ⟨.ref C,none,.fields vs,sl⟩)(hc:clsIn K C=some cd)(hm:cd.mro=.ref C::.ref LE::vb)(hd:cd.hasDict=true)
  (hs:findIn K (.ref C) "__setattr__"=some (some (.builtin "object.__setattr__")))(hn:findIn K (.ref C) name=some none)
  (hq:∀h' tk',h'.get? x=some ⟨.ref C,some s.heap.objs.size,.fields vs,sl⟩->h'.Ns1 s.heap.objs.size (λy=>if y=name then some v else none)->(∀b o,b≠x->s.heap.get? b=some o->h'.get? b=some o) ->
   Q () {s with heap:=h',toks:=tk'}):wpAny (model prog w) A (setAttr (.ref x) name v) Q E s:=by
 obtain⟨hp,gn,dr,tk,oz⟩:=s
 dsimp only at X hx hq
 have I:InstAt hp x ⟨.ref C,none,.fields vs,sl⟩ C none:=⟨hx,rfl,rfl,trivial⟩
 have SF:=PySem.F.store_object
 have hsub:Looks (model prog w) hp (isInstance (.ref x) (.type "object")) true:=I.type.andThen (jT X hc hm _)
 refine set_plain X I hs (aEU SF.slot.plain SF.entry (@check_slot (model prog w) _ _ ⟨hp,gn,dr,tk+1,oz⟩ "object.__setattr__" "object" "__setattr__" (.ref x) [.str name tk,v] [] _ SF.kind SF.split hsub (SF.args (.ref x) (.str name tk) v) ?_))
 have hmro:Looks (model prog w) hp (mroOf (.ref C)) (.ref C::.ref LE::vb):=hm▸(looks_clsIn X hc).andThen .now
 rw[osa_eq,refuse_eq]
 refine aAA (aAA (I.type.at (aAA (hmro.at ?_))))
 rw[refuseLoop_ref,refuseLoop_ref,PySem.F.store_ValueError.passes (.ref x)]
 refine aAC (aAA (I.type.at (aAA ((looks_findIn X hn).at (aAA (aAC ?_))))))
 show wpAny _ _ (storeInOwnDict (.ref x) (.ref C) (.str name tk) name v false) _ _ _
 unfold storeInOwnDict ownDictForStores instanceDict
 refine aAA (aAC ?_)
 refine aAA (aAA (wpAny_loadPart hx ?_))
 dsimp only
 refine aAA ((looks_clsIn X hc).at ?_)
 rw[hd]
 simp only[aFR,aAS,aBU,Bool.false_or,typeHasDict]
 have hne:x≠hp.objs.size:=aAQ (aAG hx)
 refine aAA (wpAny_alloc' (aAA (wpAny_update' (aAB _ hx) (aAA (aAC (aAC ?_))))))
 generalize eh:(hp.push {cls:=Value.type "dict",data:=Data.dict #[]}).update x (λo=>{o with dict:=some hp.objs.size})=h1
 have hd1:h1.get? hp.objs.size=some {cls:=.type "dict",data:=.dict #[]}:=by
  rw[<- eh,bC (Ne.symm hne)];exact Heap.get?_push_at rfl rfl
 have hx1:h1.get? x=some ⟨.ref C,some hp.objs.size,.fields vs,sl⟩:=by
  rw[<- eh];exact aCD _ (aAB _ hx) rfl
 have k1:∀b o,b≠x->hp.get? b=some o->h1.get? b=some o:=λb o nb q=>by
  rw[<- eh,bC nb];exact aAB _ q
 have n1:h1.Ns1 hp.objs.size (λ_=>none):=Heap.Ns1.of_empty ⟨_,#[],_,hd1,rfl,λe he=>absurd he (by simp),λ_=>rfl⟩
 show wpAny _ _ (storeInDict hp.objs.size (.str name tk) name v) _ _ _
 unfold storeInDict newKeyGuard
 refine aAA (aAC (aAA (wpAny_nsSet1 n1 λh2 n2 same=>?_)))
 obtain⟨oD,es,ep,q1,q2,q3⟩:=n2.count (Within.cons name v Within.nil)
 refine aAA (wpAny_lookBehind q1 (by rw[q2];exact pastItsLine_dict (aAX q3 (by rw[aCR,aDO,aAY];lia))) ?_)
 refine aAC (hq h2 _ ((same.2 x hne).trans hx1) n2 λb o nb q=>(same.2 b (aAQ (aAG q))).trans (k1 b o nb q))
variable{K:Frag}
theorem oW:builtinKind "BaseException.__getattribute__"=some .slot:=by decide +kernel
theorem mC:splitId "BaseException.__getattribute__"=some ("BaseException","__getattribute__"):=by decide +kernel
theorem xget{expr:Bool}(X:K.In s.heap)(hx:s.heap.get? x=some ⟨.ref C,some dx,.fields vs,sl⟩)(n:s.heap.Ns1 dx mA)(hc:clsIn K C=some cd)(hm:cd.mro=.ref C::.ref LE::vb)(hd:hasDictIn K C=true)
  (hg:findIn K (.ref C) "__getattribute__"=some (some (.builtin "BaseException.__getattribute__")))(hh:findIn K (.ref C) "__getattr__"=some none)(hn:findIn K (.ref C) name=some none)(hv:mA name=some v)(hv':handedIn v=true)
  (hq:Q v {s with toks:=s.toks+1}):wpAny (model prog w) A (getAttr (.ref x) name expr) Q E s:=by
 obtain⟨hp,gn,dr,tk,oz⟩:=s
 dsimp only at X hx n hq
 obtain⟨od,ho,hl⟩:=jS n
 have I:InstAt hp x ⟨.ref C,some dx,.fields vs,sl⟩ C (some od):=⟨hx,rfl,rfl,ho⟩
 have hf:findObj K C (some od) name=some (.value v):=findObj_own hd hn rfl (by rw[hl,hv])
 have GA:=PySem.F.attr_ValueError.ga
 have hsub:Looks (model prog w) hp (isInstance (.ref x) (.type "BaseException")) true:=I.type.andThen (jT X hc hm _)
 unfold getAttr getAttrBy
 refine aAA (wpAny_mkText (aBV (aAA (I.type.at (aAA ((looks_findIn X hg).at ?_))))))
 dsimp only
 rw[show(onTheHeap (Value.ref C)&&Value.builtin "BaseException.__getattribute__"==Value.builtin "object.__getattribute__")=false from by rw[show(Value.builtin "BaseException.__getattribute__"==Value.builtin "object.__getattribute__")=false from by decide +kernel,aGP],aAI (by decide)]
 unfold getAttrByItsOwn
 have hk:Looks (model prog w) hp (hookBefore (.ref C)) none:=looks_hook X (by rw[aAH (show onTheHeap (Value.ref C)=true from rfl)];exact hh)
 refine aAA (hk.at (aAA (aCZ (aBV ?_))))
 unfold callGetattribute
 rw[show(expr&&onTheHeap (Value.builtin "BaseException.__getattribute__"))=false from aGP _,aAI (by decide)]
 unfold boundAndCalled
 rw[GA.bind]
 refine aAA (aAC ?_)
 show wpAny _ _ (call (.builtin "BaseException.__getattribute__") [.ref x,.str name tk]) _ _ _
 refine aES (aEU GA.plain PySem.F.entry_bexc_ga (@check_slot (model prog w) _ _ ⟨hp,gn,dr,tk+1,oz⟩ "BaseException.__getattribute__" "BaseException" "__getattribute__" (.ref x) [.str name tk] [] _ oW mC hsub (PySem.F.args_bexc_ga (.ref x) (.str name tk)) ?_))
 unfold Builtin.«object.__getattribute__»
 refine aAA (aAC (aAA (aAC (aAA (I.type.at (aAA ((looks_find X I hf).at (aAC ?_)))))))) 
 show wpAny _ _ (handedOut v) _ _ _
 rw[handedOut_of hv']
 exact aAC hq
variable{dr:Drawn}{e N t0:Addr}
theorem xinit{hp:Heap}{gn:Array GenState}{tk:Nat}{oz:OsState}{nm qn:Str}{bs:List Value}{hdct:Bool}{sn:List Str}{sub:List Value}{ab:Bool}{col:Option Bool}{dd:Option Addr}{k0 k1 k2 k3 k5:Option Value}
  (T:OwnTail hp vb bm)(hC:hp.get? C=some (excClassObj nm qn C N bs bm hdct sn sub ab col dd k0 k1 k2 k3 k5 "ValueError.__new__"))
  (he:hp.get? e=some ⟨.ref C,none,.fields vs,sl⟩)(h0:vs[0]?=some (.ref t0))
  (hq:∀h',h'.get? e=some ⟨.ref C,none,.fields (vs.setIfInBounds 0 (.ref hp.objs.size)),sl⟩->(∀b o,b≠e->hp.get? b=some o->h'.get? b=some o)->Q .none ⟨h',gn,dr,tk,oz⟩) :
  wpAny (model prog w) A (call (.builtin "ValueError.__init__") [.ref e,u]) Q E ⟨hp,gn,dr,tk,oz⟩:=by
 have F:=aEX
 refine aES (aEU F.init.plain F.initEntry (wpAny_check_init_subT F T hC he rfl ?_))
 have ne:e≠hp.objs.size:=aAQ (aAG he)
 have he2:(hp.push {cls:=.type "tuple",data:=.seq #[u]}).get? e=some ⟨.ref C,none,.fields vs,sl⟩:=aAB _ he
 have key:=hq ((hp.push {cls:=.type "tuple",data:=.seq #[u]}).update e (Obj.mapFields (·.setIfInBounds 0 (.ref hp.objs.size)))) (cB he2) λb o nb q=>(bC nb).trans (aAB _ q)
 wp_walk
 rw[h0]
 refine aAC (aAA (aCK he2 rfl (aEY.mp h0).1 ?_))
 wp_walk
 exact key
noncomputable def xcB(K:Frag)(C:Addr)(bm0:List Value)(ini:Option Value):Bool:=match K.lookup C with
 |some ⟨.type "type",_,.cls cd,sl⟩=>(match cd.mro,sl.toList with
  |.ref C'::bm,[_,_,_,_,some (.builtin n),_]=>C'==C&&bm==bm0&&n=="ValueError.__new__"&&!cd.hasDel&&nsOkIn K cd.ns&&nsIn K cd.ns "__init__"==some ini
  |_,_=>false)
 |_=>false
structure Xc(K:Frag)(c:Str)(C LE:Addr):Prop where
 nm:nsIn K mainGlobals c=some (some (.ref C))
 cd:∃cd,clsIn K C=some cd/\cd.name=c/\cd.mro=.ref C::.ref LE::vb
 le:∃cl,clsIn K LE=some cl/\cl.name="LentError"
 leN:nsIn K mainGlobals "LentError"=some (some (.ref LE))
 ne:c≠"LentError"
 hd:hasDictIn K C=true
 ga:findIn K (.ref C) "__getattribute__"=some (some (.builtin "BaseException.__getattribute__"))
 gh:findIn K (.ref C) "__getattr__"=some none
 cl:findIn K (.ref C) "__class__"=some (some (.builtin "object.__class__"))
 ob:∃ini,xcB K C (.ref LE::vb) ini=true
 leO:xcB K LE vb none=true
structure XcO(h:Heap)(C:Addr)(bm:List Value)(ini:Option Value):Prop where
 ex:∃nm q N bs hdct sn sub ab col dd k0 k1 k2 k3 k5,h.get? C=some (excClassObj nm q C N bs bm hdct sn sub ab col dd k0 k1 k2 k3 k5 "ValueError.__new__")/\∃mN,h.Ns N mN/\mN "__init__"=ini
theorem qF{x:Str}{r:Option Value}(X:K.In h)(e:nsOkIn K N=true)(q:nsIn K N x=some r):h.nsMap N x=r:=by
 cases r with
 |none=>exact nsMap_none_of_in X e q
 |some v =>
  obtain⟨o,es,ep,ho,hd,_,hf⟩:=Heap.Ns.of_isNs (isNs_of_in X e)
  unfold nsIn at q
  split at q
  ·rename_i c d es' n' sl z
   have:=X _ _ z
   rw[ho]at this
   cases this
   cases hd
   split at q
   ·rename_i en he
    cases q
    rw[<- hf]
    unfold nsFind findBy
    rw[<- Array.find?_toList,he]
    rfl
   ·split at q <;> cases q
  ·cases q
theorem jR(X:K.In h)(q:xcB K C bm ini=true):XcO h C bm ini:=by
 unfold xcB at q
 split at q
 ·rename_i dd cd sl ho
  split at q
  ·rename_i C' bm k0 k1 k2 k3 n k5 hm hs
   simp only[aBO,aFH,Bool.not_eq_true']at q
   obtain⟨⟨⟨⟨⟨rfl,rfl⟩,rfl⟩,hdel⟩,hok⟩,hni⟩:=q
   obtain⟨nm,bs,mro,ns,qn,hd,sn,sub,ab,col,del⟩:=cd
   dsimp only at hm hdel hok hni
   subst hm hdel
   have hsl:sl=#[k0,k1,k2,k3,some (.builtin "ValueError.__new__"),k5]:=by
    obtain⟨l⟩:=sl
    simp only at hs
    rw[hs]
   subst hsl
   exact⟨nm,qn,ns,bs,hd,sn,sub,ab,col,dd,k0,k1,k2,k3,k5,X _ _ ho,_,.of_isNs (isNs_of_in X hok),qF X hok hni⟩
  ·cases q
 ·cases q
variable{Q:Flow->Shared->Prop}
theorem aBf{x:Sem Value}(hB:bm.contains (.type "BaseException")=true)(hh:A.handled=none)
  (h:wpAny M A x (λv s₁=>∃e d vs sl,v=.ref e/\XcO s₁.heap C bm ini/\s₁.heap.get? e=some ⟨.ref C,d,.fields vs,sl⟩/\vs[1]?=some .none/\E (.ref e) s₁) E s):wpAny M A (raiseStmt env (some x) none) Q E s:=by
 unfold raiseStmt
 refine aAA (aCN h (λv s₁ h₁=>?_) λ_ _ z=>z)
 obtain⟨e,d,vs,sl,rfl,⟨nm,q,N,bs,hdct,sn,sub,ab,col,dd,k0,k1,k2,k3,k5,hC,_⟩,he,h1,hE⟩:=h₁
 have hcB:(Value.ref C::bm).contains (.type "BaseException")=true:=by rw[List.contains_cons,hB,Bool.or_true]
 obtain⟨hp,g,dr,tk,os⟩:=s₁
 dsimp only at hC he
 repeat(first|with_reducible refine aDF he ?_ |with_reducible refine aDF hC ?_ |(with_reducible refine aFC hC ?_;rw[hcB])|wp_step)
 rw[h1]
 refine aAC ?_
 rw[aAI (by decide)]
 exact aAC (wpAny_raiseNew_none hh hE)
noncomputable def XN(e C:Addr)(d:Option Addr):HO:=.ext λh=>∃vs sl t0,h.get? e=some ⟨.ref C,d,.fields vs,sl⟩/\vs[1]?=some .none/\vs[0]?=some (.ref t0)
variable{a:Addr}{o:HO}
theorem XN.ok(q:h.get? e=some ⟨.ref C,d,.fields vs,sl⟩)(q1:vs[1]?=some .none)(q0:vs[0]?=some (.ref t0)):ObjOk P w H h e (XN e C d) :=
 ⟨⟨vs,sl,t0,q,q1,q0⟩,⟨_,q⟩,λh1 h2 ⟨vs,sl,t0,z,z'⟩ k=>⟨vs,sl,t0,k _ z,z'⟩⟩
theorem XN.at(x:HOk P w H h)(q:H e=some (XN e C d)):∃vs sl t0,h.get? e=some ⟨.ref C,d,.fields vs,sl⟩/\vs[1]?=some .none/\vs[0]?=some (.ref t0):=(x e _ q).1
theorem wU(q:H a=some o):upd H a o=H:=by
 funext b
 by_cases z:b=a
 ·subst z;rw[aU,q]
 ·rw[aP z]
theorem ObjOk.here(x:ObjOk P w H h a o):∃u,h.get? a=some u:=by
 cases o with
 |lst xs=>obtain⟨_,_,_,_,e⟩:=x;exact⟨_,e⟩
 |tup xs=>obtain⟨_,_,_,p⟩:=x;obtain⟨u,e,_⟩:=p;exact⟨_,e⟩
 |dK kvs=>obtain⟨_,_,_,_,o,_,_,e,_⟩:=x;exact⟨_,e⟩
 |dT kvs=>obtain⟨_,_,_,_,o,_,_,e,_⟩:=x;exact⟨_,e⟩
 |set S n=>obtain⟨o,_,_,_,e,_⟩:=x;exact⟨_,e⟩
 |ins C dx fs=>obtain⟨_,_,_,e,_⟩:=x;exact⟨_,e⟩
 |own y=>exact x
 |xd fs=>obtain⟨_,⟨_,_,_,e,_⟩,_⟩:=x;exact⟨_,e⟩
 |rng lo hi=>obtain⟨_,_,_,e⟩:=x;exact⟨_,e⟩
 |frz ob u=>obtain⟨e,_⟩:=x;exact⟨_,e⟩
 |tbl ps=>exact⟨_,(show h.get? a=some _ from x)⟩
 |met f y=>exact⟨_,(show h.get? a=some _ from x)⟩
 |ext φ=>exact x.2.1
theorem HOk.none_of(x:HOk P w H h)(n:h.get? a=none):H a=none:=by
 cases q:H a with
 |none=>rfl
 |some o=>obtain⟨u,z⟩:=(x a o q).here;rw[n]at z;cases z
variable{σ:List (Option V)}
theorem Inv.laid0(I:Inv X pins σ H s)(k:∀b u,s.heap.get? b=some u->h'.get? b=some u)(hn:s.heap.get? a=none)(new:ObjOk X.prog X.w (upd H a o) h' a o):Inv X pins σ (upd H a o) {s with heap:=h',toks:=t'}:=by
 have hH:=I.hok.none_of hn
 have ne:∀b u,s.heap.get? b=some u->b≠a:=λb u q z=>by subst z;rw[hn]at q;cases q
 refine I.un ⟨λb u q _ _ _=>k b u q,λb u q _ _ _=>⟨u.slots,k b u q⟩,λb u q n _=>by rw[aP (ne b u q)];exact n,λb u q _=>⟨u,k b u q⟩,λb xs q=>by rw[aP (aX q hH)];exact q,λb u xs q=>by rw[aP (aX q hH)];exact q,λb ps q=>⟨#[],by rw[aP (aX q hH),q];simp⟩⟩ λb u q=>?_
 by_cases z:b=a
 ·subst z;rw[aU]at q;cases q;exact new
 ·rw[aP z]at q
  exact(I.hok b u q).stay (λc v _ q=>k c v q) (λc q=>by rw[aP (aX q hH)];exact q) λc xs q=>by rw[aP (aX q hH)];exact q
variable{f:Str}
theorem Inv.gotDict{u:Value}(I:Inv X pins σ H s)(he:H e=some (XN e C none))(hn:s.heap.get? dx=none)(k:∀b u,b≠e->s.heap.get? b=some u->h'.get? b=some u)
  (q:h'.get? e=some ⟨.ref C,some dx,.fields vs,sl⟩)(q1:vs[1]?=some .none)(q0:vs[0]?=some (.ref t0))(ns:h'.Ns1 dx (λz=>if z=f then some u else none))(r:RelV y u) :
  Inv X pins σ (upd (upd H dx (.xd [(f,y)])) e (XN e C (some dx))) {s with heap:=h',toks:=t'}:=by
 have hH:=I.hok.none_of hn
 have ned:dx≠e:=λz=>by subst z;rw[hH]at he;cases he
 have nd:∀b u,s.heap.get? b=some u->b≠dx:=λb u qq z=>by subst z;rw[hn]at qq;cases qq
 have ne:∀b,H b=none->b≠e:=λb n z=>by subst z;rw[he]at n;cases n
 have old:∀b o,H b=some o->b≠e->upd (upd H dx (.xd [(f,y)])) e (XN e C (some dx)) b=some o:=λb o q z=>by rw[aP z,aP (aX q hH)];exact q
 have hx:∀b u,H b=some u->(∀φ,u≠.ext φ)->b≠e:=λb u qq n z=>by subst z;rw[he]at qq;cases qq;exact n _ rfl
 refine I.un ⟨λb u q n _ _=>k b u (ne b n) q,λb u q n _ _=>⟨u.slots,k b u (ne b n) q⟩,λb u q n _=>by rw[aP (ne b n),aP (nd b u q)];exact n,λb u q _=>?_,λb xs q=>old b _ q (hx b _ q λ_ z=>nomatch z),λb u xs q=>old b _ q (hx b _ q λ_ z=>nomatch z),λb ps q=>⟨#[],by rw[old b _ q (hx b _ q λ_ z=>nomatch z)];simp⟩⟩ λb u z=>?_
 ·by_cases z:b=e
  ·subst z;exact⟨_,‹h'.get? b=some _›⟩
  ·exact⟨u,k b u z q⟩
 ·by_cases hb:b=e
  ·subst hb;rw[aU]at z;cases z;exact XN.ok q q1 q0
  ·rw[aP hb]at z
   by_cases hd:b=dx
   ·subst hd;rw[aU]at z;cases z
    refine⟨_,ns,λg=>?_⟩
    by_cases hg:g=f
    ·subst hg;simp[List.lookup,RelO,r]
    ·have:(g==f)=false:=by simpa using hg
     simp[List.lookup,RelO,hg,this]
   ·rw[aP hd]at z
    refine(I.hok b u z).stay (λc v hc q'=>k c v ?_ q') (λc q'=>old c _ q' (hx c _ q' λ_ z=>nomatch z)) λc xs q'=>old c _ q' (hx c _ q' λ_ z=>nomatch z)
    rcases hc with rfl|hc
    ·exact hb
    ·exact hx c _ hc λ_ z=>nomatch z
theorem Inv.flies(I:Inv X pins σ (upd H e (XN e C d)) s):Inv X pins σ (upd H e (XO e C d)) s/\XRec (Free X pins) (upd H e (XO e C d)) s.heap e C d:=by
 obtain⟨vs,sl,t0,q,q1,q0⟩:=XN.at I.hok aU
 refine⟨?_,vs,sl,q,(aEY.mp q1).1,.inl q1⟩
 have:=I.write (x:=e) (e:=e) (o:=XO e C d) (h':=s.heap) (t':=s.toks) (by rw[aU];trivial) (.inl rfl) (λ_ _ _ q=>q) ⟨_,q⟩ (XO.ok q)
 rw[zI]at this
 exact this
structure LeF(K:Frag)(LE:Addr):Prop where
 rd:readsIn K LE (.type "type")=true
 ga:specialIn K (.ref LE) "__getattribute__"=some (some (.builtin "type.__getattribute__"))
 ini:findCls K (.ref LE) (.type "type") "__init__"=some (.val (.builtin "ValueError.__init__"))
 tl:tailIn K vb (.ref LE::vb)=true
section
variable{e1 e2 o v:Expr}{t:TA}{to tv:TE}{p1 ap cp:Pos}
noncomputable def tBinit(C:Addr)(t:TA):TE:=λσ H Q=>t σ H λvs H1=>∃e u,vs=[.ref e,u]/\H1 e=some (XN e C none)/\Q .non H1
theorem xZ{pl:Sem Bool}(F:LeF X.K LE)(hm:X.mg "LentError"=some (.ref LE))(hC:xcB X.K C (.ref LE::vb) ini=true)(ha:PA X [e1,e2] t)(hg:Gl X "LentError":=by rfl)
  (hs:starEach [e1,e2] X.env=[(false,eval e1 X.env),(false,eval e2 X.env)]:=by rfl)
  (hev:eval (.Call (.Attribute (.Name "LentError" p1) "__init__" ap) [e1,e2] [] cp) X.env=(do
   let ov <- eval (.Name "LentError" p1) X.env
   standAt ap.atName
   let(f,first) <- holding [ov] (getMethod ov "__init__" pl)
   callWith cp f first (backTo cp (starEach [e1,e2] X.env)) (backToKw cp (keywordEach [] X.env))):=by rfl) :
  PE X (.Call (.Attribute (.Name "LentError" p1) "__init__" ap) [e1,e2] [] cp) (tBinit C t):=by
 intro pins s σ H Q I h
 refine methodCall_KW (pl:=pl) (fG I hg hm ?_) hev
 refine method_cls I.kIn F.ga (cls_value I.kIn F.rd F.ini rfl ?_)
 have hA:=ha cp pins _ σ H _ (I.tok (s.toks+1)) h
 rw[hs]at hA ⊢
 refine Calls.callWith_builtin rfl (Calls.evalArgs_plain (thn hA λus s1 ⟨vs,H1,I1,r,e,u,ev,he,q⟩=>?_))
 subst ev
 obtain⟨a,b,rfl,ra,rb⟩:=Vals.two r
 cases(show a=Value.ref e from ra)
 obtain⟨vs',sl,t0,z,z1,z0⟩:=XN.at I1.hok he
 obtain⟨nm,qn,N,bs,hdct,sn,sub,ab,col,dd,k0,k1,k2,k3,k5,oC,_⟩:=jR I1.kIn hC
 obtain⟨hp,gn,dr,tk,oz⟩:=s1
 refine xinit (tail_of_in I1.kIn F.tl) oC z z0 λh' zn k=>?_
 have J:=I1.write (x:=e) (e:=e) (o:=XN e C none) (h':=h') (t':=tk) (by rw[he];trivial) (.inl rfl) (λb u n q=>k b u n q) ⟨_,zn⟩ (XN.ok (t0:=hp.objs.size) zn (by rw[Array.getElem?_setIfInBounds_ne (by decide)];exact z1) (by simp[(aEY.mp z0).1]))
 rw[wU he]at J
 exact⟨.non,H1,J,rfl,q⟩
noncomputable def sXfld(K:Frag)(C:Addr)(to tv:TE)(f:Str):TS:=λD σ H=>tv σ H λy H1=>to σ H1 λx H2=>∃e,x=.ref e/\H2 e=some (XN e C none)/\∀dx,H2 dx=none->dx≠e->D.nx σ (upd (upd H2 dx (.xd [(f,y)])) e (XN e C (some dx)))
theorem aAr(hc:clsIn X.K C=some cd)(hm:cd.mro=.ref C::.ref LE::vb)(hd:cd.hasDict=true)(hsa:findIn X.K (.ref C) "__setattr__"=some (some (.builtin "object.__setattr__")))(hn:findIn X.K (.ref C) f=some none)
  (ho:PE X o to)(hv:PE X v tv)(hs:swapsWith v (some (.Attribute o f pos')) pos.line X.env=pure false:=by rfl):PS X (.Assign [.Attribute o f pos'] v pos) (sXfld X.K C to tv f):=by
 intro pins s σ H D I h
 refine plainObj_wpAny_Assign_Attribute (thn (hv pins s σ H _ I h) λu s1 ⟨y,H1,I1,ry,q⟩=>thn (ho pins s1 σ H1 _ I1 q) λov s2 ⟨x,H2,I2,rx,e,ex,he,q2⟩=>?_) hs
 subst ex
 cases(show ov=Value.ref e from rx)
 obtain⟨vs,sl,t0,z,z1,z0⟩:=XN.at I2.hok he
 have fresh:s2.heap.get? s2.heap.objs.size=none:=aEV (aAE _)
 refine xset I2.kIn z hc hm hd hsa hn λh' tk' w1 w2 w3=>?_
 exact⟨σ,_,I2.gotDict (t':=tk') he fresh w3 w1 z1 z0 w2 ry,q2 _ (I2.hok.none_of fresh) (aCY (aAG z))⟩
end
theorem aBk{p o':HO}(n:dx≠e):upd (upd (upd H e o) dx p) e o'=upd (upd H dx p) e o':=by
 funext b
 unfold upd
 by_cases h1:b=e
 ·simp[h1]
 ·by_cases h2:b=dx
  ·simp[h2,n]
  ·simp[h1,h2]
noncomputable def spXI(C:Addr)(f:Str):Sp:=λvs H Q _=>∃e y,vs=[.ref e,y]/\H e=some (XN e C none)/\∀dx,H dx=none->dx≠e->Q .non (upd (upd H dx (.xd [(f,y)])) e (XN e C (some dx)))
variable{st:Stmt}
theorem Fun.okN{x:Str}{f:Addr}{N:List Str}{k:Nat}(F:Fun K x qual st f fd)(S:FnScope N ps (defScope st))(len:∀vs H Q E,sp vs H Q E->vs.length=ps.length)
  (hbody:∀(cdv:Value) (A:Around) (outer:List Env) (s:Shared) (H:Hp) (vs:List V) (Q:VK) (E:XK),Room k (A.deeper (envOfC qual (defScope st) s.heap.objs.size f cdv))->sp vs H Q E ->
   ∃t,PSs (cxOf CX P w K mg base N qual (defScope st) f cdv A outer s H E).nox (defBody st) t/\t {nx:=λ_ H'=>Q .non H',rt:=Q} (start N vs) H):FnOk P w K mg base CX (k+1) f fd ps sp:=by
 obtain⟨oc,od,kV,doc,pm,an,cdv,ct,osl,rfl,lk,hcd⟩:=F.ex
 refine wZ lk hcd S len λA outer s H vs Q E hr hsp=>?_
 obtain⟨t,h,q⟩:=hbody cdv A outer s H vs Q E hr hsp
 exact⟨t,h.nox,q⟩
theorem aAc{p txt:Str}(F:Fun K "__init__" qual st fI fd)(S:FnScope ["self",p] ["self",p] (defScope st))
  (hb:∀(cdv:Value) (A:Around) (outer:List Env) (s:Shared) (H:Hp) (E:XK),PSs (cxOf CX P w K mg base ["self",p] qual (defScope st) fI cdv A outer s H E).nox (defBody st) (tSeq (tDrop (tBinit C (tCons (tVar 0) (tCons (tC (.str txt)) tNil)))) (sXfld K C (tVar 0) (tVar 1) f))) :
  FnOk P w K mg base CX 1 fI fd ["self",p] (spXI C f):=by
 refine F.okN (k:=0) S (λvs H Q E ⟨e,y,h,_⟩=>by rw[h];rfl) λcdv A outer s H vs Q E _ ⟨e,y,hv,he,hq⟩=>⟨_,hb cdv A outer s H E,?_⟩
 subst hv
 exact⟨.ref e,rfl,e,.str txt,rfl,he,y,rfl,.ref e,rfl,e,rfl,he,hq⟩
section
variable{k:Nat}{E:XK}{x:Str}{e:Expr}{es:List Expr}{t:TA}{σ:St}{Q:VK}{vs:List V}
theorem uK(hxo:xcB X.K C (.ref LE::vb) (some (.ref fI))=true)(F:LeF X.K LE)(hf:typeIn X.K (.ref fI)=some (.type "function"))(G:FnOk X.prog X.w X.K X.mg X.base CX k fI fd ps (spXI C f))(hr:Room (k+1) X.A)(hb:Binds X.K fd ps [])(hx:Passes CX X E)
  (I:Inv X pins σ H s)(r:Vals vs us)(h:∃y,vs=[y]/\∀e dx,H e=none->H dx=none->dx≠e->Q (.ref e) (upd (upd H dx (.xd [(f,y)])) e (XN e C (some dx)))) :
  wpAny (model X.prog X.w) X.A (call (.ref C) us) (EP X pins σ Q) X.xe s:=by
 obtain⟨y,rfl,h⟩:=h
 obtain⟨u,rfl,ru⟩:=Vals.one r
 obtain⟨nm,qn,N,bs,hdct,sn,sub,ab,col,dd,k0,k1,k2,k3,k5,oC,mN,nsN,iN⟩:=jR I.kIn hxo
 have gI:∃oI,s.heap.get? fI=some oI/\oI.cls=.type "function":=by
  obtain⟨o,z,zc⟩:=aBG.mp hf
  exact⟨o,I.kIn _ _ z,zc⟩
 obtain⟨oI,gI,cI⟩:=gI
 obtain⟨hp,gn,dr,tk,oz⟩:=s
 refine qT (few:=by show 1<=sizeLine;decide) aEX (tail_of_in I.kIn F.tl) oC nsN iN gI cI λh' a mk=>?_
 obtain⟨t0,ea,_,_⟩:=mk.there
 have hn:=I.hok.none_of mk.new
 have I2:Inv X pins σ (upd H a (XN a C none)) ⟨h',gn,dr,tk,oz⟩:=I.laid0 (t':=tk) mk.keeps mk.new (XN.ok (t0:=t0) ea rfl rfl)
 have sp:spXI C f [.ref a,y] (upd H a (XN a C none)) (λv H2=>v=.non/\Q (.ref a) H2) E:=⟨a,y,rfl,aU,λdx hd ne=>⟨rfl,by rw[aBk ne];exact h a dx hn (by rw[aP ne]at hd;exact hd) ne⟩⟩
 have r2:Vals [V.ref a,y] [Value.ref a,u]:=.cons rfl (.cons ru .nil)
 have hl:([Value.ref a,u]++[]).length=ps.length:=by have:=G.len _ _ _ _ sp;simpa using this
 refine aES (aGI (G.run _ X.stack _ _ ⟨[.ref a,u],[]⟩ [.ref a,u] _ _ E (hr.make C [u] []) (I2.env0.make C [u] []) (hb _ [.ref a,u] I2.kIn hl) r2 sp) λr s' hq'=>?_)
 cases r with
 |error e=>exact hx pins σ _ _ e s' I2 hq'
 |ok fl =>
  cases fl with
  |ret u =>
   obtain⟨v,H',I3,rv,ev,q3⟩:=I2.after hq'
   subst ev
   exact⟨rv,⟨V.ref a,H',I3,rfl,q3⟩⟩
  |next=>exact False.elim hq'
  |brk=>exact False.elim hq'
  |cont=>exact False.elim hq'
noncomputable section
def tXmake(C:Addr)(f:Str)(t:TA):TE:=λσ H Q=>t σ H λvs H1=>∃y,vs=[y]/\∀e dx,H1 e=none->H1 dx=none->dx≠e->Q (.ref e) (upd (upd H1 dx (.xd [(f,y)])) e (XN e C (some dx)))
theorem xT(hxo:xcB X.K C (.ref LE::vb) (some (.ref fI))=true)(F:LeF X.K LE)(hf:typeIn X.K (.ref fI)=some (.type "function"))(G:FnOk X.prog X.w X.K X.mg X.base CX k fI fd ps (spXI C f))(hr:Room (k+1) X.A)(hb:Binds X.K fd ps [])(hx:Passes CX X E)
  (hm:X.mg x=some (.ref C))(hk:keepIn X.K (.ref C)=true)(ha:PA X (e::es) t)(hg:Gl X x:=by rfl)(hdb:(x==("__debug__":Str))=false:=by decide)(he:starEach (e::es) X.env=(false,eval e X.env)::starEach es X.env:=by rfl)(hpl:(backTo pos (starEach es X.env)).any (·.1)=false:=by rfl) :
  PE X (.Call (.Name x p) (e::es) [] pos) (tXmake C f t):=by
 intro pins s σ H Q I h
 refine aDB (fG I hg hm ?_ hdb)
 refine aGW (h₀:=X.base) I.ok.mod.kin hk (thn (ha pos pins s σ H _ I h) λus s1 ⟨vs,H1,I1,r,q⟩=>⟨I1.kIn,?_⟩) he hpl
 exact uK hxo F hf G hr hb hx I1 r q
def tXmake0(C:Addr):TE:=λσ H Q=>∀e,H e=none->Q (.ref e) (upd H e (XN e C none))
theorem vR(hxo:xcB X.K C (.ref LE::vb) none=true)(F:LeF X.K LE)(hm:X.mg x=some (.ref C))(hk:keepIn X.K (.ref C)=true)(hg:Gl X x:=by rfl)(hdb:(x==("__debug__":Str))=false:=by decide) :
  PE X (.Call (.Name x p) [] [] pos) (tXmake0 C):=by
 intro pins s σ H Q I h
 refine aDB (fG I hg hm ?_ hdb)
 refine PySem.W.callWith_K0 I.kIn hk ?_
 obtain⟨nm,qn,N,bs,hdct,sn,sub,ab,col,dd,k0,k1,k2,k3,k5,oC,mN,nsN,iN⟩:=jR I.kIn hxo
 obtain⟨hp,gn,dr,tk,oz⟩:=s
 refine wpAny_call_exc_subT aEX (tail_of_in I.kIn F.tl) oC nsN iN λh' a mk=>?_
 obtain⟨t0,ea,_,_⟩:=mk.there
 exact⟨.ref a,_,I.laid0 (t':=tk) mk.keeps mk.new (XN.ok (t0:=t0) ea rfl rfl),rfl,h a (I.hok.none_of mk.new)⟩
def tRaise(C:Addr)(R:Addr->Hp->Prop)(te:TE):TS:=λ_ σ H=>te σ H λv H1=>∃e d H0,v=.ref e/\H1=upd H0 e (XN e C d)/\R e (upd H0 e (XO e C d))
end
theorem qA(hxo:xcB X.K C (.ref LE::vb) ini=true)(hc:X.calm=true)(hz:Xz X R)(he:PE X e te):PS X (.Raise (some e) none pos) (tRaise C R te):=by
 intro pins s σ H D I h
 rw[arm_exec_Raise]
 refine aAA (aFS ?_)
 show wpAny _ _ (raiseStmt X.env (some (do let v <- eval e X.env;standAt pos;pure v)) none) _ _ s
 refine aBf (C:=C) (bm:=.ref LE::vb) (ini:=ini) rfl (I.ok.hd hc) (aAA (thn (he pins s σ H _ I h) λv s1 ⟨x,H1,I1,rx,a,d,H0,ex,eH,q⟩=>aAA (aFS (aAC ?_))))
 subst ex eH
 cases(show v=Value.ref a from rx)
 obtain⟨vs,sl,t0,z,z1,z0⟩:=XN.at I1.hok aU
 obtain⟨I2,x2⟩:=I1.flies
 exact⟨a,d,vs,sl,rfl,jR I1.kIn hxo,z,z1,hz.go pins σ _ _ ⟨a,_,C,d,rfl,I2,x2,aU,q⟩⟩
end
section
variable{g:Array GenState}{t:Nat}{os:OsState}{D:Addr}{oe:Obj}{bmD:List Value}{iniD:Option Value}{Q:Bool->Shared->Prop}
theorem excM(hC:XcO h C bm ini)(he:h.get? e=some oe)(hcls:oe.cls=.ref C)(hD:XcO h D bmD iniD)(hB:bmD.contains (.type "BaseException")=true)(hsub:(Value.ref C::bm).contains (.ref D)=true)(hq:Q true ⟨h,g,dr,t,os⟩) :
  wpAny M A (excMatches (.ref e) (.ref D)) Q E ⟨h,g,dr,t,os⟩:=by
 obtain⟨nm,qn,N,bs,hdct,sn,sub,ab,col,dd,k0,k1,k2,k3,k5,oC,_⟩:=hC
 obtain⟨nm',qn',N',bs',hdct',sn',sub',ab',col',dd',k0',k1',k2',k3',k5',oD,_⟩:=hD
 have hcB:(Value.ref D::bmD).contains (.type "BaseException")=true:=by rw[List.contains_cons,hB,Bool.or_true]
 have f:=tc_notTuple
 unfold excMatches
 repeat(first|(with_reducible refine aDF he ?_;rw[hcls])|with_reducible refine aDF oD ?_ |(with_reducible refine aFC oD ?_;rw[hcB])|(with_reducible refine aFC oC ?_;rw[hsub])|wp_step)
 exact hq
end
noncomputable section
def PEx(X:Cx)(e:Expr)(t:St->Hp->VK->(Addr->Hp->Prop)->Prop):Prop :=
 ∀(pins:List (Addr×Obj)) (s:Shared) (σ:St) (H:Hp) (Q:VK) (R:Addr->Hp->Prop),Inv X pins σ H s->t σ H Q R->wpAny (model X.prog X.w) X.A (eval e X.env) (EP X pins σ Q) (XE X pins σ R) s
def PBx(X:Cx)(b:List Stmt)(t:Ends->(Addr->Hp->Prop)->St->Hp->Prop):Prop :=
 ∀(pins:List (Addr×Obj)) (s:Shared) (σ:St) (H:Hp) (D:Ends) (R:Addr->Hp->Prop),Inv X pins σ H s->t D R σ H->wpAny (model X.prog X.w) X.A (execs b X.env) (SP X pins D) (XE X pins σ R) s
abbrev Cx.hnd(X:Cx)(e:Addr):Cx:={X with A:=X.A.mark (some (.ref e)),calm:=false,xe:=λ_ _=>False}
end
theorem Cx.Ok.hnd{X:Cx}(ok:X.Ok)(e:Addr):(X.hnd e).Ok :=
 ⟨ok.mod,ok.kind,ok.glob,ok.blt,ok.above,ok.inj,ok.has,ok.cab,(λz=>nomatch z),ok.frames,ok.stk,ok.exf,ok.bs,ok.bsz,ok.noex,ok.exfs,ok.funs,ok.frf⟩
variable{σ:St}
theorem Inv.hnd(I:Inv X pins σ H s)(e:Addr):Inv (X.hnd e) pins σ H s:=⟨I.ok.hnd e,I.os,I.bare,I.base,I.loc,I.cell,I.free,I.freeC,I.pin,I.hok,I.len⟩
theorem Inv.unhnd(ok:X.Ok)(I:Inv (X.hnd e) pins σ H s):Inv X pins σ H s:=⟨ok,I.os,I.bare,I.base,I.loc,I.cell,I.free,I.freeC,I.pin,I.hok,I.len⟩
theorem SP.unhnd{D:Ends}{f:Flow}{s':Shared}(ok:X.Ok)(h:SP (X.hnd e) pins D f s'):SP X pins D f s':=by
 cases f with
 |next=>obtain⟨σ',H',I,q⟩:=h;exact⟨σ',H',I.unhnd ok,q⟩
 |brk=>obtain⟨σ',H',I,q⟩:=h;exact⟨σ',H',I.unhnd ok,q⟩
 |cont=>obtain⟨σ',H',I,q⟩:=h;exact⟨σ',H',I.unhnd ok,q⟩
 |ret u=>obtain⟨v,σ',H',I,r,q⟩:=h;exact⟨v,σ',H',I.unhnd ok,r,q⟩
variable{n:Str}
theorem gB{Q:Unit->Shared->Prop}(I:Inv X pins σ H s)(hi:X.N[i]?=some n)(hN:X.N.Nodup)(hl:X.env.scope.names.lookup n=some .local)
  (h:∀s',Inv X pins (σ.set i none) H s'->Q () s'):wpAny M A (do bindName X.env n .none;unbindBehindTheSuite X.env n pos) Q E s:=by
 obtain⟨m,hn,hv⟩:=id I.loc
 have hcls:(X.env.scope.kind==.class || (X.env.scope.kind==.module&&X.env.locals != X.env.globals))=false:=by rw[I.ok.kind];rfl
 refine wpAny_nameGoes_keeps hl hn hcls λh' v nn same=>h _ ?_
 have nL:∀b o,X.s₀.heap.get? b=some o->b≠X.env.locals:=λb o q=>aAQ (aAP (aAG q) I.ok.above)
 refine⟨I.ok,I.os,I.bare,⟨λb o q n hb hx=>(same.2 b (nL b o q)).trans (I.base.keep b o q n hb hx),λb o q n hb hx=>?_,I.base.free,λb o q hx=>?_,I.base.tups,I.base.frzs,I.base.tbls⟩,⟨_,nn,λj y u e1 e2 e3=>?_⟩,λy c q=>?_,I.free,I.freeC,λp hp=>?_,λb o q=>?_,by simpa using I.len⟩
 ·obtain⟨sl,z⟩:=I.base.slot b o q n hb hx
  exact⟨sl,(same.2 b (nL b o q)).trans z⟩
 ·obtain⟨o',z⟩:=I.base.there b o q hx
  exact⟨o',(same.2 b (nL b o q)).trans z⟩
 ·by_cases hj:j=i
  ·subst hj
   rw[List.getElem?_set_self' ]at e2
   cases z:σ[j]? <;> rw[z]at e2 <;> cases e2
  ·rw[aBH (Ne.symm hj)]at e2
   obtain⟨u',r',q⟩:=hv j y u e1 e2 e3
   refine⟨u',r',?_⟩
   rcases q with⟨k,z⟩|⟨k,c,z,w⟩
   ·have:y≠n:=λz=>hj (kU hN e1 (z▸hi))
    exact .inl ⟨k,by simp[this,z]⟩
   ·exact .inr ⟨k,c,z,w.sameBut same (I.cne y c z)⟩
 ·obtain⟨w',z⟩:=I.cell y c q
  exact⟨w',z.sameBut same (I.cne y c q)⟩
 ·obtain⟨z,n,ne,nf,dd⟩:=I.pin p hp
  exact⟨(same.2 p.1 ne).trans z,n,ne,nf,dd⟩
 ·refine(I.hok b o q).stay (λc u hc z=>(same.2 c ?_).trans z) (λ_ z=>z) λ_ _ z=>z
  rintro rfl
  rcases hc with rfl|hc
  ·have:=I.free;rw[q]at this;cases this
  ·have:=I.free;rw[hc]at this;cases this
structure XM(K:Frag)(C D:Addr):Prop where
 c:∃bm ini,xcB K C bm ini=true/\(Value.ref C::bm).contains (.ref D)=true
 d:∃bm ini,xcB K D bm ini=true/\bm.contains (.type "BaseException")=true
variable{b₀:Stmt}{suite:List Stmt}{np hpos:Pos}{tb:Ends->(Addr->Hp->Prop)->St->Hp->Prop}{ts:TS}
noncomputable def tTryAs(K:Frag)(Dc:Addr)(i:Nat)(tb:Ends->(Addr->Hp->Prop)->St->Hp->Prop)(ts:TS):TS:=λD σ H=>tb D (λa H'=>(∃C d,H' a=some (XO a C d)/\XM K C Dc) /\
 ts {nx:=λσ' H''=>D.nx (σ'.set i none) H'',rt:=D.rt,bk:=λσ' H''=>D.bk (σ'.set i none) H'',ct:=λσ' H''=>D.ct (σ'.set i none) H''} (σ.set i (some (.ref a))) H') σ H
theorem aAh{C':Addr}{d':Option Addr}(ok:HOk P w H h)(q:H a=some (XO a C d))(q':H a=some (XO a C' d')):C=C'/\d=d':=by
 obtain⟨_,_,z⟩:=XO.at ok q
 obtain⟨_,_,z'⟩:=XO.at ok q'
 rw[z]at z';cases z';exact⟨rfl,rfl⟩
theorem yL(hN:X.N.Nodup)(hb:PBx X body tb)(hs:∀a,PSs (X.hnd a) (b₀::suite) ts)(hm:X.mg cn=some (.ref Dc))(hi:X.N[i]?=some n:=by rfl)(hl:X.env.scope.names.lookup n=some .local:=by rfl)(hg:Gl X cn:=by rfl)(hst:X.stack=X.env::X.outer:=by rfl)(hfm:X.env.frame=some X.env.locals:=by rfl)(hdb:(cn==("__debug__":Str))=false:=by decide) :
  PS X (.Try body [.ExceptHandler (some (.Name cn np)) (some n) (b₀::suite) hpos] [] [] pos) (tTryAs X.K Dc i tb ts):=by
 intro pins s σ H D I h
 refine wpAny_Try_except (aCN (hb pins s σ H D _ I h) (λf s1 q=>?_) λev s1 ⟨a,H1,C,d,ee,I1,x1,hx,⟨C',d',hx',xm⟩,q⟩=>?_)
 ·cases f with
  |next=>exact aEE q
  |brk=>exact q
  |cont=>exact q
  |ret u=>exact q
 ·subst ee
  obtain⟨rfl,rfl⟩:=aAh I1.hok hx hx'
  refine I1.flight hst hfm I1.ok.frames x1 hx λh2 I2 x2=>?_
  refine wpAny_handleBy_cons (codeAny_handlers_test (fG (X:=X.hnd a) (I2.hnd a) hg hm ?_ hdb)) (by intro q;cases q)
  obtain⟨bm,ini,c1,c2⟩:=xm.c
  obtain⟨bmD,iniD,d1,d2⟩:=xm.d
  obtain⟨vs,sl,z⟩:=XO.at I2.hok hx
  refine excM (jR I2.kIn c1) z rfl (jR I2.kIn d1) d2 c2 ?_
  refine codeAny_handlers_suite_as (I2.again hst hfm x2 hx λh3 I3 x3=>?_)
  refine eS I3 hN hi (.inl hl) (v:=.ref a) rfl (λs4 I4=>?_) (.inr hl)
  refine aCN ((hs a) pins _ (σ.set i (some (.ref a))) H1 _ (I4.hnd a) q) (λf s5 q5=>?_) λ_ _ z=>z.elim
  have q5:=q5.unhnd I4.ok
  cases f with
  |next=>obtain⟨σ',H',I',q'⟩:=q5;exact gB I' hi hN hl λs6 I6=>⟨_,H',I6,q'⟩
  |brk=>obtain⟨σ',H',I',q'⟩:=q5;exact gB I' hi hN hl λs6 I6=>⟨_,H',I6,q'⟩
  |cont=>obtain⟨σ',H',I',q'⟩:=q5;exact gB I' hi hN hl λs6 I6=>⟨_,H',I6,q'⟩
  |ret u=>obtain⟨v,σ',H',I',r,q'⟩:=q5;exact gB I' hi hN hl λs6 I6=>⟨v,_,H',I6,r,q'⟩
variable{K:Frag}{c:Str}
theorem zU(K:Frag):specialIn K (.builtin "object.__class__") "__get__"=some (some (.builtin "getset_descriptor.__get__")):=by with_unfolding_all rfl
theorem aCx(K:Frag):takesIn K (.builtin "object.__class__")=some true:=by with_unfolding_all rfl
theorem rU{a g:Value}(hc:(clsIn K C).isSome=true)(ha:findIn K (.ref C) name=some (some a))(hg:specialIn K a "__get__"=some (some g))(ht:takesIn K a=some true):findObj K C od name=some (.bind g a):=by
 obtain⟨cd,hc⟩:=aDE.mp hc
 unfold findObj
 simp only[hc,ha,aFY,hg,ht]
theorem Xc.mro(F:Xc K c C LE)(b:Value):mroIn K C b=some ((Value.ref C::.ref LE::vb).contains b):=by
 obtain⟨cd,h1,_,h2⟩:=F.cd
 unfold mroIn
 rw[h1,aFY,h2]
 rfl
variable{ox:Obj}
theorem xclass{Q:Option Value->Shared->Prop}(F:Xc K c C LE)(X:K.In s.heap)(I:InstAt s.heap x ox C od)(h:Q (some (.ref C)) {s with toks:=s.toks+1}):wpAny (model prog w) A (getAttr? (.ref x) "__class__") Q E s:=by
 obtain⟨hp,gn,dr,tk,oz⟩:=s
 dsimp only at X I h
 obtain⟨cd,hc,_,hm⟩:=F.cd
 have hf:findObj K C od "__class__"=some (.bind (.builtin "getset_descriptor.__get__") (.builtin "object.__class__")):=rU (by rw[hc];rfl) F.cl (zU K) (aCx K)
 have GA:=PySem.F.attr_ValueError.ga
 have hsub:Looks (model prog w) hp (isInstance (.ref x) (.type "BaseException")) true:=I.type.andThen (jT X hc hm _)
 unfold getAttr? getAttrBy? getAttrBy
 refine aAA (wpAny_mkText (aAA (aCZ (aBV (aAA (I.type.at (aAA ((looks_findIn X F.ga).at ?_))))))))
 dsimp only
 rw[show(onTheHeap (Value.ref C)&&Value.builtin "BaseException.__getattribute__"==Value.builtin "object.__getattribute__")=false from by rw[show(Value.builtin "BaseException.__getattribute__"==Value.builtin "object.__getattribute__")=false from by decide +kernel,aGP],aAI (by decide)]
 unfold getAttrByItsOwn
 have hk:Looks (model prog w) hp (hookBefore (.ref C)) none:=looks_hook X (by rw[aAH (show onTheHeap (Value.ref C)=true from rfl)];exact F.gh)
 refine aAA (hk.at (aAA (aCZ (aBV ?_))))
 unfold callGetattribute
 rw[show(false&&onTheHeap (Value.builtin "BaseException.__getattribute__"))=false from rfl,aAI (by decide)]
 unfold boundAndCalled
 rw[GA.bind]
 refine aAA (aAC ?_)
 show wpAny _ _ (call (.builtin "BaseException.__getattribute__") [.ref x,.str "__class__" tk]) _ _ _
 refine aES (aEU GA.plain PySem.F.entry_bexc_ga (@check_slot (model prog w) _ _ ⟨hp,gn,dr,tk+1,oz⟩ "BaseException.__getattribute__" "BaseException" "__getattribute__" (.ref x) [.str "__class__" tk] [] _ oW mC hsub (PySem.F.args_bexc_ga (.ref x) (.str "__class__" tk)) ?_))
 unfold Builtin.«object.__getattribute__»
 refine aAA (aAC (aAA (aAC (aAA (I.type.at (aAA ((looks_find X I hf).at ?_)))))))
 show wpAny _ _ (holding [Value.builtin "object.__class__"] (call (.builtin "getset_descriptor.__get__") [.builtin "object.__class__",.ref x,.ref C]) >>= ret) _ _ _
 refine aAA (aBV (aES (class_get X I ?_ (aAC ?_))))
 ·have:=F.mro (.type "object");exact this
 ·show wpAny _ _ (handedOut (.ref C)) _ _ _
  rw[handedOut_of rfl]
  exact aAC (aAC h)
theorem oS(F:Xc K c C LE):KitX K (.ref x) (.ref C) (λh=>InstAt h x ox C od)where
 ty:=λ_ _ _ I=>I.type
 it:=λ_ _ X _=>by
  obtain⟨cd,hc,_⟩:=F.cd
  unfold clsIn at hc
  split at hc
  ·rename_i c' d' cd' sl' ho
   intro A' Q' E' s' k q
   unfold isType loadHead
   exact aAA (wpAny_loadPart (k _ _ (X _ _ ho)) (aAC q))
  ·cases hc
 ne:=λh tp dd its n sl X htp=>by
  obtain⟨cd,hc,_⟩:=F.cd
  refine Bool.eq_false_iff.mpr λq=>?_
  cases Value.ref.inj (aFH.mp q)
  unfold clsIn at hc
  split at hc
  ·rename_i c' d' cd' sl' ho
   cases(X _ _ ho).symm.trans htp
  ·cases hc
 ca:=λX I k=>xclass F X I k
noncomputable def clV:V->Option Value
 |.ref a=>some (.ref a)
 |.ty n=>some (.type n)
 |_=>none
theorem tP{v:V}{c:Value}(h:clV v=some c)(r:RelV v u):u=c:=by
 cases v <;> simp only[clV,aAO,reduceCtorEq]at h <;> (subst h;exact r)
variable{σ:List (Option V)}
theorem pW{f:Str}{u:V}(I:Inv X pins σ H s)(he:H x=some (XO x C d))(hd:d=none\/∃dx fs,d=some dx/\H dx=some (.xd fs)):∃ox od,InstAt s.heap x ox C od:=by
 obtain⟨vs,sl,q⟩:=XO.at I.hok he
 rcases hd with rfl|⟨dx,fs,rfl,hx⟩
 ·exact⟨_,none,q,rfl,rfl,trivial⟩
 ·obtain⟨mA,n,_⟩:=(show ObjOk X.prog X.w H s.heap dx (.xd fs)from I.hok dx _ hx)
  obtain⟨od,ho,_⟩:=jS n
  exact⟨_,some od,q,rfl,rfl,ho⟩
noncomputable section
def rIsX(K:Frag):List V->Hp->VK->Prop:=λxs H Q=>∃x C LE c d y cv b,xs=[.ref x,y]/\H x=some (XO x C d)/\(d=none\/∃dx fs,d=some dx/\H dx=some (.xd fs))/\Xc K c C LE/\clV y=some cv/\kitOne K (.ref C) cv=some b/\Q (.bl b) H
def rIsXs(K:Frag):List V->Hp->VK->Prop:=λxs H Q=>∃x C LE c d tp ys cvs b,xs=[.ref x,.ref tp]/\H x=some (XO x C d)/\(d=none\/∃dx fs,d=some dx/\H dx=some (.xd fs))/\Xc K c C LE/\H tp=some (.tup ys)/\ys.map clV=cvs.map some/\kitAny K (.ref C) cvs=some b/\Q (.bl b) H
theorem xO:CallR X (.builtin "isinstance") (rIsX X.K):=by
 intro pins s σ H xs us Q I r h
 obtain⟨x,C,LE,c,d,y,cv,b,ex,hx,hd,F,hy,ek,q⟩:=h
 subst ex
 obtain⟨u,w',rfl,r1,r2⟩:=Vals.two r
 cases(show u=Value.ref x from r1)
 cases tP hy r2
 obtain⟨ox,od,J⟩:=pW (f:=c) (u:=y) I hx hd
 exact kia_one (oS (od:=od) (ox:=ox) F) I.kIn J ek (λz=>nomatch z) λtk=>⟨.bl b,H,I.tok tk,rfl,q⟩
theorem pH:∀{ys:List V} {us cvs:List Value},ys.map clV=cvs.map some->Vals ys us->us=cvs
 |[],us,cvs,h,r=>by cases r;cases cvs with|nil=>rfl|cons=>simp at h
 |y::ys,us,cvs,h,r=>by
  cases r with
  |cons r1 r2 =>
   cases cvs with
   |nil=>simp at h
   |cons cv cvs =>
    simp only[aDG,List.cons.injEq]at h
    rw[tP h.1 r1,pH h.2 r2]
theorem uJ:CallR X (.builtin "isinstance") (rIsXs X.K):=by
 intro pins s σ H xs us Q I r h
 obtain⟨x,C,LE,c,d,tp,ys,cvs,b,ex,hx,hd,F,ht,hy,ek,q⟩:=h
 subst ex
 obtain⟨u,w',rfl,r1,r2⟩:=Vals.two r
 cases(show u=Value.ref x from r1)
 cases(show w'=Value.ref tp from r2)
 obtain⟨_,its,rv,o,ho,oc,n,od'⟩:=(show ObjOk X.prog X.w H s.heap tp (.tup ys)from I.hok tp _ ht)
 cases pH hy rv
 obtain⟨ox,od,J⟩:=pW (f:=c) (u:=.non) I hx hd
 obtain⟨c0,d0,dt0,sl0⟩:=o
 dsimp only at oc od'
 subst oc od'
 exact kia_tup (oS (od:=od) (ox:=ox) F) I.kIn J ho ek (λz=>nomatch z) λtk=>⟨.bl b,H,I.tok tk,rfl,q⟩
def tXget(K:Frag)(te:TE)(f:Str):TE:=λσ H Q=>te σ H λv H1=>∃x C LE c dx y,v=.ref x/\H1 x=some (XO x C (some dx))/\H1 dx=some (.xd [(f,y)])/\Xc K c C LE/\findIn K (.ref C) f=some none/\(∀i,y≠.ty i)/\Q y H1
end
theorem aAj{e:Expr}(he:PE X e te)(hb:attributeBase e f X.env (eval e X.env)=eval e X.env:=by rfl):PE X (.Attribute e f pos) (tXget X.K te f):=by
 intro pins s σ H Q I h
 refine aAv hb (thn (he pins s σ H _ I h) λu s1 ⟨v,H1,I1,rx,x,C,LE,c,dx,y,ex,hx,hd,F,hn,ny,q⟩=>?_)
 subst ex
 cases(show u=Value.ref x from rx)
 obtain⟨vs,sl,z⟩:=XO.at I1.hok hx
 obtain⟨mA,n,hr⟩:=(show ObjOk X.prog X.w H1 s1.heap dx (.xd [(f,y)])from I1.hok dx _ hd)
 have hf:=hr f
 simp only[List.lookup,beq_self_eq_true]at hf
 cases hm:mA f with
 |none=>rw[hm]at hf;exact hf.elim
 |some w =>
  rw[hm]at hf
  obtain⟨cd,hc,_,hmro⟩:=F.cd
  refine xget I1.kIn z n hc hmro F.hd F.ga F.gh hn hm ?_ ⟨y,H1,I1.tok _,hf,q⟩
  cases y <;> first|(cases hf;rfl)|(obtain⟨t,rfl⟩:=hf;rfl)|(cases(show w=_ from hf);rfl)
end L2
namespace EV
open L2
noncomputable abbrev St:=L2.St
inductive D where
 |non|bl (b:Bool)|int (i:Int)|str (x:Str)|tup (xs:List D)|lst (xs:List D)|fz (xs:List D)
 |exn (c f:Str) (xs:List D)
inductive Nst where
 |ls (js:List Nat)|pr (x:D) (i:Nat)
inductive W where
 |d (x:D)|ref (i:Nat)
 |ob (c:Str) (i:Nat)|nest (z:Nst)
noncomputable section
abbrev Lc:=List (Option W)
abbrev Mm:=List (List D)
abbrev Exn:=D
end
inductive Oc(α:Type)where
 |ok (a:α) (M:Mm)|ex (x:Exn) (M:Mm)|bad
noncomputable def Oc.bind(o:Oc α)(k:α->Mm->Oc β):Oc β:=match o with
 |.ok a M=>k a M
 |.ex x M=>.ex x M
 |.bad=>.bad
@[simp]theorem cR(a:α)(M:Mm)(k:α->Mm->Oc β):(Oc.ok a M).bind k=k a M:=rfl
@[simp]theorem aAi(x:Exn)(M:Mm)(k:α->Mm->Oc β):(Oc.ex x M:Oc α).bind k=.ex x M:=rfl
@[simp]theorem aGw(k:α->Mm->Oc β):(Oc.bad:Oc α).bind k=.bad:=rfl
section
variable(K:Frag)(μ:List Addr)(H:Hp)
noncomputable def FzL(a:Addr)(vs:List V):Prop:=(∃o,H a=some (.frz o (.lst vs))) \/
 ∃(o:Obj) (its:Array Value) (n:Nat),K.lookup a=some o/\o.cls=.type "list"/\o.dict=none/\o.data=.seq its n/\its.size<=sizeLine/\Vals vs its.toList
noncomputable def XFl(C:Addr)(f:Str)(d:Option Addr)(vs:List V):Prop:=(d=none/\vs=[])\/∃dx u,d=some dx/\vs=[u]/\H dx=some (.xd [(f,u)])/\PySem.W.findIn K (.ref C) f=some none
mutual
noncomputable def Rp:D->V->Prop
 |.non,v=>v=.non
 |.bl b,v=>v=.bl b
 |.int i,v=>v=.int i
 |.str x,v=>v=.str x
 |.tup ds,v=>∃a vs,v=.ref a/\H a=some (.tup vs)/\Rps ds vs
 |.lst ds,v=>∃a vs,v=.ref a/\H a=some (.lst vs)/\a∉μ/\Rps ds vs
 |.fz ds,v=>∃a vs,v=.ref a/\FzL K H a vs/\Rps ds vs
 |.exn c f ds,v=>∃a vs C LE d,v=.ref a/\H a=some (XO a C d)/\Xc K c C LE/\XFl K H C f d vs/\Rps ds vs
noncomputable def Rps:List D->List V->Prop
 |[],vs=>vs=[]
 |d::ds,vs=>∃v r,vs=v::r/\Rp d v/\Rps ds r
end
noncomputable section
def IsL(H:Hp)(a:Addr):Prop:=∃vs,H a=some (.lst vs)
def IsO(c:Str)(H:Hp)(a:Addr):Prop:=(∃C dx fs,H a=some (.ins C dx fs)/\nsIn K mainGlobals c=some (some (.ref C)))\/(c="dict"/\∃kvs,H a=some (.dT kvs))\/(c="dictK"/\∃kvs,H a=some (.dK kvs))
def Rjs:List Nat->List V->Prop
 |[],vs=>vs=[]
 |j::js,vs=>∃a r,vs=.ref a::r/\μ[j]?=some a/\IsL H a/\Rjs js r
def RNs:Nst->Addr->List V->Prop
 |.ls js,a,vs=>H a=some (.lst vs)/\a∉μ/\Rjs μ H js vs
 |.pr x i,a,vs=>H a=some (.tup vs)/\∃v b,vs=[v,.ref b]/\Rp K μ H x v/\μ[i]?=some b/\IsL H b
def Rw:W->V->Prop
 |.d x,v=>Rp K μ H x v
 |.ref i,v=>∃a,μ[i]?=some a/\v=.ref a/\IsL H a
 |.ob c i,v=>∃a,μ[i]?=some a/\v=.ref a/\IsO K c H a
 |.nest z,v=>∃a vs,v=.ref a/\RNs K μ H z a vs
def Frs:List D->List (Str×V)->Prop
 |[],fs=>fs=[]
 |d::ds,fs=>∃f x v r,d=.tup [.str f,x]/\fs=(f,v)::r/\Rp K μ H x v/\Frs ds r
def kyD:Key->D
 |.inl i=>.int i
 |.inr x=>.str x
def Krs:List D->List (List Key×V)->Prop
 |[],fs=>fs=[]
 |d::ds,fs=>∃k x v r,d=.tup [.tup (k.map kyD),x]/\fs=(k,v)::r/\Rp K μ H x v/\Krs ds r
def Kns:List D->List (Key×V)->Prop
 |[],fs=>fs=[]
 |d::ds,fs=>∃k x v r,d=.tup [kyD k,x]/\fs=(k,v)::r/\Rp K μ H x v/\Kns ds r
def CelO:HO->List D->Prop
 |.lst vs,ds=>Rps K μ H ds vs
 |.ins _ _ fs,ds=>Frs K μ H ds fs
 |.dT kvs,ds=>Krs K μ H ds kvs
 |.dK kvs,ds=>Kns K μ H ds kvs
 |_,_=>False
def Rws:List W->List V->Prop
 |[],vs=>vs=[]
 |d::ds,vs=>∃v r,vs=v::r/\Rw K μ H d v/\Rws ds r
end
structure HR(M:Mm):Prop where
 len:μ.length=M.length
 nd:μ.Nodup
 ent:∀(i:Nat) (a:Addr) (ds:List D),μ[i]?=some a->M[i]?=some ds->∃o,H a=some o/\CelO K μ H o ds
structure LR(L:Lc)(σ:St):Prop where
 len:L.length=σ.length
 ent:∀(i:Nat) (w:W),L[i]?=some (some w)->∃v,σ[i]?=some (some v)/\Rw K μ H w v
end
structure SameK(o o':HO):Prop where
 l:∀vs,o=.lst vs->∃us,o'=.lst us
 i:∀C dx fs,o=.ins C dx fs->∃gs,o'=.ins C dx gs
 t:∀kvs,o=.dT kvs->∃ls,o'=.dT ls
 k:∀kvs,o=.dK kvs->∃ls,o'=.dK ls
variable{o:HO}
theorem SameK.refl:SameK o o:=⟨λ_ h=>⟨_,h⟩,λ_ _ _ h=>⟨_,h⟩,λ_ h=>⟨_,h⟩,λ_ h=>⟨_,h⟩⟩
theorem SameK.trans{p q:HO}(a:SameK o p)(b:SameK p q):SameK o q:=⟨λ_ h=>let⟨_,h⟩:=a.l _ h;b.l _ h,λ_ _ _ h=>let⟨_,h⟩:=a.i _ _ _ h;b.i _ _ _ h,λ_ h=>let⟨_,h⟩:=a.t _ h;b.t _ h,λ_ h=>let⟨_,h⟩:=a.k _ h;b.k _ h⟩
structure Ext(μ:List Addr)(H:Hp)(μ':List Addr)(H':Hp):Prop where
 keep:∀a o,a∉μ->H a=some o->H' a=some o
 new:∀a,a∈μ'->a∈μ\/H a=none
 pre:∀(i:Nat) (a:Addr),μ[i]?=some a->μ'[i]?=some a
 kin:∀a o,H a=some o->∃o',H' a=some o'/\SameK o o'
variable{K:Frag}{μ2:List Addr}{M:Mm}{a:Addr}
theorem FzL.sq(h:FzL K H a vs):SqL K H a vs:=by
 rcases h with⟨o,h⟩|h
 ·exact .inl (.inr ⟨o,h⟩)
 ·exact .inr h
theorem Ext.refl:Ext μ H μ H:=⟨λ_ _ _ h=>h,λ_ h=>.inl h,λ_ _ h=>h,λ_ _ h=>⟨_,h,.refl⟩⟩
theorem Ext.out(e:Ext μ H μ1 H1)(h:H a=some o)(n:a∉μ):a∉μ1:=λz=>by
 rcases e.new a z with z|z
 ·exact n z
 ·rw[h]at z;cases z
theorem Ext.trans(e:Ext μ H μ1 H1)(f:Ext μ1 H1 μ2 H2):Ext μ H μ2 H2 where
 keep:=λa o n h=>f.keep a o (e.out h n) (e.keep a o n h)
 new:=λa h=>by
  rcases f.new a h with h|h
  ·exact e.new a h
  ·by_cases n:a∈μ
   ·exact .inl n
   ·cases q:H a with
    |none=>exact .inr rfl
    |some o=>rw[e.keep a o n q]at h;cases h
 pre:=λi a h=>f.pre i a (e.pre i a h)
 kin:=λa o h=>let⟨_,h1,k1⟩:=e.kin a o h;let⟨_,h2,k2⟩:=f.kin a _ h1;⟨_,h2,k1.trans k2⟩
noncomputable def MutO:HO->Prop
 |.lst _=>True
 |.ins _ _ _=>True
 |.dT _=>True
 |.dK _=>True
 |_=>False
theorem CelO.mut{ds:List D}(h:CelO K μ H o ds):MutO o:=by cases o <;> first|exact h.elim|trivial
noncomputable def Lsts(μ:List Addr)(H:Hp):Prop:=∀a∈μ,∃o,H a=some o/\MutO o
theorem HR.lsts(h:HR K μ H M):Lsts μ H:=λa ha=>by
 obtain⟨i,hi,e⟩:=aBX.mp ha
 have hM:i < M.length:=h.len▸hi
 obtain⟨vs,q,m⟩:=h.ent i a M[i] (by rw[aCC hi,e]) (by simp[hM])
 exact⟨vs,q,m.mut⟩
theorem FzL.ext(l:Lsts μ H)(e:Ext μ H μ1 H1)(h:FzL K H a vs):FzL K H1 a vs:=by
 rcases h with⟨o,h⟩|h
 ·exact .inl ⟨o,e.keep a _ (λz=>by obtain⟨vs,q,m⟩:=l a z;rw[h]at q;cases q;exact m) h⟩
 ·exact .inr h
theorem XFl.ext{f:Str}(l:Lsts μ H)(e:Ext μ H μ1 H1)(h:XFl K H C f d vs):XFl K H1 C f d vs:=by
 rcases h with h|⟨dx,u,h1,h2,h3,h4⟩
 ·exact .inl h
 ·exact .inr ⟨dx,u,h1,h2,e.keep dx _ (λz=>by obtain⟨vs,q,m⟩:=l dx z;rw[h3]at q;cases q;exact m) h3,h4⟩
mutual
theorem Rp.ext(l:Lsts μ H)(e:Ext μ H μ1 H1):∀(d:D) (v:V),Rp K μ H d v->Rp K μ1 H1 d v
 |.non,v,h=>by simpa[Rp]using h
 |.bl b,v,h=>by simpa[Rp]using h
 |.int b,v,h=>by simpa[Rp]using h
 |.str b,v,h=>by simpa[Rp]using h
 |.tup ds,v,h=>by
  simp only[Rp]at h ⊢
  obtain⟨a,vs,e1,e2,e3⟩:=h
  exact⟨a,vs,e1,e.keep _ _ (λz=>by obtain⟨us,q,m⟩:=l a z;rw[e2]at q;cases q;exact m) e2,Rps.ext l e ds vs e3⟩
 |.lst ds,v,h=>by
  simp only[Rp]at h ⊢
  obtain⟨a,vs,e1,e2,n,e3⟩:=h
  exact⟨a,vs,e1,e.keep _ _ n e2,e.out e2 n,Rps.ext l e ds vs e3⟩
 |.fz ds,v,h=>by
  simp only[Rp]at h ⊢
  obtain⟨a,vs,e1,e2,e3⟩:=h
  exact⟨a,vs,e1,FzL.ext l e e2,Rps.ext l e ds vs e3⟩
 |.exn c f ds,v,h=>by
  simp only[Rp]at h ⊢
  obtain⟨a,vs,C,LE,d,e1,e2,e3,e4,e5⟩:=h
  exact⟨a,vs,C,LE,d,e1,e.keep _ _ (λz=>by obtain⟨us,q,m⟩:=l a z;rw[e2]at q;cases q;exact m) e2,e3,XFl.ext l e e4,Rps.ext l e ds vs e5⟩
theorem Rps.ext(l:Lsts μ H)(e:Ext μ H μ1 H1):∀(ds:List D) (vs:List V),Rps K μ H ds vs->Rps K μ1 H1 ds vs
 |[],vs,h=>by simpa[Rps]using h
 |d::ds,vs,h=>by
  simp only[Rps]at h ⊢
  obtain⟨v,r,e1,e2,e3⟩:=h
  exact⟨v,r,e1,Rp.ext l e d v e2,Rps.ext l e ds r e3⟩
end
theorem IsL.ext(e:Ext μ H μ1 H1)(h:IsL H a):IsL H1 a:=by
 obtain⟨vs,h⟩:=h
 obtain⟨o,h1,k⟩:=e.kin a _ h
 obtain⟨us,rfl⟩:=k.l _ rfl
 exact⟨us,h1⟩
theorem IsO.ext(e:Ext μ H μ1 H1){c:Str}(h:IsO K c H a):IsO K c H1 a:=by
 rcases h with⟨C,dx,fs,h,n⟩|⟨hc,kvs,h⟩|⟨hc,kvs,h⟩
 ·obtain⟨o,h1,k⟩:=e.kin a _ h
  obtain⟨gs,rfl⟩:=k.i _ _ _ rfl
  exact .inl ⟨C,dx,gs,h1,n⟩
 ·obtain⟨o,h1,k⟩:=e.kin a _ h
  obtain⟨gs,rfl⟩:=k.t _ rfl
  exact .inr (.inl ⟨hc,gs,h1⟩)
 ·obtain⟨o,h1,k⟩:=e.kin a _ h
  obtain⟨gs,rfl⟩:=k.k _ rfl
  exact .inr (.inr ⟨hc,gs,h1⟩)
theorem Rjs.ext(e:Ext μ H μ1 H1):∀{js:List Nat} {vs:List V},Rjs μ H js vs->Rjs μ1 H1 js vs
 |[],_,h=>h
 |_::_,_,⟨a,r,e1,e2,e3,e4⟩=>⟨a,r,e1,e.pre _ _ e2,e3.ext e,Rjs.ext e e4⟩
theorem Frs.ext(l:Lsts μ H)(e:Ext μ H μ1 H1):∀{ds:List D} {fs:List (Str×V)},Frs K μ H ds fs->Frs K μ1 H1 ds fs
 |[],_,h=>h
 |_::_,_,⟨f,x,v,r,e1,e2,e3,e4⟩=>⟨f,x,v,r,e1,e2,Rp.ext l e _ _ e3,Frs.ext l e e4⟩
theorem Krs.ext(l:Lsts μ H)(e:Ext μ H μ1 H1):∀{ds:List D} {fs:List (List Key×V)},Krs K μ H ds fs->Krs K μ1 H1 ds fs
 |[],_,h=>h
 |_::_,_,⟨f,x,v,r,e1,e2,e3,e4⟩=>⟨f,x,v,r,e1,e2,Rp.ext l e _ _ e3,Krs.ext l e e4⟩
theorem Kns.ext(l:Lsts μ H)(e:Ext μ H μ1 H1):∀{ds:List D} {fs:List (Key×V)},Kns K μ H ds fs->Kns K μ1 H1 ds fs
 |[],_,h=>h
 |_::_,_,⟨f,x,v,r,e1,e2,e3,e4⟩=>⟨f,x,v,r,e1,e2,Rp.ext l e _ _ e3,Kns.ext l e e4⟩
theorem CelO.ext(l:Lsts μ H)(e:Ext μ H μ1 H1){o:HO}{ds:List D}(h:CelO K μ H o ds):CelO K μ1 H1 o ds:=by
 cases o <;> first|exact h.elim|skip
 all_goals first|exact Rps.ext l e _ _ h|exact Krs.ext l e h|exact Kns.ext l e h|exact Frs.ext l e h
theorem Rw.ext(l:Lsts μ H)(e:Ext μ H μ1 H1){w:W}{v:V}(h:Rw K μ H w v):Rw K μ1 H1 w v:=by
 cases w with
 |d x=>exact Rp.ext l e x v h
 |ref i=>obtain⟨a,h1,h2,h3⟩:=h;exact⟨a,e.pre i a h1,h2,h3.ext e⟩
 |ob c i=>obtain⟨a,h1,h2,h3⟩:=h;exact⟨a,e.pre i a h1,h2,h3.ext e⟩
 |nest z=>cases z with
  |ls js=>obtain⟨a,vs,h1,h2,h3,h4⟩:=h;exact⟨a,vs,h1,e.keep _ _ h3 h2,e.out h2 h3,h4.ext e⟩
  |pr x i=>obtain⟨a,vs,h1,h2,v,b,rfl,h3,h4,h5⟩:=h;exact⟨a,_,h1,e.keep _ _ (λz=>by obtain⟨us,q,m⟩:=l a z;rw[h2]at q;cases q;exact m) h2,v,b,rfl,Rp.ext l e x v h3,e.pre _ _ h4,h5.ext e⟩
theorem LR.ext(l:Lsts μ H)(e:Ext μ H μ1 H1){L:Lc}{σ:St}(h:LR K μ H L σ):LR K μ1 H1 L σ :=
 ⟨h.len,λi w q=>let⟨v,q1,q2⟩:=h.ent i w q;⟨v,q1,Rw.ext l e q2⟩⟩
theorem Rps.length:∀{ds:List D} {vs:List V},Rps K μ H ds vs->ds.length=vs.length
 |[],_,h=>by simp only[Rps]at h;subst h;rfl
 |_::_,_,h=>by simp only[Rps]at h;obtain⟨v,r,e1,_,e3⟩:=h;subst e1;simp[Rps.length e3]
theorem Rps.get:∀{ds:List D} {vs:List V} {i:Nat} {d:D},Rps K μ H ds vs->ds[i]?=some d->∃v,vs[i]?=some v/\Rp K μ H d v
 |[],_,_,_,_,q=>by simp at q
 |_::_,_,0,_,h,q=>by simp only[Rps]at h;obtain⟨v,r,e1,e2,e3⟩:=h;simp at q;subst q e1;exact⟨v,rfl,e2⟩
 |_::_,_,i+1,_,h,q=>by
  simp only[Rps]at h;obtain⟨v,r,e1,e2,e3⟩:=h;subst e1
  obtain⟨u,q1,q2⟩:=Rps.get (i:=i) e3 (by simpa using q)
  exact⟨u,by simpa using q1,q2⟩
theorem Rps.nil:Rps K μ H [] []:=by simp[Rps]
theorem Rps.cons{d:D}{v:V}{ds:List D}{vs:List V}(h:Rp K μ H d v)(t:Rps K μ H ds vs):Rps K μ H (d::ds) (v::vs):=by simp only[Rps];exact⟨v,vs,rfl,h,t⟩
theorem Rps.append:∀{ds es:List D} {vs us:List V},Rps K μ H ds vs->Rps K μ H es us->Rps K μ H (ds++es) (vs++us)
 |[],_,_,_,h,t=>by simp only[Rps]at h;subst h;exact t
 |_::_,_,_,_,h,t=>by simp only[Rps]at h;obtain⟨v,r,e1,e2,e3⟩:=h;subst e1;exact .cons e2 (Rps.append e3 t)
theorem Rps.drop:∀{ds:List D} {vs:List V} (n:Nat),Rps K μ H ds vs->Rps K μ H (ds.drop n) (vs.drop n)
 |_,_,0,h=>by simpa using h
 |[],_,n+1,h=>by simp only[Rps]at h;subst h;exact .nil
 |_::_,_,n+1,h=>by simp only[Rps]at h;obtain⟨v,r,e1,e2,e3⟩:=h;subst e1;simpa using Rps.drop n e3
theorem Rps.take:∀{ds:List D} {vs:List V} (n:Nat),Rps K μ H ds vs->Rps K μ H (ds.take n) (vs.take n)
 |_,_,0,h=>by simpa using Rps.nil
 |[],_,n+1,h=>by simp only[Rps]at h;subst h;exact .nil
 |_::_,_,n+1,h=>by simp only[Rps]at h;obtain⟨v,r,e1,e2,e3⟩:=h;subst e1;simpa using Rps.cons e2 (Rps.take n e3)
theorem Rps.set{d:D}{v:V}(q:Rp K μ H d v):∀{ds:List D} {vs:List V} (n:Nat),Rps K μ H ds vs->Rps K μ H (ds.set n d) (vs.set n v)
 |[],_,n,h=>by simp only[Rps]at h;subst h;simpa using Rps.nil
 |_::_,_,0,h=>by simp only[Rps]at h;obtain⟨u,r,e1,e2,e3⟩:=h;subst e1;simpa using Rps.cons q e3
 |_::_,_,n+1,h=>by simp only[Rps]at h;obtain⟨u,r,e1,e2,e3⟩:=h;subst e1;simpa using Rps.cons e2 (Rps.set q n e3)
theorem Rps.reverse{ds:List D}:∀{vs:List V},Rps K μ H ds vs->Rps K μ H ds.reverse vs.reverse:=by
 induction ds with
 |nil=>intro vs h;simp only[Rps]at h;subst h;exact .nil
 |cons d ds ih=>intro vs h;simp only[Rps]at h;obtain⟨u,r,e1,e2,e3⟩:=h;subst e1;simpa using(ih e3).append (.cons e2 .nil)
theorem Rps.rep{ds:List D}{vs:List V}(h:Rps K μ H ds vs):∀k:Nat,Rps K μ H (List.replicate k ds).flatten (List.replicate k vs).flatten
 |0=>by simpa using Rps.nil
 |k+1=>by simpa[aDH]using h.append (h.rep k)
theorem Rps.ints:Rps K μ H (ns.map D.int) (ns.map V.int):=by
 induction ns with
 |nil=>exact .nil
 |cons n r ih=>exact .cons (by simp[Rp]) ih
theorem Rws.length:∀{ws:List W} {vs:List V},Rws K μ H ws vs->ws.length=vs.length
 |[],_,h=>by cases h;rfl
 |_::_,_,⟨v,r,e1,_,e3⟩=>by subst e1;simp[Rws.length e3]
theorem Rws.get:∀{ws:List W} {vs:List V} {i:Nat} {w:W},Rws K μ H ws vs->ws[i]?=some w->∃v,vs[i]?=some v/\Rw K μ H w v
 |[],_,_,_,_,q=>by simp at q
 |_::_,_,0,_,⟨v,r,e1,e2,e3⟩,q=>by simp at q;subst q e1;exact⟨v,rfl,e2⟩
 |_::_,_,i+1,_,⟨v,r,e1,e2,e3⟩,q=>by
  subst e1
  obtain⟨u,q1,q2⟩:=Rws.get (i:=i) e3 (by simpa using q)
  exact⟨u,by simpa using q1,q2⟩
variable{p:Addr}
theorem HR.out(h:HR K μ H M)(hp:H p=none):p∉μ:=λz=>by
 obtain⟨vs,q,_⟩:=h.lsts p z
 rw[hp]at q;cases q
theorem dN(h:HR K μ H M)(hp:H p=none):Ext μ H μ (upd H p o) :=
 ⟨λa u n q=>by rw[aP (aX q hp)];exact q,λa q=>.inl q,λ_ _ q=>q,λa u q=>⟨u,by rw[aP (aX q hp)];exact q,.refl⟩⟩
theorem HR.lay(h:HR K μ H M)(hp:H p=none):HR K μ (upd H p o) M where
 len:=h.len
 nd:=h.nd
 ent:=λi a ds q1 q2=>by
  obtain⟨vs,q3,q4⟩:=h.ent i a ds q1 q2
  exact⟨vs,by rw[aP (aX q3 hp)];exact q3,CelO.ext h.lsts (dN h hp) q4⟩
theorem pU(h:HR K μ H M)(hp:H p=none):Ext μ H (μ++[p]) (upd H p o)where
 keep:=λa u n q=>by rw[aP (aX q hp)];exact q
 new:=λa q=>by
  rcases aBC.mp q with q|q
  ·exact .inl q
  ·rw[aAT]at q;subst q;exact .inr hp
 pre:=λi a q=>by
  rw[aAU (aAD.mp q).1];exact q
 kin:=λa u q=>⟨u,by rw[aP (aX q hp)];exact q,.refl⟩
theorem tH(h:HR K μ H M)(hp:H p=none):Ext μ H (μ++[p]) (upd H p (.lst vs)):=pU h hp
theorem HR.newO(h:HR K μ H M){ds:List D}(hp:H p=none)(r:CelO K μ H o ds):HR K (μ++[p]) (upd H p o) (M++[ds])where
 len:=by simp[h.len]
 nd:=List.nodup_append.mpr ⟨h.nd,by simp,λa ha b hb=>by rw[aAT]at hb;subst hb;rintro rfl;exact h.out hp ha⟩
 ent:=λi a es q1 q2=>by
  have x:=pU (o:=o) h hp
  by_cases hi:i < μ.length
  ·rw[aAU hi]at q1
   rw[aAU (by rw[<- h.len];exact hi)]at q2
   obtain⟨us,q3,q4⟩:=h.ent i a es q1 q2
   exact⟨us,by rw[aP (aX q3 hp)];exact q3,CelO.ext h.lsts x q4⟩
  ·have:i=μ.length:=by
    have:=(aAD.mp q1).1
    simp at this;lia
   subst this
   rw[aBL (aAE _)]at q1
   rw[h.len,aBL (aAE _)]at q2
   simp at q1 q2
   subst q1 q2
   exact⟨o,aU,CelO.ext h.lsts x r⟩
theorem HR.new(h:HR K μ H M){ds:List D}(hp:H p=none)(r:Rps K μ H ds vs):HR K (μ++[p]) (upd H p (.lst vs)) (M++[ds]):=h.newO hp (o:=.lst vs) r
theorem pX{o':HO}(q:μ[i]?=some a)(ho:H a=some o')(k:SameK o' o):Ext μ H μ (upd H a o) :=
 ⟨λb u n q'=>by rw[aP (λz=>n (by subst z;exact aBE q))];exact q',λa q=>.inl q,λ_ _ q=>q,λb u q'=>by
  by_cases e:b=a
  ·subst e;rw[ho]at q';cases q';exact⟨o,aU,k⟩
  ·exact⟨u,by rw[aP e];exact q',.refl⟩⟩
theorem SameK.lst{vs us:List V}:SameK (.lst vs) (.lst us):=⟨λ_ _=>⟨us,rfl⟩,λ_ _ _ h=>(nomatch h),λ_ h=>(nomatch h),λ_ h=>(nomatch h)⟩
theorem eB(q:μ[i]?=some a)(hl:IsL H a:=by first|assumption|exact⟨_,by assumption⟩):Ext μ H μ (upd H a (.lst vs)):=let⟨_,h⟩:=hl;pX q h .lst
theorem HR.setO(h:HR K μ H M){ds:List D}{o':HO}(q:μ[i]?=some a)(ho:H a=some o')(k:SameK o' o)(r:CelO K μ H o ds):HR K μ (upd H a o) (M.set i ds)where
 len:=by simp[h.len]
 nd:=h.nd
 ent:=λj b es q1 q2=>by
  have x:=pX (H:=H) (o:=o) q ho k
  by_cases hj:i=j
  ·subst hj
   rw[q]at q1;cases q1
   have hlt:i < M.length:=by rw[<- h.len];exact(aAD.mp q).1
   rw[aBD hlt]at q2;cases q2
   exact⟨o,aU,CelO.ext h.lsts x r⟩
  ·rw[aBH hj]at q2
   obtain⟨us,q3,q4⟩:=h.ent j b es q1 q2
   have hb:b≠a:=by
    rintro rfl
    have h1:=(aAD.mp q).1
    have h2:=(aAD.mp q1).1
    have e1:=(aAD.mp q).2
    have e2:=(aAD.mp q1).2
    have pw:=aBM.mp h.nd
    rcases Nat.lt_or_gt_of_ne hj with l|l
    ·exact pw i j h1 h2 l (e1.trans e2.symm)
    ·exact pw j i h2 h1 l (e2.trans e1.symm)
   exact⟨us,by rw[aP hb];exact q3,CelO.ext h.lsts x q4⟩
theorem HR.set(h:HR K μ H M){i:Nat}{a:Addr}{ds:List D}{vs:List V}(q:μ[i]?=some a)(r:Rps K μ H ds vs)(hl:IsL H a:=by first|assumption|exact⟨_,by assumption⟩):HR K μ (upd H a (.lst vs)) (M.set i ds):=let⟨_,e⟩:=hl;h.setO q e .lst (o:=.lst vs) r
theorem HR.atO(h:HR K μ H M){ds:List D}(q:M[i]?=some ds):∃a o,μ[i]?=some a/\H a=some o/\CelO K μ H o ds:=by
 have hlt:i < μ.length:=by rw[h.len];exact(aAD.mp q).1
 obtain⟨vs,q1,q2⟩:=h.ent i μ[i] ds (by simp[hlt]) q
 exact⟨μ[i],vs,by simp[hlt],q1,q2⟩
theorem HR.at(h:HR K μ H M){i:Nat}{ds:List D}(q:M[i]?=some ds){a':Addr}(qa:μ[i]?=some a')(hl:IsL H a':=by assumption):∃a vs,μ[i]?=some a/\H a=some (.lst vs)/\Rps K μ H ds vs:=by
 obtain⟨a,o,q1,q2,q3⟩:=h.atO q
 rw[qa]at q1;cases q1
 obtain⟨vs,hl⟩:=hl
 rw[hl]at q2;cases q2
 exact⟨a',vs,qa,hl,q3⟩
structure Zt where
 z:Exn->Mm->List Addr->Hp->Prop
 mono:∀{x M μ H μ' H':_},Ext μ H μ' H'->z x M μ H->z x M μ' H'
noncomputable def Z0:Zt:=⟨λ_ _ _ _=>False,λ_ h=>h⟩
noncomputable def Pst(K:Frag)(Z:Zt)(μ:List Addr)(H:Hp)(o:Oc α)(Q:List Addr->Hp->Mm->α->Prop):Prop:=match o with
 |.ok a M'=>∀μ' H',Ext μ H μ' H'->HR K μ' H' M'->Q μ' H' M' a
 |.ex x M'=>Z.z x M' μ H
 |.bad=>False
variable{α β:Type}{K:Frag}{Z:Zt}{o:Oc α}{Q Q':List Addr->Hp->Mm->α->Prop}
theorem Pst.mono(e:Ext μ H μ1 H1)(h:Pst K Z μ H o Q):Pst K Z μ1 H1 o Q:=by
 cases o with
 |ok a M=>exact λμ' H' e' hr=>h μ' H' (e.trans e') hr
 |ex x M=>exact Z.mono e h
 |bad=>exact h
theorem Pst.imp(h:Pst K Z μ H o Q)(f:∀μ' H' M' a,Ext μ H μ' H'->HR K μ' H' M'->o=.ok a M'->Q μ' H' M' a->Q' μ' H' M' a):Pst K Z μ H o Q':=by
 cases o with
 |ok a M=>exact λμ' H' e' hr=>f μ' H' M a e' hr rfl (h μ' H' e' hr)
 |ex x M=>exact h
 |bad=>exact h
theorem Pst.bind{k:α->Mm->Oc β}{R:List Addr->Hp->Mm->β->Prop}(h:Pst K Z μ H (o.bind k) R):Pst K Z μ H o (λμ' H' M' a=>Pst K Z μ' H' (k a M') R):=by
 cases o with
 |ok a M=>exact λμ' H' e' hr=>Pst.mono e' h
 |ex x M=>exact h
 |bad=>exact h
noncomputable section
abbrev FE:=Lc->Mm->Oc W
abbrev FT:=Lc->Mm->Oc Bool
abbrev FA:=Lc->Mm->Oc (List W)
end
inductive Out where
 |nx (L:Lc)|bk (L:Lc)|ct (L:Lc)|rt (w:W)
noncomputable section
abbrev FS:=Lc->Mm->Oc Out
abbrev FG:=W->Lc->Mm->Oc Lc
abbrev FGs:=List D->Lc->Mm->Oc Lc
abbrev Fn:=List W->Mm->Oc W
end
section
variable(K:Frag)(Z:Zt)
noncomputable section
def lift(f:FE):TE:=λσ H Q=>∃μ M L,HR K μ H M/\LR K μ H L σ/\Pst K Z μ H (f L M) λμ' H' _ w=>∀v,Rw K μ' H' w v->Q v H'
def liftT(f:FT):TT:=λσ H Q=>∃μ M L,HR K μ H M/\LR K μ H L σ/\Pst K Z μ H (f L M) λμ' H' M' b=>Q b H'
def liftA(f:FA):TA:=λσ H Q=>∃μ M L,HR K μ H M/\LR K μ H L σ/\Pst K Z μ H (f L M) λμ' H' _ ws=>∀vs,Rws K μ' H' ws vs->Q vs H'
end
end
section
variable(X:Cx)(K:Frag)(Z:Zt)
noncomputable section
abbrev Sk(K:Frag)(E:Ends)(μ':List Addr)(H':Hp)(_:Mm)(o:Out):Prop:=match o with
 |.nx L'=>∀σ',LR K μ' H' L' σ'->E.nx σ' H'
 |.bk L'=>∀σ',LR K μ' H' L' σ'->E.bk σ' H'
 |.ct L'=>∀σ',LR K μ' H' L' σ'->E.ct σ' H'
 |.rt w=>∀v,Rw K μ' H' w v->E.rt v H'
def liftS(F:FS):TS:=λE σ H=>∃μ M L,HR K μ H M/\LR K μ H L σ/\Pst K Z μ H (F L M) (Sk K E)
def liftG(g:FG):TG:=λv σ H Q=>∃μ M L w,HR K μ H M/\LR K μ H L σ/\Rw K μ H w v/\Pst K Z μ H (g w L M) λμ' H' _ L'=>∀σ',LR K μ' H' L' σ'->Q σ' H'
def liftGs(g:FGs):TGs:=λvs σ H Q=>∃μ M L ds,HR K μ H M/\LR K μ H L σ/\Rps K μ H ds vs/\Pst K Z μ H (g ds L M) λμ' H' _ L'=>∀σ',LR K μ' H' L' σ'->Q σ' H'
end
structure Ev(e:Expr)(f:FE):Prop where
 k:X.K=K
 h:PE X e (lift K Z f)
structure Et(e:Expr)(f:FT):Prop where
 k:X.K=K
 h:PT X e (liftT K Z f)
structure Ew(e:Expr)(f:FT):Prop where
 k:X.K=K
 h:PW X e (liftT K Z f)
structure Ea(es:List Expr)(f:FA):Prop where
 k:X.K=K
 h:PA X es (liftA K Z f)
structure Es(st:Stmt)(F:FS):Prop where
 k:X.K=K
 h:PS X st (liftS K Z F)
structure Ess(st:List Stmt)(F:FS):Prop where
 k:X.K=K
 h:PSs X st (liftS K Z F)
structure Eg(tg:Expr)(g:FG):Prop where
 k:X.K=K
 h:PG X tg (liftG K Z g)
structure Egs(tg:List Expr)(g:FGs):Prop where
 k:X.K=K
 h:PGs X tg (liftGs K Z g)
end
section
variable{K:Frag}{e a b:Expr}{es:List Expr}{f fa fb fc:FE}{t ta tb:FT}{fs:FA}
theorem cqE{t t':TE}(h:PE X e t)(i:∀σ H Q,t' σ H Q->t σ H Q):PE X e t':=λpins s σ H Q I q=>h pins s σ H Q I (i _ _ _ q)
theorem cqT{t t':TT}(h:PT X e t)(i:∀σ H Q,t' σ H Q->t σ H Q):PT X e t':=λpins s σ H Q I q=>h pins s σ H Q I (i _ _ _ q)
theorem cqW{t t':TT}(h:PW X e t)(i:∀σ H Q,t' σ H Q->t σ H Q):PW X e t':=λwh pins s σ H Q I q=>h wh pins s σ H Q I (i _ _ _ q)
theorem cqA{t t':TA}(h:PA X es t)(i:∀σ H Q,t' σ H Q->t σ H Q):PA X es t':=λp pins s σ H Q I q=>h p pins s σ H Q I (i _ _ _ q)
theorem cqS{st:Stmt}{t t':TS}(h:PS X st t)(i:∀E σ H,t' E σ H->t E σ H):PS X st t':=λpins s σ H E I q=>h pins s σ H E I (i _ _ _ q)
theorem cqSs{st:List Stmt}{t t':TS}(h:PSs X st t)(i:∀E σ H,t' E σ H->t E σ H):PSs X st t':=λpins s σ H E I q=>h pins s σ H E I (i _ _ _ q)
theorem cqG{t t':TG}(h:PG X e t)(i:∀v σ H Q,t' v σ H Q->t v σ H Q):PG X e t':=λpins s σ H v u Q I r q=>h pins s σ H v u Q I r (i _ _ _ _ q)
theorem cqGs{t t':TGs}(h:PGs X es t)(i:∀v σ H Q,t' v σ H Q->t v σ H Q):PGs X es t':=λpins s σ H v u Q I r q=>h pins s σ H v u Q I r (i _ _ _ _ q)
noncomputable section
def eV(i:Nat):FE:=λL M=>match L[i]? with
 |some (some w)=>.ok w M
 |_=>.bad
def eC(d:D):FE:=λ_ M=>.ok (.d d) M
theorem aB(i:Nat)(hN:X.N[i]?=some x:=by rfl)(hk:X.K=K:=by rfl)(hv:Vis X.env.scope x:=by first|exact Or.inl rfl|exact Or.inr (Or.inl rfl)|exact Or.inr (Or.inr rfl))
  (hd:(x==("__debug__":Str))=false:=by decide)(hcd:(x==("__classdict__":Str))=false:=by decide):Ev X K Z (.Name x pos) (eV i) :=
 ⟨hk,cqE (yF hN hv hd hcd) λσ H Q ⟨μ,M,L,hr,lr,p⟩=>by
  unfold eV at p
  cases q:L[i]? with
  |none=>rw[q]at p;exact p.elim
  |some o =>
   cases o with
   |none=>rw[q]at p;exact p.elim
   |some w =>
    rw[q]at p
    obtain⟨v,q1,q2⟩:=lr.ent i w q
    exact⟨v,q1,p μ H .refl hr v q2⟩⟩
theorem xC{d:D}(hd:∀K μ H,Rp K μ H d v)(hk:X.K=K)(h:PE X e (tC v)):Ev X K Z e (eC d) :=
 ⟨hk,cqE h λσ H Q ⟨μ,M,L,hr,lr,p⟩=>p μ H .refl hr v (hd K μ H)⟩
theorem aC{i:Int}(hk:X.K=K:=by rfl):Ev X K Z (.Constant (.int i) j pos) (eC (.int i)):=xC (λ_ _ _=>by simp[Rp]) hk wA
theorem fP{i:Bool}(hk:X.K=K:=by rfl):Ev X K Z (.Constant (.bool i) j pos) (eC (.bl i)):=xC (λ_ _ _=>by simp[Rp]) hk aGp
theorem qU(hk:X.K=K:=by rfl):Ev X K Z (.Constant .none j pos) (eC .non):=xC (λ_ _ _=>by simp[Rp]) hk aDs
theorem cQ(hk:X.K=K:=by rfl):Ev X K Z (.Constant (.str x) j pos) (eC (.str x)):=xC (λ_ _ _=>by simp[Rp]) hk xD
def e1(g:W->Mm->Oc W)(f:FE):FE:=λL M=>(f L M).bind g
def e2(g:W->W->Mm->Oc W)(f1 f2:FE):FE:=λL M=>(f1 L M).bind λx M1=>(f2 L M1).bind λy M2=>g x y M2
abbrev Wk(K:Frag)(Q:VK):List Addr->Hp->Mm->W->Prop:=λμ' H' _ w=>∀v,Rw K μ' H' w v->Q v H'
def Op2(K:Frag)(Z:Zt)(r:R2)(g:W->W->Mm->Oc W):Prop :=
 ∀(μ:List Addr) (H:Hp) (M:Mm) (x y:W) (v u:V) (Q:VK),HR K μ H M->Rw K μ H x v->Rw K μ H y u->Pst K Z μ H (g x y M) (Wk K Q)->r v u H Q
def OpG(X:Cx)(K:Frag)(Z:Zt)(f:Value->Value->Sem Value)(g:W->W->Mm->Oc W):Prop:=X.K=K->∃r,OpR X f r/\Op2 K Z r g
theorem lift2{r:R2}{g:W->W->Mm->Oc W}(hg:Op2 K Z r g):∀σ H Q,lift K Z (e2 g fa fb) σ H Q->tOp r (lift K Z fa) (lift K Z fb) σ H Q:=by
 rintro σ H Q ⟨μ,M,L,hr,lr,p⟩
 refine⟨μ,M,L,hr,lr,p.bind.imp λμ1 H1 M1 x e1 hr1 _ p1 v rx=>?_⟩
 refine⟨μ1,M1,L,hr1,lr.ext hr.lsts e1,p1.bind.imp λμ2 H2 M2 y e2 hr2 _ p2 u ry=>?_⟩
 exact hg μ2 H2 M2 x y v u Q hr2 (rx.ext hr1.lsts e2) ry p2
theorem aM{op:Operator}{g:W->W->Mm->Oc W}(ho:OpG X K Z (binaryOp op) g)(ha:Ev X K Z a fa)(hb:Ev X K Z b fb):Ev X K Z (.BinOp a op b pos) (e2 g fa fb):=by
 obtain⟨r,h1,h2⟩:=ho ha.k
 exact⟨ha.k,cqE (aGh h1 ha.h hb.h) (lift2 h2)⟩
theorem dI{g:W->W->Mm->Oc W}(ho:OpG X K Z (compareOp op) g)(ha:Ev X K Z a fa)(hb:Ev X K Z b fb)(hm:behindInMarks op b=false):Ev X K Z (.Compare a [op] [b] pos) (e2 g fa fb):=by
 obtain⟨r,h1,h2⟩:=ho ha.k
 exact⟨ha.k,cqE (yS h1 ha.h hb.h hm) (lift2 h2)⟩
def tB(f:FE):FT:=λL M=>(f L M).bind λw M1=>match w with
 |.d (.bl b)=>.ok b M1
 |_=>.bad
theorem aV{g:W->W->Mm->Oc W}(ho:OpG X K Z (compareOp op) g)(ha:Ev X K Z a fa)(hb:Ev X K Z b fb)(hm:behindInMarks op b=false):Et X K Z (.Compare a [op] [b] pos) (tB (e2 g fa fb)):=by
 obtain⟨r,h1,h2⟩:=ho ha.k
 refine⟨ha.k,cqT (aAo h1 ha.h hb.h hm) ?_⟩
 rintro σ H Q ⟨μ,M,L,hr,lr,p⟩
 refine lift2 h2 σ H _ ⟨μ,M,L,hr,lr,p.bind.imp λμ1 H1 M1 x e1 hr1 _ p1 v rx=>?_⟩
 cases x with
 |d y=>cases y with
  |bl c=>exact⟨c,by simpa[Rw,Rp]using rx,p1 μ1 H1 .refl hr1⟩
  |_=>exact p1.elim
 |ref i=>exact p1.elim
 |ob _ _=>exact p1.elim
 |nest _=>exact p1.elim
def e3c(g g':W->W->Mm->Oc W)(f1 f2 f3:FE):FE:=λL M=>(f1 L M).bind λx M1=>(f2 L M1).bind λy M2=>(g x y M2).bind λw M3=>match w with
 |.d (.bl true)=>(f3 L M3).bind λz M4=>g' y z M4
 |.d (.bl false)=>.ok (.d (.bl false)) M3
 |_=>.bad
def tru(M:Mm):W->Option Bool
 |.d .non=>some false
 |.d (.bl b)=>some b
 |.d (.int i)=>some (i != 0)
 |.d (.str x)=>if x.length<=16777216 then some (x.length != 0)else none
 |.d (.tup xs)=>some (!xs.isEmpty)
 |.d (.lst xs)=>some (!xs.isEmpty)
 |.d (.fz xs)=>some (!xs.isEmpty)
 |.d (.exn _ _ _)=>none
 |.ref i=>(M[i]?).map λxs=>!xs.isEmpty
 |.ob _ _=>none
 |.nest _=>none
def tV(f:FE):FT:=λL M=>(f L M).bind λw M1=>match tru M1 w with
 |some b=>.ok b M1
 |none=>.bad
theorem emp{ds:List D}(r:Rps K μ H ds vs):(!ds.isEmpty)=!vs.isEmpty:=by
 have:=r.length
 cases ds <;> cases vs <;> simp_all
theorem aFr{w:W}{b:Bool}(hr:HR K μ H M)(r:Rw K μ H w v)(h:tru M w=some b):TruV K v H b:=by
 cases w with
 |ref i =>
  obtain⟨a,q,rfl,il⟩:=r
  simp only[tru,aBG]at h
  obtain⟨xs,h1,rfl⟩:=h
  obtain⟨a',vs,q1,q2,q3⟩:=hr.at h1 q
  rw[q]at q1;cases q1
  exact .inl ⟨vs,SqL.of q2,emp q3⟩
 |ob _ _=>simp[tru]at h
 |nest _=>simp[tru]at h
 |d x =>
  cases x with
  |non=>simp only[Rw,Rp]at r;subst r;simp only[tru,aAO]at h;exact h.symm
  |bl c=>simp only[Rw,Rp]at r;subst r;simp only[tru,aAO]at h;exact h.symm
  |int i=>simp only[Rw,Rp]at r;subst r;simp only[tru,aAO]at h;exact h.symm
  |str z =>
   simp only[Rw,Rp]at r;subst r
   simp only[tru]at h
   split at h
   ·rename_i hz
    cases h
    refine⟨by rw[aAY];exact hz,?_⟩
    rw[Bool.eq_iff_iff];simp
   ·cases h
  |tup xs=>simp only[Rw,Rp]at r;obtain⟨a,vs,rfl,q1,q2⟩:=r;simp only[tru,aAO]at h;subst h;exact .inr (.inl ⟨vs,SqT.of q1,emp q2⟩)
  |lst xs=>simp only[Rw,Rp]at r;obtain⟨a,vs,rfl,q1,_,q2⟩:=r;simp only[tru,aAO]at h;subst h;exact .inl ⟨vs,SqL.of q1,emp q2⟩
  |fz xs=>simp only[Rw,Rp]at r;obtain⟨a,vs,rfl,q1,q2⟩:=r;simp only[tru,aAO]at h;subst h;exact .inl ⟨vs,q1.sq,emp q2⟩
  |exn c f xs=>simp[tru]at h
theorem fN(ha:Ev X K Z a f)(he:∀whole,isTrue a X.env whole=(do let v <- whole;standAt a.pos;holding [v] (truthy v)):=by intro _;rfl):Et X K Z a (tV f):=by
 refine⟨ha.k,cqT (wR ha.h he) ?_⟩
 rintro σ H Q ⟨μ,M,L,hr,lr,p⟩
 refine⟨μ,M,L,hr,lr,p.bind.imp λμ1 H1 M1 x e1 hr1 _ p1 v rx=>?_⟩
 cases q:tru M1 x with
 |none=>rw[q]at p1;exact p1.elim
 |some k=>rw[q]at p1;exact⟨k,by rw[ha.k];exact aFr hr1 rx q,p1 μ1 H1 .refl hr1⟩
def tNot(t:FT):FT:=λL M=>(t L M).bind λb M1=>.ok (!b) M1
def tAnd(t u:FT):FT:=λL M=>(t L M).bind λb M1=>if b=true then u L M1 else .ok false M1
def tOr(t u:FT):FT:=λL M=>(t L M).bind λb M1=>if b=true then .ok true M1 else u L M1
end
theorem fE(ha:Et X K Z a ta):Et X K Z (.UnaryOp .Not a pos) (tNot ta):=by
 refine⟨ha.k,cqT (aDr ha.h) ?_⟩
 rintro σ H Q ⟨μ,M,L,hr,lr,p⟩
 exact⟨μ,M,L,hr,lr,p.bind.imp λμ1 H1 M1 x e1 hr1 _ p1=>p1 μ1 H1 .refl hr1⟩
variable{rest:List Expr}
theorem tZ(ha:Et X K Z a ta):Ew X K Z (.BoolOp .And [a] pos) ta:=⟨ha.k,zL ha.h⟩
theorem gU(ha:Et X K Z a ta):Ew X K Z (.BoolOp .Or [a] pos) ta:=⟨ha.k,aDy ha.h⟩
theorem rC(ha:Et X K Z a ta)(hb:Ew X K Z (.BoolOp .And (b::rest) pos) tb):Ew X K Z (.BoolOp .And (a::b::rest) pos) (tAnd ta tb):=by
 refine⟨ha.k,cqW (aEu ha.h hb.h) ?_⟩
 rintro σ H Q ⟨μ,M,L,hr,lr,p⟩
 refine⟨μ,M,L,hr,lr,p.bind.imp λμ1 H1 M1 x e1 hr1 _ p1=>?_⟩
 cases x with
 |true=>exact⟨μ1,M1,L,hr1,lr.ext hr.lsts e1,p1⟩
 |false=>exact p1 μ1 H1 .refl hr1
theorem jY(ha:Et X K Z a ta)(hb:Ew X K Z (.BoolOp .Or (b::rest) pos) tb):Ew X K Z (.BoolOp .Or (a::b::rest) pos) (tOr ta tb):=by
 refine⟨ha.k,cqW (aGd ha.h hb.h) ?_⟩
 rintro σ H Q ⟨μ,M,L,hr,lr,p⟩
 refine⟨μ,M,L,hr,lr,p.bind.imp λμ1 H1 M1 x e1 hr1 _ p1=>?_⟩
 cases x with
 |true=>exact p1 μ1 H1 .refl hr1
 |false=>exact⟨μ1,M1,L,hr1,lr.ext hr.lsts e1,p1⟩
theorem nM(h:Ew X K Z a ta):Et X K Z a ta:=⟨h.k,h.h.pt⟩
theorem hZ{op':CmpOp}{c:Expr}{g g':W->W->Mm->Oc W}(ho:OpG X K Z (compareOp op) g)(ho':OpG X K Z (compareOp op') g')(ha:Ev X K Z a fa)(hb:Ev X K Z b fb)(hc:Ev X K Z c fc)
  (hm:lastMarks [op,op'] [b,c]=false:=by with_unfolding_all rfl):Et X K Z (.Compare a [op,op'] [b,c] pos) (tB (e3c g g' fa fb fc)):=by
 obtain⟨r,h1,h2⟩:=ho ha.k
 obtain⟨r',h1',h2'⟩:=ho' ha.k
 refine⟨ha.k,cqT (xF h1 h1' ha.h hb.h hc.h hm) ?_⟩
 rintro σ H Q ⟨μ,M,L,hr,lr,p⟩
 have p:=p.bind.bind
 refine⟨μ,M,L,hr,lr,p.imp λμ1 H1 M1 x e1 hr1 _ p1 v rx=>?_⟩
 refine⟨μ1,M1,L,hr1,lr.ext hr.lsts e1,p1.bind.imp λμ2 H2 M2 y e2 hr2 _ p2 u ry=>?_⟩
 refine h2 μ2 H2 M2 x y v u _ hr2 (rx.ext hr1.lsts e2) ry (p2.bind.imp λμ3 H3 M3 w e3 hr3 _ p3 vw rw'=>?_)
 cases w with
 |ref i=>exact p3.elim
 |ob _ _=>exact p3.elim
 |nest _=>exact p3.elim
 |d z=>cases z with
  |bl k =>
   refine⟨k,by simpa[Rw,Rp]using rw',?_⟩
   cases k with
   |false=>exact⟨false,rfl,p3 μ3 H3 .refl hr3 μ3 H3 .refl hr3⟩
   |true =>
    refine⟨μ3,M3,L,hr3,lr.ext hr.lsts ((e1.trans e2).trans e3),p3.bind.imp λμ4 H4 M4 z e4 hr4 _ p4 v4 rz=>?_⟩
    refine h2' μ4 H4 M4 y z u v4 _ hr4 (ry.ext hr2.lsts (e3.trans e4)) rz (p4.imp λμ5 H5 M5 q e5 hr5 _ p5 v5 rq=>?_)
    cases q with
    |ref i=>exact p5.elim
    |ob _ _=>exact p5.elim
    |nest _=>exact p5.elim
    |d z=>cases z with
     |bl c=>exact⟨c,by simpa[Rw,Rp]using rq,p5 μ5 H5 .refl hr5⟩
     |_=>exact p5.elim
  |_=>exact p3.elim
end
noncomputable section
def lv(M:Mm):W->Option (List D)
 |.d (.lst xs)=>some xs
 |.ref i=>M[i]?
 |_=>none
def lr(M:Mm):W->Option (List D)
 |.d (.fz xs)=>some xs
 |w=>lv M w
def sv(M:Mm):W->Option (List D)
 |.d (.tup xs)=>some xs
 |w=>lr M w
def okD(d:D)(M:Mm):Oc W:=.ok (.d d) M
end
@[simp]theorem aHf(d:D)(M:Mm):okD d M=.ok (.d d) M:=rfl
variable{K:Frag}{e a b:Expr}{es:List Expr}{f fa fb:FE}{fs:FA}{F:Value->Value->Sem Value}
theorem OpR.or{r r':R2}(h:OpR X F r)(h':OpR X F r'):OpR X F (λx y H Q=>r x y H Q\/r' x y H Q):=by
 intro pins s σ H x y v u Q I rx ry q
 rcases q with q|q
 ·exact h pins s σ H x y v u Q I rx ry q
 ·exact h' pins s σ H x y v u Q I rx ry q
theorem sU{w:W}{ds:List D}(hr:HR K μ H M)(r:Rw K μ H w v)(h:lv M w=some ds):∃a vs,v=.ref a/\H a=some (.lst vs)/\Rps K μ H ds vs:=by
 cases w with
 |ref i =>
  obtain⟨a,q,rfl,il⟩:=r
  obtain⟨a',vs,q1,q2,q3⟩:=hr.at h q
  rw[q]at q1;cases q1
  exact⟨a,vs,rfl,q2,q3⟩
 |ob _ _=>simp[lv]at h
 |nest _=>simp[lv]at h
 |d x =>
  cases x with
  |lst xs=>simp only[lv,aAO]at h;subst h;simp only[Rw,Rp]at r;obtain⟨a,vs,e,q1,_,q2⟩:=r;exact⟨a,vs,e,q1,q2⟩
  |_=>simp[lv]at h
theorem sZ{w:W}{ds:List D}(hr:HR K μ H M)(r:Rw K μ H w v)(h:lr M w=some ds):∃a vs,v=.ref a/\SqL K H a vs/\Rps K μ H ds vs:=by
 by_cases hf:∃xs,w=.d (.fz xs)
 ·obtain⟨xs,rfl⟩:=hf
  simp only[lr,aAO]at h;subst h
  simp only[Rw,Rp]at r;obtain⟨a,vs,e,q1,q2⟩:=r
  exact⟨a,vs,e,q1.sq,q2⟩
 ·have:lr M w=lv M w:=by
   cases w with
   |ref i=>rfl
   |ob _ _=>rfl
   |nest _=>rfl
   |d x=>cases x <;> first|rfl|exact(hf ⟨_,rfl⟩).elim
  rw[this]at h
  obtain⟨a,vs,e,q1,q2⟩:=sU hr r h
  exact⟨a,vs,e,SqL.of q1,q2⟩
theorem tR{w:W}{ds:List D}(hr:HR K μ H M)(r:Rw K μ H w v)(h:sv M w=some ds):∃a vs,v=.ref a/\(SqL K H a vs\/SqT K H a vs)/\Rps K μ H ds vs:=by
 by_cases hf:∃xs,w=.d (.tup xs)
 ·obtain⟨xs,rfl⟩:=hf
  simp only[sv,aAO]at h;subst h
  simp only[Rw,Rp]at r;obtain⟨a,vs,e,q1,q2⟩:=r
  exact⟨a,vs,e,.inr (SqT.of q1),q2⟩
 ·have:sv M w=lr M w:=by
   cases w with
   |ref i=>rfl
   |ob _ _=>rfl
   |nest _=>rfl
   |d x=>cases x <;> first|rfl|exact(hf ⟨_,rfl⟩).elim
  rw[this]at h
  obtain⟨a,vs,e,q1,q2⟩:=sZ hr r h
  exact⟨a,vs,e,.inl q1,q2⟩
variable{Q:VK}
theorem gC{ds:List D}(hr:HR K μ H M)(r:Rps K μ H ds vs)(p:Pst K Z μ H (okD (.tup ds) M) (Wk K Q)):∀q,H q=none->Q (.ref q) (upd H q (.tup vs)):=λq hq =>
 p μ _ (dN hr hq) (hr.lay hq) (.ref q) (by simp only[Rw,Rp];exact⟨q,vs,rfl,aU,Rps.ext hr.lsts (dN hr hq) _ _ r⟩)
theorem dZ{ds:List D}(hr:HR K μ H M)(r:Rps K μ H ds vs)(p:Pst K Z μ H (okD (.lst ds) M) (Wk K Q)):∀q,H q=none->Q (.ref q) (upd H q (.lst vs)):=λq hq =>
 p μ _ (dN hr hq) (hr.lay hq) (.ref q) (by simp only[Rw,Rp];exact⟨q,vs,rfl,aU,hr.out hq,Rps.ext hr.lsts (dN hr hq) _ _ r⟩)
theorem sR{ds:List D}(hr:HR K μ H M)(r:Rps K μ H ds vs)(p:Pst K Z μ H (.ok (.ref M.length) (M++[ds])) (Wk K Q)):∀q,H q=none->Q (.ref q) (upd H q (.lst vs)):=λq hq =>
 p _ _ (tH hr hq) (hr.new hq r) (.ref q) ⟨q,by rw[<- hr.len];simp,rfl,_,aU⟩
noncomputable def rCatA(K:Frag):R2:=λx y H Q=>∃a b xs ys,x=.ref a/\y=.ref b/\SqT K H a xs/\SqT K H b ys/\xs.length+ys.length<=sizeLine /\
 (xs=[]->Q (.ref b) H)/\(ys=[]->Q (.ref a) H)/\(∀p,H p=none->Q (.ref p) (upd H p (.tup (xs++ys))))
theorem aAt:OpR X (binaryOp .Add) (rCatA X.K):=by
 intro pins s σ H x y v u Q I rx ry h
 obtain⟨a,b,xs,ys,rfl,rfl,ha,hb,hz,q0,q1,q2⟩:=h
 by_cases hx:xs=[]
 ·subst hx
  cases rx
  cases ry
  obtain⟨its,r1,p1,_⟩:=I.tuple ha
  obtain⟨its2,r2,p2,_⟩:=I.tuple hb
  have hv:its=[]:=r1.nil_iff.mpr rfl
  subst hv
  obtain⟨⟨cls,dd,data,sl⟩,ho,hc,n,hd⟩:=id p1
  obtain⟨⟨cls2,dd2,data2,sl2⟩,ho2,hc2,n2,hd2⟩:=id p2
  simp only at hc hd hc2 hd2
  subst hc hd hc2 hd2
  exact concat_meets ⟨_,ho,rfl⟩ ⟨_,ho2,rfl⟩ noFill_tuple_add seq_tuple_add aFP aFK (aFG _ _)
   (tuple_addW0 a b _ its2.toArray n n2 dd dd2 sl sl2 (by simp)) ⟨ho,ho2,⟨.ref b,H,I,rfl,q0 rfl⟩⟩
 ·exact aBj pins s σ H _ _ v u Q I rx ry ⟨a,b,xs,ys,rfl,rfl,ha,hb,hx,hz,q1,λ_=>q2⟩
noncomputable def pAdd(x y:W)(M:Mm):Oc W:=match x,y with
 |.d (.int i),.d (.int j)=>.ok (.d (.int (i+j))) M
 |.d (.tup xs),.d (.tup ys)=>if xs.length+ys.length<=16777216 then .ok (.d (.tup (xs++ys))) M else .bad
 |.d (.str i),.d (.str j)=>if i.length+j.length<=16777216 then .ok (.d (.str (i++j))) M else .bad
 |x,y=>match lv M x,lv M y with
  |some xs,some ys=>if xs.length+ys.length<=16777216 then .ok (.d (.lst (xs++ys))) M else .bad
  |_,_=>.bad
variable{u:V}
theorem rT{x y:W}(hr:HR K μ H M)(rx:Rw K μ H x v)(ry:Rw K μ H y u)(p:Pst K Z μ H (match lv M x,lv M y with
  |some xs,some ys=>if xs.length+ys.length<=16777216 then .ok (.d (.lst (xs++ys))) M else .bad
  |_,_=>.bad) (Wk K Q)):rCat v u H Q:=by
 cases q1:lv M x with
 |none=>rw[q1]at p;exact p.elim
 |some xs =>
  cases q2:lv M y with
  |none=>rw[q1,q2]at p;exact p.elim
  |some ys =>
   rw[q1,q2]at p
   simp only at p
   split at p
   ·rename_i hz
    obtain⟨a,vs,rfl,h1,r1⟩:=sU hr rx q1
    obtain⟨b,us,rfl,h2,r2⟩:=sU hr ry q2
    exact⟨a,b,vs,us,rfl,rfl,h1,h2,by rw[<- r1.length,<- r2.length,aAY];exact hz,dZ hr (r1.append r2) p⟩
   ·exact p.elim
theorem opAdd:OpG X K Z (binaryOp .Add) pAdd:=λhk=>by
 refine⟨_,OpR.or (OpR.or aEn (hk▸aAt)) (OpR.or aEw rN),?_⟩
 intro μ H M x y v u Q hr rx ry p
 have gen:=λp=>rT (Q:=Q) (K:=K) (Z:=Z) hr rx ry p
 cases x with
 |ref i=>exact .inr (.inl (gen p))
 |ob _ _=>exact .inr (.inl (gen p))
 |nest _=>exact .inr (.inl (gen p))
 |d x =>
  cases y with
  |ref j=>exact .inr (.inl (gen (by cases x <;> exact p)))
  |ob _ _=>exact .inr (.inl (gen (by cases x <;> exact p)))
  |nest _=>exact .inr (.inl (gen (by cases x <;> exact p)))
  |d y =>
   cases x <;> cases y <;> first
    |exact .inr (.inl (gen p))
    |skip
   ·simp only[Rw,Rp]at rx ry;exact .inl (.inl ⟨_,_,rx,ry,p μ H .refl hr _ (by simp[Rw,Rp])⟩)
   ·simp only[Rw,Rp]at rx ry
    simp only[pAdd]at p
    split at p
    ·rename_i hz
     exact .inr (.inr ⟨_,_,rx,ry,by rw[aAY];exact hz,p μ H .refl hr _ (by simp[Rw,Rp])⟩)
    ·exact p.elim
   ·rename_i xs ys
    have rx':=rx
    have ry':=ry
    simp only[Rw,Rp]at rx ry
    obtain⟨a,vs,rfl,h1,r1⟩:=rx
    obtain⟨b,us,rfl,h2,r2⟩:=ry
    simp only[pAdd]at p
    split at p
    ·rename_i hz
     refine .inl (.inr ⟨a,b,vs,us,rfl,rfl,SqT.of h1,SqT.of h2,by rw[<- r1.length,<- r2.length,aAY];exact hz,λe=>?_,λe=>?_,gC hr (r1.append r2) p⟩)
     ·subst e
      have:xs=[]:=by have:=r1.length;simpa using this
      subst this
      exact p μ H .refl hr _ (by simpa using ry')
     ·subst e
      have:ys=[]:=by have:=r2.length;simpa using this
      subst this
      exact p μ H .refl hr _ (by simpa using rx')
    ·exact p.elim
noncomputable def pI(c:Int->Int->Bool)(g:Int->Int->D)(x y:W)(M:Mm):Oc W:=match x,y with
 |.d (.int i),.d (.int j)=>if c i j=true then .ok (.d (g i j)) M else .bad
 |_,_=>.bad
variable{gv:Int->Int->V}
theorem opI{C:Int->Int->Prop}{c:Int->Int->Bool}{g:Int->Int->D}(h:OpR X F (rI C gv))(hc:∀i j,c i j=true->C i j)(hg:∀K μ H i j,Rp K μ H (g i j) (gv i j)) :
  OpG X K Z F (pI c g):=λhk=>⟨_,h,by
 intro μ H M x y v u Q hr rx ry p
 cases x with
 |ref i=>exact p.elim
 |ob _ _=>exact p.elim
 |nest _=>exact p.elim
 |d x=>cases y with
  |ref j=>cases x <;> exact p.elim
  |ob _ _=>cases x <;> exact p.elim
  |nest _=>cases x <;> exact p.elim
  |d y=>cases x <;> cases y <;> first
   |exact p.elim
   |(simp only[Rw,Rp]at rx ry
     simp only[pI]at p
     split at p
     ·rename_i hz;exact⟨_,_,rx,ry,hc _ _ hz,p μ H .refl hr _ (hg K μ H _ _)⟩
     ·exact p.elim)⟩
theorem opI0{g:Int->Int->D}(h:OpR X F (rI0 gv))(hg:∀K μ H i j,Rp K μ H (g i j) (gv i j)):OpG X K Z F (pI (λ_ _=>true) g):=λhk=>⟨_,h,by
 intro μ H M x y v u Q hr rx ry p
 cases x with
 |ref i=>exact p.elim
 |ob _ _=>exact p.elim
 |nest _=>exact p.elim
 |d x=>cases y with
  |ref j=>cases x <;> exact p.elim
  |ob _ _=>cases x <;> exact p.elim
  |nest _=>cases x <;> exact p.elim
  |d y=>cases x <;> cases y <;> first
   |exact p.elim
   |(simp only[Rw,Rp]at rx ry
     exact⟨_,_,rx,ry,p μ H .refl hr _ (hg K μ H _ _)⟩)⟩
noncomputable section
abbrev pSub:=pI (λ_ _=>true) λi j=>.int (i - j)
abbrev pLt:=pI (λ_ _=>true) λi j=>.bl (decide (i < j))
abbrev pLe:=pI (λ_ _=>true) λi j=>.bl (decide (i<=j))
abbrev pGt:=pI (λ_ _=>true) λi j=>.bl (decide (j < i))
abbrev pGe:=pI (λ_ _=>true) λi j=>.bl (decide (j<=i))
abbrev pMod:=pI (λ_ j=>decide (0 < j)) λi j=>.int (i % j)
abbrev pDiv:=pI (λ_ j=>decide (0 < j/\j < 18446744073709551616)) λi j=>.int (i / j)
abbrev pPow:=pI (λi j=>decide (0<=j/\j<=1000000/\i.natAbs < 18446744073709551616)) λi j=>.int (i ^ j.toNat)
theorem opSub:OpG X K Z (binaryOp .Sub) pSub:=opI0 aEq λ_ _ _ _ _=>by simp[Rp]
theorem opLt:OpG X K Z (compareOp .Lt) pLt:=opI0 aFt λ_ _ _ _ _=>by simp[Rp]
theorem opLe:OpG X K Z (compareOp .LtE) pLe:=opI0 aGy λ_ _ _ _ _=>by simp[Rp]
theorem opGt:OpG X K Z (compareOp .Gt) pGt:=opI0 aGz λ_ _ _ _ _=>by simp[Rp]
theorem opGe:OpG X K Z (compareOp .GtE) pGe:=opI0 aGt λ_ _ _ _ _=>by simp[Rp]
theorem opMod:OpG X K Z (binaryOp .Mod) pMod:=opI aCj (λ_ _ h=>aFL h) λ_ _ _ _ _=>by simp[Rp]
theorem opDiv:OpG X K Z (binaryOp .FloorDiv) pDiv:=opI yH (λ_ _ h=>by simp only[aAW]at h;exact h) λ_ _ _ _ _=>by simp[Rp]
theorem opPow:OpG X K Z (binaryOp .Pow) pPow:=opI aCz (λ_ _ h=>by simp only[aAW]at h;exact h) λ_ _ _ _ _=>by simp[Rp]
def isN:W->Bool
 |.d .non=>true
 |_=>false
def pIsNot(x y:W)(M:Mm):Oc W:=match y with
 |.d .non=>.ok (.d (.bl (!isN x))) M
 |_=>.bad
end
theorem aGf{x:W}(r:Rw K μ H x v):decide (v=.non)=isN x:=by
 cases x with
 |ref i=>obtain⟨a,_,rfl,_⟩:=r;simp[isN]
 |ob c i=>obtain⟨a,_,rfl,_⟩:=r;simp[isN]
 |nest c=>obtain⟨a,_,rfl,_⟩:=r;simp[isN]
 |d x=>cases x with
  |non=>simp only[Rw,Rp]at r;subst r;simp[isN]
  |bl b=>simp only[Rw,Rp]at r;subst r;simp[isN]
  |int b=>simp only[Rw,Rp]at r;subst r;simp[isN]
  |str b=>simp only[Rw,Rp]at r;subst r;simp[isN]
  |tup b=>simp only[Rw,Rp]at r;obtain⟨a,vs,rfl,_⟩:=r;simp[isN]
  |lst b=>simp only[Rw,Rp]at r;obtain⟨a,vs,rfl,_⟩:=r;simp[isN]
  |fz b=>simp only[Rw,Rp]at r;obtain⟨a,vs,rfl,_⟩:=r;simp[isN]
  |exn c f b=>simp only[Rw,Rp]at r;obtain⟨a,vs,_,_,_,rfl,_⟩:=r;simp[isN]
theorem opIsNot:OpG X K Z (compareOp .IsNot) pIsNot:=λhk=>⟨_,aAx,by
 intro μ H M x y v u Q hr rx ry p
 cases y with
 |ref j=>exact p.elim
 |ob _ _=>exact p.elim
 |nest _=>exact p.elim
 |d y=>cases y with
  |non=>simp only[Rw,Rp]at ry;exact⟨ry,p μ H .refl hr _ (by simp only[Rw,Rp];rw[aGf rx])⟩
  |_=>exact p.elim⟩
variable{K:Frag}
mutual
noncomputable def eqD:D->D->Bool
 |.non,.non=>true
 |.bl a,.bl b=>a==b
 |.bl a,.int b=>(if a then 1 else 0)==b
 |.int a,.bl b=>a==(if b then 1 else 0)
 |.int a,.int b=>a==b
 |.str a,.str b=>a==b
 |.tup xs,.tup ys=>eqDs xs ys
 |.lst xs,.lst ys=>eqDs xs ys
 |.lst xs,.fz ys=>eqDs xs ys
 |.fz xs,.lst ys=>eqDs xs ys
 |.fz xs,.fz ys=>eqDs xs ys
 |.exn c f xs,.exn c' f' ys=>c==c'&&f==f'&&eqDs xs ys
 |_,_=>false
noncomputable def eqDs:List D->List D->Bool
 |[],[]=>true
 |x::xs,y::ys=>eqD x y&&eqDs xs ys
 |_,_=>false
end
mutual
noncomputable def dep:D->Nat
 |.tup xs=>deps xs+1
 |.lst xs=>deps xs+1
 |.fz xs=>deps xs+1
 |.exn _ _ _=>1000
 |_=>0
noncomputable def deps:List D->Nat
 |[]=>0
 |x::xs=>max (dep x) (deps xs)
end
theorem pA:∀{xs:List D} {i:Nat} {x:D},xs[i]?=some x->dep x<=deps xs
 |[],_,_,h=>by simp at h
 |y::xs,0,x,h=>by simp at h;subst h;simp only[deps];lia
 |y::xs,i+1,x,h=>by
  have:=pA (xs:=xs) (i:=i) (x:=x) (by simpa using h)
  simp only[deps];lia
theorem iJ:∀(xs ys:List D),eqDs xs ys=((List.range (min xs.length ys.length)).all (λi=>eqD (xs.getD i .non) (ys.getD i .non))&&xs.length==ys.length)
 |[],[]=>rfl
 |[],y::ys=>by simp[eqDs]
 |x::xs,[]=>by simp[eqDs]
 |x::xs,y::ys=>by
  simp only[eqDs]
  rw[iJ xs ys]
  have:min (x::xs).length (y::ys).length=min xs.length ys.length+1:=by simp
  rw[this,List.range_succ_eq_map,aFT]
  simp only[List.getD_cons_zero,List.all_map,Bool.and_assoc,aCR]
  congr 1
  congr 1
  rw[Bool.eq_iff_iff];simp
variable{σ:L2.St}
theorem tM{ds:List D}(r:Rps K μ H ds vs)(rv:Vals vs its)(h:i < its.toArray.size):∃d v,ds[i]?=some d/\Rp K μ H d v/\RelV v its.toArray[i]:=by
 have h1:i < its.length:=by simpa using h
 have h2:i < vs.length:=by rw[rv.length];exact h1
 have h3:i < ds.length:=by rw[r.length];exact h2
 obtain⟨v,q1,q2⟩:=r.get (i:=i) (d:=ds[i]) (by simp[h3])
 obtain⟨u,q3,q4⟩:=rv.get q1
 refine⟨ds[i],v,by simp[h3],q2,?_⟩
 rw[aCC h1]at q3
 cases q3
 simpa using q4
theorem sK{ds:List D}{d:D}(h:ds[i]?=some d):ds.getD i .non=d:=by rw[List.getD_eq_getElem?_getD,h];rfl
noncomputable abbrev Eqs(K:Frag)(μ:List Addr)(H:Hp)(s:Shared)(A:Around)(xs:List D):Prop :=
 ∀(j:Nat) (d:D),xs[j]?=some d->∀(d2:D) (v1 v2:V) (u1 u2:Value),dep d2<=100->Rp K μ H d v1->Rp K μ H d2 v2->RelV v1 u1->RelV v2 u2->SeqAt.EqAt A s u1 u2 (eqD d d2)
variable{us:List V}
theorem iV{xs ys:List D}{its its2:List Value}(r1:Rps K μ H xs vs)(r2:Rps K μ H ys us)(q1:Vals vs its)(q2:Vals us its2)(n2:deps ys<=100)(ih:Eqs K μ H s A xs) :
  ∀j (h1:j < its.toArray.size) (h2:j < its2.toArray.size),SeqAt.EqAt A s its.toArray[j] its2.toArray[j] ((λi=>eqD (xs.getD i .non) (ys.getD i .non)) j):=by
 intro j h1 h2
 obtain⟨d,v,e1,e2,e3⟩:=tM r1 q1 h1
 obtain⟨d',v',e1',e2',e3'⟩:=tM r2 q2 h2
 simp only[sK e1,sK e1']
 exact ih j d e1 d' v v' _ _ (aAX (pA e1') n2) e2 e2' e3 e3'
theorem iG{xs ys:List D}{its2:List Value}(r1:Rps K μ H xs vs)(r2:Rps K μ H ys us)(q1:Vals vs its)(q2:Vals us its2):its.toArray.size=xs.length/\its2.toArray.size=ys.length:=by
 simp[r1.length,r2.length,q1.length,q2.length]
theorem aEk{xs ys:List D}{a b:Addr}(I:Inv X pins σ H s)(h1:SqT X.K H a vs)(h2:SqT X.K H b us)(r1:Rps K μ H xs vs)(r2:Rps K μ H ys us)(hu:A.units < cLine)(n2:deps ys<=100)(ih:Eqs K μ H s A.in1 xs) :
  SeqAt.RcAt A s (.ref a) (.ref b) (eqDs xs ys):=by
 obtain⟨its,q1,p1,_⟩:=I.tuple h1
 obtain⟨its2,q2,p2,_⟩:=I.tuple h2
 have:=SeqAt.RcAt.tuples p1 p2 hu (iV r1 r2 q1 q2 n2 ih)
 obtain⟨e1,e2⟩:=iG r1 r2 q1 q2
 rw[e1,e2]at this
 rw[iJ];exact this
theorem xY{xs ys:List D}{a b:Addr}(I:Inv X pins σ H s)(h1:SqT X.K H a vs)(h2:SqT X.K H b us)(r1:Rps K μ H xs vs)(r2:Rps K μ H ys us)(hu:A.units < cLine)(n2:deps ys<=100)(ih:Eqs K μ H s A.in1 xs) :
  SeqAt.RcNeAt A s (.ref a) (.ref b) (!eqDs xs ys):=by
 obtain⟨its,q1,p1,_⟩:=I.tuple h1
 obtain⟨its2,q2,p2,_⟩:=I.tuple h2
 have:=SeqAt.RcNeAt.tuples p1 p2 hu (iV r1 r2 q1 q2 n2 ih)
 obtain⟨e1,e2⟩:=iG r1 r2 q1 q2
 rw[e1,e2]at this
 rw[iJ];exact this
theorem pM{xs ys:List D}(h:xs.length≠ys.length):eqDs xs ys=false:=by
 rw[iJ]
 have:(xs.length==ys.length)=false:=by simpa using h
 rw[this,aGP]
theorem mD{xs ys:List D}(h:xs.length=ys.length):eqDs xs ys=(List.range xs.length).all (λi=>eqD (xs.getD i .non) (ys.getD i .non)):=by
 rw[iJ,<- h];simp
theorem oE{xs ys:List D}{a b:Addr}(I:Inv X pins σ H s)(h1:SqL X.K H a vs)(h2:SqL X.K H b us)(r1:Rps K μ H xs vs)(r2:Rps K μ H ys us)(hu:A.units < cLine)(n2:deps ys<=100)(ih:Eqs K μ H s A.in1 xs) :
  SeqAt.RcAt A s (.ref a) (.ref b) (eqDs xs ys):=by
 obtain⟨its,q1,p1,_⟩:=I.list h1
 obtain⟨its2,q2,p2,_⟩:=I.list h2
 obtain⟨e1,e2⟩:=iG r1 r2 q1 q2
 by_cases hl:xs.length=ys.length
 ·have:=SeqAt.RcAt.lists p1.isList p2.isList (by rw[e1,e2,hl]) hu (iV r1 r2 q1 q2 n2 ih)
  rw[e1]at this
  rw[mD hl];exact this
 ·rw[pM hl]
  exact SeqAt.RcAt.lists_lengths p1.isList p2.isList (by rw[e1,e2];simpa using hl) hu
theorem iH{xs ys:List D}{a b:Addr}(I:Inv X pins σ H s)(h1:SqL X.K H a vs)(h2:SqL X.K H b us)(r1:Rps K μ H xs vs)(r2:Rps K μ H ys us)(hu:A.units < cLine)(n2:deps ys<=100)(ih:Eqs K μ H s A.in1 xs) :
  SeqAt.RcNeAt A s (.ref a) (.ref b) (!eqDs xs ys):=by
 obtain⟨its,q1,p1,_⟩:=I.list h1
 obtain⟨its2,q2,p2,_⟩:=I.list h2
 obtain⟨e1,e2⟩:=iG r1 r2 q1 q2
 by_cases hl:xs.length=ys.length
 ·have:=SeqAt.RcNeAt.lists p1.isList p2.isList (by rw[e1,e2,hl]) hu (iV r1 r2 q1 q2 n2 ih)
  rw[e1]at this
  rw[mD hl];exact this
 ·rw[pM hl]
  exact SeqAt.RcNeAt.lists_lengths p1.isList p2.isList (by rw[e1,e2];simpa using hl) hu
noncomputable def fv:D->Option V
 |.non=>some .non
 |.bl b=>some (.bl b)
 |.int i=>some (.int i)
 |.str x=>some (.str x)
 |_=>none
theorem mG{d:D}(h:fv d=some u)(r:Rp K μ H d v):v=u/\flatV u=true:=by
 cases d <;> simp only[fv,aAO,reduceCtorEq]at h <;> (simp only[Rp]at r;subst h;exact⟨r,rfl⟩)
variable{w:V}
theorem wK{d e:D}(h:fv d=some u)(h':fv e=some w):eqV u w=eqD d e:=by
 cases d <;> simp only[fv,aAO,reduceCtorEq]at h <;> (cases e <;> simp only[fv,aAO,reduceCtorEq]at h' <;> (subst h;subst h';simp[eqV,eqD]))
theorem aGn{d:D}(r:Rp K μ H d v)(h:flatV v=true):fv d=some v:=by
 cases d with
 |non=>simp only[Rp]at r;subst r;rfl
 |bl b=>simp only[Rp]at r;subst r;rfl
 |int b=>simp only[Rp]at r;subst r;rfl
 |str b=>simp only[Rp]at r;subst r;rfl
 |tup b=>simp only[Rp]at r;obtain⟨a,vs,rfl,_⟩:=r;cases h
 |lst b=>simp only[Rp]at r;obtain⟨a,vs,rfl,_⟩:=r;cases h
 |fz b=>simp only[Rp]at r;obtain⟨a,vs,rfl,_⟩:=r;cases h
 |exn c f b=>simp only[Rp]at r;obtain⟨a,vs,_,_,_,rfl,_⟩:=r;cases h
theorem wG(h:flatV v=true):eqV v v=true:=by cases v <;> first|(cases h;done)|rfl|(simp[eqV];done)
theorem iS{d d':D}(hf:fv d=some u)(h:Rp K μ H d v)(h':Rp K μ H d' v):eqD d d'=true:=by
 obtain⟨rfl,fl⟩:=mG hf h
 rw[<- wK hf (aGn h' fl)]
 exact wG fl
inductive At(K:Frag)(μ:List Addr)(H:Hp):D->Addr->List D->Bool->Prop where
 |tup {a vs ds:_}:SqT K H a vs->Rps K μ H ds vs->At K μ H (.tup ds) a ds true
 |lst {a vs ds:_}:SqL K H a vs->Rps K μ H ds vs->At K μ H (.lst ds) a ds false
 |fz {a vs ds:_}:SqL K H a vs->Rps K μ H ds vs->At K μ H (.fz ds) a ds false
theorem kI{a:Addr}(I:Inv X pins σ H s)(h1:SqT X.K H a vs)(h2:SqL X.K H a us):False:=by
 obtain⟨its,q1,p1,_⟩:=I.tuple h1
 obtain⟨its2,q2,p2,_⟩:=I.list h2
 exact SeqAt.ne_of_list_tuple p2.isList p1 rfl
mutual
theorem yM(I:Inv X pins σ H s)(hk:X.K=K):∀(d d':D) (v:V),dep d<=100->dep d'<=100->Rp K μ H d v->Rp K μ H d' v->eqD d d'=true
 |.non,d',v,n,n',h,h'=>iS rfl h h'
 |.bl x,d',v,n,n',h,h'=>iS rfl h h'
 |.int x,d',v,n,n',h,h'=>iS rfl h h'
 |.str x,d',v,n,n',h,h'=>iS rfl h h'
 |.tup xs,d',v,n,n',h,h'=>by
  simp only[Rp]at h
  obtain⟨a,vs,rfl,h1,r1⟩:=h
  cases d' with
  |tup ys =>
   simp only[Rp]at h'
   obtain⟨b,us,e,h2,r2⟩:=h'
   cases e
   cases I.tuple_inj (SqT.of (K:=X.K) h1) (SqT.of h2)
   simp only[eqD]
   exact fY I hk xs ys vs (by simp only[dep]at n;lia) (by simp only[dep]at n';lia) r1 r2
  |lst ys=>simp only[Rp]at h';obtain⟨b,us,e,h2,_,r2⟩:=h';cases e;exact(kI I (SqT.of h1) (SqL.of h2)).elim
  |fz ys=>simp only[Rp]at h';obtain⟨b,us,e,h2,r2⟩:=h';cases e;exact(kI I (SqT.of h1) (hk▸h2.sq)).elim
  |exn c f ys=>simp[dep]at n'
  |_=>simp only[Rp]at h';cases h'
 |.lst xs,d',v,n,n',h,h'=>by
  simp only[Rp]at h
  obtain⟨a,vs,rfl,h1,_,r1⟩:=h
  cases d' with
  |tup ys=>simp only[Rp]at h';obtain⟨b,us,e,h2,r2⟩:=h';cases e;exact(kI I (SqT.of h2) (SqL.of h1)).elim
  |lst ys =>
   simp only[Rp]at h';obtain⟨b,us,e,h2,_,r2⟩:=h';cases e
   cases I.list_inj (SqL.of h1) (SqL.of h2)
   simp only[eqD]
   exact fY I hk xs ys vs (by simp only[dep]at n;lia) (by simp only[dep]at n';lia) r1 r2
  |fz ys =>
   simp only[Rp]at h';obtain⟨b,us,e,h2,r2⟩:=h';cases e
   cases I.list_inj (SqL.of h1) (hk▸h2.sq)
   simp only[eqD]
   exact fY I hk xs ys vs (by simp only[dep]at n;lia) (by simp only[dep]at n';lia) r1 r2
  |exn c f ys=>simp[dep]at n'
  |_=>simp only[Rp]at h';cases h'
 |.fz xs,d',v,n,n',h,h'=>by
  simp only[Rp]at h
  obtain⟨a,vs,rfl,h1,r1⟩:=h
  cases d' with
  |tup ys=>simp only[Rp]at h';obtain⟨b,us,e,h2,r2⟩:=h';cases e;exact(kI I (SqT.of h2) (hk▸h1.sq)).elim
  |lst ys =>
   simp only[Rp]at h';obtain⟨b,us,e,h2,_,r2⟩:=h';cases e
   cases I.list_inj (hk▸h1.sq) (SqL.of h2)
   simp only[eqD]
   exact fY I hk xs ys vs (by simp only[dep]at n;lia) (by simp only[dep]at n';lia) r1 r2
  |fz ys =>
   simp only[Rp]at h';obtain⟨b,us,e,h2,r2⟩:=h';cases e
   cases I.list_inj (hk▸h1.sq) (hk▸h2.sq)
   simp only[eqD]
   exact fY I hk xs ys vs (by simp only[dep]at n;lia) (by simp only[dep]at n';lia) r1 r2
  |exn c f ys=>simp[dep]at n'
  |_=>simp only[Rp]at h';cases h'
 |.exn c f xs,d',v,n,n',h,h'=>by simp[dep]at n
theorem fY(I:Inv X pins σ H s)(hk:X.K=K):∀(xs ys:List D) (vs:List V),deps xs<=100->deps ys<=100->Rps K μ H xs vs->Rps K μ H ys vs->eqDs xs ys=true
 |[],ys,vs,n,n',h,h'=>by simp only[Rps]at h;subst h;cases ys with|nil=>rfl|cons y ys=>simp only[Rps]at h';obtain⟨_,_,e,_⟩:=h';cases e
 |x::xs,ys,vs,n,n',h,h'=>by
  simp only[Rps]at h
  obtain⟨v,r,rfl,e2,e3⟩:=h
  cases ys with
  |nil=>simp only[Rps]at h';cases h'
  |cons y ys =>
   simp only[Rps]at h'
   obtain⟨v',r',e,e2',e3'⟩:=h'
   cases e
   simp only[deps]at n n'
   simp only[eqDs,yM I hk x y v (by lia) (by lia) e2 e2',fY I hk xs ys r (by lia) (by lia) e3 e3',Bool.and_self]
end
theorem jD{d:D}(h:fv d=none)(n:dep d<=100)(r:Rp K μ H d v):∃a ds k,v=.ref a/\At K μ H d a ds k:=by
 cases d with
 |tup xs=>simp only[Rp]at r;obtain⟨a,vs,e,q1,q2⟩:=r;exact⟨a,xs,true,e,.tup (SqT.of q1) q2⟩
 |lst xs=>simp only[Rp]at r;obtain⟨a,vs,e,q1,_,q2⟩:=r;exact⟨a,xs,false,e,.lst (SqL.of q1) q2⟩
 |fz xs=>simp only[Rp]at r;obtain⟨a,vs,e,q1,q2⟩:=r;exact⟨a,xs,false,e,.fz q1.sq q2⟩
 |exn c f xs=>simp[dep]at n
 |_=>simp[fv]at h
variable{v1 v2 w2:V}{u1:Value}
theorem zN{d d2:D}(n1:fv d=some w)(n2:fv d2=some w2)(h1:Rp K μ H d v1)(h2:Rp K μ H d2 v2)(q1:RelV v1 u1)(q2:RelV v2 u2) :
  (SeqAt.RcAt A s u1 u2 (eqD d d2)/\SeqAt.RcNeAt A s u1 u2 (!eqD d d2)):=by
 cases d with
 |non =>
  simp only[Rp]at h1;subst h1;cases q1
  cases d2 with
  |non=>simp only[Rp]at h2;subst h2;cases q2;simp only[eqD];exact⟨SeqAt.RcAt.none_none,SeqAt.RcNeAt.none_none⟩
  |bl y=>simp only[Rp]at h2;subst h2;cases q2;simp only[eqD];exact⟨SeqAt.RcAt.none_bool y,SeqAt.RcNeAt.none_bool y⟩
  |int y=>simp only[Rp]at h2;subst h2;obtain⟨t2,rfl⟩:=q2;simp only[eqD];exact⟨SeqAt.RcAt.none_int y t2,SeqAt.RcNeAt.none_int y t2⟩
  |str y=>simp only[Rp]at h2;subst h2;obtain⟨t2,rfl⟩:=q2;simp only[eqD];exact⟨SeqAt.RcAt.none_str y t2,SeqAt.RcNeAt.none_str y t2⟩
  |_=>simp[fv]at n2
 |bl x =>
  simp only[Rp]at h1;subst h1;cases q1
  cases d2 with
  |non=>simp only[Rp]at h2;subst h2;cases q2;simp only[eqD];exact⟨SeqAt.RcAt.bool_none x,SeqAt.RcNeAt.bool_none x⟩
  |bl y=>simp only[Rp]at h2;subst h2;cases q2;simp only[eqD];exact⟨SeqAt.RcAt.bool_bool x y,SeqAt.RcNeAt.bool_bool x y⟩
  |int y=>simp only[Rp]at h2;subst h2;obtain⟨t2,rfl⟩:=q2;simp only[eqD];exact⟨SeqAt.RcAt.bool_int x y t2,SeqAt.RcNeAt.bool_int x y t2⟩
  |str y=>simp only[Rp]at h2;subst h2;obtain⟨t2,rfl⟩:=q2;simp only[eqD];exact⟨SeqAt.RcAt.bool_str x y t2,SeqAt.RcNeAt.bool_str x y t2⟩
  |_=>simp[fv]at n2
 |int x =>
  simp only[Rp]at h1;subst h1;obtain⟨t,rfl⟩:=q1
  cases d2 with
  |non=>simp only[Rp]at h2;subst h2;cases q2;simp only[eqD];exact⟨SeqAt.RcAt.int_none x t,SeqAt.RcNeAt.int_none x t⟩
  |bl y=>simp only[Rp]at h2;subst h2;cases q2;simp only[eqD];exact⟨SeqAt.RcAt.int_bool x t y,SeqAt.RcNeAt.int_bool x t y⟩
  |int y=>simp only[Rp]at h2;subst h2;obtain⟨t2,rfl⟩:=q2;simp only[eqD];exact⟨SeqAt.RcAt.int_int x t y t2,SeqAt.RcNeAt.int_int x t y t2⟩
  |str y=>simp only[Rp]at h2;subst h2;obtain⟨t2,rfl⟩:=q2;simp only[eqD];exact⟨SeqAt.RcAt.int_str x t y t2,SeqAt.RcNeAt.int_str x t y t2⟩
  |_=>simp[fv]at n2
 |str x =>
  simp only[Rp]at h1;subst h1;obtain⟨t,rfl⟩:=q1
  cases d2 with
  |non=>simp only[Rp]at h2;subst h2;cases q2;simp only[eqD];exact⟨SeqAt.RcAt.str_none x t,SeqAt.RcNeAt.str_none x t⟩
  |bl y=>simp only[Rp]at h2;subst h2;cases q2;simp only[eqD];exact⟨SeqAt.RcAt.str_bool x t y,SeqAt.RcNeAt.str_bool x t y⟩
  |int y=>simp only[Rp]at h2;subst h2;obtain⟨t2,rfl⟩:=q2;simp only[eqD];exact⟨SeqAt.RcAt.str_int x t y t2,SeqAt.RcNeAt.str_int x t y t2⟩
  |str y=>simp only[Rp]at h2;subst h2;obtain⟨t2,rfl⟩:=q2;simp only[eqD];exact⟨SeqAt.RcAt.str_str x t y t2,SeqAt.RcNeAt.str_str x t y t2⟩
  |_=>simp[fv]at n2
 |_=>simp[fv]at n1
variable{its:Array Value}
theorem rE{d2:D}{a:Addr}(pl:s.heap.IsTuple a its)(hu:A.units < cLine)(n2:fv d2=some w2)(h2:Rp K μ H d2 v2)(q2:RelV v2 u2) :
  SeqAt.EqAt A s (.ref a) u2 false/\SeqAt.EqAt A s u2 (.ref a) false/\SeqAt.RcAt A s (.ref a) u2 false/\SeqAt.RcNeAt A s (.ref a) u2 true/\SeqAt.RcAt A s u2 (.ref a) false/\SeqAt.RcNeAt A s u2 (.ref a) true:=by
 cases d2 with
 |non=>simp only[Rp]at h2;subst h2;cases q2;exact⟨SeqAt.EqAt.tuple_none pl hu,SeqAt.EqAt.none_tuple pl hu,SeqAt.RcAt.tuple_none pl hu,SeqAt.RcNeAt.tuple_none pl hu,SeqAt.RcAt.none_tuple pl hu,SeqAt.RcNeAt.none_tuple pl hu⟩
 |bl y=>simp only[Rp]at h2;subst h2;cases q2;exact⟨SeqAt.EqAt.tuple_bool y pl hu,SeqAt.EqAt.bool_tuple y pl hu,SeqAt.RcAt.tuple_bool y pl hu,SeqAt.RcNeAt.tuple_bool y pl hu,SeqAt.RcAt.bool_tuple y pl hu,SeqAt.RcNeAt.bool_tuple y pl hu⟩
 |int y=>simp only[Rp]at h2;subst h2;obtain⟨t2,rfl⟩:=q2;exact⟨SeqAt.EqAt.tuple_int y t2 pl hu,SeqAt.EqAt.int_tuple y t2 pl hu,SeqAt.RcAt.tuple_int y t2 pl hu,SeqAt.RcNeAt.tuple_int y t2 pl hu,SeqAt.RcAt.int_tuple y t2 pl hu,SeqAt.RcNeAt.int_tuple y t2 pl hu⟩
 |str y=>simp only[Rp]at h2;subst h2;obtain⟨t2,rfl⟩:=q2;exact⟨SeqAt.EqAt.tuple_str y t2 pl hu,SeqAt.EqAt.str_tuple y t2 pl hu,SeqAt.RcAt.tuple_str y t2 pl hu,SeqAt.RcNeAt.tuple_str y t2 pl hu,SeqAt.RcAt.str_tuple y t2 pl hu,SeqAt.RcNeAt.str_tuple y t2 pl hu⟩
 |_=>simp[fv]at n2
theorem mR{d2:D}{a:Addr}(pl:s.heap.IsList a its)(hu:A.units < cLine)(n2:fv d2=some w2)(h2:Rp K μ H d2 v2)(q2:RelV v2 u2) :
  SeqAt.EqAt A s (.ref a) u2 false/\SeqAt.EqAt A s u2 (.ref a) false/\SeqAt.RcAt A s (.ref a) u2 false/\SeqAt.RcNeAt A s (.ref a) u2 true/\SeqAt.RcAt A s u2 (.ref a) false/\SeqAt.RcNeAt A s u2 (.ref a) true:=by
 cases d2 with
 |non=>simp only[Rp]at h2;subst h2;cases q2;exact⟨SeqAt.EqAt.list_none pl hu,SeqAt.EqAt.none_list pl hu,SeqAt.RcAt.list_none pl hu,SeqAt.RcNeAt.list_none pl hu,SeqAt.RcAt.none_list pl hu,SeqAt.RcNeAt.none_list pl hu⟩
 |bl y=>simp only[Rp]at h2;subst h2;cases q2;exact⟨SeqAt.EqAt.list_bool y pl hu,SeqAt.EqAt.bool_list y pl hu,SeqAt.RcAt.list_bool y pl hu,SeqAt.RcNeAt.list_bool y pl hu,SeqAt.RcAt.bool_list y pl hu,SeqAt.RcNeAt.bool_list y pl hu⟩
 |int y=>simp only[Rp]at h2;subst h2;obtain⟨t2,rfl⟩:=q2;exact⟨SeqAt.EqAt.list_int y t2 pl hu,SeqAt.EqAt.int_list y t2 pl hu,SeqAt.RcAt.list_int y t2 pl hu,SeqAt.RcNeAt.list_int y t2 pl hu,SeqAt.RcAt.int_list y t2 pl hu,SeqAt.RcNeAt.int_list y t2 pl hu⟩
 |str y=>simp only[Rp]at h2;subst h2;obtain⟨t2,rfl⟩:=q2;exact⟨SeqAt.EqAt.list_str y t2 pl hu,SeqAt.EqAt.str_list y t2 pl hu,SeqAt.RcAt.list_str y t2 pl hu,SeqAt.RcNeAt.list_str y t2 pl hu,SeqAt.RcAt.str_list y t2 pl hu,SeqAt.RcNeAt.str_list y t2 pl hu⟩
 |_=>simp[fv]at n2
variable{k:Bool}
theorem kE{d d2:D}{a:Addr}{xs:List D}(I:Inv X pins σ H s)(hk:X.K=K)(hu:A.units < cLine)(h1:At K μ H d a xs k)(n2:fv d2=some w2)(h2:Rp K μ H d2 v2)(q2:RelV v2 u2) :
  SeqAt.EqAt A s (.ref a) u2 false/\SeqAt.EqAt A s u2 (.ref a) false/\SeqAt.RcAt A s (.ref a) u2 false/\SeqAt.RcNeAt A s (.ref a) u2 true/\SeqAt.RcAt A s u2 (.ref a) false/\SeqAt.RcNeAt A s u2 (.ref a) true:=by
 cases h1 with
 |tup h r=>obtain⟨its,r',pl,_⟩:=I.tuple (hk▸h);exact rE pl hu n2 h2 q2
 |lst h r=>obtain⟨its,r',pl,_⟩:=I.list (hk▸h);exact mR pl.isList hu n2 h2 q2
 |fz h r=>obtain⟨its,r',pl,_⟩:=I.list (hk▸h);exact mR pl.isList hu n2 h2 q2
theorem fD{d d2:D}(n1:fv d=none)(n2:fv d2=some w):eqD d d2=false/\eqD d2 d=false:=by
 cases d <;> simp only[fv,reduceCtorEq]at n1 <;> (cases d2 <;> simp only[fv,reduceCtorEq]at n2 <;> exact⟨rfl,rfl⟩)
theorem aBs{d d2:D}{a b:Addr}{xs ys:List D}{k2:Bool}(I:Inv X pins σ H s)(hk:X.K=K)(hu:A.units < cLine)(h1:At K μ H d a xs k)(h2:At K μ H d2 b ys k2)(n2:dep d2<=100)(ih:Eqs K μ H s A.in1 xs) :
  SeqAt.RcAt A s (.ref a) (.ref b) (eqD d d2)/\SeqAt.RcNeAt A s (.ref a) (.ref b) (!eqD d d2):=by
 cases h1 with
 |tup h r=>cases h2 with
  |tup h' r'=>exact⟨aEk I (hk▸h) (hk▸h') r r' hu (by simp only[dep]at n2;lia) ih,xY I (hk▸h) (hk▸h') r r' hu (by simp only[dep]at n2;lia) ih⟩
  |lst h' r' =>
   obtain⟨_,_,pl,_⟩:=I.tuple (hk▸h);obtain⟨_,_,pl',_⟩:=I.list (hk▸h')
   exact⟨.tuple_list pl pl'.isList hu,.tuple_list pl pl'.isList hu⟩
  |fz h' r' =>
   obtain⟨_,_,pl,_⟩:=I.tuple (hk▸h);obtain⟨_,_,pl',_⟩:=I.list (hk▸h')
   exact⟨.tuple_list pl pl'.isList hu,.tuple_list pl pl'.isList hu⟩
 |lst h r=>cases h2 with
  |tup h' r' =>
   obtain⟨_,_,pl,_⟩:=I.list (hk▸h);obtain⟨_,_,pl',_⟩:=I.tuple (hk▸h')
   exact⟨.list_tuple pl.isList pl' hu,.list_tuple pl.isList pl' hu⟩
  |lst h' r'=>exact⟨oE I (hk▸h) (hk▸h') r r' hu (by simp only[dep]at n2;lia) ih,iH I (hk▸h) (hk▸h') r r' hu (by simp only[dep]at n2;lia) ih⟩
  |fz h' r'=>exact⟨oE I (hk▸h) (hk▸h') r r' hu (by simp only[dep]at n2;lia) ih,iH I (hk▸h) (hk▸h') r r' hu (by simp only[dep]at n2;lia) ih⟩
 |fz h r=>cases h2 with
  |tup h' r' =>
   obtain⟨_,_,pl,_⟩:=I.list (hk▸h);obtain⟨_,_,pl',_⟩:=I.tuple (hk▸h')
   exact⟨.list_tuple pl.isList pl' hu,.list_tuple pl.isList pl' hu⟩
  |lst h' r'=>exact⟨oE I (hk▸h) (hk▸h') r r' hu (by simp only[dep]at n2;lia) ih,iH I (hk▸h) (hk▸h') r r' hu (by simp only[dep]at n2;lia) ih⟩
  |fz h' r'=>exact⟨oE I (hk▸h) (hk▸h') r r' hu (by simp only[dep]at n2;lia) ih,iH I (hk▸h) (hk▸h') r r' hu (by simp only[dep]at n2;lia) ih⟩
theorem fF{d d2:D}(I:Inv X pins σ H s)(hk:X.K=K)(hu:A.units < cLine)(h1:Rp K μ H d v1)(h2:Rp K μ H d2 v2)(q1:RelV v1 u1)(q2:RelV v2 u2)(m1:dep d<=100)(m2:dep d2<=100)
  (ih:∀a xs k,At K μ H d a xs k->Eqs K μ H s A.in1 xs):SeqAt.EqAt A s u1 u2 (eqD d d2):=by
 cases n1:fv d with
 |some w =>
  cases n2:fv d2 with
  |some w2 =>
   obtain⟨rfl,f1⟩:=mG n1 h1
   obtain⟨rfl,f2⟩:=mG n2 h2
   rw[<- wK n1 n2]
   exact xW q1 q2 f1 f2
  |none =>
   obtain⟨a,ds,k,rfl,at2⟩:=jD n2 m2 h2
   cases q2
   rw[(fD n2 n1).2]
   exact(kE I hk hu at2 n1 h1 q1).2.1
 |none =>
  cases n2:fv d2 with
  |some w2 =>
   obtain⟨a,ds,k,rfl,at1⟩:=jD n1 m1 h1
   cases q1
   rw[(fD n1 n2).1]
   exact(kE I hk hu at1 n2 h2 q2).1
  |none =>
   obtain⟨a,xs,k,rfl,at1⟩:=jD n1 m1 h1
   obtain⟨b,ys,k2,rfl,at2⟩:=jD n2 m2 h2
   cases q1
   cases q2
   by_cases hab:a=b
   ·subst hab
    rw[yM I hk d d2 _ m1 m2 h1 h2]
    exact .same _
   ·exact .of_refs hab (aBs I hk hu at1 at2 m2 (ih a xs k at1)).1
mutual
theorem aFl(I:Inv X pins σ H s)(hk:X.K=K):∀(d:D) (A:Around) (d2:D) (v1 v2:V) (u1 u2:Value),A.units+dep d < cLine->dep d<=100->dep d2<=100->Rp K μ H d v1->Rp K μ H d2 v2->RelV v1 u1->RelV v2 u2->SeqAt.EqAt A s u1 u2 (eqD d d2)
 |.non,A,d2,v1,v2,u1,u2,hu,m1,m2,h1,h2,q1,q2=>fF I hk (by lia) h1 h2 q1 q2 m1 m2 λa xs k z=>nomatch z
 |.bl x,A,d2,v1,v2,u1,u2,hu,m1,m2,h1,h2,q1,q2=>fF I hk (by lia) h1 h2 q1 q2 m1 m2 λa xs k z=>nomatch z
 |.int x,A,d2,v1,v2,u1,u2,hu,m1,m2,h1,h2,q1,q2=>fF I hk (by lia) h1 h2 q1 q2 m1 m2 λa xs k z=>nomatch z
 |.str x,A,d2,v1,v2,u1,u2,hu,m1,m2,h1,h2,q1,q2=>fF I hk (by lia) h1 h2 q1 q2 m1 m2 λa xs k z=>nomatch z
 |.tup xs,A,d2,v1,v2,u1,u2,hu,m1,m2,h1,h2,q1,q2=>fF I hk (by lia) h1 h2 q1 q2 m1 m2 λa ys k z=>by
  have e:xs=ys:=by cases z;rfl
  subst e
  exact iK I hk xs A.in1 (by simp only[dep]at hu;show A.units+1+deps xs < cLine;lia) (by simp only[dep]at m1;lia)
 |.lst xs,A,d2,v1,v2,u1,u2,hu,m1,m2,h1,h2,q1,q2=>fF I hk (by lia) h1 h2 q1 q2 m1 m2 λa ys k z=>by
  have e:xs=ys:=by cases z;rfl
  subst e
  exact iK I hk xs A.in1 (by simp only[dep]at hu;show A.units+1+deps xs < cLine;lia) (by simp only[dep]at m1;lia)
 |.fz xs,A,d2,v1,v2,u1,u2,hu,m1,m2,h1,h2,q1,q2=>fF I hk (by lia) h1 h2 q1 q2 m1 m2 λa ys k z=>by
  have e:xs=ys:=by cases z;rfl
  subst e
  exact iK I hk xs A.in1 (by simp only[dep]at hu;show A.units+1+deps xs < cLine;lia) (by simp only[dep]at m1;lia)
 |.exn c f xs,A,d2,v1,v2,u1,u2,hu,m1,m2,h1,h2,q1,q2=>by simp[dep]at m1
theorem iK(I:Inv X pins σ H s)(hk:X.K=K):∀(xs:List D) (A:Around),A.units+deps xs < cLine->deps xs<=100->Eqs K μ H s A xs
 |[],A,hu,m=>λj d h=>by simp at h
 |x::xs,A,hu,m=>λj d h=>match j,h with
  |0,h=>λd2 v1 v2 u1 u2 m2 r1 r2 q1 q2=>by
   have e:d=x:=by simpa using h.symm
   rw[e]at r1 ⊢
   exact aFl I hk x A d2 v1 v2 u1 u2 (by simp only[deps]at hu;lia) (by simp only[deps]at m;lia) m2 r1 r2 q1 q2
  |j+1,h=>λd2 v1 v2 u1 u2 m2 r1 r2 q1 q2=>iK I hk xs A (by simp only[deps]at hu;lia) (by simp only[deps]at m;lia) j d (by simpa using h) d2 v1 v2 u1 u2 m2 r1 r2 q1 q2
end
noncomputable section
def wd(M:Mm):W->Option D
 |.d x=>some x
 |.ref i=>(M[i]?).map D.lst
 |_=>none
def Rq(K:Frag)(μ:List Addr)(H:Hp)(d:D)(v:V):Prop:=Rp K μ H d v\/∃a ds vs,d=.lst ds/\v=.ref a/\H a=some (.lst vs)/\Rps K μ H ds vs
theorem sL{w:W}{d:D}(hr:HR K μ H M)(r:Rw K μ H w v)(h:wd M w=some d):Rq K μ H d v:=by
 cases w with
 |d x=>simp only[wd,aAO]at h;subst h;exact .inl r
 |ref i =>
  simp only[wd,aBG]at h
  obtain⟨ds,h1,rfl⟩:=h
  obtain⟨a,q,rfl,il⟩:=r
  obtain⟨a',vs,q1,q2,q3⟩:=hr.at h1 q
  rw[q]at q1;cases q1
  exact .inr ⟨a,ds,vs,rfl,rfl,q2,q3⟩
 |ob _ _=>simp[wd]at h
 |nest _=>simp[wd]at h
theorem nJ{d:D}(n:fv d=none)(m:dep d<=100)(h:Rq K μ H d v):∃a ds k,v=.ref a/\At K μ H d a ds k:=by
 rcases h with h|⟨a,ds,vs,rfl,rfl,q1,q2⟩
 ·exact jD n m h
 ·exact⟨a,ds,false,rfl,.lst (SqL.of q1) q2⟩
theorem wP{d:D}(n:fv d=some w)(h:Rq K μ H d v):Rp K μ H d v:=by
 rcases h with h|⟨a,ds,vs,rfl,rfl,q1,q2⟩
 ·exact h
 ·cases n
theorem aFi{d:D}{a:Addr}{xs:List D}(h:At K μ H d a xs k):dep d=deps xs+1:=by cases h <;> rfl
def pEq(x y:W)(M:Mm):Oc W:=match wd M x,wd M y with
 |some d,some e=>if dep d<=100/\dep e<=100 then .ok (.d (.bl (eqD d e))) M else .bad
 |_,_=>.bad
def pNe(x y:W)(M:Mm):Oc W:=match wd M x,wd M y with
 |some d,some e=>if dep d<=100/\dep e<=100 then .ok (.d (.bl (!eqD d e))) M else .bad
 |_,_=>.bad
def rEqD(K:Frag)(neg:Bool):R2:=λv u H Q=>∃μ d e,Rq K μ H d v/\Rq K μ H e u/\(dep d<=100/\dep e<=100)/\Q (.bl (if neg=true then !eqD d e else eqD d e)) H
end
theorem aGi(I:Inv X pins σ H s)(hk:X.K=K){d d2:D}(hu:A.units+dep d+1 < cLine)(m1:dep d<=100)(m2:dep d2<=100)(h1:Rq K μ H d v1)(h2:Rq K μ H d2 v2)(q1:RelV v1 u1)(q2:RelV v2 u2) :
  (SeqAt.RcAt A s u1 u2 (eqD d d2)/\SeqAt.RcNeAt A s u1 u2 (!eqD d d2)):=by
 have hu0:A.units < cLine:=by lia
 cases n1:fv d with
 |some w =>
  have h1:=wP n1 h1
  cases n2:fv d2 with
  |some w2=>exact zN n1 n2 h1 (wP n2 h2) q1 q2
  |none =>
   obtain⟨b,ys,k2,rfl,at2⟩:=nJ n2 m2 h2
   cases q2
   rw[(fD n2 n1).2]
   obtain⟨_,_,_,_,x,y⟩:=kE I hk hu0 at2 n1 h1 q1
   exact⟨x,y⟩
 |none =>
  obtain⟨a,xs,k,rfl,at1⟩:=nJ n1 m1 h1
  cases q1
  cases n2:fv d2 with
  |some w2 =>
   rw[(fD n1 n2).1]
   obtain⟨_,_,x,y,_⟩:=kE I hk hu0 at1 n2 (wP n2 h2) q2
   exact⟨x,y⟩
  |none =>
   obtain⟨b,ys,k2,rfl,at2⟩:=nJ n2 m2 h2
   cases q2
   have:=aFi at1
   exact aBs I hk hu0 at1 at2 m2 (iK I hk xs A.in1 (by show A.units+1+deps xs < cLine;lia) (by lia))
theorem aBy(hu:X.A.units+101 < cLine):OpR X (compareOp .Eq) (rEqD X.K false):=by
 intro pins s σ H x y v u Q I rx ry h
 obtain⟨μ,d,e,h1,h2,h3,q⟩:=h
 exact(aGi I rfl (A:=X.A) (by lia) h3.1 h3.2 h1 h2 rx ry).1 _ _ _ _ ⟨.bl _,H,I,rfl,q⟩
theorem aDx(hu:X.A.units+101 < cLine):OpR X (compareOp .NotEq) (rEqD X.K true):=by
 intro pins s σ H x y v u Q I rx ry h
 obtain⟨μ,d,e,h1,h2,h3,q⟩:=h
 exact(aGi I rfl (A:=X.A) (by lia) h3.1 h3.2 h1 h2 rx ry).2 _ _ _ _ ⟨.bl _,H,I,rfl,q⟩
theorem opEq(hu:X.A.units+101 < cLine):OpG X K Z (compareOp .Eq) pEq:=λhk=>⟨_,hk▸aBy hu,by
 intro μ H M x y v u Q hr rx ry p
 unfold pEq at p
 cases q1:wd M x with
 |none=>rw[q1]at p;exact p.elim
 |some d=>cases q2:wd M y with
  |none=>rw[q1,q2]at p;exact p.elim
  |some e =>
   rw[q1,q2]at p
   simp only at p
   split at p
   ·exact⟨μ,d,e,sL hr rx q1,sL hr ry q2,by assumption,p μ H .refl hr _ (by simp[Rw,Rp])⟩
   ·exact p.elim⟩
theorem opNe(hu:X.A.units+101 < cLine):OpG X K Z (compareOp .NotEq) pNe:=λhk=>⟨_,hk▸aDx hu,by
 intro μ H M x y v u Q hr rx ry p
 unfold pNe at p
 cases q1:wd M x with
 |none=>rw[q1]at p;exact p.elim
 |some d=>cases q2:wd M y with
  |none=>rw[q1,q2]at p;exact p.elim
  |some e =>
   rw[q1,q2]at p
   simp only at p
   split at p
   ·exact⟨μ,d,e,sL hr rx q1,sL hr ry q2,by assumption,p μ H .refl hr _ (by simp[Rw,Rp])⟩
   ·exact p.elim⟩
section
variable{K:Frag}{o:Expr}{fo:FE}
@[irreducible] noncomputable def lid:Nat:=2 ^ 4096
variable{i:Int}
theorem oY(h:i.natAbs < lid):Builtin.Int.intBits i<=4096:=by unfold lid at h;exact intBits_le_iff.mpr h
noncomputable section
def mulOk(i j:Int):Bool:=decide ((-18446744073709551616 < i/\i < 18446744073709551616)\/(-18446744073709551616 < j/\j < 18446744073709551616)\/(i.natAbs < lid/\j.natAbs < lid))
theorem aAm:OpR X (binaryOp .Mult) (rI (λi j=>CMul i j\/(i.natAbs < lid/\j.natAbs < lid)) λi j=>.int (i*j)):=L2.opI λ_ _ _ _ _ _ _ hc q=>mul_int q (by
 rcases hc with hc|⟨h1,h2⟩
 ·exact hc.ok
 ·exact mulOk_of_bits (oY h1) (oY h2) (by lia))
def pMul(x y:W)(M:Mm):Oc W:=match x,y with
 |.d (.int i),.d (.int j)=>if mulOk i j=true then .ok (.d (.int (i*j))) M else .bad
 |x,.d (.int k)=>match lv M x with
  |some xs=>if xs.length*k.toNat<=16777216/\k < 9223372036854775808 /\ -9223372036854775808<=k then .ok (.d (.lst (List.replicate k.toNat xs).flatten)) M else .bad
  |none=>.bad
 |_,_=>.bad
theorem iX{x:W}{k:Int}(hr:HR K μ H M)(rx:Rw K μ H x v)(p:Pst K Z μ H (match lv M x with
  |some xs=>if xs.length*k.toNat<=16777216/\k < 9223372036854775808 /\ -9223372036854775808<=k then .ok (.d (.lst (List.replicate k.toNat xs).flatten)) M else .bad
  |none=>.bad) (Wk K Q)):rRep v (.int k) H Q:=by
 cases q1:lv M x with
 |none=>rw[q1]at p;exact p.elim
 |some xs =>
  rw[q1]at p
  simp only at p
  split at p
  ·rename_i hz
   obtain⟨a,vs,rfl,h1,r1⟩:=sU hr rx q1
   exact⟨a,k,vs,rfl,rfl,h1,hz.2.2,hz.2.1,by rw[<- r1.length,aAY];exact hz.1,dZ hr (r1.rep k.toNat) p⟩
  ·exact p.elim
theorem opMul:OpG X K Z (binaryOp .Mult) pMul:=λhk=>by
 refine⟨_,OpR.or aAm aDi,?_⟩
 intro μ H M x y v u Q hr rx ry p
 cases y with
 |ref j=>cases x with
  |d x=>cases x <;> exact p.elim
  |_=>exact p.elim
 |ob _ _=>cases x with
  |d x=>cases x <;> exact p.elim
  |_=>exact p.elim
 |nest _=>cases x with
  |d x=>cases x <;> exact p.elim
  |_=>exact p.elim
 |d y=>cases y with
  |int k =>
   have ry':u=.int k:=by simpa only[Rw,Rp]using ry
   subst ry'
   cases x with
   |ref i=>exact .inr (iX hr rx p)
   |ob _ _=>exact .inr (iX hr rx p)
   |nest _=>exact .inr (iX hr rx p)
   |d x=>cases x with
    |int i =>
     simp only[pMul]at p
     simp only[Rw,Rp]at rx
     split at p
     ·rename_i hz
      refine .inl ⟨i,k,rx,rfl,?_,p μ H .refl hr _ (by simp[Rw,Rp])⟩
      simp only[mulOk,aAW]at hz
      rcases hz with hz|hz|hz
      ·exact .inl (.inl hz)
      ·exact .inl (.inr hz)
      ·exact .inr hz
     ·exact p.elim
    |_=>exact .inr (iX hr rx p)
  |_=>cases x with
   |ref i=>exact p.elim
   |ob _ _=>exact p.elim
   |nest _=>exact p.elim
   |d x=>cases x <;> exact p.elim
def eAnd(f g:FE):FE:=λL M=>(f L M).bind λx M1=>match x with
 |.d (.bl true)=>g L M1
 |.d (.bl false)=>.ok (.d (.bl false)) M1
 |_=>.bad
end
variable{rest:List Expr}
theorem qJ{op}(ha:Ev X K Z a fa):Ev X K Z (.BoolOp op [a] pos) fa:=⟨ha.k,aDk ha.h⟩
theorem nW(ha:Ev X K Z a fa)(hb:Ev X K Z (.BoolOp .And (b::rest) pos) fb):Ev X K Z (.BoolOp .And (a::b::rest) pos) (eAnd fa fb):=by
 refine⟨ha.k,cqE (aDb ha.h hb.h) ?_⟩
 rintro σ H Q ⟨μ,M,L,hr,lr,p⟩
 refine⟨μ,M,L,hr,lr,p.bind.imp λμ1 H1 M1 x e1 hr1 _ p1 v rx=>?_⟩
 cases x with
 |ref i=>exact p1.elim
 |ob _ _=>exact p1.elim
 |nest _=>exact p1.elim
 |d x=>cases x with
  |bl i =>
   simp only[Rw,Rp]at rx
   refine⟨i,rx,?_⟩
   cases i with
   |true=>exact⟨μ1,M1,L,hr1,lr.ext hr.lsts e1,p1⟩
   |false=>exact p1 μ1 H1 .refl hr1 _ (by simp[Rw,Rp])
  |_=>exact p1.elim
noncomputable section
def pIx(x y:W)(M:Mm):Oc W:=match y with
 |.d (.int i)=>match x with
  |.d (.str z)=>match atI z.cps.toList i with
   |some c=>if z.length<=16777216 then .ok (.d (.str ⟨#[c]⟩)) M else .bad
   |none=>.bad
  |x=>match sv M x with
   |some xs=>match atI xs i with
    |some d=>.ok (.d d) M
    |none=>.bad
   |none=>.bad
 |_=>.bad
theorem aDa{ds:List D}{d:D}(r:Rps K μ H ds vs)(h:atI ds i=some d):∃v,atI vs i=some v/\Rp K μ H d v:=by
 unfold atI at h ⊢
 rw[r.length]at h
 cases q:ixN vs.length i with
 |none=>rw[q]at h;cases h
 |some j=>rw[q]at h;exact r.get h
theorem kJ{x:W}(hr:HR K μ H M)(rx:Rw K μ H x v)(p:Pst K Z μ H (match sv M x with
   |some xs=>match atI xs i with
    |some d=>Oc.ok (.d d) M
    |none=>.bad
   |none=>.bad) (Wk K Q)):rIx K v (.int i) H Q:=by
 cases q1:sv M x with
 |none=>rw[q1]at p;exact p.elim
 |some xs =>
  rw[q1]at p
  cases q2:atI xs i with
  |none=>simp only[q2]at p;exact p.elim
  |some d =>
   simp only[q2]at p
   obtain⟨a,vs,rfl,h1,r1⟩:=tR hr rx q1
   obtain⟨v,h2,r2⟩:=aDa r1 q2
   have q:=p μ H .refl hr v r2
   rcases h1 with h1|h1
   ·exact .inl ⟨a,vs,i,v,rfl,rfl,h1,h2,q⟩
   ·exact .inr (.inl ⟨a,vs,i,v,rfl,rfl,h1,h2,q⟩)
theorem aCn:Op2 K Z (rIx K) pIx:=by
 intro μ H M x y v u Q hr rx ry p
 cases y with
 |ref j=>exact p.elim
 |ob _ _=>exact p.elim
 |nest _=>exact p.elim
 |d y=>cases y with
  |int i =>
   have:u=.int i:=by simpa only[Rw,Rp]using ry
   subst this
   cases x with
   |ref j=>exact kJ hr rx p
   |ob _ _=>exact kJ hr rx p
   |nest _=>exact kJ hr rx p
   |d x=>cases x with
    |str z =>
     simp only[Rw,Rp]at rx
     simp only[pIx]at p
     cases q:atI z.cps.toList i with
     |none=>simp only[q]at p;exact p.elim
     |some c =>
      simp only[q]at p
      split at p
      ·exact .inr (.inr ⟨z,i,c,rx,rfl,by rw[aAY];assumption,q,p μ H .refl hr _ (by simp[Rw,Rp])⟩)
      ·exact p.elim
    |_=>exact kJ hr rx p
  |_=>exact p.elim
theorem bB(ha:Ev X K Z a fa)(hb:Ev X K Z b fb)(hs:PlainIx b:=by intro _ _;rfl):Ev X K Z (.Subscript a b pos) (e2 pIx fa fb):=by
 have h:=aGq (pos:=pos) (aFd (X:=X)) ha.h hb.h hs
 rw[ha.k]at h
 exact⟨ha.k,cqE h (lift2 aCn)⟩
def aNil:FA:=λ_ M=>.ok [] M
def aCons(f:FE)(g:FA):FA:=λL M=>(f L M).bind λw M1=>(g L M1).bind λws M2=>.ok (w::ws) M2
theorem aD(hk:X.K=K:=by rfl):Ea X K Z [] aNil:=⟨hk,cqA dH λσ H Q ⟨μ,M,L,hr,lr,p⟩=>p μ H .refl hr [] rfl⟩
theorem aA(ha:Ev X K Z e fa)(hr:Ea X K Z es fs)(hs:starEach (e::es) X.env=(false,eval e X.env)::starEach es X.env:=by rfl):Ea X K Z (e::es) (aCons fa fs):=by
 refine⟨ha.k,cqA (bQ ha.h hr.h hs) ?_⟩
 rintro σ H Q ⟨μ,M,L,hr,lr,p⟩
 refine⟨μ,M,L,hr,lr,p.bind.imp λμ1 H1 M1 x e1 hr1 _ p1 v rx=>?_⟩
 refine⟨μ1,M1,L,hr1,lr.ext hr.lsts e1,p1.bind.imp λμ2 H2 M2 y e2 hr2 _ p2 us ry=>?_⟩
 exact p2 μ2 H2 .refl hr2 (v::us) ⟨v,us,rfl,rx.ext hr1.lsts e2,ry⟩
def allD:List W->Option (List D)
 |[]=>some []
 |.d x::ws=>(allD ws).map (x::·)
 |_::_=>none
theorem iU:∀{ws:List W} {vs:List V} {ds:List D},Rws K μ H ws vs->allD ws=some ds->Rps K μ H ds vs
 |[],_,_,h,q=>by cases h;simp only[allD,aAO]at q;subst q;exact .nil
 |.d x::ws,_,_,⟨v,r,e1,e2,e3⟩,q=>by
  simp only[allD,aBG]at q
  obtain⟨ds,q1,rfl⟩:=q
  subst e1
  exact .cons e2 (iU e3 q1)
 |.ref i::ws,_,_,_,q=>by simp[allD]at q
 |.ob _ i::ws,_,_,_,q=>by simp[allD]at q
 |.nest i::ws,_,_,_,q=>by simp[allD]at q
def mkT(ws:List W)(M:Mm):Oc W:=match allD ws with
 |some ds=>if ds.length<=16777216 then okD (.tup ds) M else .bad
 |none=>.bad
def mkL(ws:List W)(M:Mm):Oc W:=match allD ws with
 |some ds=>if ds.length<=16777216 then okD (.lst ds) M else .bad
 |none=>.bad
def mkR(ws:List W)(M:Mm):Oc W:=match allD ws with
 |some ds=>if ds.length<=16777216 then .ok (.ref M.length) (M++[ds])else .bad
 |none=>.bad
def eA(g:List W->Mm->Oc W)(fs:FA):FE:=λL M=>(fs L M).bind g
theorem bJ{x1}(h:Ea X K Z es fs):Ev X K Z (.Tuple es x1 pos) (eA mkT fs):=by
 refine⟨h.k,cqE (wC h.h) ?_⟩
 rintro σ H Q ⟨μ,M,L,hr,lr,p⟩
 refine⟨μ,M,L,hr,lr,p.bind.imp λμ1 H1 M1 ws e1 hr1 _ p1 vs rx=>?_⟩
 unfold mkT at p1
 cases q:allD ws with
 |none=>rw[q]at p1;exact p1.elim
 |some ds =>
  rw[q]at p1
  simp only at p1
  split at p1
  ·have r:=iU rx q
   exact⟨by rw[<- r.length,aAY];assumption,gC hr1 r p1⟩
  ·exact p1.elim
theorem cS(h:Ea X K Z es fs):Ev X K Z (.List es pos) (eA mkL fs):=by
 refine⟨h.k,cqE (rP h.h) ?_⟩
 rintro σ H Q ⟨μ,M,L,hr,lr,p⟩
 refine⟨μ,M,L,hr,lr,p.bind.imp λμ1 H1 M1 ws e1 hr1 _ p1 vs rx=>?_⟩
 unfold mkL at p1
 cases q:allD ws with
 |none=>rw[q]at p1;exact p1.elim
 |some ds =>
  rw[q]at p1
  simp only at p1
  split at p1
  ·have r:=iU rx q
   exact⟨by rw[<- r.length,aAY];assumption,dZ hr1 r p1⟩
  ·exact p1.elim
theorem sM(h:Ea X K Z es fs):Ev X K Z (.List es pos) (eA mkR fs):=by
 refine⟨h.k,cqE (rP h.h) ?_⟩
 rintro σ H Q ⟨μ,M,L,hr,lr,p⟩
 refine⟨μ,M,L,hr,lr,p.bind.imp λμ1 H1 M1 ws e1 hr1 _ p1 vs rx=>?_⟩
 unfold mkR at p1
 cases q:allD ws with
 |none=>rw[q]at p1;exact p1.elim
 |some ds =>
  rw[q]at p1
  simp only at p1
  split at p1
  ·have r:=iU rx q
   exact⟨by rw[<- r.length,aAY];assumption,sR hr1 r p1⟩
  ·exact p1.elim
def eInts(ns:List Int):FE:=λ_ M=>.ok (.d (.lst (ns.map D.int))) M
theorem aBh(h:IntsE es ns)(hn:ns.length<=16777216:=by decide)(hk:X.K=K:=by rfl):Ev X K Z (.List es pos) (eInts ns):=by
 refine⟨hk,cqE (rP (zW h)) ?_⟩
 rintro σ H Q ⟨μ,M,L,hr,lr,p⟩
 exact⟨by rw[aAL,aAY];exact hn,dZ hr Rps.ints p⟩
def Cl(K:Frag)(Z:Zt)(r:List V->Hp->VK->Prop)(g:List W->Mm->Oc W):Prop :=
 ∀(μ:List Addr) (H:Hp) (M:Mm) (ws:List W) (vs:List V) (Q:VK),HR K μ H M->Rws K μ H ws vs->Pst K Z μ H (g ws M) (Wk K Q)->r vs H Q
def ClG(X:Cx)(K:Frag)(Z:Zt)(f:Value)(g:List W->Mm->Oc W):Prop:=X.K=K->∃r,CallR X f r/\Cl K Z r g
end
theorem liftC{g:List W->Mm->Oc W}(h:Cl K Z r g):∀σ H Q,lift K Z (eA g fs) σ H Q->tCB r (liftA K Z fs) σ H Q:=by
 rintro σ H Q ⟨μ,M,L,hr,lr,p⟩
 exact⟨μ,M,L,hr,lr,p.bind.imp λμ1 H1 M1 ws e1 hr1 _ p1 vs rx=>h μ1 H1 M1 ws vs Q hr1 rx p1⟩
variable{p:Pos}
theorem aY{id:String}{g:List W->Mm->Oc W}(hc:ClG X K Z (.builtin id) g)(hg:Gl X x)(hm:X.mg x=none)(hv:bootBuiltins x=some (.builtin id))(ha:Ea X K Z (e::es) fs)
  (hn:x≠"__name__":=by decide)(hdb:(x==("__debug__":Str))=false:=by decide)(he:starEach (e::es) X.env=(false,eval e X.env)::starEach es X.env:=by rfl)
  (hpl:(backTo pos (starEach es X.env)).any (·.1)=false:=by rfl):Ev X K Z (.Call (.Name x p) (e::es) [] pos) (eA g fs):=by
 obtain⟨r,h1,h2⟩:=hc ha.k
 exact⟨ha.k,cqE (iT h1 hg hm hv ha.h hn hdb he hpl) (liftC h2)⟩
theorem bT{T:String}{g:List W->Mm->Oc W}(hc:ClG X K Z (.type T) g)(hg:Gl X x)(hm:X.mg x=none)(hv:bootBuiltins x=some (.type T))(ha:Ea X K Z (e::es) fs)
  (hn:x≠"__name__":=by decide)(hdb:(x==("__debug__":Str))=false:=by decide)(he:starEach (e::es) X.env=(false,eval e X.env)::starEach es X.env:=by rfl)
  (hpl:(backTo pos (starEach es X.env)).any (·.1)=false:=by rfl):Ev X K Z (.Call (.Name x p) (e::es) [] pos) (eA g fs):=by
 obtain⟨r,h1,h2⟩:=hc ha.k
 exact⟨ha.k,cqE (uZ h1 hg hm hv ha.h hn hdb he hpl) (liftC h2)⟩
noncomputable section
def cLen(ws:List W)(M:Mm):Oc W:=match ws with
 |[.d (.str z)]=>if z.length<=16777216 then .ok (.d (.int z.length)) M else .bad
 |[w]=>match sv M w with
  |some xs=>.ok (.d (.int xs.length)) M
  |none=>.bad
 |_=>.bad
theorem hX{w:W}(hr:HR K μ H M)(rx:Rw K μ H w v)(p:Pst K Z μ H (match sv M w with
  |some xs=>Oc.ok (.d (.int xs.length)) M
  |none=>.bad) (Wk K Q)):∃p ys,[v]=[V.ref p]/\(SqL K H p ys\/SqT K H p ys)/\Q (.int ys.length) H:=by
 cases q1:sv M w with
 |none=>rw[q1]at p;exact p.elim
 |some xs =>
  rw[q1]at p
  obtain⟨a,vs,rfl,h1,r1⟩:=tR hr rx q1
  exact⟨a,vs,rfl,h1,p μ H .refl hr _ (by simp[Rw,Rp,r1.length])⟩
theorem callLen:ClG X K Z (.builtin "len") cLen:=λhk=>by
 refine⟨_,CallR.or (hk▸oM) nA,?_⟩
 intro μ H M ws vs Q hr rx p
 match ws,rx,p with
 |[],_,p=>exact p.elim
 |.ref i::[],⟨v,r,e1,e2,e3⟩,p=>cases e3;subst e1;exact .inl (hX hr e2 p)
 |.ob _ i::[],⟨v,r,e1,e2,e3⟩,p=>cases e3;subst e1;exact .inl (hX hr e2 p)
 |.nest i::[],⟨v,r,e1,e2,e3⟩,p=>cases e3;subst e1;exact .inl (hX hr e2 p)
 |.d x::[],⟨v,r,e1,e2,e3⟩,p =>
  cases e3;subst e1
  cases x with
  |str z =>
   simp only[cLen]at p
   simp only[Rw,Rp]at e2
   subst e2
   split at p
   ·exact .inr ⟨z,rfl,by rw[aAY];assumption,p μ H .refl hr _ (by simp[Rw,Rp])⟩
   ·exact p.elim
  |_=>exact .inl (hX hr e2 p)
 |.ref i::_::_,_,p=>exact p.elim
 |.ob _ i::_::_,_,p=>exact p.elim
 |.nest i::_::_,_,p=>exact p.elim
 |.d x::_::_,_,p=>cases x <;> exact p.elim
def cInt(ws:List W)(M:Mm):Oc W:=match ws with
 |[.d (.int i)]=>.ok (.d (.int i)) M
 |[.d (.bl k)]=>.ok (.d (.int (if k=true then 1 else 0))) M
 |_=>.bad
theorem callInt:ClG X K Z (.type "int") cInt:=λhk=>by
 refine⟨_,vK,?_⟩
 intro μ H M ws vs Q hr rx p
 match ws,rx,p with
 |[],_,p=>exact p.elim
 |.ref i::_,_,p=>exact p.elim
 |.ob _ i::_,_,p=>exact p.elim
 |.nest i::_,_,p=>exact p.elim
 |.d x::[],⟨v,r,e1,e2,e3⟩,p =>
  cases e3;subst e1
  cases x with
  |int i=>simp only[Rw,Rp]at e2;subst e2;exact .inl ⟨i,rfl,p μ H .refl hr _ (by simp[Rw,Rp])⟩
  |bl k=>simp only[Rw,Rp]at e2;subst e2;exact .inr ⟨k,rfl,p μ H .refl hr _ (by simp[Rw,Rp])⟩
  |_=>exact p.elim
 |.d x::_::_,_,p=>cases x <;> exact p.elim
def cMax2(ws:List W)(M:Mm):Oc W:=match ws with
 |[.d (.int i),.d (.int j)]=>.ok (.d (.int (if j > i then j else i))) M
 |_=>.bad
def cMin2(ws:List W)(M:Mm):Oc W:=match ws with
 |[.d (.int i),.d (.int j)]=>.ok (.d (.int (if j < i then j else i))) M
 |_=>.bad
theorem callMax2(hc:X.calm=true):ClG X K Z (.builtin "max") cMax2:=λhk=>by
 refine⟨_,vG hc,?_⟩
 intro μ H M ws vs Q hr rx p
 unfold cMax2 at p
 split at p
 ·obtain⟨v,r,e1,e2,v',r',e1',e2',e3⟩:=rx
  simp only[Rw,Rp]at e2 e2'
  cases e3;subst e1' e1 e2 e2'
  exact⟨_,_,rfl,p μ H .refl hr _ (by simp[Rw,Rp])⟩
 ·exact p.elim
theorem callMin2(hc:X.calm=true):ClG X K Z (.builtin "min") cMin2:=λhk=>by
 refine⟨_,vP hc,?_⟩
 intro μ H M ws vs Q hr rx p
 unfold cMin2 at p
 split at p
 ·obtain⟨v,r,e1,e2,v',r',e1',e2',e3⟩:=rx
  simp only[Rw,Rp]at e2 e2'
  cases e3;subst e1' e1 e2 e2'
  exact⟨_,_,rfl,p μ H .refl hr _ (by simp[Rw,Rp])⟩
 ·exact p.elim
def cList(ws:List W)(M:Mm):Oc W:=match ws with
 |[w]=>match sv M w with
  |some xs=>okD (.lst xs) M
  |none=>.bad
 |_=>.bad
def cListR(ws:List W)(M:Mm):Oc W:=match ws with
 |[w]=>match sv M w with
  |some xs=>.ok (.ref M.length) (M++[xs])
  |none=>.bad
 |_=>.bad
def cTup(ws:List W)(M:Mm):Oc W:=match ws with
 |[w]=>match sv M w with
  |some xs=>okD (.tup xs) M
  |none=>.bad
 |_=>.bad
end
theorem nC{g:List D->Oc W}{ws:List W}{Q:List Addr->Hp->Mm->W->Prop}(hr:HR K μ H M)(rx:Rws K μ H ws vs)(p:Pst K Z μ H (match ws with
 |[w]=>match sv M w with
  |some xs=>g xs
  |none=>.bad
 |_=>.bad) Q):∃w a us xs,ws=[w]/\vs=[.ref a]/\sv M w=some xs/\Rw K μ H w (.ref a)/\(SqL K H a us\/SqT K H a us)/\Rps K μ H xs us/\Pst K Z μ H (g xs) Q:=by
 match ws,rx,p with
 |[],_,p=>exact p.elim
 |[w],⟨v,r,e1,e2,e3⟩,p =>
  cases e3;subst e1
  simp only at p
  cases q:sv M w with
  |none=>rw[q]at p;exact p.elim
  |some xs =>
   rw[q]at p
   obtain⟨a,us,rfl,h1,r1⟩:=tR hr e2 q
   exact⟨w,a,us,xs,rfl,rfl,q,e2,h1,r1,p⟩
 |_::_::_,_,p=>exact p.elim
theorem callList:ClG X K Z (.type "list") cList:=λhk=>by
 refine⟨_,hk▸iD,?_⟩
 intro μ H M ws vs Q hr rx p
 obtain⟨w,a,us,xs,rfl,rfl,q,e2,h1,r1,p⟩:=nC hr rx p
 exact⟨a,us,rfl,h1,dZ hr r1 p⟩
theorem callListR:ClG X K Z (.type "list") cListR:=λhk=>by
 refine⟨_,hk▸iD,?_⟩
 intro μ H M ws vs Q hr rx p
 obtain⟨w,a,us,xs,rfl,rfl,q,e2,h1,r1,p⟩:=nC hr rx p
 exact⟨a,us,rfl,h1,sR hr r1 p⟩
theorem callTup:ClG X K Z (.type "tuple") cTup:=λhk=>by
 refine⟨_,hk▸lQ,?_⟩
 intro μ H M ws vs Q hr rx p
 obtain⟨w,a,us,xs,rfl,rfl,q,e2,h1,r1,p⟩:=nC hr rx p
 by_cases hw:∃ys,w=.d (.tup ys)
 ·obtain⟨ys,rfl⟩:=hw
  simp only[sv,aAO]at q
  subst q
  have e2':=e2
  simp only[Rw,Rp]at e2
  obtain⟨a',vs',ea,h1',r1'⟩:=e2
  cases ea
  exact⟨a,vs',rfl,.inr ⟨SqT.of h1',p μ H .refl hr _ e2'⟩⟩
 ·have hl:lr M w=some xs:=by
   cases w with
   |ref i=>exact q
   |ob _ _=>exact q
   |nest _=>exact q
   |d x=>cases x <;> first|exact q|exact(hw ⟨_,rfl⟩).elim
  obtain⟨a',vs',ea,h1',r1'⟩:=sZ hr e2 hl
  cases ea
  exact⟨a,vs',rfl,.inl ⟨h1',gC hr r1' p⟩⟩
end
section
variable{K:Frag}{o:Expr}{fo:FE}{st:Stmt}{rest:List Stmt}{F G:FS}
noncomputable section
def sNil:FS:=λL M=>.ok (.nx L) M
def sSeq(F G:FS):FS:=λL M=>(F L M).bind λo M1=>match o with
 |.nx L1=>G L1 M1
 |.bk L1=>.ok (.bk L1) M1
 |.ct L1=>.ok (.ct L1) M1
 |.rt w=>.ok (.rt w) M1
theorem aR(hk:X.K=K:=by rfl):Ess X K Z [] sNil:=⟨hk,cqSs yV λE σ H ⟨μ,M,L,hr,lr,p⟩=>p μ H .refl hr σ lr⟩
theorem aE(h1:Es X K Z st F)(h2:Ess X K Z rest G):Ess X K Z (st::rest) (sSeq F G):=by
 refine⟨h1.k,cqSs (oU h1.h h2.h) ?_⟩
 rintro E σ H ⟨μ,M,L,hr,lr,p⟩
 refine⟨μ,M,L,hr,lr,p.bind.imp λμ1 H1 M1 o e1 hr1 _ p1=>?_⟩
 cases o with
 |nx L1=>exact λσ' lr'=>⟨μ1,M1,L1,hr1,lr',p1⟩
 |bk L1=>exact p1 μ1 H1 .refl hr1
 |ct L1=>exact p1 μ1 H1 .refl hr1
 |rt w=>exact p1 μ1 H1 .refl hr1
theorem aF(h1:Es X K Z st F):Ess X K Z [st] F:=⟨h1.k,tX h1.h⟩
def sEx(f:FE):FS:=λL M=>(f L M).bind λ_ M1=>.ok (.nx L) M1
theorem aAs(h:Ev X K Z e f)(hs:swapsWith e none pos.line X.env=pure false:=by rfl):Es X K Z (.Expr e pos) (sEx f):=by
 refine⟨h.k,cqS (tS h.h hs) ?_⟩
 rintro E σ H ⟨μ,M,L,hr,lr,p⟩
 exact⟨μ,M,L,hr,lr,p.bind.imp λμ1 H1 M1 x e1 hr1 _ p1 v rx=>p1 μ1 H1 .refl hr1 σ (lr.ext hr.lsts e1)⟩
def sRt(f:FE):FS:=λL M=>(f L M).bind λw M1=>.ok (.rt w) M1
theorem aQ(h:Ev X K Z e f):Es X K Z (.Return (some e) pos) (sRt f):=by
 refine⟨h.k,cqS (aDq h.h) ?_⟩
 rintro E σ H ⟨μ,M,L,hr,lr,p⟩
 exact⟨μ,M,L,hr,lr,p.bind.imp λμ1 H1 M1 x e1 hr1 _ p1 v rx=>p1 μ1 H1 .refl hr1 v rx⟩
def sIf(t:FT)(F G:FS):FS:=λL M=>(t L M).bind λb M1=>if b=true then F L M1 else G L M1
theorem bH{c:Expr}{p q:List Stmt}{t:FT}(hc:Et X K Z c t)(ha:Ess X K Z p F)(hb:Ess X K Z q G):Es X K Z (.If c p q pos) (sIf t F G):=by
 refine⟨hc.k,cqS (aFv hc.h ha.h hb.h) ?_⟩
 rintro E σ H ⟨μ,M,L,hr,lr,p⟩
 refine⟨μ,M,L,hr,lr,p.bind.imp λμ1 H1 M1 x e1 hr1 _ p1=>?_⟩
 cases x with
 |true=>exact⟨μ1,M1,L,hr1,lr.ext hr.lsts e1,p1⟩
 |false=>exact⟨μ1,M1,L,hr1,lr.ext hr.lsts e1,p1⟩
def gN(i:Nat):FG:=λw L M=>.ok (L.set i (some w)) M
theorem LR.set{L:Lc}{σ:St}{i:Nat}{w:W}{v:V}(h:LR K μ H L σ)(r:Rw K μ H w v):LR K μ H (L.set i (some w)) (σ.set i (some v))where
 len:=by simp[h.len]
 ent:=λj u q=>by
  by_cases hj:i=j
  ·subst hj
   have hl:i < L.length:=by
    by_cases hl:i < L.length
    ·exact hl
    ·rw[List.set_eq_of_length_le (by lia)]at q
     rw[aDP (by lia)]at q;cases q
   rw[aBD hl]at q
   cases q
   exact⟨v,by rw[aBD (by rw[<- h.len];exact hl)],r⟩
  ·rw[aBH hj]at q
   obtain⟨x,q1,q2⟩:=h.ent j u q
   exact⟨x,by rw[aBH hj];exact q1,q2⟩
theorem bA(hN:X.N.Nodup)(hi:X.N[i]?=some x:=by rfl)(hx:Loc X.env.scope x:=by first|exact Or.inl rfl|exact Or.inr rfl)(hk:X.K=K:=by rfl)(hf:X.fn x=true\/X.env.scope.names.lookup x=some .local:=by first|exact .inl rfl|exact .inr rfl|assumption) :
  Eg X K Z (.Name x pos) (gN i):=⟨hk,cqG (zE hN hi hx hf) λv σ H Q ⟨μ,M,L,w,hr,lr,rx,p⟩=>p μ H .refl hr _ (lr.set rx)⟩
def gsNil:FGs:=λds L M=>match ds with
 |[]=>.ok L M
 |_=>.bad
def gsCons(g:FG)(gs:FGs):FGs:=λds L M=>match ds with
 |d::r=>(g (.d d) L M).bind λL1 M1=>gs r L1 M1
 |[]=>.bad
end
theorem eY(hk:X.K=K:=by rfl):Egs X K Z [] gsNil:=⟨hk,cqGs aBm λvs σ H Q ⟨μ,M,L,ds,hr,lr,rx,p⟩=>by
 cases ds with
 |nil=>simp only[Rps]at rx;exact⟨rx,p μ H .refl hr σ lr⟩
 |cons d r=>exact p.elim⟩
variable{gs:FGs}
theorem bF{g:FG}(h1:Eg X K Z e g)(h2:Egs X K Z es gs)(hs:(assignEach (e::es) X.env).map (·.2)=assign e X.env::(assignEach es X.env).map (·.2):=by rfl):Egs X K Z (e::es) (gsCons g gs) :=
 ⟨h1.k,cqGs (wV h1.h h2.h hs) λvs σ H Q ⟨μ,M,L,ds,hr,lr,rx,p⟩=>by
  cases ds with
  |nil=>exact p.elim
  |cons d r =>
   simp only[Rps]at rx
   obtain⟨v,vr,e1,rd,rr⟩:=rx
   refine⟨v,vr,e1,μ,M,L,.d d,hr,lr,rd,p.bind.imp λμ1 H1 M1 L1 e1 hr1 _ p1 σ1 lr1=>?_⟩
   exact⟨μ1,M1,L1,r,hr1,lr1,Rps.ext hr.lsts e1 _ _ rr,p1⟩⟩
noncomputable section
def gT(n:Nat)(gs:FGs):FG:=λw L M=>match w with
 |.d (.tup xs)=>if xs.length=n then gs xs L M else .bad
 |_=>.bad
theorem gP{k:Nat}(hc:X.calm=true)(h:Egs X K Z es gs)(hn:(assignEach es X.env).length=n:=by rfl)(hst:(assignEach es X.env).findIdx? (·.1)=none:=by rfl):Eg X K Z (.Tuple es k pos) (gT n gs):=by
 have h':=aCw (k:=k) (pos:=pos) hc h.h hn hst
 rw[h.k]at h'
 refine⟨h.k,cqG h' λv σ H Q ⟨μ,M,L,w,hr,lr,rx,p⟩=>?_⟩
 cases w with
 |ref i=>exact p.elim
 |ob _ _=>exact p.elim
 |nest _=>exact p.elim
 |d x=>cases x with
  |tup xs =>
   simp only[gT]at p
   split at p
   ·simp only[Rw,Rp]at rx
    obtain⟨a,vs,e1,q1,r1⟩:=rx
    exact⟨a,vs,e1,SqT.of q1,by rw[<- r1.length];assumption,μ,M,L,xs,hr,lr,r1,p⟩
   ·exact p.elim
  |_=>exact p.elim
def gS(fo fi:FE):FG:=λw L M=>(fo L M).bind λo M1=>(fi L M1).bind λi M2=>match o,i,w with
 |.ref k,.d (.int j),.d x=>match M2[k]? with
  |some xs=>match ixN xs.length j with
   |some t=>.ok L (M2.set k (xs.set t x))
   |none=>.bad
  |none=>.bad
 |_,_,_=>.bad
theorem oJ{i:Expr}{fi:FE}(ho:Ev X K Z o fo)(hi:Ev X K Z i fi)(ha:∀v,assign (.Subscript o i pos) X.env v=(do
   let ov <- holding [v] (eval o X.env)
   let iv <- holding [v,ov] (eval i X.env)
   standAt pos
   holding [v,ov,iv] (setItem ov iv v)
   release [v,ov,iv] []):=by intro _;rfl):Eg X K Z (.Subscript o i pos) (gS fo fi):=by
 refine⟨ho.k,cqG (aEa ho.h hi.h xB ha) λv σ H Q ⟨μ,M,L,w,hr,lr,rx,p⟩=>?_⟩
 refine⟨μ,M,L,hr,lr,p.bind.imp λμ1 H1 M1 x e1 hr1 _ p1 vo ro=>?_⟩
 refine⟨μ1,M1,L,hr1,lr.ext hr.lsts e1,p1.bind.imp λμ2 H2 M2 y e2 hr2 _ p2 vi ri=>?_⟩
 cases x with
 |d x=>exact p2.elim
 |ob _ _=>exact p2.elim
 |nest _=>exact p2.elim
 |ref k=>cases y with
  |ref j=>exact p2.elim
  |ob _ _=>exact p2.elim
  |nest _=>exact p2.elim
  |d y=>cases y with
   |int j=>cases w with
    |ref q=>exact p2.elim
    |ob _ _=>exact p2.elim
    |nest _=>exact p2.elim
    |d z =>
     simp only at p2
     cases q1:M2[k]? with
     |none=>simp only[q1]at p2;exact p2.elim
     |some xs =>
      simp only[q1]at p2
      cases q2:ixN xs.length j with
      |none=>simp only[q2]at p2;exact p2.elim
      |some t =>
       simp only[q2]at p2
       have ro:=ro.ext hr1.lsts e2
       obtain⟨a,qa,rfl,il⟩:=ro
       obtain⟨a',vs,qa',h1,r1⟩:=hr2.at q1 qa
       rw[qa]at qa';cases qa'
       simp only[Rw,Rp]at ri
       subst ri
       have rz:=Rw.ext hr1.lsts e2 (Rw.ext hr.lsts e1 rx)
       refine⟨a,vs,j,t,rfl,rfl,h1,by rw[<- r1.length];exact q2,?_⟩
       exact p2 μ2 _ (eB qa) (hr2.set qa (Rps.set rz t r1)) σ ((lr.ext hr.lsts (e1.trans e2)).ext hr2.lsts (eB qa))
   |_=>exact p2.elim
def sAs(f:FE)(g:FG):FS:=λL M=>(f L M).bind λw M1=>(g w L M1).bind λL1 M2=>.ok (.nx L1) M2
theorem fK{tg:Expr}{g:FG}(he:Ev X K Z e f)(hg:Eg X K Z tg g)(hs:swapsWithSole [tg] e pos.line X.env=pure false:=by rfl)(hw:swappedStores [tg] e X.env=pure none:=by rfl)
  (h1:(assignEach [tg] X.env).map (·.2)=[assign tg X.env]:=by rfl):Es X K Z (.Assign [tg] e pos) (sAs f g):=by
 refine⟨he.k,cqS (aBx he.h hg.h hs hw h1) ?_⟩
 rintro E σ H ⟨μ,M,L,hr,lr,p⟩
 refine⟨μ,M,L,hr,lr,p.bind.imp λμ1 H1 M1 x e1 hr1 _ p1 v rx=>?_⟩
 exact⟨μ1,M1,L,x,hr1,lr.ext hr.lsts e1,rx,p1.bind.imp λμ2 H2 M2 L2 e2 hr2 _ p2 σ2 lr2=>p2 μ2 H2 .refl hr2 σ2 lr2⟩
theorem aT(hN:X.N.Nodup)(he:Ev X K Z e f)(hi:X.N[i]?=some x:=by rfl)(hx:Loc X.env.scope x:=by first|exact Or.inl rfl|exact Or.inr rfl)(hs:swapsWith e (some (.Name x pos')) pos.line X.env=pure false:=by rfl)
  (hf:X.fn x=true\/X.env.scope.names.lookup x=some .local:=by first|exact .inl rfl|exact .inr rfl|assumption):Es X K Z (.Assign [.Name x pos'] e pos) (sAs f (gN i)):=by
 refine⟨he.k,cqS (aEx hN hi hx he.h hs hf) ?_⟩
 rintro E σ H ⟨μ,M,L,hr,lr,p⟩
 refine⟨μ,M,L,hr,lr,p.bind.imp λμ1 H1 M1 x e1 hr1 _ p1 v rx=>?_⟩
 exact p1 μ1 H1 .refl hr1 _ (LR.set (lr.ext hr.lsts e1) rx)
def sPar(i j:Nat)(fs:FA):FS:=λL M=>(fs L M).bind λws M1=>match ws with
 |[v,w]=>.ok (.nx ((L.set i (some v)).set j (some w))) M1
 |_=>.bad
end
end
section
variable{K:Frag}{o:Expr}{fo:FE}{st:Stmt}{rest:List Stmt}{F G:FS}
theorem fB{y:Str}{px py pt:Pos}{kt k2 pt2}(hc:X.calm=true)(hN:X.N.Nodup)(ha:Ea X K Z [a,b] fs)(hi:X.N[i]?=some x:=by rfl)(hj:X.N[j]?=some y:=by rfl)(hij:i≠j:=by decide)
  (hx:X.env.scope.names.lookup x=some .local:=by rfl)(hy:X.env.scope.names.lookup y=some .local:=by rfl)
  (hw:swappedStores [.Tuple [.Name x px,.Name y py] kt pt] (.Tuple [a,b] k2 pt2) X.env=pure (some [x,y]):=by rfl)
  (hs:swapsWithSole [.Tuple [.Name x px,.Name y py] kt pt] (.Tuple [a,b] k2 pt2) pos.line X.env=pure false:=by rfl) :
  Es X K Z (.Assign [.Tuple [.Name x px,.Name y py] kt pt] (.Tuple [a,b] k2 pt2) pos) (sPar i j fs):=by
 refine⟨ha.k,cqS (aEt hc hN hi hj hij hx hy ha.h hw hs) ?_⟩
 rintro E σ H ⟨μ,M,L,hr,lr,p⟩
 refine⟨μ,M,L,hr,lr,p.bind.imp λμ1 H1 M1 ws e1 hr1 _ p1 vs rx=>?_⟩
 match ws,rx,p1 with
 |[],_,p1=>exact p1.elim
 |[_],_,p1=>exact p1.elim
 |[v,w],⟨v1,r,q1,q2,v2,r',q1',q2',q3⟩,p1 =>
  cases q3;subst q1' q1
  exact⟨v1,v2,rfl,p1 μ1 H1 .refl hr1 _ (LR.set (LR.set (lr.ext hr.lsts e1) q2) q2')⟩
 |_::_::_::_,_,p1=>exact p1.elim
noncomputable section
def pAppend(x y:W)(M:Mm):Oc W:=match x,y with
 |.ref k,.d d=>match M[k]? with
  |some xs=>if xs.length < 16777216 then .ok (.d .non) (M.set k (xs++[d]))else .bad
  |none=>.bad
 |_,_=>.bad
theorem aDo{k:Nat}(hr:HR K μ H M)(r:Rw K μ H (.ref k) v):tyV K "list" v H:=by
 obtain⟨a,q,rfl,il⟩:=r
 obtain⟨vs,h⟩:=il
 exact .inl ⟨rfl,vs,SqL.of h⟩
def eM1(g:W->W->Mm->Oc W)(fo fe:FE):FE:=λL M=>(fo L M).bind λx M1=>match x with
 |.ref k=>(fe L M1).bind λy M2=>g (.ref k) y M2
 |_=>.bad
theorem vD(ho:Ev X K Z o fo)(he:Ev X K Z e fa)(hbase:attributeBase o "append" X.env (eval o X.env)=eval o X.env:=by rfl)
  (hfew:((backTo cpos (starEach [e] X.env)).all (λx=>!x.1)&&(backToKw cpos (keywordEach [] X.env)).all (λx=>x.1.isSome)&&decide ([e].length+([]:List Keyword).length+(if([]:List Keyword).isEmpty then 0 else 1) < 30))=true:=by rfl)
  (hline:(apos.endLine==cpos.line)=true:=by rfl)(hs:starEach [e] X.env=(false,eval e X.env)::starEach [] X.env:=by rfl)(hplain:(backTo cpos (starEach [] X.env)).any (·.1)=false:=by rfl) :
  Ev X K Z (.Call (.Attribute o "append" apos) [e] [] cpos) (eM1 pAppend fo fa):=by
 have h:=aGs PySem.F.plainAttrs_list PySem.F.slot_list_append PySem.F.type_list_append mJ ho.h (bQ he.h dH hs) hbase hfew hline hs hplain
 rw[ho.k]at h
 refine⟨ho.k,cqE h ?_⟩
 rintro σ H Q ⟨μ,M,L,hr,lr,p⟩
 refine⟨μ,M,L,hr,lr,p.bind.imp λμ1 H1 M1 x e1 hr1 _ p1 v rx=>?_⟩
 cases x with
 |d x=>exact p1.elim
 |ob _ _=>exact p1.elim
 |nest _=>exact p1.elim
 |ref k =>
  refine⟨aDo hr1 rx,μ1,M1,L,hr1,lr.ext hr.lsts e1,p1.bind.imp λμ2 H2 M2 y e2 hr2 _ p2 u ry=>?_⟩
  cases y with
  |ref j=>exact p2.elim
  |ob _ _=>exact p2.elim
  |nest _=>exact p2.elim
  |d d =>
   simp only[pAppend]at p2
   cases q1:M2[k]? with
   |none=>simp only[q1]at p2;exact p2.elim
   |some xs =>
    simp only[q1]at p2
    split at p2
    ·rename_i hz
     obtain⟨a,qa,rfl,il⟩:=rx.ext hr1.lsts e2
     obtain⟨a',vs,qa',h1,r1⟩:=hr2.at q1 qa
     rw[qa]at qa';cases qa'
     refine⟨a,vs,u,rfl,rfl,h1,by rw[<- r1.length,aAY];exact hz,?_⟩
     exact p2 μ2 _ (eB qa) (hr2.set qa (r1.append (.cons ry .nil))) _ (by simp[Rw,Rp])
    ·exact p2.elim
abbrev FO:=Lc->Mm->Oc (Option Int)
def liftO(K:Frag)(Z:Zt)(f:FO):TO:=λσ H Q=>∃μ M L,HR K μ H M/\LR K μ H L σ/\Pst K Z μ H (f L M) λμ' H' _ w=>Q w H'
end
structure Eo(X:Cx)(K:Frag)(Z:Zt)(e:Option Expr)(f:FO):Prop where
 k:X.K=K
 h:PO X e (liftO K Z f)
noncomputable section
def oNo:FO:=λ_ M=>.ok none M
def oAt(f:FE):FO:=λL M=>(f L M).bind λw M1=>match w with
 |.d (.int i)=>.ok (some i) M1
 |_=>.bad
theorem cqO{oe:Option Expr}{t t':TO}(h:PO X oe t)(i:∀σ H Q,t' σ H Q->t σ H Q):PO X oe t':=λpins s σ H Q I q=>h pins s σ H Q I (i _ _ _ q)
theorem eP(hk:X.K=K:=by rfl):Eo X K Z none oNo:=⟨hk,cqO yU λσ H Q ⟨μ,M,L,hr,lr,p⟩=>p μ H .refl hr⟩
theorem eR(h:Ev X K Z e f):Eo X K Z (some e) (oAt f):=by
 refine⟨h.k,cqO (aBd h.h) ?_⟩
 rintro σ H Q ⟨μ,M,L,hr,lr,p⟩
 refine⟨μ,M,L,hr,lr,p.bind.imp λμ1 H1 M1 x e1 hr1 _ p1 v rx=>?_⟩
 cases x with
 |ref i=>exact p1.elim
 |ob _ _=>exact p1.elim
 |nest _=>exact p1.elim
 |d x=>cases x with
  |int i=>simp only[Rw,Rp]at rx;exact⟨i,rx,p1 μ1 H1 .refl hr1⟩
  |_=>exact p1.elim
def cut(xs:List α)(lo hi:Option Int):List α:=(xs.drop (HT.sIx xs.length 0 lo)).take (HT.sIx xs.length xs.length hi - HT.sIx xs.length 0 lo)
def pSl(x:W)(lo hi:Option Int)(M:Mm):Oc W:=match x with
 |.d (.tup xs)=>okD (.tup (cut xs lo hi)) M
 |x=>match lr M x with
  |some xs=>okD (.lst (cut xs lo hi)) M
  |none=>.bad
def eSl(f:FE)(fl fh:FO):FE:=λL M=>(f L M).bind λx M1=>(fl L M1).bind λlo M2=>(fh L M2).bind λhi M3=>pSl x lo hi M3
end
theorem uA{ds:List D}(r:Rps K μ H ds vs):Rps K μ H (cut ds lo hi) (cutV vs lo hi):=by
 unfold cut cutV
 rw[r.length]
 exact(r.drop _).take _
end
theorem jF:fillsNumberSlot (.type "tuple") "mul"=pure false :=
 PySem.fillsNumberSlot_seq (id:="tuple.__mul__") (r:=some (.builtin "tuple.__rmul__")) aET.lookup (by decide +kernel) F.slot_tuple_rmul.lookup (by decide +kernel)
theorem nO:seqRepeat? (.type "tuple")=pure (some (.builtin "tuple.__mul__")):=by
 unfold seqRepeat?
 rw[PySem.seqSlot_of (T:="tuple") (name:="__mul__") (id:="tuple.__mul__") aET.lookup (by decide +kernel),PySem.seqSlot_of (T:="tuple") (name:="__rmul__") (id:="tuple.__rmul__") F.slot_tuple_rmul.lookup (by decide +kernel)]
 rfl
theorem lJ(a:Int)(t:Tok)(l:Addr)(items:Array Value)(n:Nat)(dd:Option Addr)(sl:Array (Option Value)) :
  Meets (Builtin.«int.__rmul__» ⟨[.int a t,.ref l],[]⟩) (λ_ R s=>s.heap.get? l=some {cls:=.type "tuple",dict:=dd,data:=.seq items n,slots:=sl}/\R (.ok (.ret Value.notImplemented)) s) :=
 .of_wp λprog w A R s h=>by obtain⟨hp,g,d,tk,os⟩:=s;obtain⟨hl,h⟩:=h;wp_walk using aBB hl;exact⟨_,rfl,h⟩
theorem rS(l:Addr)(items:Array Value)(n:Nat)(dd:Option Addr)(sl:Array (Option Value))(x:Int)(u:Tok)(h1:(decide (x < -(2 ^ 63)) || decide (x>=2 ^ 63))=false)(h2:(items.isEmpty || x==1)=true) :
  Meets (Builtin.«tuple.__mul__» ⟨[.ref l,.int x u],[]⟩) (λ_ R s=>s.heap.get? l=some {cls:=.type "tuple",dict:=dd,data:=.seq items n,slots:=sl}/\R (.ok (.ret (Value.ref l))) s) :=
 .of_wp λprog w A R s h=>by
  obtain⟨hp,g,d,tk,os⟩:=s;obtain⟨hl,h⟩:=h
  have f1:=AutoSeq1.idx_int
  wp_walk using aBB hl
  refine aGM (by rw[h1];rfl) ?_
  wp_walk using aBB hl
  exact⟨_,rfl,h⟩
theorem rK(l:Addr)(items:Array Value)(n:Nat)(dd:Option Addr)(sl:Array (Option Value))(x:Int)(u:Tok)(h1:(decide (x < -(2 ^ 63)) || decide (x>=2 ^ 63))=false)(h2:(items.isEmpty || x==1)=false)(h3:(decide (x<=0) || items.isEmpty)=true) :
  Meets (Builtin.«tuple.__mul__» ⟨[.ref l,.int x u],[]⟩) (λ_ R s=>s.heap.get? l=some {cls:=.type "tuple",dict:=dd,data:=.seq items n,slots:=sl}/\R (.ok (.ret (Value.ref s.heap.objs.size))) {s with heap:=s.heap.push {cls:=Value.type "tuple",data:=Data.seq #[]},toks:=s.toks}) :=
 .of_wp λprog w A R s h=>by
  obtain⟨hp,g,d,tk,os⟩:=s;obtain⟨hl,h⟩:=h
  have f1:=AutoSeq1.idx_int
  wp_walk using aBB hl
  refine aGM (by rw[h1];rfl) ?_
  wp_walk using aBB hl
  exact⟨_,rfl,h⟩
theorem rA(l:Addr)(items:Array Value)(n:Nat)(dd:Option Addr)(sl:Array (Option Value))(x:Int)(u:Tok)(h1:(decide (x < -(2 ^ 63)) || decide (x>=2 ^ 63))=false)(h2:(items.isEmpty || x==1)=false)(h3:(decide (x<=0) || items.isEmpty)=false)
  (h4:¬((items.size:Int)*x > (2 ^ 63 - 1) / 8))(h5:¬Builtin.Tuple.tupleTooMany (items.size*x)=true)(hsz:(List.foldl (λx1 x2=>x1++x2) #[] (List.replicate x.toNat items)).size<=sizeLine) :
  Meets (Builtin.«tuple.__mul__» ⟨[.ref l,.int x u],[]⟩) (λ_ R s=>s.heap.get? l=some {cls:=.type "tuple",dict:=dd,data:=.seq items n,slots:=sl}/\R (.ok (.ret (Value.ref s.heap.objs.size))) {s with heap:=s.heap.push {cls:=Value.type "tuple",data:=Data.seq (List.foldl (λx1 x2=>x1++x2) #[] (List.replicate x.toNat items))},toks:=s.toks}) :=
 .of_wp λprog w A R s h=>by
  obtain⟨hp,g,d,tk,os⟩:=s;obtain⟨hl,h⟩:=h
  have f1:=AutoSeq1.idx_int
  wp_walk using aBB hl
  refine aGM (by rw[h1];rfl) ?_
  wp_walk using aBB hl
  refine aGM (aBW h4) ?_
  wp_walk using aBB hl
  exact⟨_,rfl,h⟩
variable{K:Frag}
noncomputable def rRepT(K:Frag):R2:=λx y H Q=>∃a k xs,x=.ref a/\y=.int k/\SqT K H a xs /\ -(2 ^ 63)<=k/\k < 2 ^ 63/\xs.length*k.toNat<=sizeLine /\
 ((xs=[]\/k=1)->Q (.ref a) H)/\∀p,H p=none->Q (.ref p) (upd H p (.tup (List.replicate k.toNat xs).flatten))
theorem kR(its:List Value)(m:Nat):List.foldl (λx1 x2=>x1++x2) #[] (List.replicate m its.toArray)=(List.replicate m its).flatten.toArray:=by
 have:=jO its m []
 rw[List.nil_append]at this
 exact this
theorem aAb:OpR X (binaryOp .Mult) (rRepT X.K):=by
 intro pins s σ H x y v u Q I rx ry h
 obtain⟨l,k,xs,rfl,rfl,hH,h1,h2,hz,qs,q⟩:=h
 cases rx
 obtain⟨t,rfl⟩:=ry
 obtain⟨its,r,pl,hsz⟩:=I.tuple hH
 obtain⟨⟨cls,dd,data,sl⟩,ho,hc,n,hd⟩:=id pl
 simp only at hc hd
 subst hc hd
 have hl:=r.length
 have b1:(decide (k < -(2 ^ 63)) || decide (k>=2 ^ 63))=false:=by
  rw[aGG];exact⟨aBW (by lia),aBW (by lia)⟩
 refine wpAny_binaryOp_repeat_ref (T:="tuple") (U:="int") (by decide) ⟨_,ho,rfl⟩ (λs'=>aHC s' k t) jF F.fills_int_mul aGF nO F.slot_int_index.lookup
  (aFI aGF (aHC s k t) F.entry_int_rmul (F.args_int_rmul_2 _ _) (lJ k t l its.toArray n dd sl) ⟨ho,rfl,⟨_,ho,rfl⟩,?_⟩)
 by_cases hs:xs=[]\/k=1
 ·refine aFI aET ⟨_,ho,rfl⟩ aGX (aGV _ _) (rS l its.toArray n dd sl k t b1 ?_) ⟨ho,⟨.ref l,H,I,rfl,qs hs⟩⟩
  rcases hs with hs|hs
  ·subst hs
   have:its=[]:=by simpa using hl.symm
   simp[this]
  ·simp[hs]
 ·have hne:its≠[]:=λz=>hs (.inl (by subst z;simpa using hl))
  have hn1:(its.toArray.isEmpty || k==1)=false:=by
   rw[aGG];exact⟨by simpa using hne,by simp;exact λz=>hs (.inr z)⟩
  by_cases h0:k<=0
  ·refine aFI aET ⟨_,ho,rfl⟩ aGX (aGV _ _) (rK l its.toArray n dd sl k t b1 hn1 (by simp[h0])) ⟨ho,?_⟩
   have e:(List.replicate k.toNat xs).flatten=[]:=by rw[show k.toNat=0 by lia];rfl
   have q:=q s.heap.objs.size I.fresh
   rw[e]at q
   refine⟨.ref s.heap.objs.size,_,I.laid (t':=s.toks) (o:=.tup []) (λb ob q=>aAB _ q) (aAE _) ?_,rfl,q⟩
   exact⟨aCL _,[],.nil,IsTup.new _ _⟩
  ·have hk:((k.toNat:Nat):Int)=k:=by lia
   have hz':its.length*k.toNat<=sizeLine:=by rw[<- hl];exact hz
   have hcast:((its.toArray.size:Nat):Int)*k=((its.length*k.toNat:Nat):Int):=by
    rw[aAK,Int.natCast_mul,hk]
   have hs24:(sizeLine:Nat)=16777216:=aAY
   refine aFI aET ⟨_,ho,rfl⟩ aGX (aGV _ _) (rA l its.toArray n dd sl k t b1 hn1 ?_ ?_ ?_ ?_) ⟨ho,?_⟩
   ·rw[aGG];exact⟨aBW h0,by simpa using hne⟩
   ·rw[hcast];lia
   ·unfold Builtin.Tuple.tupleTooMany
    rw[hcast]
    intro z
    have z:=aFL z
    lia
   ·rw[kR,aAK,oO,Nat.mul_comm];exact hz'
   ·rw[kR]
    refine⟨.ref s.heap.objs.size,_,I.laid (t':=s.toks) (o:=.tup (List.replicate k.toNat xs).flatten) (λb ob q=>aAB _ q) (aAE _) ?_,rfl,q _ I.fresh⟩
    exact⟨by rw[oO,Nat.mul_comm];exact hz,_,r.rep k.toNat,IsTup.new _ _⟩
noncomputable def pMulA(x y:W)(M:Mm):Oc W:=match x,y with
 |.d (.tup xs),.d (.int k)=>if xs.length*k.toNat<=16777216/\k < 9223372036854775808 /\ -9223372036854775808<=k then okD (.tup (List.replicate k.toNat xs).flatten) M else .bad
 |x,y=>pMul x y M
theorem opMulA:OpG X K Z (binaryOp .Mult) pMulA:=λhk=>by
 obtain⟨r,h1,h2⟩:=(opMul (X:=X) (K:=K) (Z:=Z)) hk
 refine⟨_,OpR.or (hk▸aAb) h1,?_⟩
 intro μ H M x y v u Q hr rx ry p
 have gen:=λp=>(Or.inr (h2 μ H M x y v u Q hr rx ry p):rRepT K v u H Q\/r v u H Q)
 cases x with
 |ref i=>exact gen (by cases y with|ref j=>exact p|ob _ _=>exact p|nest _=>exact p|d y=>cases y <;> exact p)
 |ob _ _=>exact gen (by cases y with|ref j=>exact p|ob _ _=>exact p|nest _=>exact p|d y=>cases y <;> exact p)
 |nest _=>exact gen (by cases y with|ref j=>exact p|ob _ _=>exact p|nest _=>exact p|d y=>cases y <;> exact p)
 |d x=>cases x with
  |tup xs=>cases y with
   |ref j=>exact gen p
   |ob _ _=>exact gen p
   |nest _=>exact gen p
   |d y=>cases y with
    |int k =>
     simp only[pMulA]at p
     split at p
     ·rename_i hz
      have rx':=rx
      simp only[Rw,Rp]at rx ry
      obtain⟨a,vs,rfl,q1,r1⟩:=rx
      refine .inl ⟨a,k,vs,rfl,ry,SqT.of q1,hz.2.2,hz.2.1,by rw[<- r1.length,aAY];exact hz.1,λe=>?_,gC hr (r1.rep k.toNat) p⟩
      refine p μ H .refl hr _ ?_
      have:(List.replicate k.toNat xs).flatten=xs:=by
       rcases e with e|e
       ·subst e
        have:xs=[]:=by have:=r1.length;simpa using this
        subst this;simp
       ·subst e;simp[List.replicate]
      rw[this];exact rx'
     ·exact p.elim
    |_=>exact gen p
  |_=>exact gen (by cases y with|ref j=>exact p|ob _ _=>exact p|nest _=>exact p|d y=>cases y <;> exact p)
end EV
end
variable{M M':EV.Mm}{f fa fb fc fo fi:EV.FE}{L:EV.Lc}{Z:EV.Zt}{F:EV.FS}{Fm:EV.Fn}{QS:EV.Out->EV.Mm->Prop}{QG:EV.Lc->EV.Mm->Prop}{QO:Option Int->EV.Mm->Prop}{EX:EV.Exn->EV.Mm->Prop}
section
open PySem PySem.Spec PyProof.Rows
namespace HT
variable{prog:Program}{E:Value->Shared->Prop}
theorem getItem_tuple_whole{t sl:Addr}{vl vu:Value}(ht:IsTup s.heap t items)(hs:s.heap.IsSliceOf sl vl vu .none)(pl:IsPart vl lo)(pu:IsPart vu hi)
  (hw:sIx items.size 0 lo=0/\sIx items.size items.size hi=items.size)(h:Q (.ref t) s):wpAny (model prog w) A (getItem (.ref t) (.ref sl)) Q E s:=by
 obtain⟨os,hos,hcs,hds⟩:=id hs
 have hTs:s.TypeIs (.ref sl) "slice":=⟨os,hos,hcs⟩
 unfold getItem
 try with_reducible refine aBV ?_
 first|refine aAA (aAC ?_)|skip
 refine aAA (wpAny_sequenceKey ht.typeIs (by decide) ?_)
 refine aAA (aBT (name:=Str.ofString "__getitem__") ht.typeIs aBS
  (aBQ aBS ht.typeIs entry_tuple_getitem ?_ (args_tuple_getitem _ _)))
 show wpAny _ _ (Builtin.Tuple.tupleItemsOf (.ref t) >>= _) _ _ s
 refine aAA (tupleItemsOf_ ht ?_)
 refine aAA (aEO hTs ?_)
 rw[aAH (by decide)]
 refine aAA (eM hs pl pu ?_)
 have hyes:((((sIx items.size 0 lo:Nat):Int)==0&&(1:Int)==1&&(sIx items.size items.size hi - sIx items.size 0 lo)==items.size)=true):=by
  rw[hw.1,hw.2];simp
 show wpAny _ _ (if(((sIx items.size 0 lo:Nat):Int)==0&&(1:Int)==1&&(sIx items.size items.size hi - sIx items.size 0 lo)==items.size)=true then _ else _) _ _ s
 rw[aAH hyes]
 refine aAA (m:=Builtin.Tuple.tupleIsExact _) ?_
 unfold Builtin.Tuple.tupleIsExact
 refine aAA (aEO ht.typeIs (aAC ?_))
 show wpAny _ _ (if((Value.type "tuple"==Value.type "tuple")=true)then _ else _) _ _ s
 rw[aAH (by decide)]
 first
  |exact aAA (aCO (aAC ⟨_,rfl,aAC h⟩))
  |exact aAA (aCO (aAA (aAC ⟨_,rfl,aAC h⟩)))
  |exact aAA (aCO (aAA (aAC (aAC ⟨_,rfl,aAC h⟩))))
end HT
namespace EV
open L2
theorem iR(K:Frag):PySem.W.kitOne K (.type "NoneType") (.type "bool")=some false:=by with_unfolding_all rfl
theorem lU(K:Frag):PySem.W.kitOne K (.type "bool") (.type "bool")=some true:=by with_unfolding_all rfl
theorem mX(K:Frag):PySem.W.kitOne K (.type "int") (.type "bool")=some false:=by with_unfolding_all rfl
theorem nZ(K:Frag):PySem.W.kitOne K (.type "str") (.type "bool")=some false:=by with_unfolding_all rfl
theorem lS(K:Frag):PySem.W.kitOne K (.type "list") (.type "bool")=some false:=by with_unfolding_all rfl
theorem lB(K:Frag):PySem.W.kitOne K (.type "tuple") (.type "bool")=some false:=by with_unfolding_all rfl
section
variable{K:Frag}{e a b o:Expr}{es:List Expr}{fs:FA}{st:Stmt}{rest:List Stmt}{G:FS}
noncomputable section
def rSlA(K:Frag):V->Option Int->Option Int->Hp->VK->Prop:=λx lo hi H Q=>∃a xs,x=.ref a/\SqT K H a xs /\
 ((HT.sIx xs.length 0 lo=0/\HT.sIx xs.length xs.length hi=xs.length)->Q (.ref a) H)/\∀p,H p=none->Q (.ref p) (upd H p (.tup (cutV xs lo hi)))
theorem yT:SlR X (rSlA X.K):=by
 intro pins s σ H x v vl vu lo hi sl Q I rx hs pl pu h
 obtain⟨a,xs,rfl,hx,q1,q2⟩:=h
 by_cases hw:HT.sIx xs.length 0 lo=0/\HT.sIx xs.length xs.length hi=xs.length
 ·cases rx
  obtain⟨its,r,ht,hz⟩:=I.tuple hx
  have hlen:its.toArray.size=xs.length:=by rw[aAK];exact r.length.symm
  refine⟨"tuple",_,aBS.lookup,ht.typeIs,?_⟩
  exact HT.getItem_tuple_whole ht hs pl pu (by rw[hlen];exact hw) ⟨.ref a,H,I,rfl,q1 hw⟩
 ·exact aEm pins s σ H _ v vl vu lo hi sl Q I rx hs pl pu ⟨a,xs,rfl,hx,hw,q2⟩
theorem uB{xs:List D}(h:HT.sIx xs.length 0 lo=0/\HT.sIx xs.length xs.length hi=xs.length):cut xs lo hi=xs:=by
 unfold cut;rw[h.1,h.2];simp
theorem iA{x:W}{Q:VK}(hr:HR K μ H M)(rx:Rw K μ H x v)(p:Pst K Z μ H (match lr M x with
  |some xs=>okD (.lst (cut xs lo hi)) M
  |none=>.bad) (Wk K Q)):rSlL K v lo hi H Q:=by
 cases q1:lr M x with
 |none=>rw[q1]at p;exact p.elim
 |some xs =>
  rw[q1]at p
  obtain⟨a,vs,rfl,h1,r1⟩:=sZ hr rx q1
  exact⟨a,vs,rfl,h1,dZ hr (uA r1) p⟩
theorem bR{lo hi:Option Expr}{fl fh:FO}(he:Ev X K Z e f)(hl:Eo X K Z lo fl)(hh:Eo X K Z hi fh):Ev X K Z (.Subscript e (.Slice lo hi none p2) pos) (eSl f fl fh):=by
 have h:=xV (p2:=p2) (pos:=pos) (SlR.or (yT (X:=X)) aBo) he.h hl.h hh.h
 rw[he.k]at h
 refine⟨he.k,cqE h ?_⟩
 rintro σ H Q ⟨μ,M,L,hr,lr,p⟩
 refine⟨μ,M,L,hr,lr,p.bind.imp λμ1 H1 M1 x e1 hr1 _ p1 v rx=>?_⟩
 refine⟨μ1,M1,L,hr1,lr.ext hr.lsts e1,p1.bind.imp λμ2 H2 M2 l e2 hr2 _ p2=>?_⟩
 refine⟨μ2,M2,L,hr2,lr.ext hr.lsts (e1.trans e2),p2.bind.imp λμ3 H3 M3 u e3 hr3 _ p3=>?_⟩
 have rx:=rx.ext hr1.lsts (e2.trans e3)
 cases x with
 |ref i=>exact .inr (iA hr3 rx p3)
 |ob _ _=>exact .inr (iA hr3 rx p3)
 |nest _=>exact .inr (iA hr3 rx p3)
 |d x=>cases x with
  |tup xs =>
   have rx':=rx
   simp only[Rw,Rp]at rx
   obtain⟨a,vs,rfl,q1,r1⟩:=rx
   refine .inl ⟨a,vs,rfl,SqT.of q1,λhw=>?_,gC hr3 (uA r1) p3⟩
   refine p3 μ3 H3 .refl hr3 _ ?_
   rw[uB (by rw[r1.length];exact hw)]
   exact rx'
  |_=>exact .inr (iA hr3 rx p3)
def isT(T:String)(M:Mm):W->Option Bool
 |.d .non=>some false
 |.d (.bl _)=>some (T=="bool" || T=="int")
 |.d (.int _)=>some (T=="int")
 |.d (.str _)=>some (T=="str")
 |.d (.tup _)=>some (T=="tuple")
 |.d (.lst _)=>some (T=="list")
 |.d (.fz _)=>none
 |.d (.exn _ _ _)=>none
 |.ref _=>some (T=="list")
 |.ob _ _=>none
 |.nest _=>none
def pIsI(T:String)(x:W)(M:Mm):Oc W:=match isT T M x with
 |some b=>.ok (.d (.bl b)) M
 |none=>.bad
end
structure KitT(T:String):Prop where
 non:∀K,PySem.W.kitOne K (.type "NoneType") (.type T)=some false
 bl:∀K,PySem.W.kitOne K (.type "bool") (.type T)=some (T=="bool" || T=="int")
 int:∀K,PySem.W.kitOne K (.type "int") (.type T)=some (T=="int")
 str:∀K,PySem.W.kitOne K (.type "str") (.type T)=some (T=="str")
 tup:∀K,PySem.W.kitOne K (.type "tuple") (.type T)=some (T=="tuple")
 lst:∀K,PySem.W.kitOne K (.type "list") (.type T)=some (T=="list")
theorem zB:KitT "bool":=⟨iR,lU,mX,nZ,lB,lS⟩
theorem aDd{T:String}(k:KitT T){x:W}{c:Bool}(hr:HR K μ H M)(rx:Rw K μ H x v)(h:isT T M x=some c):∃t,TyOf K H v t/\PySem.W.kitOne K t (.type T)=some c:=by
 cases x with
 |ref i =>
  simp only[isT,aAO]at h;subst h
  obtain⟨a,q,rfl,il⟩:=rx
  obtain⟨vs,h⟩:=il
  exact⟨_,.lst h,k.lst K⟩
 |ob _ _=>simp[isT]at h
 |nest _=>simp[isT]at h
 |d x=>cases x with
  |non=>simp only[isT,aAO]at h;subst h;simp only[Rw,Rp]at rx;subst rx;exact⟨_,.non,k.non K⟩
  |bl y=>simp only[isT,aAO]at h;subst h;simp only[Rw,Rp]at rx;subst rx;exact⟨_,.bl y,k.bl K⟩
  |int y=>simp only[isT,aAO]at h;subst h;simp only[Rw,Rp]at rx;subst rx;exact⟨_,.int y,k.int K⟩
  |str y=>simp only[isT,aAO]at h;subst h;simp only[Rw,Rp]at rx;subst rx;exact⟨_,.str y,k.str K⟩
  |tup y=>simp only[isT,aAO]at h;subst h;simp only[Rw,Rp]at rx;obtain⟨a,vs,rfl,q1,_⟩:=rx;exact⟨_,.tup q1,k.tup K⟩
  |lst y=>simp only[isT,aAO]at h;subst h;simp only[Rw,Rp]at rx;obtain⟨a,vs,rfl,q1,_⟩:=rx;exact⟨_,.lst q1,k.lst K⟩
  |fz y=>simp[isT]at h
  |exn c f y=>simp[isT]at h
theorem aEp{T:String}(kt:KitT T)(hm:X.mg "isinstance"=none)(hmT:X.mg x=none)(hvT:bootBuiltins x=some (.type T))(he:Ev X K Z e f)(hg:Gl X "isinstance":=by rfl)(hgT:Gl X x:=by rfl)(hn:x≠"__name__":=by decide)(hd:(x==("__debug__":Str))=false:=by decide)
  (hs:starEach [e,.Name x q] X.env=(false,eval e X.env)::starEach [.Name x q] X.env:=by rfl)(hs2:starEach [.Name x q] X.env=(false,eval (.Name x q) X.env)::starEach [] X.env:=by rfl)(hpl:(backTo pos (starEach [.Name x q] X.env)).any (·.1)=false:=by rfl) :
  Ev X K Z (.Call (.Name "isinstance" p) [e,.Name x q] [] pos) (e1 (pIsI T) f):=by
 have h:=iT (pos:=pos) (p:=p) oP hg hm eG (bQ he.h (bQ (tF (v:=.ty T) hgT hmT hvT rfl hn hd) dH hs2) hs) (by decide) (by decide) hs hpl
 rw[he.k]at h
 refine⟨he.k,cqE h ?_⟩
 rintro σ H Q ⟨μ,M,L,hr,lr,p⟩
 refine⟨μ,M,L,hr,lr,p.bind.imp λμ1 H1 M1 x e1 hr1 _ p1 v rx=>?_⟩
 unfold pIsI at p1
 cases q:isT T M1 x with
 |none=>rw[q]at p1;exact p1.elim
 |some c =>
  rw[q]at p1
  obtain⟨t,h1,h2⟩:=aDd kt hr1 rx q
  exact⟨v,T,t,c,rfl,h1,h2,p1 μ1 H1 .refl hr1 _ (by simp[Rw,Rp])⟩
noncomputable section
def flatD(d:D):Bool:=(fv d).isSome
def pInG(neg:Bool)(x y:W)(M:Mm):Oc W:=match x,sv M y with
 |.d d,some xs=>if flatD d=true/\xs.all flatD=true then .ok (.d (.bl (if neg then !(xs.any λy=>eqD y d)else xs.any λy=>eqD y d))) M else .bad
 |_,_=>.bad
theorem sQ:∀{xs:List D} {vs:List V} {d:D} {v:V},Rps K μ H xs vs->xs.all flatD=true->Rp K μ H d v->flatD d=true->vs.all flatV=true/\inV v vs=xs.any (λy=>eqD y d)
 |[],_,_,_,h,_,_,_=>by simp only[Rps]at h;subst h;exact⟨rfl,rfl⟩
 |x::xs,_,d,v,h,hf,hd,hfd=>by
  simp only[Rps]at h
  obtain⟨u,r,rfl,e2,e3⟩:=h
  rw[aFT,aBO]at hf
  obtain⟨i1,i2⟩:=sQ e3 hf.2 hd hfd
  obtain⟨w,hw⟩:=aDE.mp hf.1
  obtain⟨w2,hw2⟩:=aDE.mp hfd
  obtain⟨rfl,f1⟩:=mG hw e2
  obtain⟨rfl,f2⟩:=mG hw2 hd
  refine⟨by rw[aFT,f1,i1];rfl,?_⟩
  show(eqV u v || inV v r)=_
  rw[i2,wK hw hw2,aEB]
theorem yB(neg:Bool):Op2 K Z (rIn K neg) (pInG neg):=by
 intro μ H M x y v u Q hr rx ry p
 cases x with
 |ref i=>exact p.elim
 |ob _ _=>exact p.elim
 |nest _=>exact p.elim
 |d d =>
  simp only[pInG]at p
  cases q:sv M y with
  |none=>rw[q]at p;exact p.elim
  |some xs =>
   rw[q]at p
   simp only at p
   split at p
   ·rename_i hz
    obtain⟨a,vs,rfl,h1,r1⟩:=tR hr ry q
    obtain⟨i1,i2⟩:=sQ r1 hz.2 rx hz.1
    obtain⟨w,hw⟩:=aDE.mp hz.1
    obtain⟨rfl,f1⟩:=mG hw rx
    refine⟨a,vs,rfl,h1,f1,i1,p μ H .refl hr _ ?_⟩
    simp only[Rw,Rp]
    cases neg <;> simp[i2]
   ·exact p.elim
abbrev pIn:=pInG false
abbrev pNotIn:=pInG true
end
theorem opIn:OpG X K Z (compareOp .In) pIn:=λhk=>⟨_,hk▸uO,yB false⟩
theorem opNotIn:OpG X K Z (compareOp .NotIn) pNotIn:=λhk=>⟨_,hk▸oN,yB true⟩
end
noncomputable def whileD(t:FT)(B:FS):Nat->FS
 |0=>λ_ _=>.bad
 |n+1=>λL M=>(t L M).bind λb M1=>if b=true then(B L M1).bind λo M2=>match o with
   |.nx L2=>whileD t B n L2 M2
   |.ct L2=>whileD t B n L2 M2
   |.bk L2=>.ok (.nx L2) M2
   |.rt w=>.ok (.rt w) M2
  else .ok (.nx L) M1
inductive Ck
 |one (t:Nat)
 |two (t:Nat) (ys:List D)
noncomputable instance:Coe Nat Ck:=⟨.one⟩
noncomputable def Ck.ok(ds:List D)(M:Mm):Ck->Prop
 |.one t=>M[t]?=some ds
 |.two t ys=>M[t]?=some ys
structure Src where
 ds:List D
 k:Option Ck
noncomputable abbrev FI:=Lc->Mm->Oc Src
noncomputable def Chk(s:Src)(M:Mm):Prop:=∀t,s.k=some t->t.ok s.ds M
open Classical in
noncomputable def forD(s:Src)(g:FG)(B:FS):List D->FS
 |[]=>λL M=>if Chk s M then .ok (.nx L) M else .bad
 |d::r=>λL M=>if Chk s M then(g (.d d) L M).bind λL1 M1=>(B L1 M1).bind λo M2=>match o with
   |.nx L2=>forD s g B r L2 M2
   |.ct L2=>forD s g B r L2 M2
   |.bk L2=>.ok (.nx L2) M2
   |.rt w=>.ok (.rt w) M2
  else .bad
noncomputable section
def sFor(fi:FI)(g:FG)(B:FS):FS:=λL M=>(fi L M).bind λs M1=>forD s g B s.ds L M1
def ItOk(K:Frag)(μ:List Addr)(H:Hp)(s:Src)(J:It):Prop :=
 ∃S:List Addr->Hp->Prop,S μ H/\(∀μ1 H1 μ2 H2,Lsts μ1 H1->S μ1 H1->Ext μ1 H1 μ2 H2->S μ2 H2) /\
  ∀μ1 H1 M1 i,HR K μ1 H1 M1->S μ1 H1->Chk s M1 ->
   (∀d,s.ds[i]?=some d->J.go i H1/\∀x H2,J.yld i H1 x H2->Ext μ1 H1 μ1 H2/\HR K μ1 H2 M1/\Rp K μ1 H2 d x)/\(s.ds.length<=i->J.stop i H1)
def liftI(K:Frag)(Z:Zt)(fi:FI):TI:=λσ H R=>∃μ M L,HR K μ H M/\LR K μ H L σ/\Pst K Z μ H (fi L M) λμ' H' _ s=>∀J,ItOk K μ' H' s J->R J H'
end
structure Ei(X:Cx)(K:Frag)(Z:Zt)(tg iter:Expr)(fi:FI):Prop where
 k:X.K=K
 h:PI X tg iter (liftI K Z fi)
variable{tg iter:Expr}
theorem cqI{t t':TI}(h:PI X tg iter t)(i:∀σ H Q,t' σ H Q->t σ H Q):PI X tg iter t':=λpins s σ H Q I q=>h pins s σ H Q I (i _ _ _ q)
section
variable{K:Frag}{e a b o:Expr}{es:List Expr}{fs:FA}{st:Stmt}{rest:List Stmt}{G:FS}{B:FS}
theorem lN{c:Expr}{t:FT}(n:Nat)(hp:PassesOwn (model X.prog X.w) X.A X.env X.xe)(hc:Et X K Z c t)(hb:Ess X K Z body B):Es X K Z (.While c body [] pos) (whileD t B n):=by
 refine⟨hc.k,cqS (wN hp hc.h hb.h) ?_⟩
 rintro E σ H ⟨μ,M,L,hr,lr,p⟩
 refine⟨λm σ H=>∃μ M L,HR K μ H M/\LR K μ H L σ/\Pst K Z μ H (whileD t B m L M) (Sk K E),⟨n,μ,M,L,hr,lr,p⟩,?_⟩
 rintro m σ H ⟨μ,M,L,hr,lr,p⟩
 cases m with
 |zero=>exact p.elim
 |succ m =>
  refine⟨μ,M,L,hr,lr,(show Pst K Z μ H ((t L M).bind _) _ from p).bind.imp λμ1 H1 M1 b e1 hr1 _ p1=>?_⟩
  cases b with
  |false=>exact p1 μ1 H1 .refl hr1 σ (lr.ext hr.lsts e1)
  |true =>
   refine⟨λσ' H'=>∃μ M L,HR K μ H' M/\LR K μ H' L σ'/\Pst K Z μ H' (whileD t B m L M) (Sk K E),λσ' H' q=>⟨m,Nat.lt_succ_self m,q⟩,?_⟩
   refine⟨μ1,M1,L,hr1,lr.ext hr.lsts e1,(show Pst K Z μ1 H1 ((B L M1).bind _) _ from p1).bind.imp λμ2 H2 M2 o e2 hr2 _ p2=>?_⟩
   cases o with
   |nx L2=>exact λσ' lr'=>⟨μ2,M2,L2,hr2,lr',p2⟩
   |ct L2=>exact λσ' lr'=>⟨μ2,M2,L2,hr2,lr',p2⟩
   |bk L2=>exact p2 μ2 H2 .refl hr2
   |rt w=>exact p2 μ2 H2 .refl hr2
theorem hV{fi:FI}{g:FG}(hp:PassesOwn (model X.prog X.w) X.A X.env X.xe)(hc:X.calm=true)(hi:Ei X K Z tg iter fi)(hg:Eg X K Z tg g)(hb:Ess X K Z body B)
  (hs:∀x,foldedSetIterable iter X.env x=pure x:=by intro _;rfl):Es X K Z (.For tg iter body [] pos) (sFor fi g B):=by
 refine⟨hi.k,cqS (aEo hp hc hi.h hg.h hb.h hs) ?_⟩
 rintro E σ H ⟨μ,M,L,hr,lr,p⟩
 refine⟨μ,M,L,hr,lr,p.bind.imp λμ1 H1 M1 s e1 hr1 _ p1 J hJ=>?_⟩
 obtain⟨S,s0,sx,step⟩:=hJ
 refine⟨λi m σ H=>m=s.ds.length - i/\i<=s.ds.length/\∃μ M L,HR K μ H M/\LR K μ H L σ/\S μ H/\Pst K Z μ H (forD s g B (s.ds.drop i) L M) (Sk K E),⟨s.ds.length,by simp,aCL _,μ1,M1,L,hr1,lr.ext hr.lsts e1,s0,by simpa using p1⟩,?_⟩
 rintro i m σ H ⟨rfl,hi,μ,M,L,hr,lr,sS,p⟩
 by_cases hlt:i < s.ds.length
 ·rw[aBY hlt]at p
  unfold forD at p
  split at p
  ·rename_i hch
   obtain⟨go,yl⟩:=(step μ H M i hr sS hch).1 s.ds[i] (by simp[hlt])
   refine .inr ⟨go,λσ' H'=>i+1<=s.ds.length/\∃μ M L,HR K μ H' M/\LR K μ H' L σ'/\S μ H'/\Pst K Z μ H' (forD s g B (s.ds.drop (i+1)) L M) (Sk K E),λσ' H' q=>⟨s.ds.length - (i+1),by lia,rfl,q.1,q.2⟩,λx H2 y=>?_⟩
   obtain⟨e2,hr2,rx⟩:=yl x H2 y
   have lr2:=lr.ext hr.lsts e2
   have s2:=sx _ _ _ _ hr.lsts sS e2
   refine⟨μ,M,L,.d s.ds[i],hr2,lr2,rx,(Pst.mono e2 p).bind.imp λμ3 H3 M3 L3 e3 hr3 _ p3 σ3 lr3=>?_⟩
   refine⟨μ3,M3,L3,hr3,lr3,p3.bind.imp λμ4 H4 M4 o e4 hr4 _ p4=>?_⟩
   have s4:=sx _ _ _ _ hr3.lsts (sx _ _ _ _ hr2.lsts s2 e3) e4
   cases o with
   |nx L4=>exact λσ' lr'=>⟨hlt,μ4,M4,L4,hr4,lr',s4,p4⟩
   |ct L4=>exact λσ' lr'=>⟨hlt,μ4,M4,L4,hr4,lr',s4,p4⟩
   |bk L4=>exact p4 μ4 H4 .refl hr4
   |rt w=>exact p4 μ4 H4 .refl hr4
  ·exact p.elim
 ·have e:i=s.ds.length:=by lia
  subst e
  rw[aEJ (aAE _)]at p
  unfold forD at p
  split at p
  ·rename_i hch
   exact .inl ⟨(step μ H M _ hr sS hch).2 (aAE _),p μ H .refl hr σ lr⟩
  ·exact p.elim
theorem yK{ds:List D}:Chk ⟨ds,none⟩ M:=λt h=>by cases h
@[simp]theorem aAk{ds:List D}:Chk ⟨ds,none⟩ M ↔ True:=⟨λ_=>trivial,λ_=>yK⟩
@[simp]theorem zZ{ds:List D}{t:Nat}:Chk ⟨ds,some t⟩ M ↔ M[t]?=some ds:=⟨λh=>h t rfl,λh t' e=>by cases e;exact h⟩
noncomputable def iSq(K:Frag)(tl:TE):TI:=λσ H R=>tl σ H λx H1=>∃a,x=.ref a/\(((∃xs,SqL K H1 a xs)/\R (Itl K a) H1)\/((∃xs,SqT K H1 a xs)/\R (Itt K a) H1))
theorem aFw{l:Expr}{tl:TE}(hl:PE X l tl):PI X tg l (iSq X.K tl):=by
 intro pins s σ H R I h
 refine thn (hl pins s σ H _ I h) λv s1 ⟨x,H1,I1,r1,q1⟩=>?_
 obtain⟨a,e,⟨⟨xs,hq⟩,q⟩|⟨⟨xs,hq⟩,q⟩⟩:=q1
 ·subst e
  cases r1
  obtain⟨its,rv,p,hz⟩:=I1.list hq
  refine wpAny_pyIter_list p.isList ?_
  refine⟨s1.heap.objs.size,[s1.heap.objs.size],_,_,H1,rfl,I1.kept (t':=s1.toks) λb o e=>aAB _ e,uX a _,⟨_,aAM _ rfl,rfl,rfl⟩,λb hb=>?_,q⟩
  have e:b=s1.heap.objs.size:=by simpa using hb
  subst e
  exact I1.fpOk (aAE _) (I1.hok.fresh (aAE _))
 ·subst e
  cases r1
  obtain⟨its,rv,p,hz⟩:=I1.tuple hq
  refine aGQ (show s1.heap.IsTuple a its.toArray from p) ?_
  refine⟨s1.heap.objs.size,[s1.heap.objs.size],_,_,H1,rfl,I1.kept (t':=s1.toks) λb o e=>aAB _ e,rD a _,⟨_,aAM _ rfl,rfl,rfl⟩,λb hb=>?_,q⟩
  have e:b=s1.heap.objs.size:=by simpa using hb
  subst e
  exact I1.fpOk (aAE _) (I1.hok.fresh (aAE _))
noncomputable def srcOf(M:Mm):W->Option Src
 |.d (.tup xs)=>some ⟨xs,none⟩
 |.d (.lst xs)=>some ⟨xs,none⟩
 |.d (.fz xs)=>some ⟨xs,none⟩
 |.ref t=>(M[t]?).map λxs=>⟨xs,some t⟩
 |_=>none
noncomputable def iE(f:FE):FI:=λL M=>(f L M).bind λw M1=>match srcOf M1 w with
 |some s=>.ok s M1
 |none=>.bad
variable{s:Src}
theorem rM{a:Addr}(S:List Addr->Hp->Prop)(s0:S μ H)(sx:∀μ1 H1 μ2 H2,Lsts μ1 H1->S μ1 H1->Ext μ1 H1 μ2 H2->S μ2 H2)
  (rd:∀μ1 H1 M1,HR K μ1 H1 M1->S μ1 H1->Chk s M1->∃vs,SqL K H1 a vs/\Rps K μ1 H1 s.ds vs):ItOk K μ H s (Itl K a):=by
 refine⟨S,s0,sx,λμ1 H1 M1 i hr hS hc=>?_⟩
 obtain⟨vs,h1,r1⟩:=rd μ1 H1 M1 hr hS hc
 refine⟨λd hd=>?_,λhl=>⟨vs,h1,by rw[<- r1.length];exact hl⟩⟩
 obtain⟨v,q1,q2⟩:=r1.get hd
 refine⟨⟨vs,v,h1,q1⟩,λx H2 y=>?_⟩
 obtain⟨rfl,y⟩:=y
 have:=y vs h1
 rw[q1]at this
 cases this
 exact⟨.refl,hr,q2⟩
theorem aDe{a:Addr}(S:List Addr->Hp->Prop)(s0:S μ H)(sx:∀μ1 H1 μ2 H2,Lsts μ1 H1->S μ1 H1->Ext μ1 H1 μ2 H2->S μ2 H2)
  (rd:∀μ1 H1 M1,HR K μ1 H1 M1->S μ1 H1->Chk s M1->∃vs,SqT K H1 a vs/\Rps K μ1 H1 s.ds vs):ItOk K μ H s (Itt K a):=by
 refine⟨S,s0,sx,λμ1 H1 M1 i hr hS hc=>?_⟩
 obtain⟨vs,h1,r1⟩:=rd μ1 H1 M1 hr hS hc
 refine⟨λd hd=>?_,λhl=>⟨vs,h1,by rw[<- r1.length];exact hl⟩⟩
 obtain⟨v,q1,q2⟩:=r1.get hd
 refine⟨⟨vs,v,h1,q1⟩,λx H2 y=>?_⟩
 obtain⟨rfl,y⟩:=y
 have:=y vs h1
 rw[q1]at this
 cases this
 exact⟨.refl,hr,q2⟩
theorem gK{d:D}:∀μ1 H1 μ2 H2,Lsts μ1 H1->Rp K μ1 H1 d v->Ext μ1 H1 μ2 H2->Rp K μ2 H2 d v:=λμ1 H1 μ2 H2 l h e=>Rp.ext l e d v h
theorem aEh(h:Ev X K Z e f):Ei X K Z tg e (iE f):=by
 have h':=aFw (tg:=tg) h.h
 rw[h.k]at h'
 refine⟨h.k,cqI h' ?_⟩
 rintro σ H R ⟨μ,M,L,hr,lr,p⟩
 refine⟨μ,M,L,hr,lr,p.bind.imp λμ1 H1 M1 w e1 hr1 _ p1 v rw'=>?_⟩
 cases w with
 |ref t =>
  simp only[srcOf]at p1
  cases q:M1[t]? with
  |none=>simp only[q,Option.map_none]at p1;exact p1.elim
  |some xs =>
   simp only[q,Option.map_some]at p1
   obtain⟨a,qa,rfl,il⟩:=rw'
   obtain⟨a',vs,qa',h1,r1⟩:=hr1.at q qa
   rw[qa]at qa';cases qa'
   refine⟨a,rfl,.inl ⟨⟨vs,SqL.of h1⟩,p1 μ1 H1 .refl hr1 _ ?_⟩⟩
   refine rM (λμ2 H2=>μ2[t]?=some a/\IsL H2 a) ⟨qa,il⟩ (λμ1 H1 μ2 H2 _ z e=>⟨e.pre _ _ z.1,z.2.ext e⟩) λμ2 H2 M2 hr2 z c=>?_
   obtain⟨a',vs,qa',h1,r1⟩:=hr2.at (c t rfl) z.1 z.2
   rw[z.1]at qa';cases qa'
   exact⟨vs,SqL.of h1,r1⟩
 |ob _ _=>exact p1.elim
 |nest _=>exact p1.elim
 |d x =>
  cases x with
  |tup xs =>
   have rw2:=rw'
   simp only[Rw,Rp]at rw'
   obtain⟨a,vs,rfl,h1,r1⟩:=rw'
   refine⟨a,rfl,.inr ⟨⟨vs,SqT.of h1⟩,p1 μ1 H1 .refl hr1 _ ?_⟩⟩
   refine aDe (λμ2 H2=>Rp K μ2 H2 (.tup xs) (.ref a)) rw2 gK λμ2 H2 M2 hr2 z c=>?_
   simp only[Rp]at z
   obtain⟨a',vs,e,h1,r1⟩:=z
   cases e
   exact⟨vs,SqT.of h1,r1⟩
  |lst xs =>
   have rw2:=rw'
   simp only[Rw,Rp]at rw'
   obtain⟨a,vs,rfl,h1,_,r1⟩:=rw'
   refine⟨a,rfl,.inl ⟨⟨vs,SqL.of h1⟩,p1 μ1 H1 .refl hr1 _ ?_⟩⟩
   refine rM (λμ2 H2=>Rp K μ2 H2 (.lst xs) (.ref a)) rw2 gK λμ2 H2 M2 hr2 z c=>?_
   simp only[Rp]at z
   obtain⟨a',vs,e,h1,_,r1⟩:=z
   cases e
   exact⟨vs,SqL.of h1,r1⟩
  |fz xs =>
   have rw2:=rw'
   simp only[Rw,Rp]at rw'
   obtain⟨a,vs,rfl,h1,r1⟩:=rw'
   refine⟨a,rfl,.inl ⟨⟨vs,h1.sq⟩,p1 μ1 H1 .refl hr1 _ ?_⟩⟩
   refine rM (λμ2 H2=>Rp K μ2 H2 (.fz xs) (.ref a)) rw2 gK λμ2 H2 M2 hr2 z c=>?_
   simp only[Rp]at z
   obtain⟨a',vs,e,h1,r1⟩:=z
   cases e
   exact⟨vs,h1.sq,r1⟩
  |_=>exact p1.elim
noncomputable def rngD(lo:Int)(n:Nat):List D:=(List.range n).map λk=>D.int (lo+(k:Nat))
variable{lo:Int}
theorem eK{d:D}(h:(rngD lo n)[i]?=some d):i < n/\d=.int (lo+i):=by
 unfold rngD at h
 rw[aBR]at h
 by_cases hi:i < n
 ·rw[List.getElem?_range hi]at h;simp at h;exact⟨hi,h.symm⟩
 ·rw[aDP (by simpa using hi)]at h;cases h
theorem aCy :ItOk K μ H ⟨rngD lo n,none⟩ (Itr lo n):=by
 refine⟨λ_ _=>True,trivial,λ_ _ _ _ _ _ _=>trivial,λμ1 H1 M1 i hr _ _=>⟨λd hd=>?_,λhl=>by simp only[rngD,aAL,aCU]at hl;exact hl⟩⟩
 obtain⟨hi,rfl⟩:=eK hd
 refine⟨hi,λx H2 y=>?_⟩
 obtain⟨rfl,rfl⟩:=y
 exact⟨.refl,hr,by simp[Rp]⟩
noncomputable def in62(i:Int):Bool:=decide (-4611686018427387904<=i/\i < 4611686018427387904)
noncomputable def iR1(f:FE):FI:=λL M=>(f L M).bind λw M1=>match w with
 |.d (.int j)=>if in62 j=true then .ok ⟨rngD 0 j.toNat,none⟩ M1 else .bad
 |_=>.bad
theorem dP(hm:X.mg "range"=none)(ha:Ev X K Z a f)(hg:Gl X "range":=by rfl)(hs:starEach [a] X.env=[(false,eval a X.env)]:=by rfl):Ei X K Z tg (.Call (.Name "range" p) [a] [] pos) (iR1 f):=by
 refine⟨ha.k,cqI (uD hg hm (bQ ha.h dH hs) hs) ?_⟩
 rintro σ H R ⟨μ,M,L,hr,lr,p⟩
 refine⟨μ,M,L,hr,lr,p.bind.imp λμ1 H1 M1 w e1 hr1 _ p1 v rw'=>?_⟩
 cases w with
 |ref i=>exact p1.elim
 |ob _ _=>exact p1.elim
 |nest _=>exact p1.elim
 |d x=>cases x with
  |int j =>
   simp only at p1
   split at p1
   ·rename_i hz
    simp only[in62,aAW]at hz
    simp only[Rw,Rp]at rw'
    subst rw'
    exact⟨j,rfl,hz.1,hz.2,p1 μ1 H1 .refl hr1 _ aCy⟩
   ·exact p1.elim
  |_=>exact p1.elim
end
section
variable{K:Frag}{μ2:List Addr}{M2:Mm}
theorem Ext.back(e:Ext μ H μ2 H2):Ext μ H μ H2:=⟨e.keep,λa h=>.inl h,λ_ _ h=>h,e.kin⟩
theorem Ext.take(e:Ext μ H μ2 H2):μ2.take μ.length=μ:=by
 apply aFO
 intro i
 rw[aGT]
 split
 ·rename_i hi
  have:=e.pre i μ[i] (by simp[hi])
  rw[this];simp[hi]
 ·rename_i hi
  rw[aDP (by lia)]
mutual
theorem Rp.sub(hs:∀a,a∈μ1->a∈μ):∀(d:D) (v:V),Rp K μ H d v->Rp K μ1 H d v
 |.non,v,h=>by simpa[Rp]using h
 |.bl b,v,h=>by simpa[Rp]using h
 |.int b,v,h=>by simpa[Rp]using h
 |.str b,v,h=>by simpa[Rp]using h
 |.tup ds,v,h=>by simp only[Rp]at h ⊢;obtain⟨a,vs,e1,e2,e3⟩:=h;exact⟨a,vs,e1,e2,Rps.sub hs ds vs e3⟩
 |.lst ds,v,h=>by simp only[Rp]at h ⊢;obtain⟨a,vs,e1,e2,n,e3⟩:=h;exact⟨a,vs,e1,e2,λz=>n (hs a z),Rps.sub hs ds vs e3⟩
 |.fz ds,v,h=>by simp only[Rp]at h ⊢;obtain⟨a,vs,e1,e2,e3⟩:=h;exact⟨a,vs,e1,e2,Rps.sub hs ds vs e3⟩
 |.exn c f ds,v,h=>by simp only[Rp]at h ⊢;obtain⟨a,vs,C,LE,d,e1,e2,e3,e4,e5⟩:=h;exact⟨a,vs,C,LE,d,e1,e2,e3,e4,Rps.sub hs ds vs e5⟩
theorem Rps.sub(hs:∀a,a∈μ1->a∈μ):∀(ds:List D) (vs:List V),Rps K μ H ds vs->Rps K μ1 H ds vs
 |[],vs,h=>by simpa[Rps]using h
 |d::ds,vs,h=>by simp only[Rps]at h ⊢;obtain⟨v,r,e1,e2,e3⟩:=h;exact⟨v,r,e1,Rp.sub hs d v e2,Rps.sub hs ds r e3⟩
end
theorem Frs.sub(hs:∀a,a∈μ1->a∈μ):∀{ds:List D} {fs:List (Str×V)},Frs K μ H ds fs->Frs K μ1 H ds fs
 |[],_,h=>h
 |_::_,_,⟨f,x,v,r,e1,e2,e3,e4⟩=>⟨f,x,v,r,e1,e2,Rp.sub hs _ _ e3,Frs.sub hs e4⟩
theorem Krs.sub(hs:∀a,a∈μ1->a∈μ):∀{ds:List D} {fs:List (List Key×V)},Krs K μ H ds fs->Krs K μ1 H ds fs
 |[],_,h=>h
 |_::_,_,⟨f,x,v,r,e1,e2,e3,e4⟩=>⟨f,x,v,r,e1,e2,Rp.sub hs _ _ e3,Krs.sub hs e4⟩
theorem Kns.sub(hs:∀a,a∈μ1->a∈μ):∀{ds:List D} {fs:List (Key×V)},Kns K μ H ds fs->Kns K μ1 H ds fs
 |[],_,h=>h
 |_::_,_,⟨f,x,v,r,e1,e2,e3,e4⟩=>⟨f,x,v,r,e1,e2,Rp.sub hs _ _ e3,Kns.sub hs e4⟩
theorem CelO.sub(hs:∀a,a∈μ1->a∈μ){o:HO}{ds:List D}(h:CelO K μ H o ds):CelO K μ1 H o ds:=by
 cases o <;> first|exact h.elim|skip
 all_goals first|exact Rps.sub hs _ _ h|exact Krs.sub hs h|exact Kns.sub hs h|exact Frs.sub hs h
theorem HR.back(h:HR K μ2 H2 M2)(e:Ext μ H μ2 H2):HR K μ H2 (M2.take μ.length):=by
 have ht:=e.take
 have hsub:∀a,a∈μ->a∈μ2:=λa ha=>by rw[<- ht]at ha;exact aBF ha
 have hlen:μ.length<=μ2.length:=by have:=congrArg List.length ht;simp at this;lia
 refine⟨by rw[aDI,<- h.len];lia,by rw[<- ht];exact h.nd.sublist (List.take_sublist _ _),λi a ds q1 q2=>?_⟩
 rw[aGT]at q2
 split at q2
 ·obtain⟨vs,q3,q4⟩:=h.ent i a ds (e.pre i a q1) q2
  exact⟨vs,q3,CelO.sub hsub q4⟩
 ·cases q2
noncomputable def nestD(n:Nat)(M:Mm):List Nat->Option (List D)
 |[]=>some []
 |j::js=>if j < n then none else match M[j]?,nestD n M js with
  |some xs,some r=>some (.lst xs::r)
  |_,_=>none
noncomputable def retc(n:Nat)(w:W)(M:Mm):Oc W:=match w with
 |.d x=>.ok (.d x) (M.take n)
 |.ref i=>if i < n then .ok (.ref i) (M.take n)else match M[i]? with
  |some ds=>.ok (.d (.lst ds)) (M.take n)
  |none=>.bad
 |.ob c i=>if i < n then .ok (.ob c i) (M.take n)else .bad
 |.nest (.ls js)=>match nestD n M js with
  |some ds=>.ok (.d (.lst ds)) (M.take n)
  |none=>.bad
 |.nest (.pr x i)=>if i < n then .bad else match M[i]? with
  |some ds=>.ok (.d (.tup [x,.lst ds])) (M.take n)
  |none=>.bad
theorem HR.fresh(hr1:HR K μ2 H2 M2)(e1:Ext μ H μ2 H2){a:Addr}(qa:μ2[i]?=some a)(hi:¬i < μ.length):a∉μ:=λha=>by
 obtain⟨j,hj,ej⟩:=aBX.mp ha
 have h2:=e1.pre j a (by rw[<- ej];simp[hj])
 have l1:=(aAD.mp qa).1
 have l2:=(aAD.mp h2).1
 have g1:=(aAD.mp qa).2
 have g2:=(aAD.mp h2).2
 have pw:=aBM.mp hr1.nd
 exact pw j i l2 l1 (by lia) (g2.trans g1.symm)
theorem mI{n:Nat}(hn:n=μ.length)(e1:Ext μ H μ2 H2)(hr1:HR K μ2 H2 M2)(hsub:∀a,a∈μ->a∈μ2):∀{js:List Nat} {vs:List V} {ds:List D},Rjs μ2 H2 js vs->nestD n M2 js=some ds->Rps K μ H2 ds vs
 |[],vs,ds,h,q=>by cases h;simp only[nestD,aAO]at q;subst q;exact .nil
 |j::js,vs,ds,⟨a,r,e1',e2,e3,e4⟩,q=>by
  subst e1'
  simp only[nestD]at q
  split at q
  ·cases q
  ·rename_i hj
   cases q1:M2[j]? with
   |none=>rw[q1]at q;cases q
   |some xs =>
    cases q2:nestD n M2 js with
    |none=>rw[q1,q2]at q;cases q
    |some r' =>
     rw[q1,q2]at q;cases q
     obtain⟨a',us,qa',h1,r1⟩:=hr1.at q1 e2 e3
     rw[e2]at qa';cases qa'
     refine .cons ?_ (mI hn e1 hr1 hsub e4 q2)
     simp only[Rp]
     exact⟨a,us,rfl,h1,hr1.fresh e1 e2 (by lia),Rps.sub hsub _ _ r1⟩
theorem gA{w:W}{Q:VK}(hr:HR K μ H M)(e1:Ext μ H μ2 H2)(hr1:HR K μ2 H2 M2)(hw:(∃c i,w=.ob c i)\/∃js,w=.nest js)(rv:Rw K μ2 H2 w v)(p:Pst K Z μ H (retc M.length w M2) (Wk K Q)):Q v H2:=by
 have hb:=hr1.back e1
 rw[hr.len]at hb
 have hsub:∀a,a∈μ->a∈μ2:=λa ha=>by rw[<- e1.take]at ha;exact aBF ha
 rcases hw with⟨c,i,rfl⟩|⟨js,rfl⟩
 ·simp only[retc]at p
  split at p
  ·rename_i hi
   obtain⟨a,qa,rfl,il⟩:=rv
   refine p μ H2 e1.back hb _ ⟨a,?_,rfl,il⟩
   rw[<- hr.len]at hi
   have:=e1.pre i μ[i] (by simp[hi])
   rw[qa]at this;cases this
   simp[hi]
  ·exact p.elim
 ·cases js with
  |ls js =>
   simp only[retc]at p
   cases q:nestD M.length M2 js with
   |none=>rw[q]at p;exact p.elim
   |some ds =>
    rw[q]at p
    obtain⟨a,vs,rfl,h1,hna,hj⟩:=rv
    refine p μ H2 e1.back hb _ ?_
    simp only[Rw,Rp]
    exact⟨a,vs,rfl,h1,λz=>hna (hsub a z),mI hr.len.symm e1 hr1 hsub hj q⟩
  |pr x i =>
   simp only[retc]at p
   split at p
   ·exact p.elim
   ·rename_i hi
    cases q:M2[i]? with
    |none=>rw[q]at p;exact p.elim
    |some ds =>
     rw[q]at p
     obtain⟨a,vs,rfl,h1,v,b,rfl,rp,mb,il⟩:=rv
     obtain⟨a',us,qa',h2,r1⟩:=hr1.at q mb il
     rw[mb]at qa';cases qa'
     refine p μ H2 e1.back hb _ ?_
     simp only[Rw,Rp]
     refine⟨a,_,rfl,h1,.cons (Rp.sub hsub _ _ rp) (.cons ?_ .nil)⟩
     simp only[Rp]
     exact⟨b,us,rfl,h2,hr1.fresh e1 mb (by rw[hr.len];exact hi),Rps.sub hsub _ _ r1⟩
end
noncomputable def outL(js:List (Option Nat))(L:Lc):Lc:=js.map λo=>o.bind λj=>(L[j]?).join
open Classical in
noncomputable def compD(t:Nat)(s:Src)(g:FG)(c:FT)(f:FE):List D->Lc->Mm->Oc Unit
 |[]=>λ_ M=>if Chk s M then .ok () M else .bad
 |d::r=>λL M=>if Chk s M then(g (.d d) L M).bind λL1 M1=>(c L1 M1).bind λb M2=>if b=true then(f L1 M2).bind λw M3=>match w,M3[t]? with
   |.d x,some acc=>if acc.length < 16777216 then compD t s g c f r L1 (M3.set t (acc++[x]))else .bad
   |_,_=>.bad
   else compD t s g c f r L1 M2
  else .bad
noncomputable section
def compT(js:List (Option Nat))(fi:FI)(g:FG)(c:FT)(f:FE)(L:Lc)(M:Mm):Oc (List D):=(fi L M).bind λs M1=>match compD M1.length s g c f s.ds (outL js L) (M1++[[]])with
 |.ok _ M2=>match M2[M1.length]? with
  |some acc=>.ok acc (M2.take M1.length)
  |none=>.bad
 |_=>.bad
def eComp(js:List (Option Nat))(fi:FI)(g:FG)(c:FT)(f:FE):FE:=λL M=>(compT js fi g c f L M).bind λacc M1=>.ok (.d (.lst acc)) M1
def tYes:FT:=λ_ M=>.ok true M
end
structure Eif(X:Cx)(K:Frag)(Z:Zt)(ifs:List Expr)(t:FT):Prop where
 k:X.K=K
 h:PIf X ifs (liftT K Z t)
section
variable{K:Frag}{e a b o:Expr}{es:List Expr}{fs:FA}{st:Stmt}{rest:List Stmt}{G:FS}
theorem tN(hk:X.K=K:=by rfl):Eif X K Z [] tYes:=⟨hk,λpins s σ H Q I ⟨μ,M,L,hr,lr,p⟩=>aAa pins s σ H Q I (p μ H .refl hr)⟩
theorem sI{c:Expr}{t:FT}(h:Et X K Z c t):Eif X K Z [c] t:=⟨h.k,aAw h.h⟩
variable{σ:St}
theorem LR.out(h:LR K μ H L σ):LR K μ H (outL js L) (outσ js σ)where
 len:=by simp[outL,outσ]
 ent:=λi w q=>by
  unfold outL at q
  unfold outσ
  rw[aBR]at q ⊢
  cases e:js[i]? with
  |none=>rw[e]at q;cases q
  |some oj =>
   rw[e]at q
   cases oj with
   |none=>simp at q
   |some j =>
    simp only[Option.map_some,aFY,aAO]at q ⊢
    cases e2:L[j]? with
    |none=>rw[e2]at q;cases q
    |some ow =>
     rw[e2]at q
     simp at q
     subst q
     obtain⟨v,q1,q2⟩:=h.ent j w e2
     exact⟨v,by rw[q1];rfl,q2⟩
variable{c:FT}
theorem wF{Zi:Zt}{s:Src}{g:FG}{J:It}{Dt:Addr}{Q:Hp->Prop}(n:Nat)(μ0:List Addr)(H0:Hp)(e0:Ext μ0 H0 μ H)(hn:μ0.length=n)(hD:μ[n]?=some Dt)(hIL:IsL H Dt)
  (hr:HR K μ H M)(lr:LR K μ H L σ)(hJ:ItOk K μ H s J)
  (p:match compD n s g c f s.ds L M with
   |.ok _ M2=>∀μ2 H2,Ext μ H μ2 H2->HR K μ2 H2 M2->Q H2
   |.ex z M2=>Zi.z z M2 μ H
   |.bad=>False):tTurns J (liftG K Zi g) (liftT K Zi c) (lift K Zi f) Dt σ H Q:=by
 obtain⟨S,s0,sx,step⟩:=hJ
 let R:List Addr->Hp->Lc->Mm->List D->Prop:=λμ1 H1 L M rest=>match compD n s g c f rest L M with
   |.ok _ M2=>∀μ2 H2,Ext μ1 H1 μ2 H2->HR K μ2 H2 M2->Q H2
   |.ex z M2=>Zi.z z M2 μ1 H1
   |.bad=>False
 refine⟨λi m σ H1=>m=s.ds.length - i/\i<=s.ds.length/\∃μ1 M L,Ext μ0 H0 μ1 H1/\(μ1[n]?=some Dt/\IsL H1 Dt)/\HR K μ1 H1 M/\LR K μ1 H1 L σ/\S μ1 H1/\R μ1 H1 L M (s.ds.drop i),⟨s.ds.length,by simp,aCL _,μ,M,L,e0,⟨hD,hIL⟩,hr,lr,s0,by simpa[R]using p⟩,?_⟩
 rintro i m σ H1 ⟨rfl,hi,μ1,M,L,e1,⟨hD1,hI1⟩,hr,lr,sS,p⟩
 by_cases hlt:i < s.ds.length
 ·simp only[R]at p
  rw[aBY hlt]at p
  unfold compD at p
  by_cases hch:Chk s M
  ·rw[aAH hch]at p
   obtain⟨go,yl⟩:=(step μ1 H1 M i hr sS hch).1 s.ds[i] (by simp[hlt])
   refine .inr ⟨go,λσ' H'=>i+1<=s.ds.length/\∃μ1 M L,Ext μ0 H0 μ1 H'/\(μ1[n]?=some Dt/\IsL H' Dt)/\HR K μ1 H' M/\LR K μ1 H' L σ'/\S μ1 H'/\R μ1 H' L M (s.ds.drop (i+1)),λσ' H' q=>⟨s.ds.length - (i+1),by lia,rfl,q.1,q.2⟩,λx H2 y=>?_⟩
   obtain⟨e2,hr2,rx⟩:=yl x H2 y
   have lr2:=lr.ext hr.lsts e2
   have s2:=sx _ _ _ _ hr.lsts sS e2
   refine⟨μ1,M,L,.d s.ds[i],hr2,lr2,rx,?_⟩
   cases q3:g (.d s.ds[i]) L M with
   |bad=>rw[q3]at p;exact p.elim
   |ex z M2=>rw[q3]at p;exact Zi.mono e2 p
   |ok L3 M3 =>
    rw[q3]at p
    intro μ3 H3 e3 hr3 σ3 lr3
    refine⟨μ3,M3,L3,hr3,lr3,?_⟩
    simp only[cR]at p
    have s3:=sx _ _ _ _ hr2.lsts s2 e3
    cases q4:c L3 M3 with
    |bad=>rw[q4]at p;exact p.elim
    |ex z M2=>rw[q4]at p;exact Zi.mono (e2.trans e3) p
    |ok b M4 =>
     rw[q4]at p
     intro μ4 H4 e4 hr4
     simp only[cR]at p
     have s4:=sx _ _ _ _ hr3.lsts s3 e4
     have lr4:=lr3.ext hr3.lsts e4
     have E4:=((e1.trans e2).trans e3).trans e4
     have D4:=e4.pre _ _ (e3.pre _ _ (e2.pre _ _ hD1))
     cases b with
     |false =>
      refine⟨hlt,μ4,M4,L3,E4,⟨D4,hI1.ext ((e2.trans e3).trans e4)⟩,hr4,lr4,s4,?_⟩
      simp only[R]
      simp only[aAS,aBU]at p
      cases q5:compD n s g c f (s.ds.drop (i+1)) L3 M4 with
      |ok u M5=>rw[q5]at p;exact λμ5 H5 e5 hr5=>p μ5 H5 (((e2.trans e3).trans e4).trans e5) hr5
      |ex z M5=>rw[q5]at p;exact Zi.mono ((e2.trans e3).trans e4) p
      |bad=>rw[q5]at p;exact p
     |true =>
      simp only[aCI]at p
      refine⟨μ4,M4,L3,hr4,lr4,?_⟩
      cases q5:f L3 M4 with
      |bad=>rw[q5]at p;exact p.elim
      |ex z M2=>rw[q5]at p;exact Zi.mono ((e2.trans e3).trans e4) p
      |ok w M5 =>
       rw[q5]at p
       intro μ5 H5 e5 hr5 v rw'
       simp only[cR]at p
       cases w with
       |ref k=>exact p.elim
       |ob _ _=>exact p.elim
       |nest _=>exact p.elim
       |d x =>
        cases q6:M5[n]? with
        |none=>rw[q6]at p;exact p.elim
        |some acc =>
         rw[q6]at p
         simp only at p
         by_cases hz:acc.length < 16777216
         ·rw[aAH hz]at p
          have D5:=e5.pre _ _ D4
          have I5:=hI1.ext (((e2.trans e3).trans e4).trans e5)
          obtain⟨a',vs,qa',h1,r1⟩:=hr5.at q6 D5
          rw[D5]at qa';cases qa'
          refine⟨vs,h1,by rw[<- r1.length,aAY];exact hz,hlt,μ5,M5.set n (acc++[x]),L3,(E4.trans e5).trans (eB D5),⟨D5,_,aU⟩,hr5.set D5 (r1.append (.cons rw' .nil)),?_,?_,?_⟩
          ·exact(lr4.ext hr4.lsts e5).ext hr5.lsts (eB D5)
          ·exact sx _ _ _ _ hr5.lsts (sx _ _ _ _ hr4.lsts s4 e5) (eB D5)
          ·simp only[R]
           cases q7:compD n s g c f (s.ds.drop (i+1)) L3 (M5.set n (acc++[x]))with
           |ok u M6=>rw[q7]at p;exact λμ6 H6 e6 hr6=>p μ6 H6 (((((e2.trans e3).trans e4).trans e5).trans (eB D5)).trans e6) hr6
           |ex z M6=>rw[q7]at p;exact Zi.mono ((((e2.trans e3).trans e4).trans e5).trans (eB D5)) p
           |bad=>rw[q7]at p;exact p
         ·rw[aAI hz]at p;exact p.elim
  ·rw[aAI hch]at p;exact p.elim
 ·have e:i=s.ds.length:=by lia
  subst e
  simp only[R]at p
  rw[aEJ (aAE _)]at p
  unfold compD at p
  by_cases hch:Chk s M
  ·rw[aAH hch]at p
   exact .inl ⟨(step μ1 H1 M _ hr sS hch).2 (aAE _),p μ1 H1 .refl hr⟩
  ·rw[aAI hch]at p;exact p.elim
variable{fi:FI}
theorem wO{g:FG}{Q:VK}(h:∃μ M L,HR K μ H M/\LR K μ H L σ/\Pst K Z μ H (compT js fi g c f L M) λμ' H' M' acc=>∀q vs,H' q=some (.lst vs)->q∉μ'->Rps K μ' H' acc vs->Q (.ref q) H') :
  tComp js (liftI K Z fi) (liftG K Z0 g) (liftT K Z0 c) (lift K Z0 f) σ H Q:=by
 obtain⟨μ,M,L,hr,lr,p⟩:=h
 refine⟨μ,M,L,hr,lr,p.bind.imp λμ1 H1 M1 s e1 hr1 _ p1 J hJ Dt hDt=>?_⟩
 have x:=tH (vs:=[]) hr1 hDt
 have hlen:=hr1.len
 obtain⟨S,s0,sx,step⟩:=hJ
 refine wF (M:=M1++[[]]) M1.length μ1 H1 x hr1.len (by rw[<- hlen];simp) ⟨_,aU⟩ (hr1.new hDt .nil) (LR.out ((lr.ext hr.lsts e1).ext hr1.lsts x)) ⟨S,sx _ _ _ _ hr1.lsts s0 x,sx,step⟩ ?_
 cases q:compD M1.length s g c f s.ds (outL js L) (M1++[[]])with
 |bad=>simp only[q]at p1;exact p1.elim
 |ex z M2=>simp only[q]at p1;exact p1.elim
 |ok u M2 =>
  simp only[q]at p1
  intro μ2 H2 e2 hr2
  cases q2:M2[M1.length]? with
  |none=>simp only[q2]at p1;exact p1.elim
  |some acc =>
   simp only[q2]at p1
   have E:=x.trans e2
   have hb:=hr2.back E
   rw[hlen]at hb
   have hD2:μ2[M1.length]?=some Dt:=e2.pre _ _ (by rw[<- hlen];simp)
   obtain⟨a',vs,qa',h1,r1⟩:=hr2.at q2 hD2 (IsL.ext e2 ⟨_,aU⟩)
   rw[hD2]at qa';cases qa'
   exact p1 μ1 H2 E.back hb Dt vs h1 (hr1.out hDt) (Rps.sub (λa ha=>by rw[<- E.take]at ha;exact aBF ha) _ _ r1)
theorem xX{g:FG} :∀σ H Q,lift K Z (eComp js fi g c f) σ H Q->tComp js (liftI K Z fi) (liftG K Z0 g) (liftT K Z0 c) (lift K Z0 f) σ H Q:=by
 rintro σ H Q ⟨μ,M,L,hr,lr,p⟩
 refine wO ⟨μ,M,L,hr,lr,p.bind.imp λμ1 H1 M1 acc e1 hr1 _ p1 q vs h1 h2 h3=>?_⟩
 exact p1 μ1 H1 .refl hr1 _ (by simp only[Rw,Rp];exact⟨q,vs,rfl,h1,h2,h3⟩)
theorem kK{elt:Expr}{ifs:List Expr}{scope:Scope}{g:FG}(hc:X.calm=true)(T:CompOk X.N X.env.scope scope Nc js)(hit:Ei X K Z tg iter fi)
  (hg:∀cl C fp pins s₂ H₂,Eg (compCx X Nc scope cl C fp pins s₂ H₂) K Z0 tg g)(hi:∀cl C fp pins s₂ H₂,Eif (compCx X Nc scope cl C fp pins s₂ H₂) K Z0 ifs c)(he:∀cl C fp pins s₂ H₂,Ev (compCx X Nc scope cl C fp pins s₂ H₂) K Z0 elt f)
  (hs:∀x,foldedSetIterable iter X.env x=pure x:=by intro _;rfl):Ev X K Z (.ListComp elt [⟨tg,iter,ifs,0⟩] scope pos) (eComp js fi g c f) :=
 ⟨hit.k,cqE (zK hc T hit.h (λ_ _ _ _ _ _=>(hg _ _ _ _ _ _).h) (λ_ _ _ _ _ _=>(hi _ _ _ _ _ _).h) (λ_ _ _ _ _ _=>(he _ _ _ _ _ _).h) hs) xX⟩
noncomputable section
def fnD(m n:Nat)(F:FS):Fn:=λws M=>if ws.length=m then(F (ws.map some++List.replicate (n - ws.length) none) M).bind λo M'=>match o with
  |.rt w=>retc M.length w M'
  |.nx _=>.ok (.d .non) (M'.take M.length)
  |_=>.bad
 else .bad
def fnR(m n:Nat)(F:FS):Fn:=λws M=>if ws.length=m then(F (ws.map some++List.replicate (n - ws.length) none) M).bind λo M'=>match o with
  |.rt (.ref i)=>if M.length<=i then(match M'[i]? with
   |some ds=>.ok (.ref M.length) (M'.take M.length++[ds])
   |none=>.bad)else .bad
  |_=>.bad
 else .bad
def spF(K:Frag)(Z:Zt)(m:Nat)(Fm:Fn):Sp:=λvs H Q E=>vs.length=m/\∃μ M ws,HR K μ H M/\Rws K μ H ws vs/\Pst K Z μ H (Fm ws M) (Wk K Q)
end
theorem lM{ws:List W}(r:Rws K μ H ws vs):LR K μ H (ws.map some++List.replicate (N.length - ws.length) none) (L2.start N vs):=by
 have hl:=r.length
 refine⟨by simp[L2.start,hl],λi w q=>?_⟩
 by_cases hi:i < ws.length
 ·rw[aAU (by simpa using hi),aBR]at q
  cases e:ws[i]? with
  |none=>rw[e]at q;cases q
  |some w' =>
   rw[e]at q;cases q
   obtain⟨v,q1,q2⟩:=r.get e
   refine⟨v,?_,q2⟩
   unfold L2.start
   rw[aAU (by simp;lia),aBR,q1];rfl
 ·rw[aBL (by simpa using hi),List.getElem?_replicate]at q
  split at q <;> cases q
variable{k:Nat}
theorem dL{fa:Addr}(hf:Fun K x qual st fa fd)(S:FnScope N ps (defScope st))
  (hb:∀(cdv:Value) (A:Around) (outer:List Env) (s:Shared) (H:Hp) (E:XK),Room k (A.deeper (envOfC qual (defScope st) s.heap.objs.size fa cdv))->Ess (cxOf CX0 P w K mg base N qual (defScope st) fa cdv A outer s H E).nox K Z0 (defBody st) F) :
  FnOk P w K mg base CX0 (k+1) fa fd ps (spF K Z0 ps.length (fnD ps.length N.length F)):=by
 refine hf.ok S (λvs H Q E h=>h.1) λcdv A outer s H vs Q E hr hsp=>⟨_,(hb cdv A outer s H E hr).h,?_⟩
 obtain⟨hv,μ,M,ws,hr,rx,p⟩:=hsp
 refine⟨μ,M,_,hr,lM rx,?_⟩
 unfold fnD at p
 rw[aAH (by rw[rx.length];exact hv)]at p
 cases q:F (ws.map some++List.replicate (N.length - ws.length) none) M with
 |bad=>rw[q]at p;exact p
 |ex z M'=>rw[q]at p;exact p
 |ok o M' =>
  rw[q]at p
  simp only[cR]at p
  intro μ1 H1 e1 hr1
  have hb:=hr1.back e1
  rw[hr.len]at hb
  cases o with
  |nx L'=>exact λσ' lr'=>p μ H1 e1.back hb _ (by simp[Rw,Rp])
  |bk L'=>exact p.elim
  |ct L'=>exact p.elim
  |rt w =>
   intro v rv
   have hsub:∀a,a∈μ->a∈μ1:=λa ha=>by rw[<- e1.take]at ha;exact aBF ha
   cases w with
   |ob c i=>exact gA hr e1 hr1 (.inl ⟨_,_,rfl⟩) rv p
   |nest c=>exact gA hr e1 hr1 (.inr ⟨_,rfl⟩) rv p
   |d x=>exact p μ H1 e1.back hb v (Rp.sub hsub x v rv)
   |ref i =>
    simp only[retc]at p
    split at p
    ·rename_i hi
     obtain⟨a,qa,rfl,il⟩:=rv
     refine p μ H1 e1.back hb _ ⟨a,?_,rfl,il⟩
     rw[<- hr.len]at hi
     have:=e1.pre i μ[i] (by simp[hi])
     rw[qa]at this;cases this
     simp[hi]
    ·rename_i hi
     cases q2:M'[i]? with
     |none=>simp only[q2]at p;exact p.elim
     |some ds =>
      simp only[q2]at p
      obtain⟨a,qa,rfl,il⟩:=rv
      obtain⟨a',vs',qa',h1,r1⟩:=hr1.at q2 qa
      rw[qa]at qa';cases qa'
      refine p μ H1 e1.back hb _ ?_
      simp only[Rw,Rp]
      refine⟨a,vs',rfl,h1,λha=>?_,Rps.sub hsub _ _ r1⟩
      obtain⟨j,hj,ej⟩:=aBX.mp ha
      have h2:=e1.pre j a (by rw[<- ej];simp[hj])
      have l1:=(aAD.mp qa).1
      have l2:=(aAD.mp h2).1
      have g1:=(aAD.mp qa).2
      have g2:=(aAD.mp h2).2
      have pw:=aBM.mp hr1.nd
      rw[hr.len]at hj
      exact pw j i l2 l1 (by lia) (g2.trans g1.symm)
theorem aCd{fa:Addr}(hf:Fun K x qual st fa fd)(S:FnScope N ps (defScope st))
  (hb:∀(cdv:Value) (A:Around) (outer:List Env) (s:Shared) (H:Hp) (E:XK),Room k (A.deeper (envOfC qual (defScope st) s.heap.objs.size fa cdv))->Ess (cxOf CX0 P w K mg base N qual (defScope st) fa cdv A outer s H E).nox K Z0 (defBody st) F) :
  FnOk P w K mg base CX0 (k+1) fa fd ps (spF K Z0 ps.length (fnR ps.length N.length F)):=by
 refine hf.ok S (λvs H Q E h=>h.1) λcdv A outer s H vs Q E hr hsp=>⟨_,(hb cdv A outer s H E hr).h,?_⟩
 obtain⟨hv,μ,M,ws,hr,rx,p⟩:=hsp
 refine⟨μ,M,_,hr,lM rx,?_⟩
 unfold fnR at p
 rw[aAH (by rw[rx.length];exact hv)]at p
 cases q:F (ws.map some++List.replicate (N.length - ws.length) none) M with
 |bad=>rw[q]at p;exact p
 |ex z M'=>rw[q]at p;exact p
 |ok o M' =>
  rw[q]at p
  simp only[cR]at p
  intro μ1 H1 e1 hr1
  have hb:=hr1.back e1
  rw[hr.len]at hb
  cases o with
  |nx L'=>exact p.elim
  |bk L'=>exact p.elim
  |ct L'=>exact p.elim
  |rt w =>
   intro v rv
   have hsub:∀a,a∈μ->a∈μ1:=λa ha=>by rw[<- e1.take]at ha;exact aBF ha
   cases w with
   |d x=>exact p.elim
   |ob _ _=>exact p.elim
   |nest _=>exact p.elim
   |ref i =>
    simp only at p
    split at p
    ·rename_i hi
     cases q2:M'[i]? with
     |none=>simp only[q2]at p;exact p.elim
     |some ds =>
      simp only[q2]at p
      obtain⟨a,qa,rfl,il⟩:=rv
      obtain⟨a',vs',qa',h1,r1⟩:=hr1.at q2 qa
      rw[qa]at qa';cases qa'
      have hna:a∉μ:=λha=>by
       obtain⟨j,hj,ej⟩:=aBX.mp ha
       have h2:=e1.pre j a (by rw[<- ej];simp[hj])
       have l1:=(aAD.mp qa).1
       have l2:=(aAD.mp h2).1
       have g1:=(aAD.mp qa).2
       have g2:=(aAD.mp h2).2
       have pw:=aBM.mp hr1.nd
       rw[hr.len]at hj
       exact pw j i l2 l1 (by lia) (g2.trans g1.symm)
      have hsub2:∀b,b∈μ++[a]->b∈μ1:=λb hb=>by
       rcases aBC.mp hb with hb|hb
       ·exact hsub b hb
       ·rw[aAT]at hb;subst hb;exact aBE qa
      refine p (μ++[a]) H1 ⟨e1.keep,λb hb=>e1.new b (hsub2 b hb),λj b hj=>by rw[aAU (aAD.mp hj).1];exact hj,e1.kin⟩ ?_ _ ⟨a,by rw[<- hr.len];simp,rfl,_,h1⟩
      refine⟨by simp[hb.len],List.nodup_append.mpr ⟨hb.nd,by simp,λb hb' c hc=>by rw[aAT]at hc;subst hc;rintro rfl;exact hna hb'⟩,λj b es q1 q3=>?_⟩
      by_cases hj:j < μ.length
      ·rw[aAU hj]at q1
       rw[aAU (by rw[<- hb.len];exact hj),aGT]at q3
       split at q3
       ·obtain⟨us,q4,q5⟩:=hr1.ent j b es (e1.pre j b q1) q3
        exact⟨us,q4,CelO.sub hsub2 q5⟩
       ·cases q3
      ·have hj':j=μ.length:=by have:=(aAD.mp q1).1;simp at this;lia
       subst hj'
       rw[aBL (aAE _)]at q1
       rw[hb.len,aBL (aAE _)]at q3
       simp at q1 q3
       subst q1 q3
       exact⟨_,h1,Rps.sub hsub2 _ _ r1⟩
    ·exact p.elim
theorem aO{fa:Addr}{m:Nat}(Gf:FnOk X.prog X.w X.K X.mg X.base CX0 k fa fd ps (spF K Z0 m Fm))(hr:Room k X.A)(hm:X.mg x=some (.ref fa))(hk:keepIn X.K (.ref fa)=true)(hb:Binds X.K fd ps [])
  (ha:Ea X K Z0 (e::es) fs)(hl:ps.length=m:=by rfl)(hg:Gl X x:=by rfl)(hdb:(x==("__debug__":Str))=false:=by decide)(he:starEach (e::es) X.env=(false,eval e X.env)::starEach es X.env:=by rfl)(hpl:(backTo pos (starEach es X.env)).any (·.1)=false:=by rfl)
  (hlen:∀ws M,ws.length≠m->Fm ws M=.bad:=by intro ws M h;first|exact aAI h|rfl):Ev X K Z0 (.Call (.Name x p) (e::es) [] pos) (eA Fm fs):=by
 refine⟨ha.k,cqE (nF Gf hr hg hm hk hb .nil pass0 ha.h hdb he hpl) ?_⟩
 rintro σ H Q ⟨μ,M,L,hr,lr,p⟩
 refine⟨μ,M,L,hr,lr,p.bind.imp λμ1 H1 M1 ws e1 hr1 _ p1 vs rx=>?_⟩
 show spF K Z0 m Fm (vs++[]) H1 Q E0
 rw[aED]
 refine⟨?_,μ1,M1,ws,hr1,rx,p1⟩
 by_cases hw:ws.length=m
 ·rw[<- rx.length];exact hw
 ·rw[hlen ws M1 hw]at p1;exact p1.elim
theorem aFk{a:Addr}(hO:Only H)(hS:SqL K H a (ns.map V.int))(h:∃M',Fm [.d (.fz (ns.map D.int))] []=.ok (.d (.bl true)) M'):spF K Z0 1 Fm [.ref a] H (λv _=>v=.bl true) λ_ _ _=>False:=by
 obtain⟨M',h⟩:=h
 refine⟨rfl,[],[],[.d (.fz (ns.map D.int))],⟨rfl,List.nodup_nil,λi a ds q=>by simp at q⟩,⟨.ref a,[],rfl,?_,rfl⟩,?_⟩
 ·simp only[Rw,Rp]
  refine⟨a,ns.map V.int,rfl,?_,Rps.ints⟩
  rcases hS with(z|z)|z
  ·rcases hO a with q|⟨o,xs,q⟩ <;> rw[z]at q <;> cases q
  ·exact .inl z
  ·exact .inr z
 ·rw[h]
  intro μ' H' _ _ v rv
  simpa only[Rw,Rp]using rv
end
@[irreducible] noncomputable def NW:Nat:=18446744073709551616
theorem yN:NW=18446744073709551616:=by unfold NW;rfl
theorem aW{k:Nat}(hr:Room k A):A.units+101 < cLine:=by have:=hr.un;lia
section
variable{K:Frag}{e a b o:Expr}{es:List Expr}{fs:FA}{st:Stmt}{rest:List Stmt}{G:FS}
end
end EV
namespace ZP
variable{prog:Program}{E:Value->Shared->Prop}{x:Value}
theorem iQ(hit:s.heap.IsTupleIter it l i)
  (hl:s.heap.IsTuple l items)(hx:items[i]?=some x)
  (hQ:∀h',h'.IsTupleIter it l (i+1)->Heap.SameBut it s.heap h'->Q x {s with heap:=h'}) :
  wpAny (model prog w) A (Builtin.SmallTypes.nextOf (.ref it)) Q E s:=by
 obtain⟨o,ho,hc,hd⟩:=id hit
 obtain⟨ol,hol,_,nl,hdl⟩:=hl
 unfold Builtin.SmallTypes.nextOf
 refine aAA (aBT (name:=Str.ofString "__next__") hit.typeIs aDQ
  (aBQ aDQ hit.typeIs F.entry_tuple_iterator_next ?_ (F.args_tuple_iterator_next_1 _)))
 show wpAny _ _ (field (.ref it) 0 >>= _) _ _ s
 refine aAA (aAV ho hd (x:=.ref l) rfl ?_)
 show wpAny _ _ (if(Value.ref l==Value.none)=true then _ else _) _ _ s
 rw[aAI (show ¬((Value.ref l==Value.none)=true)from aBI)]
 show wpAny _ _ (field (.ref it) 1 >>= _) _ _ s
 refine aAA (aAV ho hd (x:=.int i 0) rfl ?_)
 show wpAny _ _ (seqItems? (.ref l) >>= _) _ _ s
 refine aAA (wpAny_seqItems hol hdl ?_)
 simp only[aCV,hx]
 refine aAA (aCK ho hd (by simp) (aAC ⟨x,rfl,aAC (hQ _ ?_ (aDZ ..))⟩))
 exact⟨_,aCD _ ho (aGA (aDK hd _)),(Obj.cls_mapFields ..).trans hc,by
  rw[aDK hd];simp[rawInt]⟩
theorem jG(hh:A.handled=none)
  (hit:s.heap.IsTupleIter it l i)(hl:s.heap.IsTuple l items)(hx:items[i]?=none)
  (hE:∀h' e,Heap.ExtBut it s.heap h'->(∃o,h'.get? e=some o/\o.cls=.type "StopIteration")->E (.ref e) {s with heap:=h'}) :
  wpAny (model prog w) A (Builtin.SmallTypes.nextOf (.ref it)) Q E s:=by
 obtain⟨o,ho,hc,hd⟩:=id hit
 obtain⟨ol,hol,_,nl,hdl⟩:=hl
 unfold Builtin.SmallTypes.nextOf
 refine aAA (aBT (name:=Str.ofString "__next__") hit.typeIs aDQ
  (aBQ aDQ hit.typeIs F.entry_tuple_iterator_next ?_ (F.args_tuple_iterator_next_1 _)))
 show wpAny _ _ (field (.ref it) 0 >>= _) _ _ s
 refine aAA (aAV ho hd (x:=.ref l) rfl ?_)
 show wpAny _ _ (if(Value.ref l==Value.none)=true then _ else _) _ _ s
 rw[aAI (show ¬((Value.ref l==Value.none)=true)from aBI)]
 show wpAny _ _ (field (.ref it) 1 >>= _) _ _ s
 refine aAA (aAV ho hd (x:=.int i 0) rfl ?_)
 show wpAny _ _ (seqItems? (.ref l) >>= _) _ _ s
 refine aAA (wpAny_seqItems hol hdl ?_)
 simp only[aCV,hx]
 refine aAA (aCO (aAA (aCK ho hd (by simp) ?_)))
 show wpAny _ _ (newExc (.type "StopIteration") [] >>= _) _ _ _
 refine aAA ?_
 simp only[newExc,newTuple]
 refine aAA (aAZ ?_ (by size_fits))
 refine aAA (m:=firstArgMember _ _) (aCX (a:=Value.none) (by first|rfl|(simp only[firstArgMember];rfl)) ?_)
 refine aAZ ?_ (by size_fits)
 simp only[raiseNew]
 refine aAA (wpAny_handled ?_)
 first|rw[show A.in1.handled=none from hh]|rw[hh]
 refine aAA (aAC (wpAny_throw ?_))
 exact hE _ _ (((aDZ ..).extBut.push _).push _) ⟨_,aAM _ rfl,rfl⟩
noncomputable def It1(h:Heap)(it src:Addr)(i:Nat)(xs:Array Value):Prop:=(h.IsListIter it src i/\h.IsList src xs)\/(h.IsTupleIter it src i/\h.IsTuple src xs)
theorem It1.at{h h':Heap}{it src:Addr}{i:Nat}{xs:Array Value}(x:It1 h it src i xs)(k1:∀o,h.get? it=some o->h'.get? it=some o)(k2:∀o,h.get? src=some o->h'.get? src=some o):It1 h' it src i xs:=by
 rcases x with⟨a,b⟩|⟨a,b⟩
 ·exact .inl ⟨a.at k1,b.at k2⟩
 ·refine .inr ⟨a.at k1,?_⟩
  obtain⟨o,ho,r⟩:=b
  exact⟨o,k2 o ho,r⟩
variable{xs:Array Value}
theorem It1.ne(x:It1 h it src i xs):src≠it:=by
 rintro rfl
 rcases x with⟨⟨o,e,c,_⟩,⟨o',e',c',_⟩⟩|⟨⟨o,e,c,_⟩,⟨o',e',c',_⟩⟩ <;> (rw[e]at e';cases e';rw[c]at c';simp at c')
theorem It1.next(h:It1 s.heap it src i xs)(hx:xs[i]?=some x)(hQ:∀h',It1 h' it src (i+1) xs->Heap.SameBut it s.heap h'->Q x {s with heap:=h'}) :
  wpAny (model prog w) A (Builtin.SmallTypes.nextOf (.ref it)) Q E s:=by
 have hn:=h.ne
 rcases h with⟨a,b⟩|⟨a,b⟩
 ·exact wpAny_nextOf_list_item a b hx λh' a' sb=>hQ h' (.inl ⟨a',b.extBut sb.extBut hn⟩) sb
 ·exact iQ a b hx λh' a' sb=>hQ h' (.inr ⟨a',b.extBut sb.extBut hn⟩) sb
theorem It1.stop(hh:A.handled=none)(h:It1 s.heap it src i xs)(hx:xs[i]?=none)
  (hE:∀h' e,Heap.ExtBut it s.heap h'->(∃o,h'.get? e=some o/\o.cls=.type "StopIteration")->E (.ref e) {s with heap:=h'}):wpAny (model prog w) A (Builtin.SmallTypes.nextOf (.ref it)) Q E s:=by
 rcases h with⟨a,b⟩|⟨a,b⟩
 ·exact wpAny_nextOf_list_end hh a b hx hE
 ·exact jG hh a b hx hE
noncomputable abbrev zobj(TI TO:Addr)(f0 f1:Value):Obj:={cls:=.type "zip",dict:=none,data:=.fields #[f0,f1,.bool false,.ref TI,.ref TO],slots:=#[]}
structure Ap(z TI TO i1 i2 l1 l2:Addr):Prop where
 TIz:TI≠z
 TOz:TO≠z
 i1z:i1≠z
 i2z:i2≠z
 TITO:TI≠TO
 TIi1:TI≠i1
 TIi2:TI≠i2
 TOi1:TO≠i1
 TOi2:TO≠i2
 i12:i1≠i2
 l1z:l1≠z
 l1TO:l1≠TO
 l1i1:l1≠i1
 l1i2:l1≠i2
 l2z:l2≠z
 l2TO:l2≠TO
 l2i1:l2≠i1
 l2i2:l2≠i2
structure Zs(h:Heap)(z TI TO i1 i2 l1 l2:Addr)(i:Nat)(xs ys:Array Value):Prop where
 z:∃f0 f1,h.get? z=some (zobj TI TO f0 f1)/\(f0=.none\/∃T:Nat,f0=rawInt T)
 ti:IsPair h TI (.ref i1) (.ref i2)
 to:∃a b,IsPair h TO a b
 a:It1 h i1 l1 i xs
 b:It1 h i2 l2 i ys
variable{R:Result->Shared->Prop}
end ZP
namespace EV
open L2
variable{σ:L2.St}{K:Frag}{a b:Expr}
end EV
namespace RT
theorem cP:Slot "reversed" "__next__" "reversed.__next__" :=
 .of (owner:="reversed") (n:="__next__") (by rw[aEH,aDA];kernel_rfl) (by decide +kernel) (by decide +kernel) (by decide +kernel)
  (by first|exact .inl (by decide +kernel)|exact .inr (by decide +kernel)) (by rw[aDV];kernel_rfl)
theorem iM:Slot "reversed" "__iter__" "reversed.__iter__" :=
 .of (owner:="reversed") (n:="__iter__") (by rw[aEH,aDA];kernel_rfl) (by decide +kernel) (by decide +kernel) (by decide +kernel)
  (by first|exact .inl (by decide +kernel)|exact .inr (by decide +kernel)) (by rw[aDV];kernel_rfl)
theorem oA:Slot "reversed" "__init__" "object.__init__" :=
 .of (owner:="object") (n:="__init__") (by rw[aEH,aDA];kernel_rfl) (by decide +kernel) (by decide +kernel) (by decide +kernel)
  (by first|exact .inl (by decide +kernel)|exact .inr (by decide +kernel)) (by rw[aDV];kernel_rfl)
theorem gJ:entryFor table "reversed.__next__"=some Builtin.«reversed.__next__»:=entryFor_of_tree (by kernel_rfl)
theorem lZ:entryFor table "reversed.__iter__"=some Builtin.«dict_keyiterator.__iter__» :=
 entryFor_alias (id':="dict_keyiterator.__iter__") (by kernel_rfl) (by first|rfl|decide +kernel|(unfold String.splitOn;simp +decide [String.splitOnAux])) (by decide +kernel) (by kernel_rfl)
theorem kO:Manifest.owners.lookup (String.ofList ['d','e','s','r','e','v','e','r'].reverse)=some Manifest.sig_reversed:=by kernel_rfl
theorem iP(a:Value):argsOk "reversed.__next__" ⟨[a],[]⟩:=by
 unfold argsOk;rw[signature?_of (id:="reversed.__next__") (n:=['_','_','t','x','e','n','_','_']) (o:=['d','e','s','r','e','v','e','r']) (by kernel_rfl) kO];kernel_rfl
theorem nH(a:Value):argsOk "reversed.__iter__" ⟨[a],[]⟩:=by
 unfold argsOk;rw[signature?_of (id:="reversed.__iter__") (n:=['_','_','r','e','t','i','_','_']) (o:=['d','e','s','r','e','v','e','r']) (by kernel_rfl) kO];kernel_rfl
theorem uF:TypeCalled "reversed" "reversed.__new__" "object.__init__" :=
 ⟨by decide +kernel,by decide +kernel,⟨_,_,F.mro_reversed⟩,F.made_reversed,by decide +kernel,by rw[aDV];kernel_rfl,oA⟩
theorem nY:typeLookup (.type "tuple") "__reversed__"=pure none:=by rw[aEH,aDA];kernel_rfl
theorem kX:isSubtype (.type "tuple") (.type "dict")=pure false:=by rw[aDV];kernel_rfl
noncomputable abbrev rvObj(l:Addr)(i:Int):Obj:={cls:=.type "reversed",dict:=none,data:=.fields #[.ref l,rawInt i],slots:=#[]}
theorem yR(l:Addr)(items:Array Value):Meets (Builtin.«reversed.__new__» ⟨[.type "reversed",.ref l],[]⟩) (λ_ R s=>IsTup s.heap l items/\(items.size:Int) < 2 ^ 63 /\
   R (.ok (.ret (.ref s.heap.objs.size))) {s with heap:=s.heap.push (rvObj l ((items.size:Int) - 1)),toks:=s.toks+1+1}) :=
 .of_wp λprog w A R s h=>by
  obtain⟨hl,hz,h⟩:=h
  unfold Builtin.«reversed.__new__»
  refine aAA (aCX (newClass_reversed _) ?_)
  try dsimp only
  refine aAA (aCX (a:=()) (by first|rfl|kernel_rfl) ?_)
  refine aAA (aCX (a:=()) (by first|rfl|kernel_rfl) ?_)
  try dsimp only
  refine aAA (aFD hl.typeIs nY ?_)
  try dsimp only
  refine aAA ?_
  refine aAA (aFV (T:="tuple") (b:=false) hl.typeIs kX ?_)
  try dsimp only
  refine aAA (aFD hl.typeIs F.slot_tuple_getitem.lookup ?_)
  refine aCX (a:=true) (by first|rfl|kernel_rfl) ?_
  show wpAny _ _ (call (.builtin "len") [.ref l] >>= _) _ _ _
  refine aAA (len_tuple hl hz ?_)
  refine aAA (aCX (a:=some (items.size:Int)) (by first|rfl|kernel_rfl) ?_)
  show wpAny _ _ (newObj (.type "reversed") (.fields #[.ref l,rawInt ((items.size:Int) - 1)]) >>= _) _ _ _
  exact aAA (aAZ (aAC ⟨_,rfl,h⟩))
variable{prog:Program}{E:Value->Shared->Prop}
theorem call_rev_tuple(hl:IsTup s.heap l items)(hz:(items.size:Int) < 2 ^ 63)
  (h:Q (.ref s.heap.objs.size) {s with heap:=s.heap.push (rvObj l ((items.size:Int) - 1)),toks:=s.toks+1+1}):wpAny (model prog w) A (call (.type "reversed") [.ref l]) Q E s :=
 callType_new uF (by decide) (F.typeCall_reversed_1 _) (F.newCall_reversed_1 _) (λobj=>aGL obj _) F.entry_reversed_new (yR l items) ⟨hl,hz,⟨⟨_,aAM _ rfl,rfl⟩,h⟩⟩
noncomputable def IsRvT(h:Heap)(a l:Addr)(i:Int):Prop:=∃o,h.get? a=some o/\o.cls=.type "reversed"/\o.data=.fields #[.ref l,rawInt i]
variable{i:Int}
theorem IsRvT.typeIs{a:Addr}(x:IsRvT s.heap a l i):s.TypeIs (.ref a) "reversed":=let⟨o,ho,hc,_⟩:=x;⟨o,ho,hc⟩
theorem IsRvT.at{a:Addr}(x:IsRvT h a l i)(e:∀o,h.get? a=some o->h'.get? a=some o):IsRvT h' a l i:=let⟨o,ho,r⟩:=x;⟨o,e _ ho,r⟩
theorem wW{Q:Option Value->Shared->Prop}(hh:A.handled=none)(hit:IsRvT s.heap it l (-1))
  (hQ:∀h',Heap.ExtBut it s.heap h'->Q none {s with heap:=h'}):wpAny (model prog w) A (pyNext (.ref it)) Q E s:=by
 obtain⟨o,ho,hc,hd⟩:=id hit
 unfold pyNext
 refine aAA (aCZ (aBT (name:=Str.ofString "__next__") hit.typeIs cP
  (aBQ cP hit.typeIs gJ ?_ (iP _))))
 unfold Builtin.«reversed.__next__»
 refine aAA (aCX (a:=(Value.ref it,[])) rfl ?_)
 try dsimp only
 refine aAA (aAV ho hd (x:=.ref l) rfl ?_)
 refine aAA (aAV ho hd (x:=rawInt (-1)) rfl ?_)
 show wpAny _ _ (if(-1:Int) < 0 then _ else _) _ _ s
 rw[aAH (by decide)]
 refine aAA (aCO ?_)
 refine aAA ?_
 show wpAny _ _ (setField (.ref it) 1 (rawInt (-1)) >>= _) _ _ _
 refine aAA (aCK ho hd (by simp) ?_)
 refine aCK (aCD _ ho (aGA (aDK hd _))) (aDK hd _) (by simp) ?_
 refine aAA ?_
 show wpAny _ _ (newExc (.type "StopIteration") [] >>= _) _ _ _
 refine aAA ?_
 simp only[newExc,newTuple]
 refine aAA (aAZ ?_ (by size_fits))
 refine aAA (m:=firstArgMember _ _) (aCX (a:=Value.none) (by first|rfl|(simp only[firstArgMember];rfl)) ?_)
 refine aAZ ?_ (by size_fits)
 simp only[raiseNew]
 refine aAA (wpAny_handled ?_)
 first|rw[show A.in1.handled=none from hh]|rw[hh]
 refine aAA (aAC (wpAny_throw ?_))
 refine aAA (aFV (T:="StopIteration") (b:=true) ⟨_,aAM _ rfl,rfl⟩ isSubtype_stop ?_)
 exact aAC (hQ _ ((((aDZ ..).extBut.trans (aDZ ..).extBut).push _).push _))
theorem uC(hit:IsRvT s.heap it l i)(h:Q (.ref it) s):wpAny (model prog w) A (pyIter (.ref it)) Q E s:=by
 refine wpAny_pyIter_slot hit.typeIs iM (aBQ iM hit.typeIs lZ ?_ (nH _))
 show wpAny _ _ (ret (.ref it)) _ _ s
 exact aAC ⟨_,rfl,"reversed",_,hit.typeIs,cP.lookup,h⟩
end RT
namespace L2
end L2
namespace EV
open L2
variable{K:Frag}{a:Expr}{tg:Expr}{K:Frag}
end EV
end
variable{QI:EV.Src->EV.Mm->Prop}
namespace EV
open PySem L2
@[irreducible] noncomputable def Okx(EX:D->Mm->Prop)(o:Oc α)(Q:α->Mm->Prop):Prop:=match o with
 |.ok a M=>Q a M
 |.ex x M=>EX x M
 |.bad=>False
noncomputable abbrev NX:D->Mm->Prop:=λ_ _=>False
noncomputable abbrev Ok(o:Oc α)(Q:α->Mm->Prop):Prop:=Okx NX o Q
variable{α β:Type}{EX EX':D->Mm->Prop}{o o':Oc α}{Q Q':α->Mm->Prop}{a:α}
theorem eD:Okx EX o Q ↔ (∃a M,o=.ok a M/\Q a M)\/∃x M,o=.ex x M/\EX x M:=by
 unfold Okx
 cases o with
 |ok a M=>exact⟨λh=>.inl ⟨a,M,rfl,h⟩,λh=>by rcases h with⟨_,_,e,q⟩|⟨_,_,e,q⟩ <;> cases e;exact q⟩
 |ex x M=>exact⟨λh=>.inr ⟨x,M,rfl,h⟩,λh=>by rcases h with⟨_,_,e,q⟩|⟨_,_,e,q⟩ <;> cases e;exact q⟩
 |bad=>exact⟨λh=>h.elim,λh=>by rcases h with⟨_,_,e,q⟩|⟨_,_,e,q⟩ <;> cases e⟩
theorem gZ:Ok o Q ↔ ∃a M,o=.ok a M/\Q a M:=by
 refine Iff.trans (eD (EX:=NX)) ⟨λh=>?_,.inl⟩
 rcases h with h|⟨_,_,_,q⟩
 ·exact h
 ·exact q.elim
theorem aK(q:Q a M):Okx EX (.ok a M) Q:=eD.mpr (.inl ⟨a,M,rfl,q⟩)
theorem eW{x:D}(q:EX x M):Okx EX (.ex x M:Oc α) Q:=eD.mpr (.inr ⟨x,M,rfl,q⟩)
theorem aN{k:α->Mm->Oc β}{Q:β->Mm->Prop}(h:Okx EX o λa M=>Okx EX (k a M) Q):Okx EX (o.bind k) Q:=by
 rcases eD.mp h with⟨a,M,rfl,q⟩|⟨x,M,rfl,q⟩
 ·exact q
 ·exact eW q
theorem Okx.mono(h:Okx EX o Q)(f:∀a M,Q a M->Q' a M):Okx EX o Q':=by
 rcases eD.mp h with⟨a,M,rfl,q⟩|⟨x,M,rfl,q⟩
 ·exact aK (f _ _ q)
 ·exact eW q
theorem Okx.monoX(h:Okx EX o Q)(f:∀a M,Q a M->Q' a M)(g:∀x M,EX x M->EX' x M):Okx EX' o Q':=by
 rcases eD.mp h with⟨a,M,rfl,q⟩|⟨x,M,rfl,q⟩
 ·exact aK (f _ _ q)
 ·exact eW (g _ _ q)
theorem Ok.mono(h:Ok o Q)(f:∀a M,Q a M->Q' a M):Okx EX o Q':=Okx.monoX h f λ_ _ z=>z.elim
variable{EX:D->Mm->Prop}{c:Bool}
theorem xA{a b:Oc α}{Q:α->Mm->Prop}(h1:c=true->Okx EX a Q)(h2:c=false->Okx EX b Q):Okx EX (if c=true then a else b) Q:=by cases c <;> simp_all
variable{p:Prop}
theorem bK[Decidable p]{a b:Oc α}{Q:α->Mm->Prop}(h1:p->Okx EX a Q)(h2:¬p->Okx EX b Q):Okx EX (if decide p=true then a else b) Q:=by by_cases h:p <;> simp_all
theorem kM[Decidable p]{a b:Oc α}{Q:α->Mm->Prop}(h1:p->Okx EX b Q)(h2:¬p->Okx EX a Q):Okx EX (if(!decide p)=true then a else b) Q:=by by_cases h:p <;> simp_all
theorem aEf{a b:Oc α}{Q:α->Mm->Prop}(h:c=true)(h1:Okx EX a Q):Okx EX (if c=true then a else b) Q:=by rw[aAH h];exact h1
theorem aDf{a b:Oc α}{Q:α->Mm->Prop}(h:c=false)(h1:Okx EX b Q):Okx EX (if c=true then a else b) Q:=by rw[aAI (by simp[h])];exact h1
section
variable{i j:Nat}{w x y:W}{Q:W->Mm->Prop}{QA:List W->Mm->Prop}{QT:Bool->Mm->Prop}{g h:FE}{G:FS}{t u:FT}{fs:FA}{gg:FG}
theorem aHd(h:L[i]?=some (some w))(q:Q w M):Okx EX (eV i L M) Q:=by unfold eV;rw[h];exact aK q
theorem aFo{d:D}(q:Q (.d d) M):Okx EX (eC d L M) Q:=aK q
theorem aAe(q:Q (.d (.lst (ns.map D.int))) M):Okx EX (eInts ns L M) Q:=aK q
theorem aFz{p:W->Mm->Oc W}(h:Okx EX (f L M) λx M1=>Okx EX (p x M1) Q):Okx EX (e1 p f L M) Q:=aN h
theorem aFu{p:W->W->Mm->Oc W}(h:Okx EX (f L M) λx M1=>Okx EX (g L M1) λy M2=>Okx EX (p x y M2) Q):Okx EX (e2 p f g L M) Q:=aN (h.mono λ_ _ z=>aN z)
theorem aDt{p p':W->W->Mm->Oc W}(z:Okx EX (f L M) λx M1=>Okx EX (g L M1) λy M2=>Okx EX (p x y M2) λw M3=>∃b,w=.d (.bl b)/\(b=true->Okx EX (h L M3) λz M4=>Okx EX (p' y z M4) Q)/\(b=false->Q (.d (.bl false)) M3)):Okx EX (e3c p p' f g h L M) Q:=by
 refine aN (z.mono λx M1 z=>aN (z.mono λy M2 z=>aN (z.mono λw M3 ⟨b,e,h1,h2⟩=>?_)))
 subst e
 cases b with
 |true=>exact aN (h1 rfl)
 |false=>exact aK (h2 rfl)
theorem aHe{p:List W->Mm->Oc W}(h:Okx EX (fs L M) λws M1=>Okx EX (p ws M1) Q):Okx EX (eA p fs L M) Q:=aN h
theorem aHa(q:QA [] M):Okx EX (aNil L M) QA:=aK q
theorem aGk(h:Okx EX (f L M) λw M1=>Okx EX (fs L M1) λws M2=>QA (w::ws) M2):Okx EX (aCons f fs L M) QA:=aN (h.mono λ_ _ z=>aN (z.mono λ_ _ z=>aK z))
theorem aDh(h:Okx EX (f L M) λw M1=>∃b,w=.d (.bl b)/\(b=true->Okx EX (g L M1) Q)/\(b=false->Q (.d (.bl false)) M1)):Okx EX (eAnd f g L M) Q:=by
 refine aN (h.mono λw M1 ⟨b,e,h1,h2⟩=>?_)
 subst e
 cases b with
 |true=>exact h1 rfl
 |false=>exact aK (h2 rfl)
theorem aGo(h:Okx EX (f L M) λw M1=>∃b,w=.d (.bl b)/\QT b M1):Okx EX (EV.tB f L M) QT:=aN (h.mono λw M1 ⟨b,e,q⟩=>by subst e;exact aK q)
theorem aFx(h:Okx EX (f L M) λw M1=>∃b,tru M1 w=some b/\QT b M1):Okx EX (tV f L M) QT:=aN (h.mono λw M1 ⟨b,e,q⟩=>by rw[e];exact aK q)
theorem aBi(h:Okx EX (t L M) λb M1=>QT (!b) M1):Okx EX (EV.tNot t L M) QT:=aN (h.mono λ_ _ z=>aK z)
theorem aAf(h:Okx EX (t L M) λb M1=>(b=true->Okx EX (u L M1) QT)/\(b=false->QT false M1)):Okx EX (EV.tAnd t u L M) QT:=aN (h.mono λb M1 ⟨h1,h2⟩=>by cases b with|true=>exact h1 rfl|false=>exact aK (h2 rfl))
theorem aCu(h:Okx EX (t L M) λb M1=>(b=true->QT true M1)/\(b=false->Okx EX (u L M1) QT)):Okx EX (EV.tOr t u L M) QT:=aN (h.mono λb M1 ⟨h1,h2⟩=>by cases b with|true=>exact aK (h1 rfl)|false=>exact h2 rfl)
theorem aBg(q:QT true M):Okx EX (EV.tYes L M) QT:=aK q
theorem aFn(q:QS (.nx L) M):Okx EX (sNil L M) QS:=aK q
theorem jN(h:Okx EX (F L M) λo M1=>match o with
 |.nx L1=>Okx EX (G L1 M1) QS
 |.bk L1=>QS (.bk L1) M1
 |.ct L1=>QS (.ct L1) M1
 |.rt w=>QS (.rt w) M1):Okx EX (sSeq F G L M) QS:=aN (h.mono λo M1 z=>by cases o with|nx L1=>exact z|bk L1=>exact aK z|ct L1=>exact aK z|rt w=>exact aK z)
theorem aGc(h:Okx EX (f L M) λ_ M1=>QS (.nx L) M1):Okx EX (sEx f L M) QS:=aN (h.mono λ_ _ z=>aK z)
theorem aGm(h:Okx EX (f L M) λw M1=>QS (.rt w) M1):Okx EX (sRt f L M) QS:=aN (h.mono λ_ _ z=>aK z)
theorem nV(h:Okx EX (t L M) λb M1=>Okx EX (if b=true then F L M1 else G L M1) QS):Okx EX (sIf t F G L M) QS:=aN h
theorem wM(h:Okx EX (f L M) λw M1=>Okx EX (gg w L M1) λL1 M2=>QS (.nx L1) M2):Okx EX (sAs f gg L M) QS:=aN (h.mono λ_ _ z=>aN (z.mono λ_ _ z=>aK z))
theorem zD(h:Okx EX (fs L M) λws M1=>∃v w,ws=[v,w]/\QS (.nx ((L.set i (some v)).set j (some w))) M1):Okx EX (sPar i j fs L M) QS:=aN (h.mono λws M1 ⟨v,w,e,q⟩=>by subst e;exact aK q)
theorem tD(q:QG (L.set i (some w)) M):Okx EX (gN i w L M) QG:=aK q
variable{gs:FGs}
theorem aHc{xs:List D}(hn:xs.length=n)(h:Okx EX (gs xs L M) QG):Okx EX (gT n gs (.d (.tup xs)) L M) QG:=by unfold gT;simp only;rw[aAH hn];exact h
theorem aFg(q:QG L M):Okx EX (gsNil [] L M) QG:=aK q
theorem aDw{d:D}{ds:List D}(h:Okx EX (gg (.d d) L M) λL1 M1=>Okx EX (gs ds L1 M1) QG):Okx EX (gsCons gg gs (d::ds) L M) QG:=aN h
theorem aFy{d:D}(h:Okx EX (f L M) λo M1=>Okx EX (g L M1) λi M2=>∃k j xs t,o=.ref k/\i=.d (.int j)/\M2[k]?=some xs/\ixN xs.length j=some t/\QG L (M2.set k (xs.set t d))):Okx EX (gS f g (.d d) L M) QG:=by
 refine aN (h.mono λo M1 z=>aN (z.mono λi M2 ⟨k,j,xs,t,e1,e2,e3,e4,q⟩=>?_))
 subst e1 e2
 simp only[e3,e4]
 exact aK q
theorem aFs{c:Int->Int->Bool}{gg:Int->Int->D}{i j:Int}(hc:c i j=true)(q:Q (.d (gg i j)) M):Okx EX (pI c gg (.d (.int i)) (.d (.int j)) M) Q:=by unfold pI;simp only;rw[aAH hc];exact aK q
theorem aEr{i j:Int}(q:Q (.d (.int (i+j))) M):Okx EX (pAdd (.d (.int i)) (.d (.int j)) M) Q:=aK q
theorem bM{xs ys:List D}(hz:xs.length+ys.length<=16777216)(q:Q (.d (.tup (xs++ys))) M):Okx EX (pAdd (.d (.tup xs)) (.d (.tup ys)) M) Q:=by unfold pAdd;simp only;rw[aAH hz];exact aK q
theorem aCi{i j:Int}(hz:mulOk i j=true)(q:Q (.d (.int (i*j))) M):Okx EX (pMulA (.d (.int i)) (.d (.int j)) M) Q:=by unfold pMulA pMul;simp only;rw[aAH hz];exact aK q
variable{k:Int}
theorem mZ{xs:List D}(hz:xs.length*k.toNat<=16777216/\k < 9223372036854775808 /\ -9223372036854775808<=k)(q:Q (.d (.tup (List.replicate k.toNat xs).flatten)) M):Okx EX (pMulA (.d (.tup xs)) (.d (.int k)) M) Q:=by
 unfold pMulA;simp only;rw[aAH hz];exact aK q
theorem sJ{a b:D}(h1:wd M x=some a)(h2:wd M y=some b)(hd:dep a<=100/\dep b<=100)(q:Q (.d (.bl (eqD a b))) M):Okx EX (pEq x y M) Q:=by unfold pEq;rw[h1,h2];simp only;rw[aAH hd];exact aK q
theorem pE{a b:D}(h1:wd M x=some a)(h2:wd M y=some b)(hd:dep a<=100/\dep b<=100)(q:Q (.d (.bl (!eqD a b))) M):Okx EX (pNe x y M) Q:=by unfold pNe;rw[h1,h2];simp only;rw[aAH hd];exact aK q
theorem aBz{i j:Int}(q:Q (.d (.bl (decide (i=j)))) M):Okx EX (pEq (.d (.int i)) (.d (.int j)) M) Q:=sJ rfl rfl (by simp[dep]) (by simp only[eqD];exact q)
theorem aFb{i j:Int}(q:Q (.d (.bl (!decide (i=j)))) M):Okx EX (pNe (.d (.int i)) (.d (.int j)) M) Q:=pE rfl rfl (by simp[dep]) (by simp only[eqD];exact q)
theorem aEy{a b:Str}(q:Q (.d (.bl (a==b))) M):Okx EX (pEq (.d (.str a)) (.d (.str b)) M) Q:=sJ rfl rfl (by simp[dep]) (by simpa only[eqD]using q)
theorem aEc{a b:Bool}(q:Q (.d (.bl (!(a==b)))) M):Okx EX (pNe (.d (.bl a)) (.d (.bl b)) M) Q:=pE rfl rfl (by simp[dep]) (by simpa only[eqD]using q)
theorem aEl{a b:Bool}(q:Q (.d (.bl (a==b))) M):Okx EX (pEq (.d (.bl a)) (.d (.bl b)) M) Q:=sJ rfl rfl (by simp[dep]) (by simpa only[eqD]using q)
theorem yI(q:Q (.d (.bl (!isN x))) M):Okx EX (pIsNot x (.d .non) M) Q:=aK q
theorem aBu{neg:Bool}{d:D}{xs:List D}(h:sv M y=some xs)(hf:flatD d=true)(hx:xs.all flatD=true)(q:Q (.d (.bl (if neg then !(xs.any λy=>eqD y d)else xs.any λy=>eqD y d))) M):Okx EX (pInG neg (.d d) y M) Q:=by
 unfold pInG;rw[h];simp only;rw[aAH ⟨hf,hx⟩];exact aK q
theorem aCq{xs:List D}{d:D}(h:atI xs k=some d)(q:Q (.d d) M):Okx EX (pIx (.d (.tup xs)) (.d (.int k)) M) Q:=by unfold pIx;simp only[sv,h];exact aK q
theorem yG{xs:List D}{d:D}(hs:∀z,x≠.d (.str z))(h1:sv M x=some xs)(h:atI xs k=some d)(q:Q (.d d) M):Okx EX (pIx x (.d (.int k)) M) Q:=by
 have:pIx x (.d (.int k)) M=.ok (.d d) M:=by
  cases x with
  |ref i=>simp only[pIx,h1,h]
  |ob _ i=>simp only[pIx,h1,h]
  |nest i=>simp only[pIx,h1,h]
  |d a=>cases a <;> first|(exact(hs _ rfl).elim)|(simp only[pIx,h1,h])
 rw[this];exact aK q
theorem cU{xs:List D}{d:D}(h:atI xs k=some d)(q:Q (.d d) M):Okx EX (pIx (.d (.lst xs)) (.d (.int k)) M) Q:=yG (by simp) rfl h q
theorem rB{xs:List D}{d:D}(h:atI xs k=some d)(q:Q (.d d) M):Okx EX (pIx (.d (.fz xs)) (.d (.int k)) M) Q:=yG (by simp) rfl h q
variable{b:Nat}
theorem nI{xs:List D}{d:D}(h1:M[b]?=some xs)(h:atI xs k=some d)(q:Q (.d d) M):Okx EX (pIx (.ref b) (.d (.int k)) M) Q:=yG (by simp) h1 h q
theorem aDl{ws:List W}{ds:List D}(h:allD ws=some ds)(hz:ds.length<=16777216)(q:Q (.d (.tup ds)) M):Okx EX (mkT ws M) Q:=by unfold mkT;rw[h];simp only;rw[aAH hz];exact aK q
theorem aEd{ws:List W}{ds:List D}(h:allD ws=some ds)(hz:ds.length<=16777216)(q:Q (.d (.lst ds)) M):Okx EX (mkL ws M) Q:=by unfold mkL;rw[h];simp only;rw[aAH hz];exact aK q
theorem aCf{ws:List W}{ds:List D}(h:allD ws=some ds)(hz:ds.length<=16777216)(q:Q (.ref M.length) (M++[ds])):Okx EX (mkR ws M) Q:=by unfold mkR;rw[h];simp only;rw[aAH hz];exact aK q
theorem aDj{xs:List D}(hs:∀z,x≠.d (.str z))(h:sv M x=some xs)(q:Q (.d (.int xs.length)) M):Okx EX (cLen [x] M) Q:=by
 have:cLen [x] M=.ok (.d (.int xs.length)) M:=by
  cases x with
  |ref i=>simp only[cLen,h]
  |ob _ i=>simp only[cLen,h]
  |nest i=>simp only[cLen,h]
  |d a=>cases a <;> first|(exact(hs _ rfl).elim)|(simp only[cLen,h])
 rw[this];exact aK q
theorem aBq{xs:List D}(q:Q (.d (.int xs.length)) M):Okx EX (cLen [.d (.tup xs)] M) Q:=aK q
theorem aAn{xs:List D}(q:Q (.d (.int xs.length)) M):Okx EX (cLen [.d (.lst xs)] M) Q:=aK q
theorem zV{xs:List D}(q:Q (.d (.int xs.length)) M):Okx EX (cLen [.d (.fz xs)] M) Q:=aK q
theorem zR{xs:List D}(h:M[b]?=some xs)(q:Q (.d (.int xs.length)) M):Okx EX (cLen [.ref b] M) Q:=aDj (by simp) h q
variable{b:Bool}
theorem aBa(q:Q (.d (.int (if b=true then 1 else 0))) M):Okx EX (cInt [.d (.bl b)] M) Q:=aK q
theorem aEi{l:Int}(q:Q (.d (.int (if l > k then l else k))) M):Okx EX (cMax2 [.d (.int k),.d (.int l)] M) Q:=aK q
theorem aCs{l:Int}(q:Q (.d (.int (if l < k then l else k))) M):Okx EX (cMin2 [.d (.int k),.d (.int l)] M) Q:=aK q
theorem gX{xs:List D}(h:sv M x=some xs)(q:Q (.d (.tup xs)) M):Okx EX (cTup [x] M) Q:=by unfold cTup;simp only[h];exact aK q
theorem aDv{xs:List D}(h:sv M x=some xs)(q:Q (.d (.lst xs)) M):Okx EX (cList [x] M) Q:=by unfold cList;simp only[h];exact aK q
theorem zM{xs:List D}(h:sv M x=some xs)(q:Q (.ref M.length) (M++[xs])):Okx EX (cListR [x] M) Q:=by unfold cListR;simp only[h];exact aK q
theorem aEv{T:String}(h:isT T M x=some b)(q:Q (.d (.bl b)) M):Okx EX (pIsI T x M) Q:=by unfold pIsI;rw[h];exact aK q
theorem aGj{p:W->W->Mm->Oc W}(h:Okx EX (f L M) λx M1=>∃k,x=.ref k/\Okx EX (g L M1) λy M2=>Okx EX (p (.ref k) y M2) Q):Okx EX (eM1 p f g L M) Q:=aN (h.mono λx M1 ⟨k,e,z⟩=>by subst e;exact aN z)
theorem vH{k:Nat}{d:D}{xs:List D}(h:M[k]?=some xs)(hz:xs.length < 16777216)(q:Q (.d .non) (M.set k (xs++[d]))):Okx EX (pAppend (.ref k) (.d d) M) Q:=by unfold pAppend;simp only[h];rw[aAH hz];exact aK q
theorem aGb{fl fh:FO}(z:Okx EX (f L M) λx M1=>Okx EX (fl L M1) λlo M2=>Okx EX (fh L M2) λhi M3=>Okx EX (pSl x lo hi M3) Q):Okx EX (eSl f fl fh L M) Q:=aN (z.mono λ_ _ z=>aN (z.mono λ_ _ z=>aN z))
theorem aEb(q:QO none M):Okx EX (oNo L M) QO:=aK q
theorem aDp(h:Okx EX (f L M) λw M1=>∃k,w=.d (.int k)/\QO (some k) M1):Okx EX (oAt f L M) QO:=aN (h.mono λw M1 ⟨k,e,q⟩=>by subst e;exact aK q)
theorem aCl{xs:List D}(q:Q (.d (.tup (cut xs lo hi))) M):Okx EX (pSl (.d (.tup xs)) lo hi M) Q:=aK q
variable{fi:FI}{B:FS}
theorem aFe(h:Okx EX (fi L M) λs M1=>Okx EX (forD s gg B s.ds L M1) QS):Okx EX (sFor fi gg B L M) QS:=aN h
theorem aGx{s:Src}(h:Okx EX (f L M) λw M1=>∃s,srcOf M1 w=some s/\QI s M1):Okx EX (iE f L M) QI:=aN (h.mono λw M1 ⟨s,e,q⟩=>by rw[e];exact aK q)
theorem aCt(h:Okx EX (f L M) λw M1=>∃j,w=.d (.int j)/\in62 j=true/\QI ⟨rngD 0 j.toNat,none⟩ M1):Okx EX (iR1 f L M) QI:=aN (h.mono λw M1 ⟨j,e,hz,q⟩=>by subst e;simp only;rw[aAH hz];exact aK q)
theorem dW{s:Src}(I:Nat->Lc->Mm->Prop)(h0:I 0 L M)(hc:∀i L M,i<=s.ds.length->I i L M->Chk s M)
  (hs:∀i d L M,s.ds[i]?=some d->I i L M->Okx EX (gg (.d d) L M) λL1 M1=>Okx EX (B L1 M1) λo M2=>match o with
   |.nx L2=>I (i+1) L2 M2
   |.ct L2=>I (i+1) L2 M2
   |.bk L2=>QS (.nx L2) M2
   |.rt w=>QS (.rt w) M2)(hd:∀L M,I s.ds.length L M->QS (.nx L) M):Okx EX (forD s gg B s.ds L M) QS:=by
 have key:∀k i L M,s.ds.length - i=k->i<=s.ds.length->I i L M->Okx EX (forD s gg B (s.ds.drop i) L M) QS:=by
  intro k
  induction k with
  |zero =>
   intro i L M e hi hI
   have:i=s.ds.length:=by lia
   subst this
   rw[aEJ (aAE _)]
   unfold forD
   rw[aAH (hc _ L M (aAE _) hI)]
   exact aK (hd L M hI)
  |succ k ih =>
   intro i L M e hi hI
   have hlt:i < s.ds.length:=by lia
   rw[aBY hlt]
   unfold forD
   rw[aAH (hc _ L M hi hI)]
   refine aN ((hs i s.ds[i] L M (by simp[hlt]) hI).mono λL1 M1 z=>aN (z.mono λo M2 z=>?_))
   cases o with
   |nx L2=>exact ih (i+1) L2 M2 (by lia) (by lia) z
   |ct L2=>exact ih (i+1) L2 M2 (by lia) (by lia) z
   |bk L2=>exact aK z
   |rt w=>exact aK z
 simpa using key s.ds.length 0 L M (by lia) (by lia) h0
theorem jI(I:Nat->Lc->Mm->Prop)(hs:∀m L M,I m L M->Okx EX (t L M) λb M1=>(b=true->Okx EX (B L M1) λo M2=>match o with
   |.nx L2=>∃m',m' < m/\I m' L2 M2
   |.ct L2=>∃m',m' < m/\I m' L2 M2
   |.bk L2=>QS (.nx L2) M2
   |.rt w=>QS (.rt w) M2)/\(b=false->QS (.nx L) M1)):∀(n m:Nat) (L:Lc) (M:Mm),I m L M->m < n->Okx EX (whileD t B n L M) QS:=by
 intro n
 induction n with
 |zero=>intro m L M _ h;lia
 |succ n ih =>
  intro m L M hI hm
  unfold whileD
  refine aN ((hs m L M hI).mono λb M1 ⟨h1,h2⟩=>?_)
  cases b with
  |false=>exact aK (h2 rfl)
  |true =>
   refine aN ((h1 rfl).mono λo M2 z=>?_)
   cases o with
   |nx L2=>obtain⟨m',l,z⟩:=z;exact ih m' L2 M2 z (by lia)
   |ct L2=>obtain⟨m',l,z⟩:=z;exact ih m' L2 M2 z (by lia)
   |bk L2=>exact aK z
   |rt w=>exact aK z
theorem iB{c:FT}(I:Nat->List D->Lc->Mm->Prop)
  (h:Okx EX (fi L M) λs M1=>(I 0 [] (outL js L) M1/\(∀i acc L M,i<=s.ds.length->I i acc L M->M.length=M1.length/\Chk s (M++[acc])/\acc.length<=i)/\s.ds.length<=16777216 /\
   (∀i d acc L M,s.ds[i]?=some d->I i acc L M->Ok (gg (.d d) L (M++[acc])) λL1 M2=>Ok (c L1 M2) λb M3=>(b=true->Ok (f L1 M3) λw M4=>∃x M5,w=.d x/\M4=M5++[acc]/\I (i+1) (acc++[x]) L1 M5)/\(b=false->∃M5,M3=M5++[acc]/\I (i+1) acc L1 M5)) /\
   (∀acc L M,I s.ds.length acc L M->Q (.d (.lst acc)) M))):Okx EX (eComp js fi gg c f L M) Q:=by
 unfold eComp compT
 refine aN (aN (h.mono λs M1 ⟨h0,hc,hz,hs,hd⟩=>?_))
 have key:∀k i acc L M,s.ds.length - i=k->i<=s.ds.length->I i acc L M->∃acc' L' M',compD M1.length s gg c f (s.ds.drop i) L (M++[acc])=.ok () (M'++[acc'])/\I s.ds.length acc' L' M':=by
  intro k
  induction k with
  |zero =>
   intro i acc L M e hi hI
   have:i=s.ds.length:=by lia
   subst this
   rw[aEJ (aAE _)]
   unfold compD
   rw[aAH (hc _ acc L M (aAE _) hI).2.1]
   exact⟨acc,L,M,rfl,hI⟩
  |succ k ih =>
   intro i acc L M e hi hI
   have hlt:i < s.ds.length:=by lia
   rw[aBY hlt]
   unfold compD
   obtain⟨hl,hch,hal⟩:=hc _ acc L M hi hI
   rw[aAH hch]
   obtain⟨L1,M2,e1,hh⟩:=gZ.mp (hs i s.ds[i] acc L M (by simp[hlt]) hI)
   obtain⟨L1',M3,e2,h1,h2⟩:=gZ.mp hh
   rw[e1]
   simp only[cR]
   rw[e2]
   simp only[cR]
   cases L1' with
   |false =>
    obtain⟨M5,e3,hI'⟩:=h2 rfl
    subst e3
    simp only[aAS,aBU]
    exact ih (i+1) acc L1 M5 (by lia) (by lia) hI'
   |true =>
    obtain⟨w,M4,e3,x,M5,rfl,rfl,hI'⟩:=gZ.mp (h1 rfl)
    simp only[aCI]
    rw[e3]
    simp only[cR]
    have hl5:=(hc _ _ _ _ (by lia) hI').1
    have g1:(M5++[acc])[M1.length]?=some acc:=by rw[<- hl5];simp
    rw[g1]
    simp only
    rw[aAH (by lia)]
    have g2:(M5++[acc]).set M1.length (acc++[x])=M5++[acc++[x]]:=by rw[<- hl5];simp
    rw[g2]
    exact ih (i+1) (acc++[x]) L1 M5 (by lia) (by lia) hI'
 obtain⟨acc,L',M',e,hI⟩:=key s.ds.length 0 [] (outL js L) M1 (by lia) (by lia) h0
 rw[List.drop_zero]at e
 rw[e]
 have hl:=(hc _ _ _ _ (aAE _) hI).1
 have g1:(M'++[acc])[M1.length]?=some acc:=by rw[<- hl];simp
 have g2:(M'++[acc]).take M1.length=M':=by rw[<- hl];simp
 simp only[g1,g2]
 exact aK (aK (hd acc L' M' hI))
theorem dM{m:Nat}{ws:List W}(hm:ws.length=m)(h:Okx EX (F (ws.map some++List.replicate (n - ws.length) none) M) λo M'=>match o with
  |.rt w=>Okx EX (retc M.length w M') Q
  |.nx _=>Q (.d .non) (M'.take M.length)
  |_=>False):Okx EX (fnD m n F ws M) Q:=by
 unfold fnD
 rw[aAH hm]
 refine aN (h.mono λo M' z=>?_)
 cases o with
 |rt w=>exact z
 |nx L=>exact aK z
 |bk L=>exact z.elim
 |ct L=>exact z.elim
theorem yW{d:D}(q:Q (.d d) (M.take n)):Okx EX (retc n (.d d) M) Q:=aK q
theorem aDg{m:Nat}{ws:List W}(hm:ws.length=m)(h:Okx EX (F (ws.map some++List.replicate (n - ws.length) none) M) λo M'=>∃i ds,o=.rt (.ref i)/\M.length<=i/\M'[i]?=some ds/\Q (.ref M.length) (M'.take M.length++[ds])):Okx EX (fnR m n F ws M) Q:=by
 unfold fnR
 rw[aAH hm]
 refine aN (h.mono λo M' ⟨i,ds,e,hi,e2,q⟩=>?_)
 subst e
 simp only[e2]
 rw[aAH hi]
 exact aK q
end
noncomputable def Bx(M:Mm)(b:Nat):Prop:=∃x y z,M[b]?=some [.int x,.int y,.int z]
noncomputable def Nx(b:Nat)(M M':Mm):Prop:=∃x y z,M'=M.set b [.int x,.int y,.int z]
variable{b:Nat}
theorem Bx.lt(h:Bx M b):b < M.length:=by obtain⟨x,y,z,e⟩:=h;exact(aAD.mp e).1
theorem Nx.len(h:Nx b M M'):M'.length=M.length:=by obtain⟨x,y,z,rfl⟩:=h;simp
theorem Nx.bx(h:Nx b M M')(l:Bx M b):Bx M' b:=by
 obtain⟨x,y,z,rfl⟩:=h
 exact⟨x,y,z,aBD l.lt⟩
theorem Nx.trans{M1 M2:Mm}(h:Nx b M M1)(h':Nx b M1 M2):Nx b M M2:=by
 obtain⟨x,y,z,rfl⟩:=h
 obtain⟨x',y',z',rfl⟩:=h'
 exact⟨x',y',z',by rw[List.set_set]⟩
theorem Nx.refl(h:Bx M b):Nx b M M:=by
 obtain⟨x,y,z,e⟩:=h
 refine⟨x,y,z,?_⟩
 apply aFO
 intro i
 by_cases hi:b=i
 ·subst hi;rw[aBD (aAD.mp e).1,e]
 ·rw[aBH hi]
theorem Nx.get{M M':Mm}{b i:Nat}(h:Nx b M M')(n:b≠i):M'[i]?=M[i]?:=by
 obtain⟨x,y,z,rfl⟩:=h
 rw[aBH n]
theorem Nx.unapp{J:Mm}(h:Nx b (M++J) M')(l:b < M.length):∃M1,M'=M1++J/\Nx b M M1:=by
 obtain⟨x,y,z,rfl⟩:=h
 exact⟨_,List.set_append_left _ _ l,x,y,z,rfl⟩
theorem Bx.app{J:Mm}(h:Bx M b):Bx (M++J) b:=by
 obtain⟨x,y,z,e⟩:=h
 exact⟨x,y,z,by rw[aAU (aAD.mp e).1];exact e⟩
theorem Nx.take{M M':Mm}{b:Nat}(h:Nx b M M'):M'.take M.length=M':=by rw[<- h.len,aAR]
mutual
noncomputable def sz:D->Nat
 |.tup xs=>szs xs+1
 |.lst xs=>szs xs+1
 |.fz xs=>szs xs+1
 |.exn _ _ xs=>szs xs+1
 |_=>1
noncomputable def szs:List D->Nat
 |[]=>0
 |x::xs=>sz x+szs xs
end
mutual
noncomputable def noL:D->Bool
 |.tup xs=>noLs xs
 |.lst _=>false
 |.fz _=>false
 |.exn _ _ _=>false
 |_=>true
noncomputable def noLs:List D->Bool
 |[]=>true
 |x::xs=>noL x&&noLs xs
end
theorem atBox(c:Int):atI [D.int 0,D.int c] (if decide ((10:Int) ^ (Int.toNat 18)<=c)=true then 1 else 0)=some (.int (if(1000000000000000000:Int)<=c then c else 0)):=by
 by_cases hc:(1000000000000000000:Int)<=c <;> simp[hc,atI,ixN]
end EV
section
open PySem PySem.Spec PyProof.Rows
namespace EV
open L2
variable{EX:D->Mm->Prop}{K:Frag}{Q:W->Mm->Prop}
end EV
namespace EV
open L2
variable{EX:D->Mm->Prop}{K:Frag}{a b c:Expr}{fs:FA}
noncomputable section
def srt(ns:List Int):List Int:=ns.mergeSort λa b=>decide (a<=b)
theorem iY(ns:List Int):(srt ns).Perm ns:=List.mergeSort_perm _ _
theorem gW(ns:List Int):(srt ns).Pairwise (·<=·):=by
 have:=List.pairwise_mergeSort (le:=λa b:Int=>decide (a<=b)) (λa b c h1 h2=>by simp at *;lia) (λa b=>by simp;lia) ns
 exact this.imp λh=>by simpa using h
theorem kS{ns':List Int}(p:ns'.Perm ns)(o:ns'.Pairwise (·<=·)):ns'=srt ns :=
 List.Perm.eq_of_pairwise (le:=(·<=·)) (λa b _ _ h1 h2=>Int.le_antisymm h1 h2) o (gW ns) (p.trans (iY ns).symm)
theorem lV(o:ns.Pairwise (·<=·)):srt ns=ns:=(kS (.refl _) o).symm
theorem eZ(ns:List Int):(srt ns).length=ns.length:=(iY ns).length_eq
theorem zJ{x:Int}:x∈srt ns ↔ x∈ns:=(iY ns).mem_iff
theorem lF:∀{ns:List Int},Vals (ns.map V.int) us->IntsAre us ns:=by
 induction us with
 |nil=>intro ns h;cases ns with
  |nil=>exact .nil
  |cons n r=>cases h
 |cons u us ih=>intro ns h;cases ns with
  |nil=>cases h
  |cons n r =>
   cases h with
   |cons p q =>
    obtain⟨t,rfl⟩:=p
    exact .cons n t (ih q)
theorem jX(h:IntsAre us ns):Vals (ns.map V.int) us:=by
 induction h with
 |nil=>exact .nil
 |cons n t _ ih=>exact .cons ⟨t,rfl⟩ ih
theorem pL:CallR X (.builtin "sorted") (λxs H Q=>∃p ns,xs=[.ref p]/\SqL X.K H p (ns.map V.int)/\ns.length < 64/\∀l,H l=none->Q (.ref l) (upd H l (.lst ((srt ns).map V.int)))):=by
 intro pins s σ H xs us Q I r h
 obtain⟨p,ns,rfl,hq,h64,q⟩:=h
 obtain⟨u,rfl,rx⟩:=vals1 r
 cases rx
 obtain⟨its,r',pl,hz⟩:=I.list hq
 have hI:=lF r'
 have hlen:its.length=ns.length:=by have:=r'.length;simpa using this.symm
 refine sorted_ints pl.isList hI (by lia) λout ns' a1 a2 a3=>?_
 have e:=kS a2 a3
 subst e
 obtain⟨c,hc⟩:=sortedAll_at s.heap its out
 refine⟨.ref (s.heap.objs.size+1),_,I.laid (t':=s.toks) (λb o e=>sortedAll_old e) (aEI _) (show ObjOk X.prog X.w _ _ _ (.lst ((srt ns).map V.int))from⟨by rw[aAY];simp[eZ];lia,out.toList,c,jX a1,by simpa using hc⟩),rfl,q _ (I.hok.fresh (aEI _))⟩
def intsOf:List D->Option (List Int)
 |[]=>some []
 |.int i::r=>(intsOf r).map (i::·)
 |_::_=>none
theorem lE(ns:List Int):intsOf (ns.map D.int)=some ns:=by
 induction ns with
 |nil=>rfl
 |cons n r ih=>simp only[aDG,intsOf,ih,Option.map_some]
theorem jH:∀{ds:List D} {ns:List Int},intsOf ds=some ns->ds=ns.map D.int
 |[],ns,h=>by cases h;rfl
 |.int i::r,ns,h=>by
  simp only[intsOf,aBG]at h
  obtain⟨ms,h1,rfl⟩:=h
  rw[jH h1];rfl
 |.non::_,_,h=>by cases h
 |.bl _::_,_,h=>by cases h
 |.str _::_,_,h=>by cases h
 |.tup _::_,_,h=>by cases h
 |.lst _::_,_,h=>by cases h
 |.fz _::_,_,h=>by cases h
 |.exn _ _ _::_,_,h=>by cases h
theorem lH:∀{ns:List Int} {vs:List V},Rps K μ H (ns.map D.int) vs->vs=ns.map V.int
 |[],vs,h=>by simpa[Rps]using h
 |n::r,vs,h=>by
  simp only[aDG,Rps,Rp]at h
  obtain⟨v,t,rfl,rfl,h3⟩:=h
  rw[lH h3];rfl
def cSorted(ws:List W)(M:Mm):Oc W:=match ws with
 |[w]=>match lr M w with
  |some xs=>match intsOf xs with
   |some ns=>if ns.length < 64 then okD (.lst ((srt ns).map .int)) M else .bad
   |none=>.bad
  |none=>.bad
 |_=>.bad
end
theorem callSorted(hc:X.calm=true):ClG X K Z (.builtin "sorted") cSorted:=λhk=>by
 refine⟨_,hk▸pL,?_⟩
 intro μ H M ws vs Q hr rx p
 match ws,rx,p with
 |[],_,p=>exact p.elim
 |[w],⟨v,r,e1,e2,e3⟩,p =>
  cases e3;subst e1
  simp only[cSorted]at p
  cases q:lr M w with
  |none=>rw[q]at p;exact p.elim
  |some xs =>
   rw[q]at p
   simp only at p
   cases q2:intsOf xs with
   |none=>rw[q2]at p;exact p.elim
   |some ns =>
    rw[q2]at p
    simp only at p
    split at p
    ·rename_i hz
     obtain⟨a,us,rfl,h1,r1⟩:=sZ hr e2 q
     have e:=jH q2
     subst e
     have e:=lH r1
     subst e
     exact⟨a,ns,rfl,h1,hz,dZ hr Rps.ints p⟩
    ·exact p.elim
 |_::_::_,_,p=>exact p.elim
variable{w x:W}{Q:W->Mm->Prop}
theorem mQ{ds:List D}(h:lr M x=some ds)(e:ds=ns.map D.int)(hz:ns.length < 64)(q:Q (.d (.lst ((srt ns).map D.int))) M):Okx EX (cSorted [x] M) Q:=by
 subst e
 unfold cSorted;simp only[h,lE];rw[aAH hz];exact aK q
end EV
namespace EV
open L2
variable{EX:D->Mm->Prop}{K:Frag}{a b c o i e:Expr}{fs:FA}{fe:FE}
end EV
namespace L2
variable{σ:St}
theorem Inv.turnLay{T:Addr}{o:HO}(I:Inv X pins σ H s)(hf:∀b∈fp,FpOk X pins H b)(k:∀b u,b∉fp->s.heap.get? b=some u->h'.get? b=some u)(hT:s.heap.objs.size<=T)(new:ObjOk X.prog X.w (upd H T o) h' T o) :
  Inv X pins σ (upd H T o) {s with heap:=h',toks:=t'}:=by
 have hn:H T=none:=I.hok.fresh hT
 have nfp:∀b u,H b=some u->b∉fp:=λb u e z=>by rw[(hf b z).1]at e;cases e
 have lt:∀b u,s.heap.get? b=some u->b≠T:=λb u e z=>by subst z;exact absurd (aAG e) (Nat.not_lt.mpr hT)
 have neT:∀b u,H b=some u->b≠T:=λb u e z=>by rw[z,hn]at e;cases e
 refine I.step (g':=s.gens) (d':=s.drawn) (ch:=fp) (λb hb=>?_) (λb u _ _ hc e _=>k b u hc e) (λb u _ _ hc e _=>⟨u.slots,k b u hc e⟩) (λb u _ e n=>by rw[aP (lt b u e)];exact n)
  (λb u hc e=>⟨u,k b u hc e⟩) (λb xs e=>by rw[aP (neT b _ e)];exact e) (λb u v e=>by rw[aP (neT b _ e)];exact e) (λb ps e=>⟨#[],by rw[aP (neT b _ e),e];simp⟩) (λm hm=>?_) (λb u e=>?_) I.bare
 ·obtain⟨_,f1,_,f3,f4,f5⟩:=hf b hb
  exact⟨f3,f1,f4,f5⟩
 ·obtain⟨u,es,ep,ho,r⟩:=hm
  exact⟨u,es,ep,k _ u (λz=>(hf _ z).2.1 rfl) ho,r⟩
 ·by_cases hb:b=T
  ·subst hb;rw[aU]at e;cases e;exact new
  ·rw[aP hb]at e
   refine(I.hok b u e).stay (λc v hc q=>k c v ?_ q) (λc q=>by rw[aP (neT c _ q)];exact q) λc xs q=>by rw[aP (neT c _ q)];exact q
   rcases hc with z|z
   ·rw[z];exact nfp b u e
   ·exact nfp c _ z
theorem Inv.turnedL(I:Inv X pins σ H s)(hf:∀b∈fp,FpOk X pins H b)(k:∀b u,b∉fp->s.heap.get? b=some u->h'.get? b=some u):Inv X pins σ H {s with heap:=h',toks:=t'}:=by
 have nfp:∀b u,H b=some u->b∉fp:=λb u e z=>by rw[(hf b z).1]at e;cases e
 refine I.step (g':=s.gens) (d':=s.drawn) (ch:=fp) (λb hb=>?_) (λb u _ _ hc e _=>k b u hc e) (λb u _ _ hc e _=>⟨u.slots,k b u hc e⟩) (λ_ _ _ _ n=>n)
  (λb u hc e=>⟨u,k b u hc e⟩) (λ_ _ e=>e) (λ_ _ _ e=>e) (λb ps e=>⟨#[],by rw[e];simp⟩) (λm hm=>?_) (λb u e=>?_) I.bare
 ·obtain⟨_,f1,_,f3,f4,f5⟩:=hf b hb
  exact⟨f3,f1,f4,f5⟩
 ·obtain⟨u,es,ep,ho,r⟩:=hm
  exact⟨u,es,ep,k _ u (λz=>(hf _ z).2.1 rfl) ho,r⟩
 ·refine(I.hok b u e).stay (λc v hc q=>k c v ?_ q) (λ_ q=>q) λ_ _ q=>q
  rcases hc with z|z
  ·rw[z];exact nfp b u e
  ·exact nfp c _ z
noncomputable section
def SqB(b:Bool)(K:Frag)(H:Hp)(a:Addr)(xs:List V):Prop:=if b=true then SqL K H a xs else SqT K H a xs
def It0(b:Bool)(h:Heap)(it src:Addr)(i:Nat):Prop:=if b=true then h.IsListIter it src i else h.IsTupleIter it src i
def IsB(b:Bool)(h:Heap)(a:Addr)(xs:Array Value):Prop:=if b=true then h.IsList a xs else h.IsTuple a xs
end
theorem It0.at{b:Bool}{h h':Heap}{it src:Addr}{i:Nat}(x:It0 b h it src i)(k:∀o,h.get? it=some o->h'.get? it=some o):It0 b h' it src i:=by
 cases b
 ·exact Heap.IsTupleIter.at x k
 ·exact Heap.IsListIter.at x k
variable{b:Bool}
theorem It0.obj(x:It0 b h it src i):∃o,h.get? it=some o/\∀v,o.data≠.cell v:=by
 cases b
 ·obtain⟨o,e,c,d⟩:=(show h.IsTupleIter it src i from x)
  exact⟨o,e,λv z=>by rw[d]at z;cases z⟩
 ·obtain⟨o,e,c,d⟩:=(show h.IsListIter it src i from x)
  exact⟨o,e,λv z=>by rw[d]at z;cases z⟩
variable{xs:Array Value}
theorem xR(x:It0 b h it src i)(y:IsB b h src xs):ZP.It1 h it src i xs:=by
 cases b
 ·exact .inr ⟨x,y⟩
 ·exact .inl ⟨x,y⟩
theorem aBv{ys:Array Value}(y:IsB b h src ys)(x:ZP.It1 h it src i xs):It0 b h it src i:=by
 cases b
 ·rcases x with⟨_,o,e,c,_⟩|⟨x,_⟩
  ·obtain⟨o',e',c',_⟩:=(show h.IsTuple src ys from y)
   rw[e]at e';cases e';rw[c]at c';simp at c'
  ·exact x
 ·rcases x with⟨x,_⟩|⟨_,o,e,c,_⟩
  ·exact x
  ·obtain⟨o',e',c',_⟩:=(show h.IsList src ys from y)
   rw[e]at e';cases e';rw[c]at c';simp at c'
variable{a:Addr}
theorem IsB.at(x:IsB b h a xs)(k:∀o,h.get? a=some o->h'.get? a=some o):IsB b h' a xs:=by
 cases b
 ·obtain⟨o,e,r⟩:=(show h.IsTuple a xs from x);exact⟨o,k o e,r⟩
 ·obtain⟨o,e,r⟩:=(show h.IsList a xs from x);exact⟨o,k o e,r⟩
theorem IsB.lt(x:IsB b h a xs):a < h.objs.size:=by
 cases b
 ·obtain⟨o,e,r⟩:=(show h.IsTuple a xs from x);exact aAG e
 ·obtain⟨o,e,r⟩:=(show h.IsList a xs from x);exact aAG e
theorem SqB.inv{xs:List V}(I:Inv X pins σ H s)(h:SqB b X.K H a xs):∃its:List Value,Vals xs its/\IsB b s.heap a its.toArray/\xs.length<=sizeLine:=by
 cases b
 ·obtain⟨its,r,pl,hz⟩:=I.tuple (show SqT X.K H a xs from h);exact⟨its,r,pl,hz⟩
 ·obtain⟨its,r,pl,hz⟩:=I.list (show SqL X.K H a xs from h);exact⟨its,r,pl.isList,hz⟩
variable{prog:Program}{E:Value->Shared->Prop}
end L2
namespace EV
open L2
variable{EX:D->Mm->Prop}
section
variable{K:Frag}{a b:Expr}{g:FE}{tg:Expr}
noncomputable def dz:W->Option (List D)
 |.d (.tup xs)=>some xs
 |.d (.lst xs)=>some xs
 |.d (.fz xs)=>some xs
 |_=>none
theorem aCh{w:W}{ds:List D}(r:Rw K μ H w v)(h:dz w=some ds):∃(b:Bool) (a:Addr) (vs:List V) (S:List Addr->Hp->Prop),v=.ref a/\S μ H/\(∀μ1 H1 μ2 H2,Lsts μ1 H1->S μ1 H1->Ext μ1 H1 μ2 H2->S μ2 H2)/\∀μ1 H1,S μ1 H1->SqB b K H1 a vs/\Rps K μ1 H1 ds vs:=by
 cases w with
 |ref i=>cases h
 |ob _ _=>cases h
 |nest _=>cases h
 |d x=>cases x with
  |tup xs =>
   cases h
   simp only[Rw,Rp]at r
   obtain⟨p,vs,rfl,h1,r1⟩:=r
   exact⟨false,p,vs,λμ2 H2=>H2 p=some (.tup vs)/\Rps K μ2 H2 ds vs,rfl,⟨h1,r1⟩,λμ1 H1 μ2 H2 l z e=>⟨e.keep _ _ (λq=>by obtain⟨us,q,mq⟩:=l p q;rw[z.1]at q;cases q;exact mq) z.1,Rps.ext l e _ _ z.2⟩,λμ1 H1 z=>⟨SqT.of z.1,z.2⟩⟩
  |lst xs =>
   cases h
   simp only[Rw,Rp]at r
   obtain⟨p,vs,rfl,h1,hn,r1⟩:=r
   exact⟨true,p,vs,λμ2 H2=>H2 p=some (.lst vs)/\p∉μ2/\Rps K μ2 H2 ds vs,rfl,⟨h1,hn,r1⟩,λμ1 H1 μ2 H2 l z e=>⟨e.keep _ _ z.2.1 z.1,λq=>(e.new p q).elim z.2.1 (λq=>by rw[z.1]at q;cases q),Rps.ext l e _ _ z.2.2⟩,λμ1 H1 z=>⟨SqL.of z.1,z.2.2⟩⟩
  |fz xs =>
   cases h
   simp only[Rw,Rp]at r
   obtain⟨p,vs,rfl,h1,r1⟩:=r
   exact⟨true,p,vs,λμ2 H2=>FzL K H2 p vs/\Rps K μ2 H2 ds vs,rfl,⟨h1,r1⟩,λμ1 H1 μ2 H2 l z e=>⟨z.1.ext l e,Rps.ext l e _ _ z.2⟩,λμ1 H1 z=>⟨z.1.sq,z.2⟩⟩
  |_=>cases h
theorem xN{T:Addr}{x y:D}{u:V}(hr:HR K μ H M)(hT:H T=none)(r1:Rp K μ H x u)(r2:Rp K μ H y v):Ext μ H μ (upd H T (.tup [u,v]))/\HR K μ (upd H T (.tup [u,v])) M/\Rp K μ (upd H T (.tup [u,v])) (.tup [x,y]) (.ref T):=by
 have e:=dN (o:=.tup [u,v]) hr hT
 refine⟨e,hr.lay hT,?_⟩
 simp only[Rp]
 exact⟨T,[u,v],rfl,aU,.cons (Rp.ext hr.lsts e _ _ r1) (.cons (Rp.ext hr.lsts e _ _ r2) .nil)⟩
end
section
variable{g:FE}
end
end EV
namespace L2
variable{prog:Program}{E:Value->Shared->Prop}{e:Addr}{c:Int}{xs:Array Value}{old:Value}
theorem uP{x:Value}(he:IsEnum s.heap e it c old)(h1:ZP.It1 s.heap it src i xs)(hx:xs[i]?=some x)(hne:e≠it)(hes:src≠e)
  (hQ:∀h',IsEnumOut h' e it (c+1) x s.heap.objs.size->ZP.It1 h' it src (i+1) xs->h'.get? s.heap.objs.size=some {cls:=.type "tuple",data:=.seq #[.int c s.toks,x]} ->
   (∀b o,b≠e->b≠it->s.heap.get? b=some o->h'.get? b=some o)->Q (.ref s.heap.objs.size) {s with heap:=h',toks:=s.toks+1}) :
  wpAny (model prog w) A (Builtin.«enumerate.__next__» ⟨[.ref e],[]⟩) (λfin s'=>∃v,fin=.done (.ret v)/\Q v s') E s:=by
 obtain⟨hp,g,d,tk,os⟩:=s
 show wpAny _ _ (field (.ref e) 2 >>= _) _ _ _
 refine aAA (aAV he rfl (x:=.ref it) rfl (aAA (h1.next hx λk1 hit1 hs1=>?_)))
 have hs1:Heap.SameBut it hp k1:=hs1
 have he1:IsEnum k1 e it c old:=(hs1.2 e hne).trans he
 show wpAny _ _ (field (.ref e) 3 >>= _) _ _ ⟨k1,g,d,tk,os⟩
 refine aAA (aAV he1 rfl (x:=rawInt c) rfl ?_)
 show wpAny _ _ (field (.ref e) 4 >>= _) _ _ ⟨k1,g,d,tk,os⟩
 refine aAA (aAV he1 rfl (x:=.none) rfl ?_)
 show wpAny _ _ (mkInt c >>= _) _ _ ⟨k1,g,d,tk,os⟩
 refine aAA (wpAny_mkInt ?_)
 show wpAny _ _ (setField (.ref e) 3 (rawInt (c+1)) >>= _) _ _ ⟨k1,g,d,tk+1,os⟩
 refine aAA (aEG he1 (by simp) λk2 he2 hs2=>?_)
 have hs2:Heap.SameBut e k1 k2:=hs2
 have he2:IsEnum k2 e it (c+1) old:=he2
 show wpAny _ _ (setField (.ref e) 4 .none >>= _) _ _ ⟨k2,g,d,tk+1,os⟩
 refine aAA (aEG he2 (by simp) λk3 he3 hs3=>?_)
 have hs3:Heap.SameBut e k2 k3:=hs3
 have he3:IsEnum k3 e it (c+1) old:=he3
 show wpAny _ _ (newTuple [.int c tk,x] >>= _) _ _ ⟨k3,g,d,tk+1,os⟩
 refine aAA (wpAny_newTuple ?_)
 have hsz:k3.objs.size=hp.objs.size:=by rw[hs3.1,hs2.1,hs1.1]
 have hel:e < hp.objs.size:=aAG he
 obtain⟨k4,hk4⟩:∃k4,k4=k3.push {cls:=.type "tuple",data:=.seq #[.int c tk,x]}:=⟨_,rfl⟩
 rw[<- hk4]
 have he4:IsEnum k4 e it (c+1) old:=by rw[hk4];exact aAB _ he3
 have ht4:k4.get? hp.objs.size=some {cls:=.type "tuple",data:=.seq #[.int c tk,x]}:=by rw[hk4,<- hsz];exact aAM _ rfl
 have kp4:∀b o,b≠e->b≠it->hp.get? b=some o->k4.get? b=some o:=λb o q1 q2 q=>by
  rw[hk4];exact aAB _ (hs3.extBut b o q1 (hs2.extBut b o q1 (hs1.extBut b o q2 q)))
 have it4:ZP.It1 k4 it src (i+1) xs:=by
  rw[hk4]
  exact hit1.at (λo q=>aAB _ (hs3.extBut it o hne.symm (hs2.extBut it o hne.symm q))) λo q=>aAB _ (hs3.extBut src o hes (hs2.extBut src o hes q))
 show wpAny _ _ (Builtin.SmallTypes.ownedTupleIsFree (.ref e) >>= _) _ _ ⟨k4,g,d,tk+1,os⟩
 rw[hsz]
 clear hk4 he3 hs3 he2 hs2 he1 hs1 hit1 hsz
 refine aAA ?_
 unfold Builtin.SmallTypes.ownedTupleIsFree
 refine aAA (aAV he4 rfl (x:=.none) rfl (aAC ?_))
 simp only[aCI]
 refine aAA (aCO (aAA (aAV he4 rfl (x:=old) rfl (aAA (aEG he4 (by simp) λk5 he5 hs5=>?_)))))
 have hs5:Heap.SameBut e k4 k5:=hs5
 have he5:IsEnum k5 e it (c+1) x:=he5
 show wpAny _ _ (Builtin.SmallTypes.ownedTupleHandOut (.ref e) (.ref hp.objs.size) >>= _) _ _ ⟨k5,g,d,tk+1,os⟩
 refine aAA ?_
 unfold Builtin.SmallTypes.ownedTupleHandOut
 refine aAA (aEG he5 (by simp) λk6 he6 hs6=>?_)
 have hs6:Heap.SameBut e k5 k6:=hs6
 have he6:IsEnumOut k6 e it (c+1) x hp.objs.size:=he6
 refine aEG he6 (by simp) λk7 he7 hs7=>?_
 have hs7:Heap.SameBut e k6 k7:=hs7
 have he7:IsEnumOut k7 e it (c+1) x hp.objs.size:=he7
 have up:∀b o,b≠e->k4.get? b=some o->k7.get? b=some o:=λb o q1 q=>hs7.extBut b o q1 (hs6.extBut b o q1 (hs5.extBut b o q1 q))
 refine aAA (wpAny_letGo (aAC ⟨_,rfl,hQ k7 he7 (it4.at (λo q=>up it o hne.symm q) λo q=>up src o hes q) (up _ _ (aCY hel) ht4) λb o q1 q2 q=>up b o q1 (kp4 b o q1 q2 q)⟩))
theorem vU{Q:Option Value->Shared->Prop}(hh:A.handled=none)(he:IsEnum s.heap e it c old)(h1:ZP.It1 s.heap it src i xs)(hx:xs[i]?=none)
  (hQ:∀h',Heap.ExtBut it s.heap h'->Q none {s with heap:=h'}):wpAny (model prog w) A (pyNext (.ref e)) Q E s:=by
 have hT:s.TypeIs (.ref e) "enumerate":=⟨_,he,rfl⟩
 unfold pyNext
 refine aAA (aCZ (aBT (name:=Str.ofString "__next__") hT aDM (aBQ aDM hT F.entry_enumerate_next ?_ (F.args_enumerate_next_1 _))))
 show wpAny _ _ (field (.ref e) 2 >>= _) _ _ _
 refine aAA (aAV he rfl (x:=.ref it) rfl (aAA (h1.stop hh hx λh' x he' hx'=>?_)))
 obtain⟨o,ho,hc⟩:=hx'
 refine aAA (aFV (T:="StopIteration") (b:=true) ⟨o,ho,hc⟩ isSubtype_stop (aAC (hQ _ he')))
noncomputable def tne(b:Bool)(e it src:Addr)(c:Int)(i:Nat)(h:Heap):Prop:=(∃old,IsEnum h e it (c+i) old)/\It0 b h it src i
noncomputable def Ite(b:Bool)(K:Frag)(src:Addr)(c:Int)(xs:List V):It :=
 ⟨λi H=>SqB b K H src xs/\i < xs.length,λi H x H'=>∃T u,H T=none/\x=.ref T/\xs[i]?=some u/\H'=upd H T (.tup [.int (c+i),u]),λi H=>SqB b K H src xs/\xs.length<=i⟩
theorem mP{elts:List Expr}{x1}{b:Bool}(c:Int)(hne:e≠it)(hes:src≠e)(his:src≠it)(xs:List V):Turn P w K (.Tuple elts x1 pos) (Ite b K src c xs) [e,it] e (tne b e it src c)where
 mem:=by simp
 obj:=λi h st q hb=>by
  simp only[aBK,aEQ,or_false]at hb
  rcases hb with rfl|rfl
  ·obtain⟨old,he⟩:=st.1;exact⟨_,he,λv z=>by cases z⟩
  ·exact st.2.obj
 keep:=λi h h' st k=>by
  obtain⟨⟨old,he⟩,h1⟩:=st
  exact⟨⟨old,k e (by simp) _ he⟩,h1.at λo q=>k it (by simp) o q⟩
 item:=by
  intro X hP hw hK hc i pins s σ H E I hf st hg
  subst hP hw hK
  obtain⟨sx,hx⟩:=hg
  obtain⟨its,r1,y1,z1⟩:=sx.inv I
  obtain⟨⟨old,he⟩,h1⟩:=st
  have hT:s.TypeIs (.ref e) "enumerate":=⟨_,he,rfl⟩
  obtain⟨u,hu,ru⟩:=r1.get (aCC hx)
  have elt:e < s.heap.objs.size:=aAG he
  unfold pyNext
  refine aAA (aCZ (aBT (name:=Str.ofString "__next__") hT aDM (aBQ aDM hT F.entry_enumerate_next
   (uP he (xR h1 y1) (x:=u) (by simpa using hu) hne hes λh' he' a1 ht k'=>aAC ?_) (F.args_enumerate_next_1 _))))
  refine⟨_,rfl,?_⟩
  have y1':IsB b h' src its.toArray:=y1.at λo q=>k' src o hes his q
  refine wpAny_letOwnedTupleGo_enum (s:={s with heap:=h',toks:=s.toks+1}) he' λh2 he2 sb=>?_
  have sb:Heap.SameBut e h' h2:=sb
  have kk:∀q o,q∉[e,it]->s.heap.get? q=some o->h2.get? q=some o:=λq o hb z=>by
   simp only[aBK,aEQ,or_false,not_or]at hb
   exact sb.extBut q o hb.1 (k' q o hb.1 hb.2 z)
  have hp2:=sb.extBut _ _ (aCY elt) ht
  refine⟨.ref s.heap.objs.size,upd H s.heap.objs.size (.tup [.int (c+i),xs[i]]),I.turnLay (t':=s.toks+1) hf kk (aAE _) (show ObjOk X.prog X.w _ h2 _ (.tup [.int (c+i),xs[i]])from⟨by show 2<=sizeLine;decide,[.int (c+i) s.toks,u],.cons ⟨_,rfl⟩ (.cons ru .nil),_,hp2,rfl,_,rfl⟩),rfl,⟨_,xs[i],I.hok.fresh (aAE _),rfl,aCC hx,rfl⟩,?_,λq hb=>?_⟩
  ·refine⟨⟨_,by rw[show c+((i+1:Nat):Int)=c+i+1 by lia];exact he2⟩,(aBv y1' a1).at λo q=>sb.extBut it o hne.symm q⟩
  ·rw[aP]
   ·exact(hf q hb).1
   ·rintro rfl
    simp only[aBK,aEQ,or_false]at hb
    rcases hb with q|q
    ·rw[q]at elt;exact absurd elt (aDR _)
    ·obtain⟨o,z,_⟩:=h1.obj
     rw[<- q]at z
     exact absurd (aAG z) (aDR _)
 done:=by
  intro X hP hw hK hc i pins s σ H E I hf st hg
  subst hP hw hK
  obtain⟨sx,hend⟩:=hg
  obtain⟨its,r1,y1,z1⟩:=sx.inv I
  obtain⟨⟨old,he⟩,h1⟩:=st
  have l1:=r1.length
  refine vU (I.ok.hd hc) he (xR h1 y1) (by simp;lia) λh' hk=>⟨rfl,I.turnedL (t':=s.toks) hf λq o hb z=>?_⟩
  simp only[aBK,aEQ,or_false,not_or]at hb
  exact hk q o hb.2 z
 self:=λA i s Q E st hQ=>by
  obtain⟨⟨old,he⟩,_⟩:=st
  have hT:s.TypeIs (.ref e) "enumerate":=⟨_,he,rfl⟩
  refine wpAny_pyIter_slot hT F.slot_enumerate_iter (aBQ F.slot_enumerate_iter hT F.entry_enumerate_iter ?_ (F.args_enumerate_iter_1 _))
  show wpAny _ _ (ret (.ref e)) _ _ s
  exact aAC ⟨_,rfl,"enumerate",_,hT,aDM.lookup,hQ⟩
end L2
namespace L2
open AutoSeq1 (wpAny_loadPart')
noncomputable abbrev eH1(b:Bool)(h:Heap)(l:Addr):Heap:=h.push {cls:=.type (if b=true then "list_iterator"else "tuple_iterator"),data:=.fields #[.ref l,.int 0 0]}
noncomputable abbrev eH2(b:Bool)(h:Heap)(l:Addr)(c:Int):Heap:=(eH1 b h l).push {cls:=.type "enumerate",data:=.fields #[.none,.bool false,.ref h.objs.size,rawInt c,.none,.none]}
theorem pZ(l:Addr)(items:Array Value) :
  Meets (Builtin.«enumerate.__new__» ⟨[.type "enumerate",.ref l],[]⟩) (λ_ R s=>s.heap.IsTuple l items/\R (.ok (.ret (.ref (eH1 false s.heap l).objs.size))) {s with heap:=eH2 false s.heap l 0}) :=
 .of_wp λprog w A R s h=>by
  obtain⟨hp,g,d,tk,os⟩:=s;obtain⟨hl,h⟩:=h
  have hsub:=sub_enumerate
  have hL:Heap.IsTuple (Shared.heap ⟨hp,g,d,tk,os⟩) l items:=hl
  wp_walk
  refine wpAny_stack_any λst=>aAC ?_
  split
  ·rename_i c _ _ _ _ _
   cases(c==Value.type "enumerate") <;> (wp_walk using aGQ hL;exact⟨_,rfl,h⟩)
  ·wp_walk using aGQ hL
   exact⟨_,rfl,h⟩
variable{prog:Program}{E:Value->Shared->Prop}
theorem xE(b:Bool)(h:Heap)(l:Addr)(c:Int):(eH1 b h l).objs.size=h.objs.size+1/\IsEnum (eH2 b h l c) (h.objs.size+1) h.objs.size c .none/\It0 b (eH2 b h l c) h.objs.size l 0/\∀q o,h.get? q=some o->(eH2 b h l c).get? q=some o:=by
 have z1:(eH1 b h l).objs.size=h.objs.size+1:=Heap.size_push ..
 refine⟨z1,?_,?_,λq o x=>aAB _ (aAB _ x)⟩
 ·have:=aAM (eH1 b h l) (o:={cls:=.type "enumerate",data:=.fields #[.none,.bool false,.ref h.objs.size,rawInt c,.none,.none]}) rfl
  rw[z1]at this;exact this
 ·cases b
  ·exact⟨_,aAB _ (aAM _ rfl),rfl,rfl⟩
  ·exact⟨_,aAB _ (aAM _ rfl),rfl,rfl⟩
theorem uV{b:Bool}(hl:IsB b s.heap l items)
  (h:∀h',IsEnum h' (s.heap.objs.size+1) s.heap.objs.size 0 .none->It0 b h' s.heap.objs.size l 0->(∀q o,s.heap.get? q=some o->h'.get? q=some o)->Q (.ref (s.heap.objs.size+1)) {s with heap:=h'}) :
  wpAny (model prog w) A (call (.type "enumerate") [.ref l]) Q E s:=by
 cases b with
 |true=>exact call_enumerate_list (show s.heap.IsList l items from hl) λh' a1 a2 _ k=>h h' a1 a2 k
 |false =>
  obtain⟨z1,f1,f2,f3⟩:=xE false s.heap l 0
  refine callType_new F.called_enumerate (by decide) (F.typeCall_enumerate_1 _) (F.newCall_enumerate_1 _) (λobj=>aGL obj _) F.entry_enumerate_new (pZ l items) ⟨hl,?_⟩
  show _/\_
  rw[z1]
  exact⟨⟨_,f1,rfl⟩,h _ f1 f2 f3⟩
theorem zY{elts:List Expr}{x1}{a:Expr}(hg:Gl X "enumerate")(hm:X.mg "enumerate"=none)(ha:PE X a ta)(hs:starEach [a] X.env=[(false,eval a X.env)]) :
  PI X (.Tuple elts x1 tpos) (.Call (.Name "enumerate" p) [a] [] pos) (λσ H R=>ta σ H λx H1=>∃l b xs,x=.ref l/\SqB b X.K H1 l xs/\R (Ite b X.K l 0 xs) H1):=by
 intro pins s σ H R I h
 refine Call_ (gM I hg hm oF (aCW (thn (bQ ha dH hs pos pins s σ H (λvs H2=>match vs with|[x]=>∃l b xs,x=.ref l/\SqB b X.K H2 l xs/\R (Ite b X.K l 0 xs) H2|_=>False) I h) λus s1 ⟨vs,H1,I1,r1,hr⟩=>?_) hs rfl))
 match vs,r1,hr with
 |[],_,hr=>exact hr.elim
 |_::_::_,_,hr=>exact hr.elim
 |[x],r1,hr =>
 obtain⟨l,b,xs,rfl,sx,hq⟩:=hr
 obtain⟨u,rfl,rx⟩:=vals1 r1
 cases rx
 obtain⟨its,q1,p1,z1⟩:=sx.inv I1
 have hl:l < s1.heap.objs.size:=p1.lt
 refine uV p1 λh' a1 a2 k=>?_
 have hne:s1.heap.objs.size+1≠s1.heap.objs.size:=Nat.succ_ne_self _
 have hes:l≠s1.heap.objs.size+1:=aAQ (Nat.lt_succ_of_lt hl)
 have his:l≠s1.heap.objs.size:=aAQ hl
 have tz:tne b (s1.heap.objs.size+1) s1.heap.objs.size l 0 0 h':=⟨⟨_,by simpa using a1⟩,a2⟩
 refine(mP (P:=X.prog) (w:=X.w) (K:=X.K) (elts:=elts) (x1:=x1) (pos:=tpos) 0 hne hes his xs).self _ 0 _ _ _ tz ?_
 refine⟨s1.heap.objs.size+1,_,_,_,H1,rfl,I1.kept (t':=s1.toks) λq o e=>k q o e,mP 0 hne hes his xs,tz,λq hb=>?_,hq⟩
 refine I1.fpOk ?_ (I1.hok.fresh ?_) <;>
 ·simp only[aBK,aEQ,or_false]at hb
  rcases hb with rfl|rfl <;> (show(_:Nat)<=(_:Nat);lia)
end L2
namespace EV
open L2
variable{EX:D->Mm->Prop}
section
variable{K:Frag}{a b:Expr}{g:FE}{tg:Expr}
noncomputable def enumT(c:Int)(xs:List D):List D:=xs.mapIdx λi d=>.tup [.int (c+i),d]
variable{c:Int}
theorem jL{xs:List D}{d:D}(h:(enumT c xs)[i]?=some d):∃x,xs[i]?=some x/\d=.tup [.int (c+i),x]:=by
 unfold enumT at h
 rw[List.getElem?_mapIdx,aBG]at h
 obtain⟨x,h1,rfl⟩:=h
 exact⟨x,h1,rfl⟩
theorem nX{xs:List D}:(enumT c xs).length=xs.length:=by simp[enumT]
theorem aBl{w:W}{xs:List D}(r:Rw K μ H w v)(q:dz w=some xs):∃l b vs,v=.ref l/\SqB b K H l vs/\ItOk K μ H ⟨enumT c xs,none⟩ (Ite b K l c vs):=by
 obtain⟨b1,l1,vs1,S1,rfl,s1,x1,d1⟩:=aCh r q
 refine⟨l1,b1,vs1,rfl,(d1 _ _ s1).1,S1,s1,x1,λμ3 H3 M3 i hr3 hS hc=>?_⟩
 obtain⟨c1,r1⟩:=d1 _ _ hS
 refine⟨λd hd=>?_,λhl=>?_⟩
 ·obtain⟨x,hx,rfl⟩:=jL hd
  obtain⟨u,hu,ru⟩:=r1.get hx
  refine⟨⟨c1,(aAD.mp hu).1⟩,λx' H4 hy4=>?_⟩
  obtain⟨T,u',hT,rfl,hu',rfl⟩:=hy4
  rw[hu]at hu';cases hu'
  exact xN hr3 hT (by simp[Rp]) ru
 ·refine⟨c1,?_⟩
  simp only[nX]at hl
  rw[<- r1.length]
  exact hl
noncomputable def iEnum(f:FE):FI:=λL M=>(f L M).bind λx M1=>match dz x with
 |some xs=>.ok ⟨enumT 0 xs,none⟩ M1
 |_=>.bad
theorem sG{elts:List Expr}{x1}(hm:X.mg "enumerate"=none)(ha:Ev X K Z a f)(hg:Gl X "enumerate":=by rfl)(hs:starEach [a] X.env=[(false,eval a X.env)]:=by rfl):Ei X K Z (.Tuple elts x1 tpos) (.Call (.Name "enumerate" p) [a] [] pos) (iEnum f):=by
 have h':=zY (elts:=elts) (x1:=x1) (tpos:=tpos) (p:=p) (pos:=pos) hg hm ha.h hs
 rw[ha.k]at h'
 refine⟨ha.k,cqI h' ?_⟩
 rintro σ H R ⟨μ,M,L,hr,lr,p⟩
 refine⟨μ,M,L,hr,lr,p.bind.imp λμ1 H1 M1 w e1 hr1 _ p1 v rw'=>?_⟩
 cases q1:dz w with
 |none=>simp only[q1]at p1;exact p1.elim
 |some xs =>
  simp only[q1]at p1
  obtain⟨l,b,vs,rfl,h1,h2⟩:=aBl (c:=0) rw' q1
  exact⟨l,b,vs,rfl,h1,p1 μ1 H1 .refl hr1 _ h2⟩
end
section
variable{g:FE}
theorem wI(h:Okx EX (f L M) λx M1=>∃xs,dz x=some xs/\QI ⟨enumT 0 xs,none⟩ M1):Okx EX (iEnum f L M) QI :=
 aN (h.mono λx M1 ⟨xs,e1,q⟩=>by simp only[e1];exact aK q)
end
end EV
namespace L2
open AutoSeq1 (wpAny_loadPart')
end L2
namespace EV
open L2
variable{EX:D->Mm->Prop}{K:Frag}{a b c o e i:Expr}{es:List Expr}{fs:FA}{fe:FE}{tg:Expr}{x y:W}{Q:W->Mm->Prop}
end EV
namespace L2
variable{prog:Program}{E:Value->Shared->Prop}
end L2
namespace EV
open L2
variable{EX:D->Mm->Prop}{K:Frag}{es:List Expr}
end EV
namespace L2
end L2
namespace EV
open L2
variable{EX:D->Mm->Prop}{K:Frag}{x:W}{Q:W->Mm->Prop}
end EV
namespace EV
open L2
variable{EX:D->Mm->Prop}{K:Frag}{a tg:Expr}
end EV
namespace EV
open L2
variable{EX:D->Mm->Prop}{K:Frag}{Q:W->Mm->Prop}
end EV
namespace EV
open L2
noncomputable section
def ZR(K:Frag)(R:Addr->Hp->Prop):Zt:=⟨λx M μ H=>∀μ' H',Ext μ H μ' H'->HR K μ' H' M->∀a,Rp K μ' H' x (.ref a)->R a H',λe h μ' H' e' hr a ra=>h μ' H' (e.trans e') hr a ra⟩
abbrev wishR(E:XK):Addr->Hp->Prop:=λa H'=>E (.ref a) none H'
def spX(K:Frag)(m:Nat)(Fm:Fn):Sp:=λvs H Q E=>vs.length=m/\∃μ M ws,HR K μ H M/\Rws K μ H ws vs/\Pst K (ZR K (wishR E)) μ H (Fm ws M) (Wk K Q)
end
section
variable{K:Frag}{e a b:Expr}{es:List Expr}{fs:FA}{st:Stmt}{rest:List Stmt}{G:FS}
theorem Pst.never{o:Oc α}{Q:List Addr->Hp->Mm->α->Prop}(h:Pst K Z0 μ H o Q):Pst K Z μ H o Q:=by
 cases o with
 |ok a M=>exact h
 |ex x M=>exact h.elim
 |bad=>exact h
noncomputable def fnX(m n:Nat)(F:FS):Fn:=λws M=>match fnD m n F ws M with
 |.ok w M'=>.ok w M'
 |.ex x M'=>.ex x (M'.take M.length)
 |.bad=>.bad
structure FunG(K:Frag)(x qual:Str)(st:Stmt)(f:Addr)(fd:FuncData):Prop where
 ex:∃(oc:Value) (od:Option Addr) (dV kV doc pm:Value) (an:Option Addr) (cdv ct:Value) (osl:Array (Option Value)),
  fd=fnOf x qual (defArgs st) (defBody st) (defScope st) dV kV doc pm an cdv ct/\K.lookup f=some ⟨oc,od,.func fd,osl⟩/\codeIn K cdv qual=true
theorem _root_.L2.Fun.g{f:Addr}(F:Fun K x qual st f fd):FunG K x qual st f fd:=by
 obtain⟨oc,od,kV,doc,pm,an,cdv,ct,osl,h⟩:=F.ex
 exact⟨oc,od,_,kV,doc,pm,an,cdv,ct,osl,h⟩
structure FunD(K:Frag)(x qual:Str)(st:Stmt)(f:Addr)(fd:FuncData)(d:Value):Prop where
 ex:∃(T:Addr) (oc:Value) (od:Option Addr) (kV doc pm:Value) (an:Option Addr) (cdv ct:Value) (osl:Array (Option Value)),
  fd=fnOf x qual (defArgs st) (defBody st) (defScope st) (.ref T) kV doc pm an cdv ct/\K.lookup f=some ⟨oc,od,.func fd,osl⟩/\codeIn K cdv qual=true/\∃c dd n sl,K.lookup T=some ⟨c,dd,.seq #[d] n,sl⟩
theorem FunD.g{f:Addr}{d:Value}(F:FunD K x qual st f fd d):FunG K x qual st f fd:=by
 obtain⟨T,oc,od,kV,doc,pm,an,cdv,ct,osl,h1,h2,h3,_⟩:=F.ex
 exact⟨oc,od,_,kV,doc,pm,an,cdv,ct,osl,h1,h2,h3⟩
variable{m:Nat}
theorem nR{ws:List W}(h:ws.length≠m):fnX m n F ws M=.bad:=by unfold fnX fnD;rw[aAI h]
variable{k:Nat}
theorem nT{fa:Addr}(hf:FunG K x qual st fa fd)(S:FnScope N ps (defScope st))
  (hb:∀(cdv:Value) (A:Around) (outer:List Env) (s:Shared) (H:Hp) (E:XK),Room k (A.deeper (envOfC qual (defScope st) s.heap.objs.size fa cdv))->Xz (cxOf (CX1 P w) P w K mg base N qual (defScope st) fa cdv A outer s H E) (wishR E) ->
   Ess (cxOf (CX1 P w) P w K mg base N qual (defScope st) fa cdv A outer s H E) K (ZR K (wishR E)) (defBody st) F) :
  FnOk P w K mg base (CX1 P w) (k+1) fa fd ps (spX K ps.length (fnX ps.length N.length F)):=by
 obtain⟨oc,od,dV,kV,doc,pm,an,cdv,ct,osl,rfl,lk,hcd⟩:=hf.ex
 refine wZ lk hcd S (λvs H Q E h=>h.1) λA outer s H vs Q E hr hsp=>⟨_,(hb cdv A outer s H E hr aGr).h,?_⟩
 obtain⟨hv,μ,M,ws,hr,rx,p⟩:=hsp
 refine⟨μ,M,_,hr,lM rx,?_⟩
 unfold fnX fnD at p
 rw[aAH (by rw[rx.length];exact hv)]at p
 cases q:F (ws.map some++List.replicate (N.length - ws.length) none) M with
 |bad=>rw[q]at p;exact p
 |ex z M' =>
  rw[q]at p
  intro μ1 H1 e1 hr1 a ra
  have hb:=hr1.back e1
  rw[hr.len]at hb
  have hsub:∀a,a∈μ->a∈μ1:=λa ha=>by rw[<- e1.take]at ha;exact aBF ha
  exact p μ H1 e1.back hb a (Rp.sub hsub z _ ra)
 |ok o M' =>
  rw[q]at p
  simp only[cR]at p
  intro μ1 H1 e1 hr1
  have hb:=hr1.back e1
  rw[hr.len]at hb
  cases o with
  |nx L'=>exact λσ' lr'=>p μ H1 e1.back hb _ (by simp[Rw,Rp])
  |bk L'=>exact p.elim
  |ct L'=>exact p.elim
  |rt w =>
   intro v rv
   have hsub:∀a,a∈μ->a∈μ1:=λa ha=>by rw[<- e1.take]at ha;exact aBF ha
   cases w with
   |ob c i=>exact gA (Z:=ZR K (wishR E)) hr e1 hr1 (.inl ⟨_,_,rfl⟩) rv (by revert p;simp only[retc];by_cases hi:i < M.length <;> simp only[hi,aCI,aBU] <;> exact λp=>p)
   |nest c=>exact gA (Z:=ZR K (wishR E)) hr e1 hr1 (.inr ⟨_,rfl⟩) rv (by
     cases c with
     |ls c=>revert p;simp only[retc];cases nestD M.length M' c <;> exact λp=>p
     |pr x i=>revert p;simp only[retc];by_cases hi:i < M.length;(simp only[aAH hi];exact λp=>p);(simp only[aAI hi];cases M'[i]? <;> exact λp=>p))
   |d x=>exact p μ H1 e1.back hb v (Rp.sub hsub x v rv)
   |ref i =>
    simp only[retc]at p
    by_cases hi:i < M.length
    ·rw[aAH hi]at p
     obtain⟨a,qa,rfl,il⟩:=rv
     refine p μ H1 e1.back hb _ ⟨a,?_,rfl,il⟩
     rw[<- hr.len]at hi
     rw[<- e1.take,aDW hi];exact qa
    ·rw[aAI hi]at p
     cases q2:M'[i]? with
     |none=>rw[q2]at p;exact p.elim
     |some ds =>
      rw[q2]at p
      obtain⟨a,qa,rfl,il⟩:=rv
      obtain⟨a',vs',qa',h1,r1⟩:=hr1.at q2 qa
      rw[qa]at qa';cases qa'
      have hna:a∉μ:=λz=>by
       obtain⟨j,h2⟩:=List.mem_iff_getElem?.mp z
       have hj:=(aAD.mp h2).1
       have h2:=e1.pre j a h2
       have l1:=(aAD.mp qa).1
       have l2:=(aAD.mp h2).1
       have g1:=(aAD.mp qa).2
       have g2:=(aAD.mp h2).2
       have pw:=aBM.mp hr1.nd
       rw[hr.len]at hj
       exact pw j i l2 l1 (by lia) (g2.trans g1.symm)
      refine p μ H1 e1.back hb _ ?_
      simp only[Rw,Rp]
      exact⟨a,vs',rfl,h1,hna,Rps.sub hsub _ _ r1⟩
theorem wJ{ws:List W}{M1:Mm}{Q:VK}{E:XK}(hlen:∀ws M,ws.length≠m->Fm ws M=.bad)(hr1:HR K μ1 H1 M1)(rx:Rws K μ1 H1 ws vs)(p1:Pst K (ZR K (wishR E)) μ1 H1 (Fm ws M1) (Wk K Q)):spX K m Fm vs H1 Q E:=by
 refine⟨?_,μ1,M1,ws,hr1,rx,p1⟩
 by_cases hw:ws.length=m
 ·rw[<- rx.length];exact hw
 ·rw[hlen ws M1 hw]at p1;exact p1.elim
noncomputable section
abbrev EofR(R:Addr->Hp->Prop):XK:=λv _ H'=>∃a,v=.ref a/\R a H'
theorem ZR.to(h:∀a H,R a H->wishR (EofR R) a H:=λa H h=>⟨a,rfl,h⟩){o:Oc α}{Q:List Addr->Hp->Mm->α->Prop}(p:Pst K (ZR K R) μ H o Q):Pst K (ZR K (wishR (EofR R))) μ H o Q:=by
 cases o with
 |ok a M=>exact p
 |ex x M=>exact λμ' H' e hr a ra=>h a H' (p μ' H' e hr a ra)
 |bad=>exact p
theorem iC{fa:Addr}(hz:Xz X R)(Gf:FnOk X.prog X.w X.K X.mg X.base (CX1 X.prog X.w) k fa fd ps (spX K m Fm))(hr:Room k X.A)(hm:X.mg x=some (.ref fa))(hk:keepIn X.K (.ref fa)=true)(hb:Binds X.K fd ps [])
  (ha:Ea X K (ZR K R) (e::es) fs)(hg:Gl X x:=by rfl)(hdb:(x==("__debug__":Str))=false:=by decide)(he:starEach (e::es) X.env=(false,eval e X.env)::starEach es X.env:=by rfl)(hpl:(backTo pos (starEach es X.env)).any (·.1)=false:=by rfl)
  (hlen:∀ws M,ws.length≠m->Fm ws M=.bad:=by intro ws M h;first|exact aAI h|rfl):Ev X K (ZR K R) (.Call (.Name x p) (e::es) [] pos) (eA Fm fs):=by
 refine⟨ha.k,cqE (nF (E:=EofR R) Gf hr hg hm hk hb .nil (mE rfl rfl ⟨λpins σ ev s' h=>hz.go pins σ ev s' (h.imp λa H ⟨a',q1,q2⟩=>by cases q1;exact q2)⟩) ha.h hdb he hpl) ?_⟩
 rintro σ H Q ⟨μ,M,L,hr,lr,p⟩
 refine⟨μ,M,L,hr,lr,p.bind.imp λμ1 H1 M1 ws e1 hr1 _ p1 vs rx=>?_⟩
 show spX K m Fm (vs++[]) H1 Q (EofR R)
 rw[aED]
 exact wJ hlen hr1 rx (ZR.to (p:=p1))
def aDef(fs:FA)(ds:List D):FA:=λL M=>(fs L M).bind λws M1=>.ok (ws++ds.map W.d) M1
theorem Rws.append:∀{ws us:List W} {vs zs:List V},Rws K μ H ws vs->Rws K μ H us zs->Rws K μ H (ws++us) (vs++zs)
 |[],_,_,_,h,t=>by cases h;exact t
 |_::_,_,_,_,⟨v,r,e1,e2,e3⟩,t=>by subst e1;exact⟨v,_,rfl,e2,Rws.append e3 t⟩
def nx(Fm:Fn):Fn:=λws M=>match Fm ws M with
 |.ok w M'=>.ok w M'
 |_=>.bad
theorem bS{fa:Addr}(Gf:FnOk X.prog X.w X.K X.mg X.base CX0 k fa fd ps (spF K Z0 m Fm))(hr:Room k X.A)(hm:X.mg x=some (.ref fa))(hk:keepIn X.K (.ref fa)=true)(hb:Binds X.K fd ps [])
  (ha:Ea X K Z (e::es) fs)(hg:Gl X x:=by rfl)(hdb:(x==("__debug__":Str))=false:=by decide)(he:starEach (e::es) X.env=(false,eval e X.env)::starEach es X.env:=by rfl)(hpl:(backTo pos (starEach es X.env)).any (·.1)=false:=by rfl)
  (hlen:∀ws M,ws.length≠m->Fm ws M=.bad:=by intro ws M h;first|exact aAI h|rfl):Ev X K Z (.Call (.Name x p) (e::es) [] pos) (eA (nx Fm) fs):=by
 refine⟨ha.k,cqE (nF Gf hr hg hm hk hb .nil pass0 ha.h hdb he hpl) ?_⟩
 rintro σ H Q ⟨μ,M,L,hr,lr,p⟩
 refine⟨μ,M,L,hr,lr,p.bind.imp λμ1 H1 M1 ws e1 hr1 _ p1 vs rx=>?_⟩
 show spF K Z0 m Fm (vs++[]) H1 Q E0
 rw[aED]
 have p2:Pst K Z0 μ1 H1 (Fm ws M1) (Wk K Q):=by
  unfold nx at p1
  cases q:Fm ws M1 with
  |ok w M'=>rw[q]at p1;exact p1
  |ex z M'=>rw[q]at p1;exact p1.elim
  |bad=>rw[q]at p1;exact p1.elim
 refine⟨?_,μ1,M1,ws,hr1,rx,p2⟩
 by_cases hw:ws.length=m
 ·rw[<- rx.length];exact hw
 ·rw[hlen ws M1 hw]at p2;exact p2.elim
theorem oG(hr:HR K μ H M){p:Addr}{o:HO}(hp:H p=none):Ext μ H μ (upd H p o)/\HR K μ (upd H p o) M:=⟨dN hr hp,hr.lay hp⟩
def sRaise(c f:Str)(fe:FE):FS:=λL M=>(fe L M).bind λw M1=>match w with
 |.d d=>.ex (.exn c f [d]) M1
 |_=>.bad
end
variable{c:Str}
theorem yQ(hz:Xz X R)(F:Xc K c C LE)(hO:xcB X.K C (.ref LE::vb) (some (.ref fI))=true)(hF:LeF X.K LE)(hf:PySem.W.typeIn X.K (.ref fI)=some (.type "function"))
  (G:FnOk X.prog X.w X.K X.mg X.base (CX1 X.prog X.w) k fI fd ps (spXI C ff))(hn:PySem.W.findIn K (.ref C) ff=some none)(hr:Room (k+1) X.A)(hb:Binds X.K fd ps [])(hm:X.mg c=some (.ref C))(hk:keepIn X.K (.ref C)=true)(hc:X.calm=true)(ha:Ev X K (ZR K R) a fa)
  (hg:Gl X c:=by rfl)(hdb:(c==("__debug__":Str))=false:=by decide)(he:starEach [a] X.env=[(false,eval a X.env)]:=by rfl):Es X K (ZR K R) (.Raise (some (.Call (.Name c p) [a] [] cpos)) none pos) (sRaise c ff fa):=by
 refine⟨ha.k,cqS (qA (pos:=pos) (R:=R) (ini:=some (.ref fI)) hO hc hz (xT (E:=E0) hO hF hf G hr hb (mE rfl rfl (yP λ_ _ z=>z)) hm hk (bQ ha.h dH he) hg hdb he)) ?_⟩
 rintro E σ H ⟨μ,M,L,hr,lr,p⟩
 refine⟨μ,M,L,hr,lr,p.bind.imp λμ1 H1 M1 w e1 hr1 _ p1 y ry=>?_⟩
 cases w with
 |ref i=>exact p1.elim
 |ob _ _=>exact p1.elim
 |nest _=>exact p1.elim
 |d d =>
  refine⟨y,rfl,λe dx he hd ne=>⟨e,some dx,upd H1 dx (.xd [(ff,y)]),rfl,rfl,?_⟩⟩
  obtain⟨x1,h1⟩:=oG (o:=.xd [(ff,y)]) hr1 hd
  have he':upd H1 dx (.xd [(ff,y)]) e=none:=by rw[aP (Ne.symm ne)];exact he
  obtain⟨x2,h2⟩:=oG (o:=XO e C (some dx)) h1 he'
  have x3:=x1.trans x2
  refine p1 μ1 _ x3 h2 e ?_
  simp only[Rp]
  exact⟨e,[y],C,LE,some dx,rfl,aU,F,.inr ⟨dx,y,rfl,rfl,by rw[aP ne];exact aU,hn⟩,.cons (Rp.ext hr1.lsts x3 _ _ ry) .nil⟩
noncomputable def sRaise0(c:Str):FS:=λ_ M=>.ex (.exn c "" []) M
theorem vZ(hkk:X.K=K)(hz:Xz X R)(F:Xc K c C LE)(hO:xcB X.K C (.ref LE::vb) none=true)(hF:LeF X.K LE)(hm:X.mg c=some (.ref C))(hk:keepIn X.K (.ref C)=true)(hc:X.calm=true)
  (hg:Gl X c:=by rfl)(hdb:(c==("__debug__":Str))=false:=by decide):Es X K (ZR K R) (.Raise (some (.Call (.Name c p) [] [] cpos)) none pos) (sRaise0 c):=by
 refine⟨hkk,cqS (qA (pos:=pos) (R:=R) (ini:=none) hO hc hz (vR hO hF hm hk hg hdb)) ?_⟩
 rintro E σ H ⟨μ,M,L,hr,lr,p⟩
 intro e he
 refine⟨e,none,H,rfl,rfl,?_⟩
 obtain⟨x1,h1⟩:=oG (o:=XO e C none) hr he
 refine p μ _ x1 h1 e ?_
 simp only[Rp]
 exact⟨e,[],C,LE,none,rfl,aU,F,.inl ⟨rfl,rfl⟩,.nil⟩
end
noncomputable section
def noX(f:Lc->Mm->Oc α):Lc->Mm->Oc α:=λL M=>match f L M with
 |.ok a M1=>.ok a M1
 |_=>.bad
theorem Pst.noX{α:Type}{K:Frag}{Z:Zt}{μ:List Addr}{H:Hp}{f:Lc->Mm->Oc α}{L:Lc}{M:Mm}{Q:List Addr->Hp->Mm->α->Prop}(p:Pst K Z μ H (noX f L M) Q):Pst K Z0 μ H (f L M) Q:=by
 unfold EV.noX at p
 cases q:f L M with
 |ok a M'=>rw[q]at p;exact p
 |ex x M'=>rw[q]at p;exact p.elim
 |bad=>rw[q]at p;exact p
def liftX(K:Frag)(f:FE)(σ:L2.St)(H:Hp)(Q:VK)(R:Addr->Hp->Prop):Prop:=∃μ M L,HR K μ H M/\LR K μ H L σ/\Pst K (ZR K R) μ H (f L M) (Wk K Q)
def liftB(K:Frag)(F:FS)(D:Ends)(R:Addr->Hp->Prop)(σ:L2.St)(H:Hp):Prop:=∃μ M L,HR K μ H M/\LR K μ H L σ/\Pst K (ZR K R) μ H (F L M) (Sk K D)
end
structure Exx(X:Cx)(K:Frag)(e:Expr)(f:FE):Prop where
 k:X.K=K
 h:PEx X e (liftX K f)
structure Tb(X:Cx)(K:Frag)(b:List Stmt)(F:FS):Prop where
 k:X.K=K
 h:PBx X b (liftB K F)
section
variable{K:Frag}{e a b:Expr}{es:List Expr}{fs:FA}{st:Stmt}{rest:List Stmt}{G:FS}{k m:Nat}
theorem xL{fa:Addr}{dvs:List V}{ds:List Value}{dd:List D}(Gf:FnOk X.prog X.w X.K X.mg X.base (CX1 X.prog X.w) k fa fd ps (spX K m Fm))(hr:Room k X.A)(hm:X.mg x=some (.ref fa))(hk:keepIn X.K (.ref fa)=true)(hb:Binds X.K fd ps ds)(hd:Vals dvs ds)(hdd:∀μ H,Rws K μ H (dd.map W.d) dvs)
  (ha:Ea X.nox K Z0 (e::es) fs)(hg:Gl X x:=by rfl)(hdb:(x==("__debug__":Str))=false:=by decide)(he:starEach (e::es) X.env=(false,eval e X.env)::starEach es X.env:=by rfl)(hpl:(backTo pos (starEach es X.env)).any (·.1)=false:=by rfl)
  (hlen:∀ws M,ws.length≠m->Fm ws M=.bad:=by intro ws M h;first|exact aAI h|rfl):Exx X K (.Call (.Name x p) (e::es) [] pos) (eA Fm (aDef (noX fs) dd)):=by
 refine⟨ha.k,?_⟩
 rintro pins s σ H Q R I ⟨μ,M,L,hr0,lr,p⟩
 refine aDB (fG I hg hm ?_ hdb)
 have p:Pst K (ZR K R) μ H ((noX fs L M).bind λws M1=>Fm (ws++dd.map W.d) M1) (Wk K Q):=by
  unfold eA aDef at p
  cases q:noX fs L M with
  |ok ws M1=>rw[q]at p;exact p
  |ex x M1=>rw[q]at p;exact p
  |bad=>rw[q]at p;exact p
 have hA:=ha.h pos pins s σ H (λvs H1=>spX K m Fm (vs++dvs) H1 Q (EofR R)) (I.wish _) ⟨μ,M,L,hr0,lr,(p.bind.noX).imp λμ1 H1 M1 ws e1 hr1 _ p1 vs rx=>wJ hlen hr1 (rx.append (hdd μ1 H1)) (ZR.to (p:=p1))⟩
 refine aGW (h₀:=X.base) I.ok.mod.kin hk (aCN hA (λus s1 ⟨vs,H1,I1,r,q⟩=>?_) λ_ _ z=>z.elim) he hpl
 have I1:=I1.unwish
 refine⟨I1.kIn,?_⟩
 have r2:Vals (vs++dvs) (us++ds):=r.append hd
 have hl:(us++ds).length=ps.length:=by rw[<- r2.length];exact Gf.len _ _ _ _ q
 refine aES (aGI (Gf.run X.A X.stack s1 H1 ⟨us,[]⟩ (us++ds) (vs++dvs) Q (EofR R) hr I1.env0 (hb s1 us I1.kIn hl) r2 q) λrr s' hq=>?_)
 cases rr with
 |error ev=>exact(XE.call I1 hq).imp λa H ⟨a',q1,q2⟩=>by cases q1;exact q2
 |ok fl =>
  cases fl with
  |ret u=>exact I1.after hq
  |next=>exact False.elim hq
  |brk=>exact False.elim hq
  |cont=>exact False.elim hq
theorem aAp{fa:Addr}(Gf:FnOk X.prog X.w X.K X.mg X.base (CX1 X.prog X.w) k fa fd ps (spX K m Fm))(hr:Room k X.A)(hm:X.mg x=some (.ref fa))(hk:keepIn X.K (.ref fa)=true)(hb:Binds X.K fd ps [])
  (ha:Ea X.nox K Z0 (e::es) fs)(hg:Gl X x:=by rfl)(hdb:(x==("__debug__":Str))=false:=by decide)(he:starEach (e::es) X.env=(false,eval e X.env)::starEach es X.env:=by rfl)(hpl:(backTo pos (starEach es X.env)).any (·.1)=false:=by rfl)
  (hlen:∀ws M,ws.length≠m->Fm ws M=.bad:=by intro ws M h;first|exact aAI h|rfl):Exx X K (.Call (.Name x p) (e::es) [] pos) (eA Fm (aDef (noX fs) [])) :=
 xL Gf hr hm hk hb .nil (λ_ _=>rfl) ha hg hdb he hpl hlen
theorem zH{x1}(ha:Ev X.nox K Z0 a fa)(hb:Exx X K b fb)(hs:starEach [a,b] X.env=[(false,eval a X.env),(false,eval b X.env)]:=by rfl):Exx X K (.Tuple [a,b] x1 pos) (eA mkT (aCons (noX fa) (aCons fb aNil))):=by
 refine⟨hb.k,?_⟩
 rintro pins s σ H Q R I ⟨μ,M,L,hr0,lr,p⟩
 refine wpAny_Tuple_spliced ?_
 rw[hs]
 refine aFF (aCN (ha.h pins s σ H (λv1 H1=>∃μ1 M1 w1,HR K μ1 H1 M1/\LR K μ1 H1 L σ/\Rw K μ1 H1 w1 v1/\Pst K (ZR K R) μ1 H1 ((fb L M1).bind λw2 M2=>mkT [w1,w2] M2) (Wk K Q)) (I.wish _) ⟨μ,M,L,hr0,lr,?_⟩) (λu1 s1 ⟨v1,H1,I1,r1,μ1,M1,w1,hr1,lr1,rw1,p1⟩=>?_) λ_ _ z=>z.elim)
 ·have p:Pst K (ZR K R) μ H ((noX fa L M).bind λw1 M1=>(fb L M1).bind λw2 M2=>mkT [w1,w2] M2) (Wk K Q):=by
   unfold eA aCons aNil at p
   cases q:noX fa L M with
   |ok w1 M1 =>
    rw[q]at p
    simp only[cR]at p ⊢
    cases q2:fb L M1 with
    |ok w2 M2=>rw[q2]at p;exact p
    |ex x M2=>rw[q2]at p;exact p
    |bad=>rw[q2]at p;exact p
   |ex x M1=>rw[q]at p;exact p
   |bad=>rw[q]at p;exact p
  exact(p.bind.noX).imp λμ1 H1 M1 w1 e1 hr1 _ p1 v rv=>⟨μ1,M1,w1,hr1,lr.ext hr0.lsts e1,rv,p1⟩
 ·have I1:=I1.unwish
  refine aFF (aCN (hb.h pins s1 σ H1 (λv2 H2=>∃μ2 M2 w2,HR K μ2 H2 M2/\Rw K μ2 H2 w1 v1/\Rw K μ2 H2 w2 v2/\Pst K (ZR K R) μ2 H2 (mkT [w1,w2] M2) (Wk K Q)) R I1 ⟨μ1,M1,L,hr1,lr1,p1.bind.imp λμ2 H2 M2 w2 e2 hr2 _ p2 v rv=>⟨μ2,M2,w2,hr2,rw1.ext hr1.lsts e2,rv,p2⟩⟩) (λu2 s2 ⟨v2,H2,I2,r2,μ2,M2,w2,hr2,rw1,rw2,p2⟩=>aGY ⟨by show 2<=sizeLine;decide,?_⟩) λ_ _ z=>z)
  cases w1 with
  |ref i=>exact p2.elim
  |ob _ _=>exact p2.elim
  |nest _=>exact p2.elim
  |d d1 =>
   cases w2 with
   |ref i=>exact p2.elim
   |ob _ _=>exact p2.elim
   |nest _=>exact p2.elim
   |d d2 =>
    have hf:H2 s2.heap.objs.size=none:=I2.hok.fresh (aAE _)
    refine⟨.ref s2.heap.objs.size,upd H2 s2.heap.objs.size (.tup [v1,v2]),I2.laid (t':=s2.toks) (λb u e=>aAB _ e) (aAE _) ⟨by show 2<=sizeLine;decide,[u1,u2],.cons r1 (.cons r2 .nil),⟨_,aAM _ rfl,rfl,_,rfl⟩⟩,rfl,?_⟩
    have q2:Pst K (ZR K R) μ2 H2 (okD (.tup [d1,d2]) M2) (Wk K Q):=p2
    have x:=dN (o:=.tup [v1,v2]) hr2 hf
    refine q2 μ2 _ x (hr2.lay hf) _ ?_
    simp only[Rw,Rp]
    exact⟨_,[v1,v2],rfl,aU,.cons (Rp.ext hr2.lsts x _ _ rw1) (.cons (Rp.ext hr2.lsts x _ _ rw2) .nil)⟩
theorem aDu(hN:X.N.Nodup)(he:Exx X K e f)(hi:X.N[i]?=some x:=by rfl)(hx:Loc X.env.scope x:=by first|exact Or.inl rfl|exact Or.inr rfl)(hs:swapsWith e (some (.Name x pos')) pos.line X.env=pure false:=by rfl)
  (hf:X.fn x=true\/X.env.scope.names.lookup x=some .local:=by first|exact .inl rfl|exact .inr rfl|assumption):Tb X K [.Assign [.Name x pos'] e pos] (sAs f (gN i)):=by
 refine⟨he.k,?_⟩
 rintro pins s σ H D R I ⟨μ,M,L,hr0,lr,p⟩
 refine wpAny_execs_cons (wpAny_Assign_Name (thn (he.h pins s σ H (λv H1=>D.nx (σ.set i (some v)) H1) R I ⟨μ,M,L,hr0,lr,p.bind.imp λμ1 H1 M1 w e1 hr1 _ p1 v rv=>p1 μ1 H1 .refl hr1 _ (LR.set (lr.ext hr0.lsts e1) rv)⟩) λv s1 ⟨y,H1,I1,r1,q1⟩=>?_) hs)
 exact eS I1 hN hi hx r1 (λs2 I2=>aEE ⟨_,H1,I2,q1⟩) hf
end
noncomputable def mt(cn c:Str):Bool:=c==cn || cn=="LentError" || cn=="ValueError"
noncomputable def mtD(cn:Str):D->Bool
 |.exn c _ _=>mt cn c
 |_=>false
variable{K:Frag}
noncomputable def CtD(K:Frag)(cn:Str)(Dc:Addr):Prop:=∀c C LE,Xc K c C LE->mt cn c=true->XM K C Dc
noncomputable def Ct(K:Frag)(cn:Str)(cv:Value):Prop:=∀c C LE,Xc K c C LE->PySem.W.kitOne K (.ref C) cv=some (mt cn c)
variable{c:Str}
theorem aBp{C' LE':Addr}(F:Xc K c C LE)(G:Xc K c C' LE'):C=C':=by
 have:=F.nm.symm.trans G.nm
 cases this;rfl
theorem aGa{c':Str}{C' LE':Addr}(F:Xc K c C LE)(G:Xc K c' C' LE')(n:c≠c'):C≠C':=by
 rintro rfl
 obtain⟨d1,a1,a2,_⟩:=F.cd
 obtain⟨d2,b1,b2,_⟩:=G.cd
 rw[a1]at b1;cases b1
 exact n (a2.symm.trans b2)
theorem xG{c':Str}{C' LE':Addr}(F:Xc K c C LE)(G:Xc K c' C' LE'):LE≠C':=by
 rintro rfl
 obtain⟨d1,a1,a2⟩:=F.le
 obtain⟨d2,b1,b2,_⟩:=G.cd
 rw[a1]at b1;cases b1
 exact G.ne (b2.symm.trans a2)
theorem aGg(q:xcB K C bm ini=true):PySem.W.typeIn K (.ref C)=some (.type "type")/\(PySem.W.clsIn K C).isSome=true:=by
 unfold xcB at q
 split at q
 ·rename_i dd cd sl ho
  exact⟨by simp[PySem.W.typeIn,ho],by simp[PySem.W.clsIn,ho]⟩
 ·cases q
theorem aCe(h:nsIn K mainGlobals "LentError"=some (some (.ref Dc))):CtD K "LentError" Dc:=λc C LE F _=>by
 have:=h.symm.trans F.leN
 cases this
 obtain⟨ini,ob⟩:=F.ob
 exact⟨⟨_,ini,ob,by simp⟩,⟨_,none,F.leO,rfl⟩⟩
theorem eE(G:Xc K cn Dc LE)(hv:cn≠"ValueError":=by decide):Ct K cn (.ref Dc):=λc C LE' F=>by
 have e1:(cn==("LentError":Str))=false:=by simpa using G.ne
 have e2:(cn==("ValueError":Str))=false:=by simpa using hv
 unfold PySem.W.kitOne mt
 rw[e1,e2,Bool.or_false,Bool.or_false]
 by_cases hc:c=cn
 ·subst hc
  cases aBp F G
  rw[aAH (by simp)];simp
 ·have n:=aGa F G hc
  have n2:=xG F G
  obtain⟨ini,ob⟩:=G.ob
  obtain⟨t1,t2⟩:=aGg ob
  rw[aAI (by simpa using n)]
  unfold PySem.W.kitCls
  dsimp only
  rw[aAH (by rw[t1,t2];decide)]
  show PySem.W.mroIn K C (.ref Dc)=_
  rw[F.mro]
  have hcc:(c==cn)=false:=by simpa using hc
  rw[hcc]
  simp[n,n2]
  exact⟨λz=>n z.symm,λz=>n2 z.symm⟩
theorem aBc:PySem.W.kitMeta "ValueError"=true:=by decide +kernel
theorem aGl:Ct K "ValueError" (.type "ValueError"):=λc C LE F=>by
 unfold PySem.W.kitOne
 have e:mt "ValueError" c=true:=by simp[mt]
 rw[e,aAI (by simp)]
 unfold PySem.W.kitCls
 dsimp only
 rw[aAH aBc]
 show PySem.W.mroIn K C (.type "ValueError")=_
 rw[F.mro]
 rfl
structure Ecs(X:Cx)(K:Frag)(es:List Expr)(cns:List Str):Prop where
 k:X.K=K
 h:∃ys cvs,PA X es (λ_ H Q=>Q ys H)/\ys.map clV=cvs.map some/\ys.length<=es.length/\∀c C LE,Xc K c C LE->PySem.W.kitAny K (.ref C) cvs=some (cns.any λn=>mt n c)
section
variable{K:Frag}{e a b:Expr}{es:List Expr}{fs:FA}{st:Stmt}{rest:List Stmt}{G:FS}
theorem zF(hk:X.K=K:=by rfl):Ecs X K [] []:=⟨hk,[],[],dH,rfl,aAE _,λ_ _ _ _=>rfl⟩
theorem dR(ct:Ct K cn (.ref Dc))(hm:X.mg cn=some (.ref Dc))(h:Ecs X K es cns)(hg:Gl X cn:=by rfl)(hd:(cn==("__debug__":Str))=false:=by decide)
  (hs:starEach (.Name cn q::es) X.env=(false,eval (.Name cn q) X.env)::starEach es X.env:=by rfl):Ecs X K (.Name cn q::es) (cn::cns):=by
 obtain⟨ys,cvs,h1,h2,h3,h4⟩:=h.h
 refine⟨h.k,.ref Dc::ys,.ref Dc::cvs,?_,by simp[clV,h2],by simpa using h3,λc C LE F=>?_⟩
 ·exact cqA (bQ (oK (v:=.ref Dc) hg hm rfl hd) h1 hs) λσ H Q q=>q
 ·unfold PySem.W.kitAny
  rw[ct c C LE F]
  rw[aEB]
  cases mt cn c with
  |true=>rfl
  |false=>exact h4 c C LE F
noncomputable section
def pIsX(cns:List Str)(w:W)(M:Mm):Oc W:=match w with
 |.d (.exn c _ _)=>.ok (.d (.bl (cns.any λn=>mt n c))) M
 |_=>.bad
theorem aBt{f:Str}(h:XFl K H C f d vs):d=none\/∃dx fs,d=some dx/\H dx=some (.xd fs):=by
 rcases h with h|⟨dx,u,h1,_,h3,_⟩
 ·exact .inl h.1
 ·exact .inr ⟨dx,_,h1,h3⟩
theorem sN{cv:Value}(hy:clV y=some cv)(ct:Ct K cn cv)(hp:PE X (.Name cn q) (tC y))(hm:X.mg "isinstance"=none)(he:Ev X K Z e f)(hg:Gl X "isinstance":=by rfl)
  (hs:starEach [e,.Name cn q] X.env=(false,eval e X.env)::starEach [.Name cn q] X.env:=by rfl)(hs2:starEach [.Name cn q] X.env=(false,eval (.Name cn q) X.env)::starEach [] X.env:=by rfl)(hpl:(backTo pos (starEach [.Name cn q] X.env)).any (·.1)=false:=by rfl) :
  Ev X K Z (.Call (.Name "isinstance" p) [e,.Name cn q] [] pos) (e1 (pIsX [cn]) f):=by
 have h:=iT (pos:=pos) (p:=p) xO hg hm eG (bQ he.h (bQ hp dH hs2) hs) (by decide) (by decide) hs hpl
 rw[he.k]at h
 refine⟨he.k,cqE h ?_⟩
 rintro σ H Q ⟨μ,M,L,hr,lr,p⟩
 refine⟨μ,M,L,hr,lr,p.bind.imp λμ1 H1 M1 x e1 hr1 _ p1 v rx=>?_⟩
 cases x with
 |ref i=>exact p1.elim
 |ob _ _=>exact p1.elim
 |nest _=>exact p1.elim
 |d x=>cases x with
  |exn c ff xs =>
   simp only[Rw,Rp]at rx
   obtain⟨a,vs,C,LE,d,rfl,hx,F,xf,rs⟩:=rx
   exact⟨a,C,LE,c,d,y,cv,_,rfl,hx,aBt xf,F,hy,ct c C LE F,p1 μ1 H1 .refl hr1 _ (by simp[Rw,Rp])⟩
  |_=>exact p1.elim
theorem qX(ct:Ct K cn (.ref Dc))(hmc:X.mg cn=some (.ref Dc))(hm:X.mg "isinstance"=none)(he:Ev X K Z e f)(hg:Gl X "isinstance":=by rfl)(hgc:Gl X cn:=by rfl)(hd:(cn==("__debug__":Str))=false:=by decide)
  (hs:starEach [e,.Name cn q] X.env=(false,eval e X.env)::starEach [.Name cn q] X.env:=by rfl)(hs2:starEach [.Name cn q] X.env=(false,eval (.Name cn q) X.env)::starEach [] X.env:=by rfl)(hpl:(backTo pos (starEach [.Name cn q] X.env)).any (·.1)=false:=by rfl) :
  Ev X K Z (.Call (.Name "isinstance" p) [e,.Name cn q] [] pos) (e1 (pIsX [cn]) f):=sN (y:=.ref Dc) rfl ct (oK (v:=.ref Dc) hgc hmc rfl hd) hm he hg hs hs2 hpl
theorem aFq:bootBuiltins "ValueError"=some (.type "ValueError"):=PyProof.Rows.Boot.«ValueError»
theorem aBe(hmc:X.mg "ValueError"=none)(hm:X.mg "isinstance"=none)(he:Ev X K Z e f)(hg:Gl X "isinstance":=by rfl)(hgc:Gl X "ValueError":=by rfl)
  (hs:starEach [e,.Name "ValueError" q] X.env=(false,eval e X.env)::starEach [.Name "ValueError" q] X.env:=by rfl)(hs2:starEach [.Name "ValueError" q] X.env=(false,eval (.Name "ValueError" q) X.env)::starEach [] X.env:=by rfl)(hpl:(backTo pos (starEach [.Name "ValueError" q] X.env)).any (·.1)=false:=by rfl) :
  Ev X K Z (.Call (.Name "isinstance" p) [e,.Name "ValueError" q] [] pos) (e1 (pIsX ["ValueError"]) f):=sN (y:=.ty "ValueError") rfl aGl (tF (v:=.ty "ValueError") hgc hmc aFq rfl) hm he hg hs hs2 hpl
theorem aBb{x1}(hc:Ecs X K es cns)(hm:X.mg "isinstance"=none)(he:Ev X K Z e f)(hl:es.length<=100:=by decide)(hg:Gl X "isinstance":=by rfl)
  (hs:starEach [e,.Tuple es x1 q] X.env=(false,eval e X.env)::starEach [.Tuple es x1 q] X.env:=by rfl)(hs2:starEach [.Tuple es x1 q] X.env=(false,eval (.Tuple es x1 q) X.env)::starEach [] X.env:=by rfl)(hpl:(backTo pos (starEach [.Tuple es x1 q] X.env)).any (·.1)=false:=by rfl) :
  Ev X K Z (.Call (.Name "isinstance" p) [e,.Tuple es x1 q] [] pos) (e1 (pIsX cns) f):=by
 obtain⟨ys,cvs,h1,h2,h3,h4⟩:=hc.h
 have h:=iT (pos:=pos) (p:=p) uJ hg hm eG (bQ he.h (bQ (wC h1) dH hs2) hs) (by decide) (by decide) hs hpl
 rw[he.k]at h
 refine⟨he.k,cqE h ?_⟩
 rintro σ H Q ⟨μ,M,L,hr,lr,p⟩
 refine⟨μ,M,L,hr,lr,p.bind.imp λμ1 H1 M1 x e1 hr1 _ p1 v rx=>⟨?_,λt ht=>?_⟩⟩
 ·have:(100:Nat)<=sizeLine:=by decide
  lia
 cases x with
 |ref i=>exact p1.elim
 |ob _ _=>exact p1.elim
 |nest _=>exact p1.elim
 |d x=>cases x with
  |exn c ff xs =>
   have x:=dN (o:=.tup ys) hr1 ht
   have rx:=Rp.ext hr1.lsts x _ _ rx
   simp only[Rp]at rx
   obtain⟨a,vs,C,LE,d,rfl,hx,F,xf,rs⟩:=rx
   exact⟨a,C,LE,c,d,t,ys,cvs,_,rfl,hx,aBt xf,F,aU,h2,h4 c C LE F,p1 μ1 _ x (hr1.lay ht) _ (by simp[Rw,Rp])⟩
  |_=>exact p1.elim
def pFld(ff:Str)(w:W)(M:Mm):Oc W:=match w with
 |.d (.exn _ g [d])=>if g=ff then .ok (.d d) M else .bad
 |_=>.bad
theorem aAg{d:D}(h:Rp K μ H d v):∀i,v≠.ty i:=by
 cases d <;> simp only[Rp]at h <;> first|(subst h;intro i z;cases z)|(obtain⟨a,vs,rfl,_⟩:=h;intro i z;cases z)|(obtain⟨a,vs,_,_,_,rfl,_⟩:=h;intro i z;cases z)
theorem aCa(he:Ev X K Z e f)(hb:attributeBase e ff X.env (eval e X.env)=eval e X.env:=by rfl):Ev X K Z (.Attribute e ff p) (e1 (pFld ff) f):=by
 have h:=aAj (pos:=p) he.h hb
 rw[he.k]at h
 refine⟨he.k,cqE h ?_⟩
 rintro σ H Q ⟨μ,M,L,hr,lr,p⟩
 refine⟨μ,M,L,hr,lr,p.bind.imp λμ1 H1 M1 x e1 hr1 _ p1 v rx=>?_⟩
 cases x with
 |ref i=>exact p1.elim
 |ob _ _=>exact p1.elim
 |nest _=>exact p1.elim
 |d x=>cases x with
  |exn c g xs =>
   rcases xs with _|⟨d,_|⟨d2,xs⟩⟩
   ·exact p1.elim
   ·simp only[pFld]at p1
    split at p1
    ·rename_i hg
     subst hg
     simp only[Rw,Rp]at rx
     obtain⟨a,vs,C,LE,dd,rfl,hx,F,xf,rs⟩:=rx
     rcases xf with⟨_,rfl⟩|⟨dx,u,rfl,rfl,h3,h4⟩
     ·simp[Rps]at rs
     ·simp only[Rps]at rs
      obtain⟨v',r',e1',e2',e3'⟩:=rs
      cases e1'
      exact⟨a,C,LE,c,dx,u,rfl,hx,h3,F,h4,aAg e2',p1 μ1 H1 .refl hr1 u e2'⟩
    ·exact p1.elim
   ·exact p1.elim
  |_=>exact p1.elim
def unset(i:Nat):Out->Out
 |.nx L=>.nx (L.set i none)
 |.bk L=>.bk (L.set i none)
 |.ct L=>.ct (L.set i none)
 |.rt w=>.rt w
theorem LR.unset{σ:L2.St}(h:LR K μ H L σ):LR K μ H (L.set i none) (σ.set i none)where
 len:=by simp[h.len]
 ent:=λj w q=>by
  by_cases hj:i=j
  ·subst hj
   rw[List.getElem?_set_self']at q
   cases z:L[i]? <;> rw[z]at q <;> cases q
  ·rw[aBH hj]at q
   obtain⟨v,a,b⟩:=h.ent j w q
   exact⟨v,by rw[aBH hj];exact a,b⟩
def sTryAs(i:Nat)(cn:Str)(FB FH:FS):FS:=λL M=>match FB L M with
 |.ok o M'=>.ok o M'
 |.ex x M'=>if mtD cn x=true then(noX FH (L.set i (some (.d x))) M').bind λo M2=>.ok (unset i o) M2 else .bad
 |.bad=>.bad
end
theorem aGu{x:D}{a:Addr}(ct:CtD K cn Dc)(hm:mtD cn x=true)(r:Rp K μ H x (.ref a)):∃C d,H a=some (XO a C d)/\XM K C Dc:=by
 cases x with
 |exn c f xs =>
  simp only[Rp]at r
  obtain⟨a',vs,C,LE,d,e,hx,F,_⟩:=r
  cases e
  exact⟨C,d,hx,ct c C LE F hm⟩
 |_=>cases hm
theorem yO{suite:List Stmt}{b₀:Stmt}{n:Str}{np hpos:Pos}{FB FH:FS}(ct:CtD K cn Dc)(hm:X.mg cn=some (.ref Dc))(hN:X.N.Nodup)(hb:Tb X K body FB)(hs:∀a,Ess (X.hnd a) K Z0 (b₀::suite) FH)
  (hi:X.N[i]?=some n:=by rfl)(hl:X.env.scope.names.lookup n=some .local:=by rfl)(hg:Gl X cn:=by rfl)(hst:X.stack=X.env::X.outer:=by rfl)(hfm:X.env.frame=some X.env.locals:=by rfl)(hdb:(cn==("__debug__":Str))=false:=by decide) :
  Es X K Z (.Try body [.ExceptHandler (some (.Name cn np)) (some n) (b₀::suite) hpos] [] [] pos) (sTryAs i cn FB FH):=by
 have h:=yL (np:=np) (pos:=pos) (hpos:=hpos) hN hb.h (λa=>(hs a).h) hm hi hl hg hst hfm hdb
 rw[hb.k]at h
 refine⟨hb.k,cqS h ?_⟩
 rintro E σ H ⟨μ,M,L,hr,lr,p⟩
 refine⟨μ,M,L,hr,lr,?_⟩
 unfold sTryAs at p
 cases q:FB L M with
 |bad=>rw[q]at p;exact p
 |ok o M'=>rw[q]at p;exact p
 |ex x M' =>
  rw[q]at p
  simp only at p
  split at p
  ·rename_i hmt
   intro μ1 H1 e1 hr1 a ra
   refine⟨aGu ct hmt ra,μ1,M',_,hr1,LR.set (lr.ext hr.lsts e1) (w:=.d x) ra,((Pst.mono e1 p).bind.noX).imp λμ2 H2 M2 o e2 hr2 _ p2=>?_⟩
   have p2:=p2 μ2 H2 .refl hr2
   cases o with
   |nx L'=>exact λσ' l'=>p2 _ l'.unset
   |bk L'=>exact λσ' l'=>p2 _ l'.unset
   |ct L'=>exact λσ' l'=>p2 _ l'.unset
   |rt w=>exact p2
  ·exact p.elim
theorem aAz{a:Addr}(hO:Only H)(hS:SqL K H a (ns.map V.int))(h:∃M',Fm [.d (.fz (ns.map D.int))] []=.ok (.d (.bl true)) M'):spX K 1 Fm [.ref a] H (λv _=>v=.bl true) λ_ _ _=>False:=by
 obtain⟨h1,μ,M,ws,h2,h3,h4⟩:=aFk (K:=K) hO hS h
 exact⟨h1,μ,M,ws,h2,h3,Pst.never h4⟩
end
end EV
end
namespace EV
open PySem L2
section
variable{EX:D->Mm->Prop}{i j:Nat}{w x y:W}{Q:W->Mm->Prop}{QA:List W->Mm->Prop}{g h:FE}{G FB FH:FS}{fs:FA}{ws:List W}
theorem aHb(h:Ok (Fm ws M) Q):Okx EX (nx Fm ws M) Q:=by
 obtain⟨a,M',e,q⟩:=gZ.mp h
 unfold nx;rw[e];exact aK q
theorem wD{f:Lc->Mm->Oc α}{Q:α->Mm->Prop}(h:Ok (f L M) Q):Okx EX (noX f L M) Q:=by
 obtain⟨a,M',e,q⟩:=gZ.mp h
 unfold noX;rw[e];exact aK q
theorem zA{ds:List D}(h:Okx EX (fs L M) λws M1=>QA (ws++ds.map W.d) M1):Okx EX (aDef fs ds L M) QA:=aN (h.mono λ_ _ z=>aK z)
theorem nP{m:Nat}(hm:ws.length=m)(h:Okx (λx M'=>EX x (M'.take M.length)) (F (ws.map some++List.replicate (n - ws.length) none) M) λo M'=>match o with
  |.rt w=>Ok (retc M.length w M') Q
  |.nx _=>Q (.d .non) (M'.take M.length)
  |_=>False):Okx EX (fnX m n F ws M) Q:=by
 unfold fnX fnD
 rw[aAH hm]
 rcases eD.mp h with⟨o,M',e,q⟩|⟨x,M',e,q⟩
 ·rw[e]
  simp only[cR]
  cases o with
  |rt w =>
   obtain⟨a,M2,e2,q2⟩:=gZ.mp q
   simp only[e2]
   exact aK q2
  |nx L=>exact aK q
  |bk L=>exact q.elim
  |ct L=>exact q.elim
 ·rw[e]
  simp only[aAi]
  exact eW q
variable{c:Str}
theorem vQ(h:Okx EX (f L M) λw M1=>∃d,w=.d d/\EX (.exn c ff [d]) M1):Okx EX (sRaise c ff f L M) QS:=aN (h.mono λw M1 ⟨d,e,q⟩=>by subst e;exact eW q)
theorem rJ(h:EX (.exn c "" []) M):Okx EX (sRaise0 c L M) QS:=eW h
theorem vY(h:Okx (λx M'=>mtD cn x=true/\Ok (FH (L.set i (some (.d x))) M') λo M2=>QS (unset i o) M2) (FB L M) QS):Okx EX (sTryAs i cn FB FH L M) QS:=by
 unfold sTryAs
 rcases eD.mp h with⟨o,M',e,q⟩|⟨x,M',e,hm,q⟩
 ·rw[e];exact aK q
 ·rw[e]
  simp only
  rw[aAH hm]
  exact aN (wD (q.mono λ_ _ z=>aK z))
theorem aDm{xs:List D}(q:Q (.d (.bl (cns.any λn=>mt n c))) M):Okx EX (pIsX cns (.d (.exn c ff xs)) M) Q:=aK q
theorem aEj{d:D}(q:Q (.d d) M):Okx EX (pFld ff (.d (.exn c ff [d])) M) Q:=by
 have:pFld ff (.d (.exn c ff [d])) M=.ok (.d d) M:=aAH rfl
 rw[this];exact aK q
end
end EV
section
open PySem PySem.Spec PyProof.Rows
namespace EV
open PySem.W L2
noncomputable def xkB(K:Frag)(c:Str)(C LE:Addr):Bool:=(match clsIn K C with
  |some cd=>cd.name==c&&cd.mro==.ref C::.ref LE::vb&&cd.hasDict
  |none=>false)&&(match clsIn K LE with
  |some cl=>cl.name==("LentError":Str)
  |none=>false)&&findIn K (.ref C) "__getattribute__"==some (some (.builtin "BaseException.__getattribute__"))&&findIn K (.ref C) "__getattr__"==some none&&findIn K (.ref C) "__class__"==some (some (.builtin "object.__class__"))
variable{c:Str}
theorem iW(nm:nsIn K mainGlobals c=some (some (.ref C)))(leN:nsIn K mainGlobals "LentError"=some (some (.ref LE)))(q:xkB K c C LE=true)(ob:xcB K C (.ref LE::vb) ini=true)(leO:xcB K LE vb none=true)(ne:c≠"LentError"):Xc K c C LE:=by
 unfold xkB at q
 simp only[aBO,aFH]at q
 obtain⟨⟨⟨⟨q1,q2⟩,q3⟩,q4⟩,q5⟩:=q
 cases h1:clsIn K C with
 |none=>rw[h1]at q1;cases q1
 |some cd =>
  rw[h1]at q1
  simp only[aBO,aFH]at q1
  cases h2:clsIn K LE with
  |none=>rw[h2]at q2;cases q2
  |some cl =>
   rw[h2]at q2
   simp only[aFH]at q2
   exact⟨nm,⟨cd,h1,q1.1.1,q1.1.2⟩,⟨cl,h2,q2⟩,leN,ne,by unfold hasDictIn;rw[h1];exact q1.2,q3,q4,q5,⟨ini,ob⟩,leO⟩
variable{K:Frag}
theorem aFp{i:Int}{tk:Tok}(hm:X.mg x=some (.int i tk))(hk:X.K=K:=by rfl)(hg:Gl X x:=by rfl)(hd:(x==("__debug__":Str))=false:=by decide):Ev X K Z (.Name x pos) (eC (.int i)):=xC (λ_ _ _=>by simp[Rp]) hk (oK (v:=.int i) hg hm ⟨tk,rfl⟩ hd)
theorem aGv(xc:Xc K c C LE)(hc:clsIn K C=some cd):cd.hasDict=true:=by have:=xc.hd;unfold hasDictIn at this;rw[hc]at this;exact this
end EV
end
namespace LS
open PySem L2 EV
noncomputable def Cg(n a b:Int):Prop:=∃k,a=b+n*k
variable{n a:Int}
theorem Cg.rfl:Cg n a a:=⟨0,by simp⟩
variable{b:Int}
theorem Cg.symm(h:Cg n a b):Cg n b a:=by obtain⟨k,rfl⟩:=h;exact⟨-k,by grind⟩
variable{c:Int}
theorem Cg.trans(h:Cg n a b)(g:Cg n b c):Cg n a c:=by obtain⟨k,rfl⟩:=h;obtain⟨l,rfl⟩:=g;exact⟨k+l,by grind⟩
variable{d:Int}
theorem Cg.add(h:Cg n a b)(g:Cg n c d):Cg n (a+c) (b+d):=by obtain⟨k,rfl⟩:=h;obtain⟨l,rfl⟩:=g;exact⟨k+l,by grind⟩
theorem Cg.sub(h:Cg n a b)(g:Cg n c d):Cg n (a - c) (b - d):=by obtain⟨k,rfl⟩:=h;obtain⟨l,rfl⟩:=g;exact⟨k - l,by grind⟩
theorem Cg.mul(h:Cg n a b)(g:Cg n c d):Cg n (a*c) (b*d):=by obtain⟨k,rfl⟩:=h;obtain⟨l,rfl⟩:=g;exact⟨b*l+d*k+n*k*l,by grind⟩
theorem Cg.mod:Cg n (a % n) a:=⟨-(a / n),by have:=Int.emod_def a n;grind⟩
theorem Cg.emod(h:Cg n a b):a % n=b % n:=by obtain⟨k,rfl⟩:=h;simp[Int.add_mul_emod_self_left]
theorem Cg.of(h:a % n=b % n):Cg n a b:=Cg.mod.symm.trans (h▸Cg.mod)
theorem Cg.of_eq(h:a=b):Cg n a b:=h▸Cg.rfl
inductive Dd
 |add (s:Nat) (c:Int) (gs ts:List Nat)
 |scale (s:Nat) (u:Int)
noncomputable section
def natsD(xs:List Nat):D:=.tup (xs.map λk=>.int (k:Nat))
def intsD(xs:List Int):D:=.tup (xs.map .int)
def encD:Dd->D
 |.add s c gs ts=>.tup [.str "add",.int s,.int c,natsD gs,natsD ts]
 |.scale s u=>.tup [.str "scale",.int s,.int u]
def pr(xs:List Int)(is:List Nat):Int:=is.foldl (λa i=>a*xs.getD i 0) 1
def Rs(n:Int)(cs:List Int):Prop:=∀c∈cs,0<=c/\c < n
theorem Rs.getD{n:Int}{cs:List Int}(h:Rs n cs){i:Nat}(hi:i < cs.length):0<=cs.getD i 0/\cs.getD i 0 < n:=h _ (by simp[hi])
def IsIv(n u v:Int):Prop:=0<=v/\v < n/\(u*v) % n=1 % n
end
variable{u:Int}
theorem IsIv.uniq{v w:Int}(h:IsIv n u v)(g:IsIv n u w):v=w:=by
 obtain⟨l,k,e⟩:=h
 obtain⟨l',k',e'⟩:=g
 have e1:Cg n (u*v) 1:=Cg.of e
 have e2:Cg n (u*w) 1:=Cg.of e'
 have:Cg n v w:=by
  have h1:Cg n v (v*(u*w)):=by simpa using Cg.mul (Cg.rfl (a:=v)) e2.symm
  have h2:Cg n ((u*v)*w) (1*w):=Cg.mul e1 Cg.rfl
  exact h1.trans ((Cg.of_eq (by grind)).trans (h2.trans (Cg.of_eq (by grind))))
 have:=this.emod
 rwa[aFN l k,aFN l' k']at this
open Classical in
noncomputable def iv(n u:Int):Int:=if h:∃v,IsIv n u v then Classical.choose h else 0
theorem aGe{v:Int}(h:IsIv n u v):iv n u=v:=by
 have hx:∃v,IsIv n u v:=⟨v,h⟩
 unfold iv
 rw[dif_pos hx]
 exact(Classical.choose_spec hx).uniq h
theorem yZ(h:∃v,IsIv n u v):IsIv n u (iv n u):=by obtain⟨v,h⟩:=h;rw[aGe h];exact h
noncomputable def Un(n u:Int):Prop:=0<=u/\u < n/\∃v,IsIv n u v
theorem Un.iv{n u:Int}(h:Un n u):Un n (iv n u):=by
 have h':=yZ h.2.2
 exact⟨h'.1,h'.2.1,u,h.1,h.2.1,by rw[Int.mul_comm];exact h'.2.2⟩
noncomputable def OkD(n:Int)(G S:Nat):Dd->Prop
 |.add s c g t=>s < S/\0<=c/\c < n/\(∀i∈g,i < G)/\(∀i∈t,i < S)/\s∉t/\g.length<=4/\t.length<=4
 |.scale s u=>s < S/\Un n u
inductive Wd|sum|less|times
noncomputable def Wd.str:Wd->Str
 |.sum=>"sum"
 |.less=>"less"
 |.times=>"times"
noncomputable def Wd.ev(n:Int):Wd->Int->Int->Int
 |.sum,x,y=>(x+y) % n
 |.less,x,y=>(x - y) % n
 |.times,x,y=>x*y % n
inductive E
 |num (c:Int)
 |giv (i:Nat)
 |op (w:Wd) (a b:E)
noncomputable section
def val(n:Int)(gs:List Int):E->Int
 |.num c=>c % n
 |.giv i=>gs.getD i 0
 |.op w a b=>w.ev n (val n gs a) (val n gs b)
def dp:E->Nat
 |.num _=>0
 |.giv _=>0
 |.op _ a b=>max (dp a) (dp b)+1
def many:E->Nat
 |.num _=>1
 |.giv _=>1
 |.op .times a b=>2*(many a+many b)
 |.op _ a b=>many a+many b
end
variable{EX:D->Mm->Prop}
theorem at2I(x y:Int)(c:Bool):atI [D.int x,D.int y] (if c=true then 1 else 0)=some (D.int (if c=true then y else x)):=by cases c <;> rfl
theorem at2(l:0<=d)(u:d < 2)(x y:D):∃w,atI [x,y] d=some w/\(w=x\/w=y):=by
 have:d=0\/d=1:=by lia
 rcases this with rfl|rfl
 ·exact⟨x,rfl,by simp⟩
 ·exact⟨y,rfl,by simp⟩
theorem at3(l:0<=d)(u:d < 3)(x y z:D):∃w,atI [x,y,z] d=some w/\(w=x\/w=y\/w=z):=by
 have:d=0\/d=1\/d=2:=by lia
 rcases this with rfl|rfl|rfl
 ·exact⟨x,rfl,by simp⟩
 ·exact⟨y,rfl,by simp⟩
 ·exact⟨z,rfl,by simp⟩
theorem at4(l:0<=d)(u:d < 4)(x y z t:D):∃w,atI [x,y,z,t] d=some w/\(w=x\/w=y\/w=z\/w=t):=by
 have:d=0\/d=1\/d=2\/d=3:=by lia
 rcases this with rfl|rfl|rfl|rfl
 ·exact⟨x,rfl,by simp⟩
 ·exact⟨y,rfl,by simp⟩
 ·exact⟨z,rfl,by simp⟩
 ·exact⟨t,rfl,by simp⟩
theorem sH{xs:List D}{d:D}(h:d∈cut xs lo hi):d∈xs:=aGE (aBF h)
theorem kF{xs:List D}:(cut xs lo hi).length<=xs.length:=by unfold cut;simp only[aDI,aFW];lia
theorem atInts{i:Int}(l:0<=i)(u:i < ns.length):∃n,atI (ns.map D.int) i=some (.int n)/\n∈ns:=by
 have hi:i.toNat < ns.length:=by lia
 refine⟨ns[i.toNat],?_,by simp⟩
 simp only[atI,ixN,aAL]
 rw[aAH l,aAH u]
 simp[hi]
variable{s:Nat}
theorem wL{cs:List D}(h:s<=cs.length):cut cs none (some (s:Int))=cs.take s:=by
 simp only[cut,HT.sIx]
 rw[aAI (by lia)]
 simp only[List.drop_zero,Nat.sub_zero,aCV]
 rw[Nat.min_eq_left h]
theorem aCv{cs:List D}(h:s<=cs.length):cut cs (some (s:Int)) none=cs.drop s:=by
 simp only[cut,HT.sIx]
 rw[aAI (by lia)]
 simp only[aCV]
 rw[Nat.min_eq_left h,aCJ (by simp)]
noncomputable def encP(n G S:Int)(ds:List Dd):D:=.tup [.int n,.int G,.int S,.tup (ds.map encD)]
mutual
theorem pS:∀d:D,eqD d d=true
 |.non=>by simp[eqD]
 |.bl b=>by simp[eqD]
 |.int i=>by simp[eqD]
 |.str x=>by simp[eqD]
 |.tup xs=>by simp only[eqD];exact eU xs
 |.lst xs=>by simp only[eqD];exact eU xs
 |.fz xs=>by simp only[eqD];exact eU xs
 |.exn c f xs=>by simp only[eqD];rw[eU xs];simp
theorem eU:∀ds:List D,eqDs ds ds=true
 |[]=>by simp[eqDs]
 |d::ds=>by simp only[eqDs,pS d,eU ds,Bool.and_true]
end
theorem oR(xs:List Int):dep (intsD xs)<=3:=by
 have:deps (xs.map D.int)<=1:=by
  induction xs with
  |nil=>simp[deps]
  |cons x r ih=>simp[deps,dep];lia
 simp only[intsD,dep]
 lia
variable{x y:W}{Q:W->Mm->Prop}
theorem aCo{a b:D}(h1:wd M x=some a)(h2:wd M y=some b)(e:a=b)(hd:dep a<=100)(q:Q (.d (.bl true)) M):Okx EX (pEq x y M) Q:=by
 subst e
 exact sJ h1 h2 ⟨hd,hd⟩ (by rw[pS];exact q)
end LS
namespace LS
open PySem L2 EV
variable{EX:D->Mm->Prop}
theorem jM(ns:List Nat):deps (ns.map λx=>D.int (x:Nat))<=1:=by
 induction ns with
 |nil=>simp[deps]
 |cons x r ih=>simp[deps,dep];lia
theorem natsOf{xs:List Int}(h:∀x∈xs,0<=x):∃ks:List Nat,xs=ks.map (λk:Nat=>(k:Int)):=by
 refine⟨xs.map Int.toNat,?_⟩
 rw[List.map_map]
 conv=>lhs;rw[<- List.map_id xs]
 exact List.map_congr_left λx hx=>by simp;have:=h x hx;lia
noncomputable def SrtD:Dd->Prop
 |.add _ _ g t=>g.Pairwise (·<=·)/\t.Pairwise (·<=·)
 |.scale _ _=>True
theorem oQ(ns:List Nat):∃ks:List Nat,srt (ns.map λk:Nat=>(k:Int))=ks.map (λk:Nat=>(k:Int))/\ks.Perm ns/\ks.Pairwise (·<=·):=by
 obtain⟨ks,e⟩:=natsOf (xs:=srt (ns.map λk:Nat=>(k:Int))) (λx hx=>by
  rw[zJ]at hx;obtain⟨k,_,rfl⟩:=List.mem_map.mp hx;lia)
 refine⟨ks,e,?_,?_⟩
 ·have p:=iY (ns.map λk:Nat=>(k:Int))
  rw[e]at p
  have:=p.map Int.toNat
  simpa[List.map_map,aHB]using this
 ·have o:=gW (ns.map λk:Nat=>(k:Int))
  rw[e,List.pairwise_map]at o
  exact o.imp λh=>by lia
theorem dX(ns:List Nat):(ns.map λx=>D.int (x:Nat))=(ns.map λk:Nat=>(k:Int)).map D.int:=by rw[List.map_map];rfl
noncomputable def othersL(S ks:Nat):List Nat:=(List.range S).filter (·≠ks)
theorem rY{S ks x:Nat}:x∈othersL S ks ↔ x < S/\x≠ks:=by simp[othersL]
theorem pR{ds:List D}:(!eqD (.lst ds) (.lst []))=decide (ds≠[]):=by
 cases ds with
 |nil=>rfl
 |cons d r=>simp[eqD,eqDs]
theorem aBn{ns:List Nat}{i:Int}(l:0<=i)(u:i < ns.length):∃k∈ns,atI (ns.map λx=>D.int (x:Nat)) i=some (.int (k:Nat)):=by
 have hi:i.toNat < ns.length:=by lia
 refine⟨ns[i.toNat],aFX hi,?_⟩
 simp only[atI,ixN,aAL]
 rw[aAH l,aAH u]
 simp[hi]
end LS
namespace LS
open PySem L2 EV
variable{EX:D->Mm->Prop}
end LS
namespace LS
open PySem L2 EV
variable{EX:D->Mm->Prop}
noncomputable def pl(ps:List Nat)(i:Nat):Nat:=ps.getD i 0
end LS
namespace LS
open PySem L2 EV
variable{EX:D->Mm->Prop}
noncomputable def ho:Dd->Dd->Bool
 |.scale _ _,_=>false
 |.add s _ _ t,.scale s' _=>decide (s'=s) || decide (s'∈t)
 |.add _ _ _ t,.add s' _ _ _=>decide (s'∈t)
end LS
namespace LS
open PySem L2 EV
variable{EX:D->Mm->Prop}
end LS
namespace LS
open PySem L2 EV
end LS
section
open PySem PySem.Spec PyProof.Rows
namespace L2
open AutoSeq1 (wpAny_loadPart')
variable{prog:Program}{E:Value->Shared->Prop}
end L2
namespace EV
open L2
section
variable{K:Frag}{a b:Expr}{g:FE}
theorem pJ:bootBuiltins "tuple"=some (.type "tuple"):=by first|rfl|kernel_rfl
end
variable{EX:D->Mm->Prop}
end EV
end
namespace EV
open PySem
variable{P:List Value->Prop}
theorem exS{k:Nat}(h:∀a us,us.length=k->P (a::us)):∀us:List Value,us.length=k+1->P us
 |a::us,e=>h a us (Nat.succ.inj e)
theorem ex0(h:P [])(us:List Value)(e:us.length=0):P us:=by rw[List.eq_nil_of_length_eq_zero e];exact h
theorem ex1(h:∀a,P [a]):∀us:List Value,us.length=1->P us:=exS λa=>ex0 (P:=λus=>P (a::us)) (h a)
theorem ex2(h:∀a b,P [a,b]):∀us:List Value,us.length=2->P us:=exS λa=>ex1 (P:=λus=>P (a::us)) (h a)
theorem ex3(h:∀a b c,P [a,b,c]):∀us:List Value,us.length=3->P us:=exS λa=>ex2 (P:=λus=>P (a::us)) (h a)
theorem ex4(h:∀a b c d,P [a,b,c,d]):∀us:List Value,us.length=4->P us:=exS λa=>ex3 (P:=λus=>P (a::us)) (h a)
theorem ex5(h:∀a b c d e,P [a,b,c,d,e]):∀us:List Value,us.length=5->P us:=exS λa=>ex4 (P:=λus=>P (a::us)) (h a)
end EV
set_option maxHeartbeats 4000000
section
open PySem PySem.Spec PyProof.Rows
namespace ZP
variable{prog:Program}{E:Value->Shared->Prop}
noncomputable abbrev IsTrip(h:Heap)(T:Addr)(a b c:Value):Prop:=h.get? T=some {cls:=.type "tuple",data:=.seq #[a,b,c]}
set_option genSizeOf false in
set_option genInjectivity false in
structure Ap3(z TI TO i1 i2 i3 l1 l2 l3:Addr):Prop where
 z_TI:z≠TI
 z_TO:z≠TO
 z_i1:z≠i1
 z_i2:z≠i2
 z_i3:z≠i3
 TI_z:TI≠z
 TI_TO:TI≠TO
 TI_i1:TI≠i1
 TI_i2:TI≠i2
 TI_i3:TI≠i3
 TO_z:TO≠z
 TO_TI:TO≠TI
 TO_i1:TO≠i1
 TO_i2:TO≠i2
 TO_i3:TO≠i3
 i1_z:i1≠z
 i1_TI:i1≠TI
 i1_TO:i1≠TO
 i1_i2:i1≠i2
 i1_i3:i1≠i3
 i2_z:i2≠z
 i2_TI:i2≠TI
 i2_TO:i2≠TO
 i2_i1:i2≠i1
 i2_i3:i2≠i3
 i3_z:i3≠z
 i3_TI:i3≠TI
 i3_TO:i3≠TO
 i3_i1:i3≠i1
 i3_i2:i3≠i2
 l1_z:l1≠z
 l1_TI:l1≠TI
 l1_TO:l1≠TO
 l1_i1:l1≠i1
 l1_i2:l1≠i2
 l1_i3:l1≠i3
 l2_z:l2≠z
 l2_TI:l2≠TI
 l2_TO:l2≠TO
 l2_i1:l2≠i1
 l2_i2:l2≠i2
 l2_i3:l2≠i3
 l3_z:l3≠z
 l3_TI:l3≠TI
 l3_TO:l3≠TO
 l3_i1:l3≠i1
 l3_i2:l3≠i2
 l3_i3:l3≠i3
structure Zs3(h:Heap)(z TI TO i1 i2 i3 l1 l2 l3:Addr)(i:Nat)(xs ys us:Array Value):Prop where
 z:∃f0 f1,h.get? z=some (zobj TI TO f0 f1)/\(f0=.none\/∃T:Nat,f0=rawInt T)
 ti:IsTrip h TI (.ref i1) (.ref i2) (.ref i3)
 to:∃a b c,IsTrip h TO a b c
 a:It1 h i1 l1 i xs
 b:It1 h i2 l2 i ys
 c:It1 h i3 l3 i us
end ZP
namespace L2
end L2
namespace EV
open L2
variable{EX:D->Mm->Prop}
section
variable{K:Frag}{a b c:Expr}{g k:FE}{tg:Expr}
end
section
variable{g k:FE}
end
end EV
namespace RT
theorem yD:typeLookup (.type "reversed") "__len__"=pure none:=by rw[aEH,aDA];kernel_rfl
theorem jC:Slot "reversed" "__length_hint__" "reversed.__length_hint__" :=
 .of (owner:="reversed") (n:="__length_hint__") (by rw[aEH,aDA];kernel_rfl) (by decide +kernel) (by decide +kernel) (by decide +kernel)
  (by first|exact .inl (by decide +kernel)|exact .inr (by decide +kernel)) (by rw[aDV];kernel_rfl)
theorem lR:entryFor table "reversed.__length_hint__"=some Builtin.«reversed.__length_hint__»:=entryFor_of_tree (by kernel_rfl)
theorem nQ(a:Value):argsOk "reversed.__length_hint__" ⟨[a],[]⟩:=by
 unfold argsOk;rw[signature?_of (id:="reversed.__length_hint__") (n:=['_','_','t','n','i','h','_','h','t','g','n','e','l','_','_']) (o:=['d','e','s','r','e','v','e','r']) (by kernel_rfl) kO];kernel_rfl
theorem nN(self:Value):bindSpecial (.builtin "reversed.__length_hint__") self=pure (.builtin "reversed.__length_hint__",[self]):=by
 have hop:withoutEnding? "reversed.__length_hint__" "#opaque"=none:=by decide +kernel
 have hdat:withoutEnding? "reversed.__length_hint__" "#data"=none:=by decide +kernel
 have hk:builtinKind "reversed.__length_hint__"=some .method:=by decide +kernel
 simp only[bindSpecial,typeOf,builtinType,hop,hdat,hk];rfl
variable{prog:Program}{E:Value->Shared->Prop}
theorem vN(hit:IsRvT s.heap it l ((items.size:Int) - 1))(hl:IsTup s.heap l items)(hz:(items.size:Int) < 2 ^ 63)
  (hQ:∀u tk,s.toks<=tk->Q (.int items.size u) {s with toks:=tk}):wpAny (model prog w) A (call (.builtin "reversed.__length_hint__") [.ref it]) Q E s:=by
 obtain⟨o,ho,hc,hd⟩:=id hit
 refine aBQ jC hit.typeIs lR ?_ (nQ _)
 unfold Builtin.«reversed.__length_hint__»
 refine aAA (aCX (a:=Value.ref it) rfl ?_)
 refine aAA (aAV ho hd (x:=.ref l) rfl ?_)
 show wpAny _ _ (call (.builtin "len") [.ref l] >>= _) _ _ _
 refine aAA (len_tuple hl hz ?_)
 refine aAA (aCX (a:=some (items.size:Int)) (by first|rfl|kernel_rfl) ?_)
 show wpAny _ _ (field (.ref it) 1 >>= _) _ _ _
 refine aAA (aAV ho hd (x:=rawInt ((items.size:Int) - 1)) rfl ?_)
 show wpAny _ _ (if(items.size:Int) < (items.size:Int) - 1+1 then _ else _) _ _ _
 rw[aAI (by lia)]
 rw[show(items.size:Int) - 1+1=items.size by lia]
 unfold retInt
 refine aAA (wpAny_mkInt (aAC ⟨_,rfl,hQ _ _ ?_⟩))
 show s.toks<=s.toks+1+1+1
 lia
theorem rZ{x:Value}{Q:Option Value->Shared->Prop}(hit:IsRvT s.heap it l (i:Int))(hl:IsTup s.heap l items)(hz:(items.size:Int) < 2 ^ 63)(hx:items[i]?=some x)
  (hQ:∀h' tk,s.toks<=tk->IsRvT h' it l ((i:Int) - 1)->Heap.SameBut it s.heap h'->Q (some x) {s with heap:=h',toks:=tk}):wpAny (model prog w) A (pyNext (.ref it)) Q E s:=by
 obtain⟨o,ho,hc,hd⟩:=id hit
 have hlt:i < items.size:=by
  rcases Nat.lt_or_ge i items.size with h|h
  ·exact h
  ·rw[Array.getElem?_eq_none h]at hx;cases hx
 unfold pyNext
 refine aAA (aCZ (aBT (name:=Str.ofString "__next__") hit.typeIs cP
  (aBQ cP hit.typeIs gJ ?_ (iP _))))
 unfold Builtin.«reversed.__next__»
 refine aAA (aCX (a:=(Value.ref it,[])) rfl ?_)
 try dsimp only
 refine aAA (aAV ho hd (x:=.ref l) rfl ?_)
 refine aAA (aAV ho hd (x:=rawInt (i:Int)) rfl ?_)
 show wpAny _ _ (if(i:Int) < 0 then _ else _) _ _ s
 rw[aAI (by lia)]
 show wpAny _ _ (specialOf (.ref l) (Str.ofString "__getitem__") >>= _) _ _ s
 refine aAA (aFD hl.typeIs F.slot_tuple_getitem.lookup ?_)
 show wpAny _ _ (mkInt (i:Int) >>= _) _ _ s
 refine aAA (wpAny_mkInt ?_)
 refine aAA (aCZ (getItem_tuple (j:=i) (x:=x) hl (by lia) (by lia) ?_ hx ?_))
 ·rw[seqIndex_of (by lia) (by lia)];simp
 try dsimp only
 refine aAA (aAV ho hd (x:=rawInt (i:Int)) rfl ?_)
 show wpAny _ _ (setField _ _ _ >>= _) _ _ _
 refine aAA (aCK ho hd (by simp) ?_)
 refine aAC ⟨x,rfl,aAC (hQ _ _ (by first|exact aEI _|exact aAE _|lia) ?_ (aDZ ..))⟩
 exact⟨_,aCD _ ho (aGA (aDK hd _)),(Obj.cls_mapFields ..).trans hc,by
  rw[aDK hd];simp⟩
noncomputable def rvSt(it l:Addr)(items:Array Value)(i:Nat)(s:Shared):Prop:=IsRvT s.heap it l ((items.size:Int) - 1 - i)/\IsTup s.heap l items/\it≠l
theorem walksRv(hh:A.handled=none)(it l:Addr)(items:Array Value)(hz:(items.size:Int) < 2 ^ 63) :
  WalksS prog w A it [it,l] [it] (λa b=>b=a) items.size (λi v=>items[items.size - 1 - i]?=some v) (rvSt it l items)where
 sub:=by simp
 grefl:=λ_=>rfl
 gtrans:=λ_ _ _ h1 h2=>h2.trans h1
 frame:=λi s h' tk st _ hk=>⟨st.1.at λo e=>hk it (by simp) o e,(by obtain⟨o,ho,r⟩:=st.2.1;exact⟨o,hk l (by simp) o ho,r⟩),st.2.2⟩
 item:=λi s Q E hi st hQ=>by
  obtain⟨h1,h2,h3⟩:=st
  have e:(items.size:Int) - 1 - i=((items.size - 1 - i:Nat):Int):=by lia
  rw[e]at h1
  have hlt:items.size - 1 - i < items.size:=by lia
  refine rZ h1 h2 hz (aFE hlt) λh' tk htk hr sb=>hQ _ _ (aFE hlt) ⟨?_,?_,h3⟩ ?_
  ·rw[show(items.size:Int) - 1 - ((i+1:Nat):Int)=((items.size - 1 - i:Nat):Int) - 1 by lia];exact hr
  ·obtain⟨o,ho,r⟩:=h2;exact⟨o,sb.extBut l o (Ne.symm h3) ho,r⟩
  ·exact⟨λb o hb e=>sb.extBut b o (by simpa using hb) e,rfl,rfl,rfl,htk⟩
 done:=λs Q E st hQ=>by
  obtain⟨h1,h2,h3⟩:=st
  rw[show(items.size:Int) - 1 - (items.size:Nat) = -1 by lia]at h1
  refine wW hh h1 λh' k=>hQ _ ⟨λb o hb e=>k b o (by simpa using hb) e,rfl,rfl,rfl,aAE _⟩
 self:=λi s Q E st hQ=>uC st.1 hQ
theorem sF{Q:List Value->Shared->Prop}(hh:A.handled=none)(hit:IsRvT s.heap it l ((items.size:Int) - 1))(hl:IsTup s.heap l items)(hne:it≠l)(hn:items.size<=16777216)
  (hQ:∀s' acc,Moved [it] (λa b=>b=a) s s'->ItemsOf (λi v=>items[items.size - 1 - i]?=some v) acc items.size->s.heap.objs.size<=s'.heap.objs.size->Q acc.toList s'):wpAny (model prog w) A (collect (.ref it)) Q E s:=by
 have hz:(items.size:Int) < 2 ^ 63:=by lia
 have W:=walksRv (prog:=prog) (w:=w) (A:=A.in1.in1) hh it l items hz
 have W1:=WalksS.of_in1 W
 have hst:rvSt it l items 0 s:=⟨by simpa using hit,hl,hne⟩
 obtain⟨o,ho,hc,hd⟩:=id hit
 obtain⟨ol,hol,rl⟩:=id hl
 have lit:it < s.heap.objs.size:=aAG ho
 have ll:l < s.heap.objs.size:=aAG hol
 have hSf:s.heap.objs.size∉[it,l]:=by simp;exact⟨aCY lit,aCY ll⟩
 have hSI:s.heap.objs.size≠it:=aCY lit
 unfold collect
 refine aAA (wpAny_runValue (aGJ F.entry_proto_collect ?_))
 rw[Around.under_plainId F.plain_proto_collect _]
 show wpAny _ A.in1 (newList [] >>= λl=>again (.builtin "list.__iadd__" ⟨[l,.ref it],[]⟩)) _ _ s
 refine aAA (aAZ ?_)
 refine aAC ⟨plainId_quiet F.plain_list_iadd _,aGJ F.entry_list_iadd ?_⟩
 rw[Around.under_plainId F.plain_list_iadd _]
 have hst₁:=W1.frame 0 s (s.heap.push {cls:=.type "list",data:=.seq ([]:List Value).toArray}) s.toks hst (aAE _) λb _ o e=>aAB _ e
 have hS₁:(s.heap.push {cls:=.type "list",data:=.seq ([]:List Value).toArray}).get? s.heap.objs.size=some {cls:=.type "list",data:=.seq ([]:List Value).toArray}:=aAM _ rfl
 have h1:Builtin.List.listSameRef (.ref s.heap.objs.size) (.ref it)=false:=by simp[Builtin.List.listSameRef,hSI]
 show wpAny _ A.in1 (Builtin.List.listExtendWith (.ref s.heap.objs.size) (.ref it) (.ref s.heap.objs.size)) _ _ _
 unfold Builtin.List.listExtendWith
 refine aAA (aEO hst₁.1.typeIs ?_)
 rw[aAI (by rw[h1];decide)]
 refine aAA (W1.self 0 _ _ _ hst₁ ?_)
 refine aAA (aBV ?_)
 unfold Builtin.List.listLengthHint
 refine aAA (aFD hst₁.1.typeIs yD ?_)
 show wpAny _ A.in1 (specialOf (Value.ref it) (Str.ofString "__length_hint__") >>= _) _ _ _
 refine aAA (aFD hst₁.1.typeIs jC.lookup ?_)
 (generalize hid:("reversed.__length_hint__":String)=id0;(fail_if_success (clear hid id0));wp_delta;rw[show splitId id0=some ("reversed","__length_hint__")from by subst hid;decide +kernel];subst hid)
 refine aAA (aFV (b:=true) hst₁.1.typeIs (by rw[aDV];kernel_rfl) ?_)
 rw[aAI (by decide)]
 dsimp only
 rw[aAI (by decide +kernel)]
 refine aAA (aCO ?_)
 refine aAA (aCX (nN _) ?_)
 dsimp only
 refine aAA (aCZ (vN (items:=items) (l:=l) (by simpa using hst₁.1) hst₁.2.1 hz λu tk htk=>?_))
 dsimp only
 have k0:(0:Int)<=(items.size:Int):=by lia
 have k1:Builtin.List.listFitsIndex (items.size:Int)=true:=by simp only[Builtin.List.listFitsIndex,aBO,aAW];lia
 have k2:Builtin.List.listTooLong (items.size:Int).toNat=false:=by simp only[Builtin.List.listTooLong,aAY,decide_eq_false_iff_not];lia
 generalize(items.size:Int)=kk at k0 k1 k2
 refine aAA (m:=asInt? (.int kk u)) (aAC ?_)
 dsimp only
 rw[aAI (by rw[k1];decide)]
 rw[aAI (by lia)]
 rw[aAI (by rw[k2];decide)]
 refine aAC ?_
 have fin:∀(h'':Heap) (c:Nat),(∀b o,b≠s.heap.objs.size->s.heap.get? b=some o->h''.get? b=some o)->h''.objs.size=s.heap.objs.size+1->h''.get? s.heap.objs.size=some {cls:=.type "list",dict:=none,data:=.seq #[] c,slots:=#[]} ->
   codeAny (model prog w) A (.builtin "list.extend.loop" ⟨[.ref s.heap.objs.size,.ref it,.ref s.heap.objs.size],[]⟩) (λr s'=>match r with
    |.ok (.ret v)=>wpAny (model prog w) A (match v with
      |.ref a=>do
       let o <- load a
       match o.data with
        |.seq xs _=>pure xs.toList
        |_=>unsupported "internal:collect"
      |_=>unsupported "internal:collect") Q E s'
    |.ok _=>False
    |.error e=>E e s') ⟨h'',s.gens,s.drawn,tk,s.os⟩:=by
  intro h'' c hk hsz hS
  have st2:rvSt it l items 0 ⟨h'',s.gens,s.drawn,tk,s.os⟩:=⟨hst.1.at λo e=>hk it o (Ne.symm hSI) e,(by obtain⟨o,ho,r⟩:=hst.2.1;exact⟨o,hk l o (aAQ ll) ho,r⟩),hne⟩
  refine codeAny_extend_loopS W1 (by rw[aAY];lia) _ hSf _ items.size 0 _ _ _ rfl (aCL _) st2 hS (ItemsOf.nil _) λs' acc' c' hm hS' hacc=>?_
  show wpAny _ A (load s.heap.objs.size >>= _) _ _ s'
  refine aAA (wpAny_load hS' ?_)
  refine aAC (hQ s' acc' ⟨λb o hb e=>?_,hm.gens,hm.drawn,hm.os,aAX htk hm.toks⟩ hacc (Nat.le_of_lt (aAG hS')))
  exact hm.heap b o (by simp at hb ⊢;exact⟨aAQ (aAG e),hb⟩) (hk b o (aAQ (aAG e)) e)
 split
 ·refine aAA (aCO ?_)
  refine aAA ?_
  show wpAny _ _ (updateSeq s.heap.objs.size (·.push .none) >>= λ_=>updateSeq s.heap.objs.size (·.pop)) _ _ _
  refine aAA (wpAny_updateSeq hS₁ rfl ?_)
  have hS₃:=aCD (Obj.mapSeq (·.push Value.none)) hS₁ rfl
  refine wpAny_updateSeq (hz:=by seq_fits) hS₃ rfl ?_
  have hS₄:=aCD (Obj.mapSeq (·.pop)) hS₃ rfl
  exact aAC ⟨plainId_quiet F.plain_extend_loop _,fin _ _ (λb o hb e=>(aDJ _ _ (Ne.symm hb)).trans ((aDJ _ _ (Ne.symm hb)).trans (aAB _ e))) (by simp[Heap.update,Heap.push]) hS₄⟩
 ·exact aAC ⟨plainId_quiet F.plain_extend_loop _,fin _ _ (λb o hb e=>aAB _ e) (Heap.size_push ..) hS₁⟩
theorem lC(it l:Addr)(items:Array Value)(hn:items.size<=16777216) :
  Meets (Builtin.«tuple.__new__» ⟨[.type "tuple",.ref it],[]⟩)
   (λA R s=>A.handled=none/\IsRvT s.heap it l ((items.size:Int) - 1)/\IsTup s.heap l items/\it≠l/\∀(s':Shared) (acc:Array Value),Moved [it] (λa b=>b=a) s s'->ItemsOf (λi v=>items[items.size - 1 - i]?=some v) acc items.size->s.heap.objs.size<=s'.heap.objs.size ->
    R (.ok (.ret (.ref s'.heap.objs.size))) {s' with heap:=s'.heap.push {cls:=.type "tuple",data:=.seq acc}}) :=
 .of_wp λprog w A R s h=>by
  obtain⟨hh,hr,hl,hne,h⟩:=h
  have hsub:=sub_tuple_self
  have hinit:=init_tuple_lookup
  have hmh:=madeHere_tuple
  have hT:s.TypeIs (.ref it) "reversed":=hr.typeIs
  have hh1:A.in1.handled=none:=hh
  wp_walk using aEO hT,sF hh1 hr hl hne hn
  intro s' acc hm hacc hle
  show wpAny _ _ (Builtin.Tuple.tupleExact acc.toList.toArray >>= λv=>ret v) _ _ _
  unfold Builtin.Tuple.tupleExact
  refine aAA (aAZ ?_ (show acc.toList.toArray.size<=sizeLine by simp only[Array.toArray_toList];rw[hacc.1,aAY];lia))
  refine aAC ⟨_,rfl,?_⟩
  have e:acc.toList.toArray=acc:=by simp
  rw[e]
  exact h s' acc hm hacc hle
theorem call_tuple_rv(hh:A.handled=none)(hit:IsRvT s.heap it l ((items.size:Int) - 1))(hl:IsTup s.heap l items)(hne:it≠l)(hn:items.size<=16777216)
  (h:∀(h':Heap) (tk:Nat) (acc:Array Value),(∀b o,b≠it->s.heap.get? b=some o->h'.get? b=some o)->s.heap.objs.size<=h'.objs.size->ItemsOf (λi v=>items[items.size - 1 - i]?=some v) acc items.size->Q (.ref h'.objs.size) {s with heap:=h'.push {cls:=.type "tuple",data:=.seq acc},toks:=tk}) :
  wpAny (model prog w) A (call (.type "tuple") [.ref it]) Q E s:=by
 refine callType_new F.called_tuple (by decide) (F.typeCall_tuple_1 _) (F.newCall_tuple_1 _) (λobj=>aGL obj _) F.entry_tuple_new
  (lC it l items hn) ⟨hh,hit,hl,hne,λs' acc hm hacc hle=>⟨⟨_,aAM _ rfl,rfl⟩,?_⟩⟩
 obtain⟨h',g',d',tk',os'⟩:=s'
 have e1:g'=s.gens:=hm.gens
 have e2:d'=s.drawn:=hm.drawn
 have e3:os'=s.os:=hm.os
 subst e1 e2 e3
 exact h h' tk' acc (λb o hb e=>hm.heap b o (by simpa using hb) e) hle hacc
end RT
namespace L2
theorem uS{xs:List V}{acc:Array Value}(r:Vals xs its)(h:ItemsOf (λi v=>its.toArray[its.toArray.size - 1 - i]?=some v) acc its.toArray.size):Vals xs.reverse acc.toList:=by
 have hl:acc.toList.length=its.length:=by have:=h.1;simpa using this
 have e:acc.toList=its.reverse:=by
  apply aFO
  intro i
  by_cases hi:i < its.length
  ·have hi':i < acc.toList.length:=by lia
   have q:=h.2 i acc.toList[i] (by rw[<- aEN];exact aCC hi')
   rw[aCC hi',List.getElem?_reverse hi]
   simpa using q.symm
  ·rw[aDP (by lia),aDP (by simpa using hi)]
 rw[e]
 exact r.reverse
noncomputable def tTupRev(K:Frag)(ta:TA):TE:=λσ H Q=>ta σ H λvs H1=>∃a xs,vs=[.ref a]/\SqT K H1 a xs/\xs.length<=16777216/\∀l,H1 l=none->Q (.ref l) (upd H1 l (.tup xs.reverse))
theorem uT{a:Expr}{ta:TA}(hc:X.calm=true)(hg:Gl X "tuple")(hm:X.mg "tuple"=none)(hg2:Gl X "reversed")(hm2:X.mg "reversed"=none)(ha:PA X [a] ta)(hs:starEach [a] X.env=[(false,eval a X.env)]:=by rfl)
  (hs2:starEach [.Call (.Name "reversed" p2) [a] [] pos2] X.env=[(false,eval (.Call (.Name "reversed" p2) [a] [] pos2) X.env)]:=by rfl):PE X (.Call (.Name "tuple" p) [.Call (.Name "reversed" p2) [a] [] pos2] [] pos) (tTupRev X.K ta):=by
 intro pins s σ H Q I h
 refine aDB (gM I hg hm EV.pJ ?_)
 refine aCW ?_ hs2 rfl
 rw[hs2]
 show wpAny _ _ (spliced ((false,eval (.Call (.Name "reversed" p2) [a] [] pos2) X.env)::backTo pos [])) _ _ s
 refine aFF ?_
 refine Call_ (gM I hg2 hm2 wH (aCW (thn (ha pos2 pins s σ H _ I h) λus s1 ⟨vs,H1,I1,r1,q1⟩=>?_) hs rfl))
 obtain⟨b,xs,e,hq,hx,q⟩:=q1
 subst e
 cases r1 with
 |cons r rr =>
  cases rr
  cases r
  obtain⟨its,rv,pt,hz⟩:=I1.tuple hq
  have hlen:=rv.length
  refine RT.call_rev_tuple pt (by rw[aAK,<- hlen];lia) ?_
  refine aGY ?_
  have I2:Inv X pins σ H1 {s1 with heap:=s1.heap.push (RT.rvObj b ((its.toArray.size:Int) - 1)),toks:=s1.toks+1+1}:=I1.kept (t':=s1.toks+1+1) λb o e=>aAB _ e
  have fo:FpOk X pins H1 s1.heap.objs.size:=I1.fpOk (aAE _) (I1.hok.fresh (aAE _))
  have hb:b < s1.heap.objs.size:=by obtain⟨o,ho,_⟩:=pt;exact aAG ho
  refine RT.call_tuple_rv (it:=s1.heap.objs.size) (l:=b) (items:=its.toArray) (I2.ok.hd hc) ⟨_,aAM _ rfl,rfl,rfl⟩ (by obtain⟨o,ho,r⟩:=pt;exact⟨o,aAB _ ho,r⟩) (aCY hb) (by rw[aAK];lia) λh' tk acc kp hle hacc=>?_
  have hT:H1 h'.objs.size=none:=I2.hok.fresh hle
  refine⟨.ref h'.objs.size,upd H1 h'.objs.size (.tup xs.reverse),?_,rfl,q _ hT⟩
  refine I2.turnLay (fp:=[s1.heap.objs.size]) (t':=tk) (λc hc=>by rw[aAT.mp hc];exact fo) (λc u hc e=>aAB _ (kp c u (by simpa using hc) e)) hle ?_
  exact⟨by rw[List.length_reverse,aAY];lia,acc.toList,uS rv hacc,_,aAM _ rfl,rfl,0,by simp⟩
end L2
namespace EV
open L2
variable{K:Frag}{a:Expr}
noncomputable def cTupRev(w:W)(M:Mm):Oc W:=match w with
 |.d (.tup xs)=>if xs.length<=16777216 then okD (.tup xs.reverse) M else .bad
 |_=>.bad
theorem vC(hc:X.calm=true)(hm:X.mg "tuple"=none)(hm2:X.mg "reversed"=none)(ha:Ev X K Z a f)(hg:Gl X "tuple":=by rfl)(hg2:Gl X "reversed":=by rfl)(hs:starEach [a] X.env=[(false,eval a X.env)]:=by rfl)
  (hs2:starEach [.Call (.Name "reversed" p2) [a] [] pos2] X.env=[(false,eval (.Call (.Name "reversed" p2) [a] [] pos2) X.env)]:=by rfl):Ev X K Z (.Call (.Name "tuple" p) [.Call (.Name "reversed" p2) [a] [] pos2] [] pos) (e1 cTupRev f):=by
 have h':=uT (pos:=pos) (p:=p) hc hg hm hg2 hm2 (bQ ha.h dH hs) hs hs2
 rw[ha.k]at h'
 refine⟨ha.k,cqE h' ?_⟩
 rintro σ H Q ⟨μ,M,L,hr,lr,p⟩
 refine⟨μ,M,L,hr,lr,p.bind.imp λμ1 H1 M1 w e1 hr1 _ p1 v rw'=>?_⟩
 cases w with
 |ref i=>exact p1.elim
 |ob _ _=>exact p1.elim
 |nest _=>exact p1.elim
 |d x=>cases x with
  |tup xs =>
   simp only[cTupRev]at p1
   split at p1
   ·rename_i hz
    simp only[Rw,Rp]at rw'
    obtain⟨q,vs,rfl,h1,r1⟩:=rw'
    exact⟨q,vs,rfl,SqT.of h1,by rw[<- r1.length];exact hz,gC hr1 r1.reverse p1⟩
   ·exact p1.elim
  |_=>exact p1.elim
variable{EX:D->Mm->Prop}
theorem uH{xs:List D}{Q:W->Mm->Prop}(hz:xs.length<=16777216)(q:Q (.d (.tup xs.reverse)) M):Okx EX (cTupRev (.d (.tup xs)) M) Q:=by
 simp only[cTupRev];rw[aAH hz];exact aK q
end EV
end
namespace EV
open PySem
theorem aBw{k:Nat}{v:Option Value}(hr:L2.Room k A):(A.mark v).units+101 < cLine:=by
 have:=hr.un
 have e:(A.mark v).units<=A.units+50:=by
  first|(rw[Around.mark_units];lia)|(show A.units<=_;lia)
 lia
end EV
section
open PySem PySem.Spec PyProof.Rows
namespace L2
structure CompOkC(p:Str)(N0:List Str)(sc0:Scope)(scope:Scope)(Nc:List Str)(js:List (Option Nat)):Prop where
 kind:scope.kind=.function
 one:scope.names.filter (λy=>y.2==.cell)=[(p,.cell)]
 pc:scope.names.lookup p=some .cell
 names:∀y∈scope.names,y.2=.local->scope.names.lookup y.1=some .local
 free:∀y∈scope.names,y.2=.free->sc0.names.lookup y.1=some .cell
 len:js.length=Nc.length
 slots:∀p∈Nc.zip js,∀j∈p.2,N0[j]?=some p.1/\scope.names.lookup p.1=some .free/\sc0.names.lookup p.1=some .cell
noncomputable def compOkCB(p:Str)(N0:List Str)(sc0 scope:Scope)(Nc:List Str)(js:List (Option Nat)):Bool :=
 decide (scope.kind=.function)&&(scope.names.filter (λy=>y.2==.cell)==[(p,.cell)])&&(scope.names.lookup p==some .cell)&&scope.names.all (λy=>y.2 != .local || scope.names.lookup y.1==some .local)&&scope.names.all (λy=>y.2 != .free || sc0.names.lookup y.1==some .cell) &&
  (js.length==Nc.length)&&(Nc.zip js).all (λp=>match p.2 with|none=>true|some j=>N0[j]?==some p.1&&scope.names.lookup p.1==some .free&&sc0.names.lookup p.1==some .cell)
variable{p:Str}{scope:Scope}
theorem CompOkC.of{N0:List Str}{sc0:Scope}(h:compOkCB p N0 sc0 scope Nc js=true):CompOkC p N0 sc0 scope Nc js:=by
 unfold compOkCB at h
 simp only[aBO,List.all_eq_true,aFH,aAW]at h
 obtain⟨⟨⟨⟨⟨⟨h1,h2⟩,h7⟩,h3⟩,h4⟩,h5⟩,h6⟩:=h
 refine⟨h1,h2,h7,λy hy e=>?_,λy hy e=>?_,h5,λp hp j hj=>?_⟩
 ·have:=h3 y hy
  simpa[e]using this
 ·have:=h4 y hy
  simpa[e]using this
 ·have:=h6 p hp
  have hj:p.2=some j:=hj
  rw[hj]at this
  simpa[and_assoc]using this
variable{σ:St}{H₂:Hp}{js:List (Option Nat)}{Cc:Addr}{tg iter elt:Expr}{ifs:List Expr}{js:List (Option Nat)}{g:TG}{ti:TT}{wi:TI}{pn:Str}
end L2
namespace EV
open L2
variable{K:Frag}{pn:Str}
end EV
namespace L2
end L2
namespace EV
open L2
variable{K:Frag}{EX:D->Mm->Prop}
end EV
namespace L2
open PySem.W PySem.Calls Builtin Builtin.ObjectAttr
variable{e:Expr}
end L2
namespace L2
end L2
namespace EV
open L2
variable{K:Frag}{a:Expr}{EX:D->Mm->Prop}
end EV
end
namespace EV
open PySem
variable{EX:D->Mm->Prop}{gg:FG}{Q:W->Mm->Prop}
end EV
section
open PySem PySem.Spec PyProof.Rows
namespace L2
variable{M:Model}{E:Value->Shared->Prop}{env':Env}{L e:Addr}{P:Addr->Prop}{Q:Unit->Shared->Prop}{σ:List (Option V)}{scope:Scope}{H₂:Hp}{tg iter elt:Expr}{ifs:List Expr}{js:List (Option Nat)}{g:TG}{ti:TT}{wi:TI}
end L2
namespace EV
open L2
variable{K:Frag}
end EV
namespace L2
structure RoomH(k:Nat)(A:Around):Prop where
 dp:A.depth+3*k+5 < recursionLimit
 un:A.units+16*k+200 < cLine
structure FnOkH(P:Program)(w:World)(K:Frag)(mg:Str->Option Value)(base:Heap)(k:Nat)(f:Addr)(fd:FuncData)(ps:List Str)(sp:Sp):Prop where
 len:∀vs H Q E,sp vs H Q E->vs.length=ps.length
 run:∀(A:Around) (outer:List Env) (s:Shared) (H:Hp) (args:Args) (us:List Value) (vs:List V) (Q:VK) (E:XK),RoomH k A->Env0 P w K mg base A outer s H->BindsTo s fd args (ps.zip us)->Vals vs us->sp vs H Q E ->
  codeAny (model P w) A (.call (.ref f) args) (CR CX0 outer P w H s Q E) s
section
variable{k:Nat}{f:Addr}{e:Expr}{es:List Expr}{t:TA}
end
end L2
namespace EV
open L2
variable{K:Frag}{e:Expr}{es:List Expr}{fs:FA}{EX:D->Mm->Prop}{Q:W->Mm->Prop}{gg:FG}
end EV
namespace L2
variable{prog:Program}{E:Value->Shared->Prop}
theorem qK{t:Addr}{Q:List Value->Shared->Prop}(it:IsTup s.heap t us.toArray)(few:us.length<=sizeLine)
  (q:Q us {s with heap:=(s.heap.push (seqObj "list" #[] 0)).update s.heap.objs.size (Obj.mapSeq (·++us.toArray))}) :
  wpAny (model prog w) A (collect (.ref t)) Q E s:=by
 obtain⟨ob,g,gc,k,gd⟩:=id it
 have g1:=aAB (seqObj "list" #[] 0) g
 have g0:(s.heap.push (seqObj "list" #[] 0)).get? s.heap.objs.size=some (seqObj "list" #[] 0):=aAM _ rfl
 unfold collect
 refine aAA (wpAny_runValue (aGJ (id:="proto.collect") entry_proto_collect' ?_))
 show wpAny _ _ (do again (.builtin "list.__iadd__" ⟨[<- newList [],.ref t],[]⟩)) _ _ s
 refine aAA (wpAny_newList (aAC ⟨aGR _ (by decide +kernel),?_⟩))
 refine aGJ (id:="list.__iadd__") entry_list_iadd' ?_
 show wpAny _ _ (Builtin.List.listExtendWith (.ref s.heap.objs.size) (.ref t) (.ref s.heap.objs.size)) _ _ {s with heap:=s.heap.push (seqObj "list" #[] 0)}
 delta Builtin.List.listExtendWith
 refine aAA (aEO (T:="tuple") ⟨ob,g1,gc⟩ ?_)
 rw[aAH (by rw[show(Value.type "tuple"==Value.type "tuple")=true from rfl];simp)]
 refine aAA (listItems_at g1 gd (aAA (listItems_at g0 rfl ?_)))
 rw[aAI (by simp)]
 refine aAA (listUpdate_at g0 rfl (aAC ?_) (aCL _) ?_)
 ·refine aAA (wpAny_load (get?_update_seq g0 _) ?_)
  dsimp only
  have e:((#[]:Array Value)++us.toArray).toList=us:=by simp
  rw[e]
  exact aAC q
 ·simp only[Array.size_append,aAK,aDO]
  lia
end L2
namespace EV
open L2
variable{K:Frag}{EX:D->Mm->Prop}{Q:W->Mm->Prop}
end EV
set_option maxHeartbeats 4000000
namespace L2
variable{prog:Program}{E:Value->Shared->Prop}{tg:Expr}
end L2
namespace EV
open L2
variable{EX:D->Mm->Prop}
section
variable{K:Frag}{a b tg:Expr}{g:FE}
end
section
variable{g:FE}
end
end EV
end
namespace EV
open PySem
variable{EX:D->Mm->Prop}{gg:FG}{Q:W->Mm->Prop}
end EV
section
open PySem PySem.Spec PyProof.Rows
namespace EV
open L2
variable{K:Frag}{EX:D->Mm->Prop}{Q:W->Mm->Prop}
end EV
namespace L2
variable{e st:Expr}{ts:TO}
end L2
namespace EV
open L2
variable{K:Frag}{e st:Expr}{fs:FO}{EX:D->Mm->Prop}{Q:W->Mm->Prop}
end EV
end
namespace EV
open PySem
end EV
section
open PySem PySem.Spec PyProof.Rows
namespace L2
variable{o i:Expr}{to ti:TE}
end L2
namespace EV
open L2
variable{K:Frag}{o i:Expr}{EX:D->Mm->Prop}{Q:Out->Mm->Prop}
end EV
namespace L2
variable{prog:Program}{E:Value->Shared->Prop}{o:Expr}{lo hi:Option Expr}{to:TE}{tl th:TO}
end L2
namespace EV
open L2
variable{K:Frag}{o:Expr}{lo hi:Option Expr}{fl fh:FO}{EX:D->Mm->Prop}
end EV
namespace L2
variable{tg:Expr}
end L2
namespace EV
open L2
variable{EX:D->Mm->Prop}{K:Frag}{a b c tg:Expr}
end EV
end
namespace HT
open PySem PyProof.Rows
noncomputable def RcLt(A:Around)(s:Shared)(v w:Value)(r:Bool):Prop:=∀(prog:Program) (wo:World) (E:Value->Shared->Prop) (Q:Value->Shared->Prop),Q (.bool r) s->wpAny (model prog wo) A (richCompare .Lt v w) Q E s
inductive LtOk(A:Around)(s:Shared):List Value->List Value->Bool->Prop where
 |nn:LtOk A s [] [] false
 |nc {w ws:_}:LtOk A s [] (w::ws) true
 |cn {v vs:_}:LtOk A s (v::vs) [] false
 |eq {v w vs ws r:_}:SeqAt.EqAt A s v w true->LtOk A s vs ws r->LtOk A s (v::vs) (w::ws) r
 |ne {v w vs ws r:_}:SeqAt.EqAt A s v w false->RcLt A s v w r->LtOk A s (v::vs) (w::ws) r
section
open PySem.SeqAt
open PySem.AutoSeq1 (wpAny_loadPart')
open PySem.MeetsSeq PySem.MeetsSeq2 PySem.MeetsSeq3
end
variable{prog:Program}{E:Value->Shared->Prop}
end HT
section
open PySem PySem.Spec PyProof.Rows
namespace EV
open L2
variable{K:Frag}
noncomputable def ltE(x y:D):Option Bool:=match x,y with
 |.int a,.int b=>some (decide (a < b))
 |.bl a,.bl b=>some (decide (b2i a < b2i b))
 |.tup xs,.tup ys=>match intsOf xs,intsOf ys with
  |some ns,some ms=>some (HT.lexLt ns ms)
  |_,_=>none
 |_,_=>none
noncomputable def ltT:List D->List D->Option Bool
 |[],[]=>some false
 |[],_::_=>some true
 |_::_,[]=>some false
 |x::xs,y::ys=>if eqD x y=true then ltT xs ys else ltE x y
variable{EX:D->Mm->Prop}{Q:W->Mm->Prop}
end EV
set_option maxHeartbeats 4000000
end
namespace L2
open PySem PySem.W PyProof.Rows
structure Lin(lt:Nat->Nat->Bool)(n:Nat):Prop where
 tot:∀i j,i < n->j < n->i≠j->lt i j=!lt j i
 tr:∀i j k,i < n->j < n->k < n->lt i j=true->lt j k=true->lt i k=true
structure PPm(n:Nat)(p:Array Nat):Prop where
 sz:p.size=n
 pm:p.toList.Perm (List.range n)
section
variable{lt:Nat->Nat->Bool}{n:Nat}{p:Array Nat}
theorem PPm.of(h:PPm n p){q:Array Nat}(hq:q.Perm p)(hz:q.size=p.size):PPm n q:=⟨hz.trans h.sz,(aCH.mp hq).trans h.pm⟩
end
end L2
section
open PySem PySem.Spec PyProof.Rows
namespace L2
open PySem.W
section
variable{prog:Program}{E:Value->Shared->Prop}{lt:Nat->Nat->Bool}
noncomputable def underway(h:Heap)(a:Addr)(vs:List Value):Heap:=((h.update a (Obj.mapSeq λ_=>#[])).push (seqObj "tuple" vs.toArray 0)).push (seqObj "list" #[] 0)
end
end L2
namespace EV
open L2 PySem.W
variable{prog:Program}
noncomputable def tl:D->List D
 |.tup xs=>xs
 |_=>[]
noncomputable def tLt(xs:List D)(i j:Nat):Bool:=ltT (tl (xs.getD i .non)) (tl (xs.getD j .non))==some true
structure TS(xs:List D):Prop where
 l2:2<=xs.length
 l64:xs.length < 64
 it:∀x∈xs,∃ys zs,x=.tup (.tup ys::zs)/\deps (.tup ys::zs)<=50
 so:∀i j,i < xs.length->j < xs.length->ltT (tl (xs.getD i .non)) (tl (xs.getD j .non))≠none
 lin:Lin (tLt xs) xs.length
variable{K:Frag}{EX:D->Mm->Prop}{Q:W->Mm->Prop}{x:W}
end EV
namespace EV
open L2
variable{K:Frag}{o:Expr}{EX:D->Mm->Prop}{Q:W->Mm->Prop}
end EV
set_option maxHeartbeats 1000000
namespace L2
open AutoSeq1 (wpAny_loadPart')
variable{prog:Program}{E:Value->Shared->Prop}
end L2
namespace L2
variable{prog:Program}{E:Value->Shared->Prop}
end L2
set_option maxHeartbeats 4000000
namespace L2
end L2
namespace EV
open L2
section
variable{K:Frag}{a b:Expr}{g:FE}{EX:D->Mm->Prop}
end
variable{K:Frag}
end EV
namespace L2
variable{prog:Program}{E:Value->Shared->Prop}
end L2
namespace EV
open L2
variable{K:Frag}{e:Expr}{EX:D->Mm->Prop}
end EV
set_option maxHeartbeats 4000000
namespace L2
noncomputable def nR3(a b c:Int):Nat:=(if a < b then(b - a - 1) / c+1 else 0).toNat
noncomputable def r3(a b c:Int):List Int:=(List.range (nR3 a b c)).map λi=>a+(i:Nat)*c
variable{a b c:Expr}{ta:TA}
end L2
namespace EV
open L2
variable{EX:D->Mm->Prop}{K:Frag}{a b c:Expr}{Q:W->Mm->Prop}
end EV
namespace EV
open L2
variable{K:Frag}{e:Expr}{es:List Expr}{fs:FA}
end EV
set_option maxHeartbeats 4000000
namespace EV
open L2
variable{K:Frag}{e a b o:Expr}{es:List Expr}{fs:FA}
section
variable{Q:W->Mm->Prop}{g:FE}{x y:W}
end
variable{K:Frag}{tg:Expr}{K:Frag}{f:Str}
structure OCl(K:Frag)(c:Str)(C:Addr):Prop where
 nm:nsIn K mainGlobals c=some (some (.ref C))
 cl:Cls K C
 nd:c≠"dict"/\c≠"dictK"
variable{K:Frag}{f:FE}
section
variable{Q:W->Mm->Prop}{g fv:FE}{F:Fn}{c m:Str}{i:Nat}{ds:List D}{x:D}
end
end EV
set_option maxHeartbeats 4000000
namespace L2
section
variable(P:Program)(w:World)
end
variable{a:Addr}{o:HO}{x e:Addr}{o':HO}
section
variable{fs fs' ex ex':List Addr}{h1 h2:Heap}
end
variable{σ:List (Option V)}
section
variable{a b:Expr}{tA tB':TT}{rest:List Expr}
end
variable{σ:St}{xs ys:List V}{E:Value->Shared->Prop}
section
variable{st:Stmt}{rest:List Stmt}{t u:TS}{e:Expr}
end
variable{tg:Expr}{a b c:Expr}{tc:TE}{prog:Program}{K:Frag}{f:Addr}{v:Value}
section
variable{a:Addr}{fs fs':List (Str×V)}
end
section
variable{a:Addr}{fs:List (Str×V)}{f:Str}{v:V}
end
variable{o e value:Expr}{f:Str}{tv:TE}{c:Value}{b:Bool}
section
variable{es:List Expr}{t:TA}
end
section
variable{k:Nat}{f:Addr}{dvs:List V}{ds:List Value}{E:XK}{x m:Str}{es:List Expr}{t:TA}
end
section
variable{k:Nat}{f:Addr}{ks:List Str}{E:XK}{x m:Str}{kpos:Pos}{es:List Expr}{kws:List Keyword}{t tk:TA}{nm:Option Str}{g:List Value->List Value->List Value}{gV:List V->List V->List V}
end
section
variable{x:Str}{es:List Expr}{t:TA}{id T:String}
end
section
variable{κ:Type}[DecidableEq κ]
noncomputable section
def valV(kvs:List (κ×V))(k:κ):Option V:=(kvs.find? λkv=>decide (kv.1=k)).map (·.2)
def putK(kvs:List (κ×V))(k:κ)(v:V):List (κ×V) :=
 if(kvs.any λkv=>decide (kv.1=k))=true then kvs.map (λkv=>if kv.1=k then(kv.1,v)else kv)else kvs++[(k,v)]
def dropK(kvs:List (κ×V))(k:κ):List (κ×V):=kvs.filter λkv=>decide (kv.1≠k)
end
theorem pK{p:κ×V}{r:List (κ×V)}{k:κ}(e:p.1=k):valV (p::r) k=some p.2:=by simp[valV,aEC,e]
theorem pG{p:κ×V}{r:List (κ×V)}{k:κ}(e:¬p.1=k):valV (p::r) k=valV r k:=by simp[valV,aEC,e]
theorem RelO.getD{o:Option V}{u:Option Value}{d:V}{d':Value}(r:RelO o u)(rd:RelV d d'):RelV (o.getD d) (u.getD d'):=by
 cases o with
 |none=>cases u with
  |none=>exact rd
  |some _=>exact(show False from r).elim
 |some _=>cases u with
  |none=>exact(show False from r).elim
  |some _=>exact r
theorem KV.val{kvs:List (κ×V)}{vs:List (κ×Value)}(r:KV kvs vs)(k:κ):RelO (valV kvs k) (valueAt vs k):=by
 unfold KV at r
 induction r with
 |nil=>exact True.intro
 |@cons p q ps qs h t ih =>
  obtain⟨h1,h2⟩:=h
  by_cases e:p.1=k
  ·have e':q.1=k:=h1.symm.trans e
   have b:valueAt (q::qs) k=some q.2:=by simp[valueAt,aEC,e']
   rw[pK e,b];exact h2
  ·have e':¬q.1=k:=λz=>e (h1.trans z)
   have b:valueAt (q::qs) k=valueAt qs k:=by simp[valueAt,aEC,e']
   rw[pG e,b];exact ih
theorem KV.any{kvs:List (κ×V)}{vs:List (κ×Value)}(r:KV kvs vs)(k:κ):(kvs.any λkv=>decide (kv.1=k))=vs.any λkv=>decide (kv.1=k):=by
 unfold KV at r
 induction r with
 |nil=>rfl
 |cons h t ih=>rw[aEB,aEB,ih,h.1]
theorem KV.drop{kvs:List (κ×V)}{vs:List (κ×Value)}(r:KV kvs vs)(k:κ):KV (dropK kvs k) (without vs k):=by
 unfold KV at r ⊢
 unfold dropK without
 induction r with
 |nil=>exact .nil
 |@cons p q ps qs h t ih =>
  obtain⟨h1,h2⟩:=h
  rw[List.filter_cons,List.filter_cons]
  by_cases e:p.1=k
  ·have a:¬decide (p.1≠k)=true:=by simp[e]
   have b:¬decide (q.1≠k)=true:=by simp[h1.symm.trans e]
   rw[aAI a,aAI b];exact ih
  ·have e':¬q.1=k:=λz=>e (h1.trans z)
   have a:decide (p.1≠k)=true:=by simp[e]
   have b:decide (q.1≠k)=true:=by simp[e']
   rw[aAH a,aAH b];exact .cons ⟨h1,h2⟩ ih
theorem KV.length{kvs:List (κ×V)}{vs:List (κ×Value)}(r:KV kvs vs):kvs.length=vs.length:=Paired.length r
end
noncomputable abbrev KT(H:Hp):List (List Key×V)->List (List Key×Addr×Value)->Prop:=Paired λp q=>p.1=q.1/\H q.2.1=some (.tup (p.1.map kV))/\RelV p.2 q.2.2
variable{kvs:List (List Key×V)}
theorem KT.val{xs:List (List Key×Addr×Value)}(r:KT H kvs xs)(k:List Key):RelO (valV kvs k) ((atKey xs k).map (·.2)):=by
 induction r with
 |nil=>exact True.intro
 |@cons p q ps qs h t ih =>
  obtain⟨h1,_,h2⟩:=h
  by_cases e:p.1=k
  ·have e':q.1=k:=h1.symm.trans e
   have b:atKey (q::qs) k=some q.2:=by simp[atKey,aEC,e']
   rw[pK e,b];exact h2
  ·have e':¬q.1=k:=λz=>e (h1.trans z)
   have b:atKey (q::qs) k=atKey qs k:=by simp[atKey,aEC,e']
   rw[pG e,b];exact ih
variable{a:Addr}
noncomputable def DGet(H:Hp)(a:Addr)(y:V)(r:Option V):Prop :=
 (∃kvs k,Rd H a (.dK kvs)/\y=kV k/\r=valV kvs k)\/∃kvs k b,Rd H a (.dT kvs)/\y=.ref b/\H b=some (.tup (k.map kV))/\r=valV kvs k
noncomputable def DPut(H:Hp)(a:Addr)(y v:V)(H':Hp):Prop :=
 (∃kvs k,H a=some (.dK kvs)/\y=kV k/\kvs.length < sizeLine/\H'=upd H a (.dK (putK kvs k v))) \/
 ∃kvs k b,H a=some (.dT kvs)/\y=.ref b/\H b=some (.tup (k.map kV))/\kvs.length < sizeLine/\H'=upd H a (.dT (putK kvs k v))
theorem DGet.k{H:Hp}{a:Addr}{kvs:List (Key×V)}{k:Key}(e:H a=some (.dK kvs)):DGet H a (kV k) (valV kvs k):=.inl ⟨kvs,k,.inl e,rfl,rfl⟩
theorem DGet.t{b:Addr}{k:List Key}(e:H a=some (.dT kvs))(eb:H b=some (.tup (k.map kV))):DGet H a (.ref b) (valV kvs k):=.inr ⟨kvs,k,b,.inl e,rfl,eb,rfl⟩
theorem DPut.k{H:Hp}{a:Addr}{kvs:List (Key×V)}{k:Key}{v:V}(e:H a=some (.dK kvs))(hl:kvs.length < sizeLine):DPut H a (kV k) v (upd H a (.dK (putK kvs k v))):=.inl ⟨kvs,k,e,rfl,hl,rfl⟩
variable{v:V}
theorem DPut.t{b:Addr}{k:List Key}(e:H a=some (.dT kvs))(eb:H b=some (.tup (k.map kV)))(hl:kvs.length < sizeLine) :
  DPut H a (.ref b) v (upd H a (.dT (putK kvs k v))):=.inr ⟨kvs,k,b,e,rfl,eb,hl,rfl⟩
variable{r:Value}{o:Option V}
section
variable{kvs:List (Key×V)}{k:Key}
end
variable{o i:Expr}{td ty:TE}
structure M1(X:Cx)(o:Expr)(m:Str)(apos:Pos)(e:Expr)(cpos:Pos):Prop where
 base:attributeBase o m X.env (eval o X.env)=eval o X.env
 few:((backTo cpos (starEach [e] X.env)).all (λx=>!x.1)&&(backToKw cpos (keywordEach [] X.env)).all (λx=>x.1.isSome)
  && decide (([e]:List Expr).length+([]:List Keyword).length+(if([]:List Keyword).isEmpty then 0 else 1) < 30))=true
 line:(apos.endLine==cpos.line)=true
 trees:backTo cpos (starEach [e] X.env)=[(false,eval e X.env)]
structure M2(X:Cx)(o:Expr)(m:Str)(apos:Pos)(e f:Expr)(cpos:Pos):Prop where
 base:attributeBase o m X.env (eval o X.env)=eval o X.env
 few:((backTo cpos (starEach [e,f] X.env)).all (λx=>!x.1)&&(backToKw cpos (keywordEach [] X.env)).all (λx=>x.1.isSome)
  && decide (([e,f]:List Expr).length+([]:List Keyword).length+(if([]:List Keyword).isEmpty then 0 else 1) < 30))=true
 line:(apos.endLine==cpos.line)=true
 trees:backTo cpos (starEach [e,f] X.env)=[(false,eval e X.env),(false,eval f X.env)]
variable{d:V}{o:Option V}{o f:Expr}{tx:TE}{kvs:List (Key×V)}
end L2
end
namespace Att
open PySem PySem.W PySem.Calls PyProof.Rows
variable{prog:Program}{E:Value->Shared->Prop}{K:Frag}
end Att
section
open PySem PySem.Spec PyProof.Rows
namespace L2
variable{K:Frag}
section
variable{κ:Type}[DecidableEq κ]
end
end L2
set_option maxHeartbeats 4000000
namespace EV
open L2
variable{K:Frag}{k:List Key}
theorem SameK.dT{xs ys:List (List Key×V)}:SameK (.dT xs) (.dT ys):=⟨λ_ h=>(nomatch h),λ_ _ _ h=>(nomatch h),λ_ _=>⟨ys,rfl⟩,λ_ h=>(nomatch h)⟩
section
variable{K:Frag}{e a b o i:Expr}{fv:FE}
end
variable{K:Frag}{K:Frag}{o i:Expr}
section
variable{Q:W->Mm->Prop}{fv:FE}
end
end EV
namespace L2
noncomputable abbrev TJ:=Str->St->Hp->(Str->Hp->Prop)->Prop
noncomputable def PJ(X:Cx)(es:List Expr)(t:TJ):Prop :=
 ∀(pins:List (Addr×Obj)) (s:Shared) (σ:St) (H:Hp) (acc:Str) (Q:Str->Hp->Prop),Inv X pins σ H s->t acc σ H Q ->
  wpAny (model X.prog X.w) X.A (joinParts acc (evalEach es X.env)) (EP X pins σ λv H'=>∃out,v=.str out/\Q out H') X.xe s
section
variable{e:Expr}{es:List Expr}{t:TJ}
end
end L2
namespace EV
open L2
section
variable{K:Frag}{e o:Expr}{es:List Expr}
noncomputable abbrev FJ:=Str->Lc->Mm->Oc Str
noncomputable def liftJ(K:Frag)(Z:Zt)(f:FJ):TJ:=λacc σ H Q=>∃μ M L,HR K μ H M/\LR K μ H L σ/\Pst K Z μ H (f acc L M) λμ' H' _ out=>Q out H'
structure Ej(X:Cx)(K:Frag)(Z:Zt)(es:List Expr)(f:FJ):Prop where
 k:X.K=K
 h:PJ X es (liftJ K Z f)
variable{g:FJ}
end
end EV
namespace L2
noncomputable abbrev Tbl:=List (Str×Str)
variable{σ:St}{d:Addr}{tb:Tbl}{i:Expr}{ti:TE}
end L2
namespace EV
open L2
variable{K:Frag}{i:Expr}{d:Addr}{tb:Tbl}
end EV
namespace L2
variable{prog:Program}{E:Value->Shared->Prop}{e st:Expr}{ts:TO}
end L2
namespace EV
open L2
variable{K:Frag}{e st:Expr}{fs:FO}
noncomputable abbrev T(l:List Nat):Str:=⟨l.toArray⟩
variable{K:Frag}
section
variable{Q:W->Mm->Prop}{QJ:Str->Mm->Prop}{g:FE}{fl fh:FO}{j:FJ}
end
end EV
namespace LS
open L2 EV
open PySem.NumText
noncomputable section
def isF(c:Nat):Bool:=decide (48<=c/\c<=57)
def dig(n:Nat):List Nat:=(Nat.toDigits 10 n).map Char.toNat
def num?(most:Nat)(ds:List Nat):Option Nat:=if ds=[]\/most < ds.length\/¬ds.all isF\/(ds.head?=some 48/\1 < ds.length)then none else some (digitsVal ds)
def sg:Wd->List Nat
 |.sum=>[32,43,32]
 |.less=>[32,45,32]
 |.times=>[32,42,32]
def txt:E->List Nat
 |.num c=>dig c.toNat
 |.giv i=>120::dig i
 |.op w a b=>40::(txt a++(sg w++(txt b++[41])))
def wd?(s:List Nat):Option Wd:=if s=[32,43,32]then some .sum else if s=[32,45,32]then some .less else if s=[32,42,32]then some .times else none
def rdG(s:List Nat):Option (E×List Nat):=match num? 1 (s.takeWhile isF)with
 |some n=>if n<=7 then some (.giv n,s.dropWhile isF)else none
 |none=>none
def rdN(s:List Nat):Option (E×List Nat):=match num? 6 (s.takeWhile isF)with
 |some n=>some (.num n,s.dropWhile isF)
 |none=>none
def rdP(r:List Nat->Option (E×List Nat))(s:List Nat):Option (E×List Nat):=match r s with
 |some (a,s1)=>match wd? (s1.take 3)with
  |some w=>match r (s1.drop 3)with
   |some (b,s2)=>if s2.take 1=[41]then some (.op w a b,s2.drop 1)else none
   |none=>none
  |none=>none
 |none=>none
def rd:Nat->List Nat->Option (E×List Nat)
 |k,s=>if s.take 1=[40]then(match k with
   |0=>none
   |k+1=>rdP (rd k) (s.drop 1))
  else if s.take 1=[120]then rdG (s.drop 1)else rdN s
def calm(s:List Nat):Prop:=∀c,s.head?=some c->isF c=false
end
end LS
end
namespace LS
open PySem L2 EV
end LS
section
open PySem PySem.Spec PyProof.Rows
namespace L2
variable{tg l:Expr}{tl:TE}
end L2
namespace EV
open L2
variable{K:Frag}{e tg:Expr}{K:Frag}
end EV
namespace LS
open L2 EV
open PySem.NumText
end LS
namespace L2
end L2
namespace EV
open L2
variable{K:Frag}
end EV
namespace LS
open L2 EV
noncomputable def bal(s:List Nat):Int:=(s.count 40:Int) - (s.count 41:Int)
noncomputable def Bd(k:Int)(s:List Nat):Prop:=∀n,bal (s.take n)<=k
theorem Bd.none{s:List Nat}(h:Bd 0 s):¬s.take 1=[40]:=λe=>by have:=h 1;rw[e]at this;exact absurd this (by decide)
end LS
namespace L2
noncomputable def two(a:Nat)(xs:List α):List α:=(List.range ((xs.length+1 - a) / 2)).filterMap λk=>xs[a+2*k]?
variable{e lo st:Expr}{tl ts:TO}
end L2
namespace EV
open L2
variable{K:Frag}{e o lo st:Expr}{fl fs:FO}{Q:W->Mm->Prop}
end EV
set_option maxHeartbeats 1000000
namespace L2
open AutoSeq1 (wpAny_loadPart')
variable{prog:Program}{E:Value->Shared->Prop}
end L2
namespace EV
open L2
section
variable{K:Frag}{a b:Expr}{g:FE}{EX:D->Mm->Prop}
end
end EV
set_option maxHeartbeats 4000000
namespace LS
open L2 EV
open PySem.NumText
noncomputable section
def joinL(c:Nat):List (List Nat)->List Nat
 |[]=>[]
 |[w]=>w
 |w::r=>w++c::joinL c r
def nb(c:Nat)(w:List Nat):Option Nat:=if w.head?=some c then num? 7 (w.drop 1)else none
def hx(w:List Nat):Bool:=decide (w.head?=some 120)
def wRest:List Nat:=[114,101,115,116]
def wGivens:List Nat:=[103,105,118,101,110,115]
def wShelves:List Nat:=[115,104,101,108,118,101,115]
def xw(g:Nat):List Nat:=120::dig g
def sw(s:Nat):List Nat:=115::dig s
def dw:Dd->List (List Nat)
 |.add s c gs ts=>sw s::[43]::dig c.toNat::(gs.map xw++ts.map sw)
 |.scale s u=>[sw s,[42],dig u.toNat]
def hw(n g s:Nat):List (List Nat):=[wRest,dig n,wGivens,dig g,wShelves,dig s]
def row(d:Dd):List Nat:=joinL 32 (dw d)
def headR(n g s:Nat):List Nat:=joinL 32 (hw n g s)
def prog(n g s:Nat)(ds:List Dd):List Nat:=joinL 10 (headR n g s::ds.map row)
end
end LS
namespace L2
end L2
namespace EV
open L2
variable{K:Frag}{o e:Expr}{Q:W->Mm->Prop}
end EV
namespace L2
end L2
namespace EV
open L2
variable{K:Frag}{o e:Expr}{Q:W->Mm->Prop}
end EV
namespace L2
variable{prog:Program}{E:Value->Shared->Prop}
section
variable{κ:Type}[DecidableEq κ]{knd:KeyKind prog w κ}{R:Result->Shared->Prop}
inductive PairsAt(knd:KeyKind prog w κ)(h:Heap):List Value->List (κ×Value)->Prop
 |nil:PairsAt knd h [] []
 |cons {b:Addr} {key v:Value} {k:κ} {xs:List Value} {kvs:List (κ×Value)} (hb:h.IsTuple b #[key,v]) (hk:knd.is k key=true) (r:PairsAt knd h xs kvs):PairsAt knd h (.ref b::xs) ((k,v)::kvs)
end
end L2
namespace EV
open L2
variable{EX:D->Mm->Prop}{K:Frag}{k:Key}{K:Frag}{e a o i:Expr}{Q:W->Mm->Prop}
end EV
namespace EV
open L2
variable{K:Frag}{es:List Expr}{fs:FA}{Q:W->Mm->Prop}
end EV
end
namespace TS
open PySem PyProof.Rows
noncomputable section
def gallop':Bool->Keyed->Array Keyed->Nat->Nat->Nat->StateT SortSt Sem (Option Nat):=sortPriv% PySem.Builtin.gallop
def mergeLo':Array Keyed->Array Keyed->StateT SortSt Sem (Array Keyed):=sortPriv% PySem.Builtin.mergeLo
def mergeHi':Array Keyed->Array Keyed->StateT SortSt Sem (Array Keyed):=sortPriv% PySem.Builtin.mergeHi
end
structure Ask(M:Model)(A:Around)(E:Value->Shared->Prop)(s:Shared)(κ:SortKind)(ky:Keyed->Int)(S:Keyed->Prop):Prop where
 lt:∀(st:SortSt) (x y:Keyed) (Q:Option Bool->SortSt->Prop),kindOf st=κ->S x->S y->Q (some (decide (ky x < ky y))) st->wpS M A E s (lt' x y) Q st
variable{M:Model}{E:Value->Shared->Prop}
theorem aZ{Q:Keyed->SortSt->Prop}(h:i < arr.size)(q:Q arr[i] st):wpS M A E s (elem' arr i) Q st:=by
 rw[elem'_eq,getElem?_pos arr i h]
 exact aAJ q
noncomputable def bey(left:Bool)(key:Keyed)(arr:Array Keyed)(i:Nat):StateT SortSt Sem (Option Bool):=do
 let x <- elem' arr i
 if left then lt' x key else return(<- lt' key x).map (!·)
theorem uW(left:Bool)(key:Keyed)(arr:Array Keyed)(base n hint:Nat):gallop' left key arr base n hint=(do
 let mut lastofs:=0
 let mut ofs:=1
 let mut lo:=0
 let mut hi:=0
 let some right <- bey left key arr (base+hint)|return none
 if right then
  let maxofs:=n - hint
  for _ in[0:n] do
   if ofs>=maxofs then break
   let some more <- bey left key arr (base+(hint+ofs))|return none
   if !more then break
   lastofs:=ofs
   ofs:=2*ofs+1
  lo:=hint+lastofs+1
  hi:=hint+min ofs maxofs
 else
  let maxofs:=hint+1
  for _ in[0:n] do
   if ofs>=maxofs then break
   let some found <- bey left key arr (base+(hint - ofs))|return none
   if found then break
   lastofs:=ofs
   ofs:=2*ofs+1
  lo:=hint+1 - min ofs maxofs
  hi:=hint - lastofs
 for _ in[0:n] do
  if lo>=hi then break
  let m:=lo+(hi - lo) / 2
  let some more <- bey left key arr (base+m)|return none
  if more then lo:=m+1 else hi:=m
 return some hi):=rfl
noncomputable def by'(ky:Keyed->Int)(left:Bool)(key x:Keyed):Bool:=if left then decide (ky x < ky key)else !decide (ky key < ky x)
variable{left:Bool}{key:Keyed}
theorem aAq(W:Ask M A E s κ ky S){Q:Option Bool->SortSt->Prop}(hk:kindOf st=κ)(sk:S key)(h:i < arr.size)(sx:S arr[i])(q:Q (some (by' ky left key arr[i])) st) :
  wpS M A E s (bey left key arr i) Q st:=by
 unfold bey
 refine aAF (aZ h ?_)
 cases left with
 |true=>exact W.lt st _ _ _ hk sx sk (by simpa[by']using q)
 |false=>exact aAF (W.lt st _ _ _ hk sk sx (aAJ (by simpa[by']using q)))
theorem dC(W:Ask M A E s κ ky S){arr:Array Keyed}{base hint:Nat}{Q:Option Nat->SortSt->Prop}(hk:kindOf st=κ)(sk:S key)(hh:hint < n)(hn:base+n<=arr.size)
  (sx:∀i (h:i < arr.size),base<=i->i < base+n->S arr[i])
  (so:∀i j (hi:i < arr.size) (hj:j < arr.size),base<=i->i<=j->j < base+n->ky arr[i]<=ky arr[j])
  (q:∀k,k<=n->(∀i (h:i < arr.size),base<=i->i < base+k->by' ky left key arr[i]=true)->(∀i (h:i < arr.size),base+k<=i->i < base+n->by' ky left key arr[i]=false)->Q (some k) st) :
  wpS M A E s (gallop' left key arr base n hint) Q st:=by
 obtain⟨P,hP⟩:∃P:Nat->Bool,∀i (h:base+i < arr.size),P i=by' ky left key arr[base+i]:=⟨λi=>if h:base+i < arr.size then by' ky left key arr[base+i]else false,λi h=>by simp[h]⟩
 have mono:∀i j,i<=j->j < n->P j=true->P i=true:=by
  intro i j hij hj h
  have a1:=so (base+i) (base+j) (by lia) (by lia) (by lia) (by lia) (by lia)
  rw[hP _ (by lia)]at h ⊢
  cases left <;> simp[by']at h ⊢ <;> lia
 have ask:∀i,i < n->∀Q:Option Bool->SortSt->Prop,Q (some (P i)) st->wpS M A E s (bey left key arr (base+i)) Q st:=λi hi Q q =>
  aAq W hk sk (by lia) (sx _ _ (by lia) (by lia)) (by rw[<- hP];exact q)
 have fin:∀k,k<=n->(∀i,i < k->P i=true)->(∀i,k<=i->i < n->P i=false)->Q (some k) st:=λk hk h1 h2=>by
  refine q k hk (λi h b1 b2=>?_) λi h b1 b2=>?_
  ·have:=h1 (i - base) (by lia)
   rw[hP _ (by lia)]at this
   simpa[show base+(i - base)=i by lia]using this
  ·have:=h2 (i - base) (by lia) (by lia)
   rw[hP _ (by lia)]at this
   simpa[show base+(i - base)=i by lia]using this
 clear q sx so hP
 have last:∀lo hi,lo<=hi->hi<=n->(∀i,i < lo->P i=true)->(∀i,hi<=i->i < n->P i=false) ->
   wpS M A E s (do
    let mut lo:=lo
    let mut hi:=hi
    for _ in[0:n] do
     if lo>=hi then break
     let m:=lo+(hi - lo) / 2
     let some more <- bey left key arr (base+m)|return none
     if more then lo:=m+1 else hi:=m
    return some hi) Q st:=by
  intro lo hi h1 h2 h3 h4
  refine aAF (aCS (aBP (I:=λx c st'=>st'=st/\∃lo hi,c=(none,lo,hi)/\lo<=hi/\hi<=n/\hi - lo<=n - x/\(∀i,i < lo->P i=true)/\(∀i,hi<=i->i < n->P i=false))
   (Q:=λc st'=>st'=st/\∃k,c=(none,k,k)/\k<=n/\(∀i,i < k->P i=true)/\(∀i,k<=i->i < n->P i=false)) ?step ?fin ⟨rfl,lo,hi,rfl,h1,h2,by lia,h3,h4⟩) ?post)
  case fin =>
   rintro c st' ⟨rfl,lo,hi,rfl,a1,a2,a3,a4,a5⟩
   have:lo=hi:=by lia
   subst this
   exact⟨rfl,lo,rfl,a2,a4,a5⟩
  case post =>
   rintro c st' ⟨rfl,k,rfl,a2,a4,a5⟩
   exact aAJ (fin k a2 a4 a5)
  case step =>
   rintro x c st' _ hx ⟨rfl,lo,hi,rfl,a1,a2,a3,a4,a5⟩
   dsimp only
   by_cases hge:lo>=hi
   ·rw[aAH hge]
    have:lo=hi:=by lia
    subst this
    exact aAJ ⟨rfl,lo,rfl,a2,a4,a5⟩
   ·rw[aAI hge]
    refine aAF (ask _ (by lia) _ ?_)
    dsimp only
    cases hp:P (lo+(hi - lo) / 2)with
    |true =>
     simp only[aCI]
     exact aAJ ⟨rfl,_,_,rfl,by lia,a2,by lia,λi hi'=>mono i _ (by lia) (by lia) hp,a5⟩
    |false =>
     simp only[aAS,aBU]
     refine aAJ ⟨rfl,_,_,rfl,by lia,by lia,by lia,a4,λi h1 h2=>?_⟩
     cases e:P i with
     |false=>rfl
     |true=>rw[mono _ i h1 h2 e]at hp;cases hp
 rw[uW]
 refine aAF (ask hint hh _ ?_)
 dsimp only
 cases hp:P hint with
 |true =>
  simp only[aCI]
  refine aAF (aCS (aBP (I:=λx c st'=>st'=st/\∃l o,c=(none,l,o)/\l < o/\x+1<=o/\hint+l < n/\P (hint+l)=true)
   (Q:=λc st'=>st'=st/\∃l o,c=(none,l,o)/\l < o/\hint+l < n/\P (hint+l)=true/\(o>=n - hint\/P (hint+o)=false)) ?step ?fin ⟨rfl,0,1,rfl,by lia,by lia,by lia,hp⟩) ?post)
  case fin =>
   rintro c st' ⟨rfl,l,o,rfl,a1,a2,a3,a4⟩
   exact⟨rfl,l,o,rfl,a1,a3,a4,.inl (by lia)⟩
  case step =>
   rintro x c st' _ hx ⟨rfl,l,o,rfl,a1,a2,a3,a4⟩
   dsimp only
   by_cases hge:o>=n - hint
   ·rw[aAH hge]
    exact aAJ ⟨rfl,l,o,rfl,a1,a3,a4,.inl hge⟩
   ·rw[aAI hge]
    refine aAF (ask _ (by lia) _ ?_)
    dsimp only
    cases hp:P (hint+o)with
    |true =>
     simp only[aFR,aAS,aBU]
     exact aAJ ⟨rfl,_,_,rfl,by lia,by lia,by lia,hp⟩
    |false =>
     simp only[Bool.not_false,aCI]
     exact aAJ ⟨rfl,l,o,rfl,a1,a3,a4,.inr hp⟩
  case post =>
   rintro c st' ⟨rfl,l,o,rfl,a1,a3,a4,a5⟩
   dsimp only
   refine last _ _ (by lia) (by lia) (λi hi=>mono i _ (by lia) a3 a4) λi h1 h2=>?_
   cases e:P i with
   |false=>rfl
   |true =>
    rcases a5 with a5|a5
    ·lia
    ·by_cases hz:o>=n - hint
     ·lia
     ·rw[mono (hint+o) i (by lia) h2 e]at a5;cases a5
 |false =>
  simp only[aAS,aBU]
  refine aAF (aCS (aBP (I:=λx c st'=>st'=st/\∃l o,c=(none,l,o)/\l < o/\x+1<=o/\l<=hint/\P (hint - l)=false)
   (Q:=λc st'=>st'=st/\∃l o,c=(none,l,o)/\l < o/\l<=hint/\P (hint - l)=false/\(o>=hint+1\/P (hint - o)=true)) ?step ?fin ⟨rfl,0,1,rfl,by lia,by lia,by lia,hp⟩) ?post)
  case fin =>
   rintro c st' ⟨rfl,l,o,rfl,a1,a2,a3,a4⟩
   exact⟨rfl,l,o,rfl,a1,a3,a4,.inl (by lia)⟩
  case step =>
   rintro x c st' _ hx ⟨rfl,l,o,rfl,a1,a2,a3,a4⟩
   dsimp only
   by_cases hge:o>=hint+1
   ·rw[aAH hge]
    exact aAJ ⟨rfl,l,o,rfl,a1,a3,a4,.inl hge⟩
   ·rw[aAI hge]
    refine aAF (ask _ (by lia) _ ?_)
    dsimp only
    cases hp:P (hint - o)with
    |true =>
     simp only[aCI]
     exact aAJ ⟨rfl,l,o,rfl,a1,a3,a4,.inr hp⟩
    |false =>
     simp only[aAS,aBU]
     exact aAJ ⟨rfl,_,_,rfl,by lia,by lia,by lia,hp⟩
  case post =>
   rintro c st' ⟨rfl,l,o,rfl,a1,a3,a4,a5⟩
   dsimp only
   refine last _ _ (by lia) (by lia) (λi hi=>?_) λi h1 h2=>?_
   ·rcases a5 with a5|a5
    ·lia
    ·by_cases hz:o>=hint+1
     ·lia
     ·exact mono i (hint - o) (by lia) (by lia) a5
   ·cases e:P i with
    |false=>rfl
    |true=>rw[mono (hint - l) i (by lia) h2 e]at a4;cases a4
structure MI(ky:Keyed->Int)(full out ra rb:List Keyed):Prop where
 pm:(out++ra++rb).Perm full
 so:out.Pairwise λx y=>ky x<=ky y
 sa:ra.Pairwise λx y=>ky x<=ky y
 sb:rb.Pairwise λx y=>ky x<=ky y
 ba:∀x∈out,∀y∈ra,ky x<=ky y
 bb:∀x∈out,∀y∈rb,ky x<=ky y
variable{full out ra rb:List Keyed}
theorem MI.swap(m:MI ky full out ra rb):MI ky full out rb ra :=
 ⟨(by rw[aCM];exact(List.Perm.append_left out List.perm_append_comm).trans (by rw[<- aCM];exact m.pm)),m.so,m.sb,m.sa,m.bb,m.ba⟩
theorem MI.a{u:List Keyed}(m:MI ky full out (u++ra) rb)(h:∀x∈u,∀y∈rb,ky x<=ky y):MI ky full (out++u) ra rb:=by
 obtain⟨s1,s2,s3⟩:=aDT.mp m.sa
 refine⟨by simpa[aCM]using m.pm,aDT.mpr ⟨m.so,s1,λx hx y hy=>m.ba x hx y (by simp[hy])⟩,s2,m.sb,λx hx y hy=>?_,λx hx y hy=>?_⟩
 ·rcases aBC.mp hx with hx|hx
  ·exact m.ba x hx y (by simp[hy])
  ·exact s3 x hx y hy
 ·rcases aBC.mp hx with hx|hx
  ·exact m.bb x hx y hy
  ·exact h x hx y hy
theorem MI.b{u:List Keyed}(m:MI ky full out ra (u++rb))(h:∀x∈u,∀y∈ra,ky x<=ky y):MI ky full (out++u) ra rb:=(m.swap.a h).swap
noncomputable def Done(ky:Keyed->Int)(full res:List Keyed):Prop:=res.Perm full/\res.Pairwise λx y=>ky x<=ky y
theorem MI.done(m:MI ky full out ra rb)(h:∀x∈ra,∀y∈rb,ky x<=ky y):Done ky full (out++ra++rb):=by
 have m1:=MI.a (ra:=[]) (u:=ra) (by simpa using m) h
 have m2:=MI.b (rb:=[]) (u:=rb) (by simpa using m1) (by simp)
 exact⟨by simpa using m2.pm,m2.so⟩
theorem MI.doneb(m:MI ky full out ra rb)(h:∀x∈rb,∀y∈ra,ky x<=ky y):Done ky full (out++rb++ra):=m.swap.done h
theorem MI.len(m:MI ky full out ra rb):out.length+ra.length+rb.length=full.length:=by have:=m.pm.length_eq;simp at this;lia
theorem Done.rev(h:Done (λx => - ky x) full out):Done ky full out.reverse :=
 ⟨(aHA out).trans h.1,aFZ.mpr (h.2.imp λz=>by simp only at z;lia)⟩
section
noncomputable abbrev setGal(st:SortSt)(g:Nat):SortSt:=SortSt.mk' (kindOf st) (arrOf st) (pendingOf st) g (failedOf st)
structure Same(st st':SortSt):Prop where
 k:kindOf st'=kindOf st
 a:arrOf st'=arrOf st
 p:pendingOf st'=pendingOf st
 f:failedOf st'=failedOf st
theorem Same.refl(st:SortSt):Same st st:=⟨rfl,rfl,rfl,rfl⟩
theorem Same.gal{st':SortSt}(h:Same st st')(g:Nat):Same st (setGal st' g):=⟨h.k,h.a,h.p,h.f⟩
theorem qS(a b:Array Keyed):mergeLo' a b=(do
 rule "list.sort.merge-lo"
 let total:=a.size+b.size
 let done (out:Array Keyed) (ia ib:Nat):=out++a.extract ia a.size++b.extract ib b.size
 let lastOfA (out:Array Keyed) (ia ib:Nat):=out++b.extract ib b.size++a.extract ia a.size
 let mut out:Array Keyed:=#[<- elem' b 0]
 let mut ia:=0
 let mut ib:=1
 if ib==b.size then return done out ia ib
 if ia+1==a.size then return lastOfA out ia ib
 let mut minGallop:=gallopOf (<- get)
 for _ in[0:total] do
  let mut acount:=0
  let mut bcount:=0
  for _ in[0:total] do
   let some bWins <- lt' (<- elem' b ib) (<- elem' a ia)|return done out ia ib
   if bWins then
    out:=out.push (<- elem' b ib);ib:=ib+1;bcount:=bcount+1;acount:=0
    if ib==b.size then return done out ia ib
    if bcount>=minGallop then break
   else
    out:=out.push (<- elem' a ia);ia:=ia+1;acount:=acount+1;bcount:=0
    if ia+1==a.size then return lastOfA out ia ib
    if acount>=minGallop then break
  rule "list.sort.gallop"
  minGallop:=minGallop+1
  for _ in[0:total] do
   if minGallop > 1 then minGallop:=minGallop - 1
   modify (λst=>setGal st minGallop)
   let some k <- gallop' false (<- elem' b ib) a ia (a.size - ia) 0|return done out ia ib
   acount:=k
   if k > 0 then
    out:=out++a.extract ia (ia+k);ia:=ia+k
    if ia+1==a.size then return lastOfA out ia ib
    if ia==a.size then return done out ia ib
   out:=out.push (<- elem' b ib);ib:=ib+1
   if ib==b.size then return done out ia ib
   let some k <- gallop' true (<- elem' a ia) b ib (b.size - ib) 0|return done out ia ib
   bcount:=k
   if k > 0 then
    out:=out++b.extract ib (ib+k);ib:=ib+k
    if ib==b.size then return done out ia ib
   out:=out.push (<- elem' a ia);ia:=ia+1
   if ia+1==a.size then return lastOfA out ia ib
   if acount < 7&&bcount < 7 then break
  minGallop:=minGallop+1
  modify (λst=>setGal st minGallop)
 unsupported "internal:list.sort.merge-bound"):=rfl
theorem mY{a:Array Keyed}(h:i < a.size):a.toList.drop i=[a[i]]++a.toList.drop (i+1):=by
 rw[aBY (l:=a.toList) (i:=i) (by simpa using h),aEW];rfl
theorem qE{a:Array Keyed}{k:Nat}:a.toList.drop i=(a.extract i (i+k)).toList++a.toList.drop (i+k):=by
 simp[aCT,<- List.drop_drop]
theorem nD{a:Array Keyed}:(a.extract i a.size).toList=a.toList.drop i:=by
 simp only[aCT,aDC]
 exact aCJ (by simp)
variable{x:Keyed}
theorem fZ{a:Array Keyed}{k:Nat}(hk:i+k<=a.size)(h:x∈(a.extract i (i+k)).toList):∃j,∃hj:j < a.size,i<=j/\j < i+k/\x=a[j]:=by
 obtain⟨j,hj,e⟩:=aBX.mp h
 simp at hj
 refine⟨i+j,by lia,by lia,by lia,?_⟩
 rw[<- e];simp
theorem dS{a:Array Keyed}(h:x∈a.toList.drop i):∃j,∃hj:j < a.size,i<=j/\x=a[j]:=by
 obtain⟨j,hj,e⟩:=aBX.mp h
 simp at hj
 refine⟨i+j,by lia,by lia,?_⟩
 rw[<- e];simp
structure Two(ky:Keyed->Int)(S:Keyed->Prop)(a b:Array Keyed):Prop where
 a0:0 < a.size
 b0:0 < b.size
 sa:a.toList.Pairwise λx y=>ky x<=ky y
 sb:b.toList.Pairwise λx y=>ky x<=ky y
 first:ky b[0]<=ky a[0]
 last:∀y∈b.toList,ky y<=ky a[a.size - 1]
 ina:∀x∈a.toList,S x
 inb:∀x∈b.toList,S x
theorem cA{a:Array Keyed}(h:a.toList.Pairwise λx y=>ky x<=ky y)(hi:i < a.size)(hj:j < a.size)(hij:i<=j):ky a[i]<=ky a[j]:=by
 rcases Nat.lt_or_ge i j with h1|h1
 ·have:=aBM.mp h i j (by simpa using hi) (by simpa using hj) h1
  rw[aEW,aEW]at this;exact this
 ·have:i=j:=by lia
  subst this;exact aDD _
variable{a b:Array Keyed}
theorem Two.start(T:Two ky S a b):MI ky (a.toList++b.toList) [b[0]'T.b0] a.toList (b.toList.drop 1):=by
 have e:=mY T.b0
 rw[List.drop_zero]at e
 have m:MI ky (a.toList++b.toList) [] a.toList ([b[0]'T.b0]++b.toList.drop 1):=⟨by rw[<- e];simp,.nil,T.sa,by rw[<- e];exact T.sb,by simp,by simp⟩
 refine m.b λx hx y hy=>?_
 have:x=b[0]'T.b0:=by simpa using hx
 subst this
 obtain⟨j,hj,rfl⟩:=aBX.mp hy
 have:=cA T.sa T.a0 (by simpa using hj) (aCL j)
 have:=T.first
 simp at *
 lia
end
end TS
namespace TS
open PySem PyProof.Rows
noncomputable section
abbrev RS7:=Option (Array Keyed)×Array Keyed×Nat×Nat×Nat×Nat×Nat
abbrev RS6:=Option (Array Keyed)×Array Keyed×Nat×Nat×Nat×Nat
def lo3(a b out:Array Keyed)(ia ib mg k k1:Nat):StateT SortSt Sem (ForInStep RS7):=do
 let x <- elem' a ia
 if(ia+1+1==a.size)=true then pure (.done (some (out.push x++b.extract ib b.size++a.extract (ia+1) a.size),out.push x,ia+1,ib,mg,k,k1))
 else if(decide (k < 7)&&decide (k1 < 7))=true then pure (.done (none,out.push x,ia+1,ib,mg,k,k1))else pure (.yield (none,out.push x,ia+1,ib,mg,k,k1))
def lo2(a b out:Array Keyed)(ia ib mg k bc:Nat):StateT SortSt Sem (ForInStep RS7):=do
 let x <- elem' b ib
 if(ib+1==b.size)=true then pure (.done (some (out.push x++a.extract ia a.size++b.extract (ib+1) b.size),out.push x,ia,ib+1,mg,k,bc))
 else do
  let y <- elem' a ia
  let r <- gallop' true y b (ib+1) (b.size - (ib+1)) 0
  match r with
  |some k1 =>
   if k1 > 0 then
    if(ib+1+k1==b.size)=true then pure (.done (some (out.push x++b.extract (ib+1) (ib+1+k1)++a.extract ia a.size++b.extract (ib+1+k1) b.size),out.push x++b.extract (ib+1) (ib+1+k1),ia,ib+1+k1,mg,k,k1))
    else lo3 a b (out.push x++b.extract (ib+1) (ib+1+k1)) ia (ib+1+k1) mg k k1
   else lo3 a b (out.push x) ia (ib+1) mg k k1
  |_=>pure (.done (some (out.push x++a.extract ia a.size++b.extract (ib+1) b.size),out.push x,ia,ib+1,mg,k,bc))
def lo1(a b out:Array Keyed)(ia ib mg ac bc:Nat):StateT SortSt Sem (ForInStep RS7):=do
 modify λst=>setGal st mg
 let x <- elem' b ib
 let r <- gallop' false x a ia (a.size - ia) 0
 match r with
 |some k =>
  if k > 0 then
   if(ia+k+1==a.size)=true then pure (.done (some (out++a.extract ia (ia+k)++b.extract ib b.size++a.extract (ia+k) a.size),out++a.extract ia (ia+k),ia+k,ib,mg,k,bc))
   else if(ia+k==a.size)=true then pure (.done (some (out++a.extract ia (ia+k)++a.extract (ia+k) a.size++b.extract ib b.size),out++a.extract ia (ia+k),ia+k,ib,mg,k,bc))
   else lo2 a b (out++a.extract ia (ia+k)) (ia+k) ib mg k bc
  else lo2 a b out ia ib mg k bc
 |_=>pure (.done (some (out++a.extract ia a.size++b.extract ib b.size),out,ia,ib,mg,ac,bc))
def lo4(a b:Array Keyed)(c:RS7):StateT SortSt Sem (ForInStep RS7) :=
 if c.2.2.2.2.1 > 1 then lo1 a b c.2.1 c.2.2.1 c.2.2.2.1 (c.2.2.2.2.1 - 1) c.2.2.2.2.2.1 c.2.2.2.2.2.2
 else lo1 a b c.2.1 c.2.2.1 c.2.2.2.1 c.2.2.2.2.1 c.2.2.2.2.2.1 c.2.2.2.2.2.2
end
section
variable{M:Model}{E:Value->Shared->Prop}{a b:Array Keyed}
structure LI(ky:Keyed->Int)(a b out:Array Keyed)(ia ib:Nat):Prop where
 ha:ia+1 < a.size
 hb:ib < b.size
 m:MI ky (a.toList++b.toList) out.toList (a.toList.drop ia) (b.toList.drop ib)
noncomputable def Rq(ky:Keyed->Int)(a b:Array Keyed)(st0:SortSt)(p:Nat):ForInStep RS7->SortSt->Prop
 |.done c,st=>Same st0 st/\((∃res,c.1=some res/\Done ky (a.toList++b.toList) res.toList)\/(c.1=none/\LI ky a b c.2.1 c.2.2.1 c.2.2.2.1/\p < c.2.2.1+c.2.2.2.1))
 |.yield c,st=>Same st0 st/\c.1=none/\LI ky a b c.2.1 c.2.2.1 c.2.2.2.1/\p < c.2.2.1+c.2.2.2.1
variable{out:Array Keyed}
theorem LI.sz(h:LI ky a b out ia ib):out.size=ia+ib:=by
 have:=h.m.len
 have:=h.ha;have:=h.hb
 simp at *
 lia
theorem tO(hb:ib=b.size)(m:MI ky (a.toList++b.toList) out.toList (a.toList.drop ia) (b.toList.drop ib)) :
  Done ky (a.toList++b.toList) (out++a.extract ia a.size++b.extract ib b.size).toList:=by
 have:=m.done (by subst hb;simp[show b.toList.drop b.size=[]from aFQ (by simp)])
 simp only[aBZ,nD];exact this
theorem sV(T:Two ky S a b)(ha:ia+1=a.size)(m:MI ky (a.toList++b.toList) out.toList (a.toList.drop ia) (b.toList.drop ib)) :
  Done ky (a.toList++b.toList) (out++b.extract ib b.size++a.extract ia a.size).toList:=by
 have:=m.doneb (λx hx y hy=>by
  obtain⟨j,hj,h1,rfl⟩:=dS hy
  have e:j=a.size - 1:=by lia
  subst e
  exact T.last x (aGE hx))
 simp only[aBZ,nD];exact this
theorem MI.a1{ib:Nat}(h:ia < a.size)(m:MI ky (a.toList++b.toList) out.toList (a.toList.drop ia) (b.toList.drop ib))(hle:∀y∈b.toList.drop ib,ky a[ia]<=ky y) :
  MI ky (a.toList++b.toList) (out.push a[ia]).toList (a.toList.drop (ia+1)) (b.toList.drop ib):=by
 rw[mY h]at m
 simpa using m.a (by simpa using hle)
theorem MI.b1{ia:Nat}(h:ib < b.size)(m:MI ky (a.toList++b.toList) out.toList (a.toList.drop ia) (b.toList.drop ib))(hle:∀y∈a.toList.drop ia,ky b[ib]<=ky y) :
  MI ky (a.toList++b.toList) (out.push b[ib]).toList (a.toList.drop ia) (b.toList.drop (ib+1)):=by
 rw[mY h]at m
 simpa using m.b (by simpa using hle)
theorem MI.ak{ia ib k:Nat}(m:MI ky (a.toList++b.toList) out.toList (a.toList.drop ia) (b.toList.drop ib))(h:∀x∈(a.extract ia (ia+k)).toList,∀y∈b.toList.drop ib,ky x<=ky y) :
  MI ky (a.toList++b.toList) (out++a.extract ia (ia+k)).toList (a.toList.drop (ia+k)) (b.toList.drop ib):=by
 rw[qE (k:=k)]at m
 rw[aBZ]
 exact m.a h
theorem MI.bk{ia ib k:Nat}(m:MI ky (a.toList++b.toList) out.toList (a.toList.drop ia) (b.toList.drop ib))(h:∀x∈(b.extract ib (ib+k)).toList,∀y∈a.toList.drop ia,ky x<=ky y) :
  MI ky (a.toList++b.toList) (out++b.extract ib (ib+k)).toList (a.toList.drop ia) (b.toList.drop (ib+k)):=by
 rw[qE (a:=b) (k:=k)]at m
 rw[aBZ]
 exact m.b h
variable{mg p:Nat}
theorem sY(T:Two ky S a b){ib k k1:Nat}(hs:Same st0 st)(ha:ia+1 < a.size)(hb:ib < b.size)(m:MI ky (a.toList++b.toList) out.toList (a.toList.drop ia) (b.toList.drop ib))
  (hle:∀y∈b.toList.drop ib,ky a[ia]<=ky y)(hp:p<=ia+ib):wpS M A E s (lo3 a b out ia ib mg k k1) (Rq ky a b st0 p) st:=by
 unfold lo3
 refine aAF (aZ (by lia) ?_)
 have m1:=m.a1 (by lia) hle
 split
 ·rename_i h
  exact aAJ ⟨hs,.inl ⟨_,rfl,sV T (by simpa using h) m1⟩⟩
 ·rename_i h
  have hi:ia+1+1 < a.size:=by simp at h;lia
  split
  ·exact aAJ ⟨hs,.inr ⟨rfl,⟨hi,hb,m1⟩,by dsimp only;lia⟩⟩
  ·exact aAJ ⟨hs,rfl,⟨hi,hb,m1⟩,by dsimp only;lia⟩
theorem tJ(W:Ask M A E s κ ky S)(T:Two ky S a b){ia k bc:Nat}(hk:kindOf st0=κ)(hs:Same st0 st)(ha:ia+1 < a.size)(hb:ib < b.size)
  (m:MI ky (a.toList++b.toList) out.toList (a.toList.drop ia) (b.toList.drop ib))
  (hle:∀y∈a.toList.drop ia,ky b[ib]<=ky y)(hp:p<=ia+ib):wpS M A E s (lo2 a b out ia ib mg k bc) (Rq ky a b st0 p) st:=by
 unfold lo2
 refine aAF (aZ hb ?_)
 have m1:=m.b1 hb hle
 split
 ·rename_i h
  exact aAJ ⟨hs,.inl ⟨_,rfl,tO (by simpa using h) m1⟩⟩
 ·rename_i h
  have hi:ib+1 < b.size:=by simp at h;lia
  refine aAF (aZ (by lia) ?_)
  refine aAF (dC W (hs.k.trans hk) (T.ina _ (by simp)) (by lia) (by lia) (λi h _ _=>T.inb _ (by simp)) (λi j hi hj _ hij _=>cA T.sb hi hj hij) λk1 hk1 g1 g2=>?_)
  have less:∀x∈(b.extract (ib+1) (ib+1+k1)).toList,∀y∈a.toList.drop ia,ky x<=ky y:=by
   intro x hx y hy
   obtain⟨j,hj,h1,h2,rfl⟩:=fZ (by lia) hx
   obtain⟨i,hi,h3,rfl⟩:=dS hy
   have:=g1 j hj h1 h2
   have:=cA T.sa (i:=ia) (j:=i) (by lia) hi h3
   simp[by']at *
   lia
  have more:∀y∈b.toList.drop (ib+1+k1),ky a[ia]<=ky y:=by
   intro y hy
   obtain⟨j,hj,h1,rfl⟩:=dS hy
   have:=g2 j hj (by lia) (by lia)
   simp[by']at this
   lia
  have m2:=m1.bk less
  dsimp only
  split
  ·split
   ·rename_i h1
    exact aAJ ⟨hs,.inl ⟨_,rfl,tO (by simpa using h1) m2⟩⟩
   ·rename_i h0 h1
    exact sY T hs ha (by simp at h1;lia) m2 more (by lia)
  ·rename_i h0
   have:k1=0:=by lia
   subst this
   exact sY T hs ha hi m1 more (by lia)
theorem tE(W:Ask M A E s κ ky S)(T:Two ky S a b){ac bc:Nat}(hk:kindOf st0=κ)(hs:Same st0 st)(L:LI ky a b out ia ib)(hp:p<=ia+ib):wpS M A E s (lo1 a b out ia ib mg ac bc) (Rq ky a b st0 p) st:=by
 obtain⟨ha,hb,m⟩:=L
 unfold lo1
 refine aAF (aDU ?_)
 refine aAF (aZ hb ?_)
 have hs:=hs.gal mg
 refine aAF (dC W (hs.k.trans hk) (T.inb _ (by simp)) (by lia) (by lia) (λi h _ _=>T.ina _ (by simp)) (λi j hi hj _ hij _=>cA T.sa hi hj hij) λk1 hk1 g1 g2=>?_)
 have less:∀x∈(a.extract ia (ia+k1)).toList,∀y∈b.toList.drop ib,ky x<=ky y:=by
  intro x hx y hy
  obtain⟨j,hj,h1,h2,rfl⟩:=fZ (by lia) hx
  obtain⟨i,hi,h3,rfl⟩:=dS hy
  have:=g1 j hj h1 h2
  have:=cA T.sb (i:=ib) (j:=i) (by lia) hi h3
  simp[by']at *
  lia
 have more:∀y∈a.toList.drop (ia+k1),ky b[ib]<=ky y:=by
  intro y hy
  obtain⟨j,hj,h1,rfl⟩:=dS hy
  have:=g2 j hj (by lia) (by lia)
  simp[by']at this
  lia
 have m2:=m.ak less
 dsimp only
 split
 ·split
  ·rename_i h1
   exact aAJ ⟨hs,.inl ⟨_,rfl,sV T (by simpa using h1) m2⟩⟩
  ·split
   ·rename_i h1
    have h1:ia+k1=a.size:=by simpa using h1
    refine aAJ ⟨hs,.inl ⟨_,rfl,?_⟩⟩
    have:=m2.done (by simp[h1,show a.toList.drop a.size=[]from aFQ (by simp)])
    simp only[aBZ,nD]at this ⊢;exact this
   ·rename_i h1 h2
    exact tJ W T hk hs (by simp at h1 h2;lia) hb m2 more (by lia)
 ·rename_i h0
  have:k1=0:=by lia
  subst this
  exact tJ W T hk hs ha hb m more (by lia)
theorem zP(W:Ask M A E s κ ky S)(T:Two ky S a b){c:RS7}(hk:kindOf st0=κ)(hs:Same st0 st)(L:LI ky a b c.2.1 c.2.2.1 c.2.2.2.1)(hp:p<=c.2.2.1+c.2.2.2.1):wpS M A E s (lo4 a b c) (Rq ky a b st0 p) st:=by
 unfold lo4
 split
 ·exact tE W T hk hs L hp
 ·exact tE W T hk hs L hp
noncomputable def lo5(a b:Array Keyed)(mg:Nat)(c:RS6):StateT SortSt Sem (ForInStep RS6):=do
 let y <- elem' b c.2.2.2.1
 let x <- elem' a c.2.2.1
 let r <- lt' y x
 match r with
 |some bWins =>
  if bWins=true then do
   let y <- elem' b c.2.2.2.1
   if(c.2.2.2.1+1==b.size)=true then pure (.done (some (c.2.1.push y++a.extract c.2.2.1 a.size++b.extract (c.2.2.2.1+1) b.size),c.2.1.push y,c.2.2.1,c.2.2.2.1+1,0,c.2.2.2.2.2+1))
   else if c.2.2.2.2.2+1>=mg then pure (.done (none,c.2.1.push y,c.2.2.1,c.2.2.2.1+1,0,c.2.2.2.2.2+1))
   else pure (.yield (none,c.2.1.push y,c.2.2.1,c.2.2.2.1+1,0,c.2.2.2.2.2+1))
  else do
   let x <- elem' a c.2.2.1
   if(c.2.2.1+1+1==a.size)=true then pure (.done (some (c.2.1.push x++b.extract c.2.2.2.1 b.size++a.extract (c.2.2.1+1) a.size),c.2.1.push x,c.2.2.1+1,c.2.2.2.1,c.2.2.2.2.1+1,0))
   else if c.2.2.2.2.1+1>=mg then pure (.done (none,c.2.1.push x,c.2.2.1+1,c.2.2.2.1,c.2.2.2.2.1+1,0))
   else pure (.yield (none,c.2.1.push x,c.2.2.1+1,c.2.2.2.1,c.2.2.2.2.1+1,0))
 |_=>pure (.done (some (c.2.1++a.extract c.2.2.1 a.size++b.extract c.2.2.2.1 b.size),c.2.1,c.2.2.1,c.2.2.2.1,c.2.2.2.2.1,c.2.2.2.2.2))
noncomputable def Rq6(ky:Keyed->Int)(a b:Array Keyed)(st0:SortSt)(p:Nat):ForInStep RS6->SortSt->Prop
 |.done c,st=>Same st0 st/\((∃res,c.1=some res/\Done ky (a.toList++b.toList) res.toList)\/(c.1=none/\LI ky a b c.2.1 c.2.2.1 c.2.2.2.1/\p < c.2.2.1+c.2.2.2.1))
 |.yield c,st=>Same st0 st/\c.1=none/\LI ky a b c.2.1 c.2.2.1 c.2.2.2.1/\p < c.2.2.1+c.2.2.2.1
theorem aBr(W:Ask M A E s κ ky S)(T:Two ky S a b){c:RS6}(hk:kindOf st0=κ)(hs:Same st0 st)(L:LI ky a b c.2.1 c.2.2.1 c.2.2.2.1)(hp:p<=c.2.2.1+c.2.2.2.1):wpS M A E s (lo5 a b mg c) (Rq6 ky a b st0 p) st:=by
 obtain⟨r,out,ia,ib,ac,bc⟩:=c
 obtain⟨ha,hb,m⟩:=L
 unfold lo5
 dsimp only at *
 refine aAF (aZ hb (aAF (aZ (by lia) (aAF (W.lt _ _ _ _ (hs.k.trans hk) (T.inb _ (by simp)) (T.ina _ (by simp)) ?_)))))
 by_cases hl:ky b[ib] < ky (a[ia]'(by lia))
 ·simp only[hl,aEZ,aCI]
  refine aAF (aZ hb ?_)
  have m1:=m.b1 hb λy hy=>by
   obtain⟨j,hj,h1,rfl⟩:=dS hy
   have:=cA T.sa (i:=ia) (j:=j) (by lia) hj h1
   lia
  split
  ·rename_i h
   exact aAJ ⟨hs,.inl ⟨_,rfl,tO (by simpa using h) m1⟩⟩
  ·rename_i h
   have hi:ib+1 < b.size:=by simp at h;lia
   split
   ·exact aAJ ⟨hs,.inr ⟨rfl,⟨ha,hi,m1⟩,by dsimp only;lia⟩⟩
   ·exact aAJ ⟨hs,rfl,⟨ha,hi,m1⟩,by dsimp only;lia⟩
 ·simp only[hl,aEM,aAS,aBU]
  refine aAF (aZ (by lia) ?_)
  have m1:=m.a1 (by lia) λy hy=>by
   obtain⟨j,hj,h1,rfl⟩:=dS hy
   have:=cA T.sb (i:=ib) (j:=j) (by lia) hj h1
   lia
  split
  ·rename_i h
   exact aAJ ⟨hs,.inl ⟨_,rfl,sV T (by simpa using h) m1⟩⟩
  ·rename_i h
   have hi:ia+1+1 < a.size:=by simp at h;lia
   split
   ·exact aAJ ⟨hs,.inr ⟨rfl,⟨hi,hb,m1⟩,by dsimp only;lia⟩⟩
   ·exact aAJ ⟨hs,rfl,⟨hi,hb,m1⟩,by dsimp only;lia⟩
theorem oX(W:Ask M A E s κ ky S)(T:Two ky S a b){Q:Array Keyed->SortSt->Prop}(hk:kindOf st=κ)
  (q:∀res st',Same st st'->Done ky (a.toList++b.toList) res.toList->Q res st'):wpS M A E s (mergeLo' a b) Q st:=by
 have A0:=T.a0
 have B0:=T.b0
 rw[qS]
 refine aAF (aGO (aCO ⟨rfl,?_⟩))
 refine aAF (aZ T.b0 ?_)
 dsimp only
 have m0:MI ky (a.toList++b.toList) (#[b[0]]).toList (a.toList.drop 0) (b.toList.drop 1):=by simpa using T.start
 by_cases hb:1=b.size
 ·rw[aAH (by simpa using hb)]
  exact aAJ (q _ _ (.refl _) (tO hb m0))
 rw[aAI (by simpa using hb)]
 by_cases ha:0+1=a.size
 ·rw[aAH (by simpa using ha)]
  exact aAJ (q _ _ (.refl _) (sV T ha m0))
 rw[aAI (by simpa using ha)]
 refine aAF (aFJ ?_)
 have dec:∀{out:Array Keyed} {ia ib:Nat},LI ky a b out ia ib->ia+ib+2<=a.size+b.size:=λL=>by have:=L.ha;have:=L.hb;lia
 refine aAF (aCS (aBP (I:=λx c st'=>Same st st'/\c.1=none/\LI ky a b c.2.1 c.2.2.1 c.2.2.2.1/\x<=c.2.2.1+c.2.2.2.1)
  (Q:=λc st'=>Same st st'/\∃res,c.1=some res/\Done ky (a.toList++b.toList) res.toList) ?step ?fin ⟨.refl _,rfl,⟨by dsimp only;lia,by dsimp only;lia,m0⟩,aCL _⟩) ?post)
 case fin =>
  rintro c st' ⟨h1,h2,h3,h4⟩
  have:=dec h3
  lia
 case post =>
  rintro c st' ⟨h1,res,h2,h3⟩
  rw[h2]
  exact aAJ (q _ _ h1 h3)
 case step =>
  rintro x c st1 _ hx ⟨h1,h2,h3,h4⟩
  refine aAF (aCS (aBP (I:=λy c st'=>Same st st'/\c.1=none/\LI ky a b c.2.1 c.2.2.1 c.2.2.2.1/\x+y<=c.2.2.1+c.2.2.2.1)
   (Q:=λc st'=>Same st st'/\((∃res,c.1=some res/\Done ky (a.toList++b.toList) res.toList)\/(c.1=none/\LI ky a b c.2.1 c.2.2.1 c.2.2.2.1/\x < c.2.2.1+c.2.2.2.1))) ?step ?fin ⟨h1,rfl,h3,h4⟩) ?post)
  case fin =>
   rintro c st' ⟨h1,h2,h3,h4⟩
   have:=dec h3
   lia
  case step =>
   rintro y c st' _ hy ⟨h1,h2,h3,h4⟩
   refine aCS (aBr (mg:=_) W T hk h1 h3 h4) ?_
   rintro(c|c) st2 h
   ·rcases h with⟨g1,g2|⟨g2,g3,g4⟩⟩
    ·exact⟨g1,.inl g2⟩
    ·exact⟨g1,.inr ⟨g2,g3,by lia⟩⟩
   ·exact⟨h.1,h.2.1,h.2.2.1,by have:=h.2.2.2;lia⟩
  case post =>
   rintro c st' ⟨g1,⟨res,g2,g3⟩|⟨g2,g3,g4⟩⟩
   ·rw[g2]
    exact aAJ ⟨g1,res,rfl,g3⟩
   rw[g2]
   refine aAF (aGO (aCO ⟨rfl,?_⟩))
   refine aAF (aCS (aBP (I:=λy c st'=>Same st st'/\c.1=none/\LI ky a b c.2.1 c.2.2.1 c.2.2.2.1/\x+1+y<=c.2.2.1+c.2.2.2.1)
    (Q:=λc st'=>Same st st'/\((∃res,c.1=some res/\Done ky (a.toList++b.toList) res.toList)\/(c.1=none/\LI ky a b c.2.1 c.2.2.1 c.2.2.2.1/\x < c.2.2.1+c.2.2.2.1))) ?step ?fin ⟨g1,rfl,g3,by dsimp only;lia⟩) ?post)
   case fin =>
    rintro c st' ⟨h1,h2,h3,h4⟩
    have:=dec h3
    lia
   case step =>
    rintro y c st' _ hy ⟨h1,h2,h3,h4⟩
    refine aCS (zP W T hk h1 h3 h4) ?_
    rintro(c|c) st2 h
    ·rcases h with⟨g1,g2|⟨g2,g3,g4⟩⟩
     ·exact⟨g1,.inl g2⟩
     ·exact⟨g1,.inr ⟨g2,g3,by lia⟩⟩
    ·exact⟨h.1,h.2.1,h.2.2.1,by have:=h.2.2.2;lia⟩
   case post =>
    rintro c st' ⟨g1,⟨res,g2,g3⟩|⟨g2,g3,g4⟩⟩
    ·rw[g2]
     exact aAJ ⟨g1,res,rfl,g3⟩
    rw[g2]
    refine aAF (aDU (aAJ ⟨g1.gal _,rfl,g3,?_⟩))
    exact g4
end
theorem qV(a b:Array Keyed):mergeHi' a b=(do
 rule "list.sort.merge-hi"
 let total:=a.size+b.size
 let done (out:Array Keyed) (na nb:Nat):=a.extract 0 na++b.extract 0 nb++out.reverse
 let firstOfB (out:Array Keyed) (na nb:Nat):=b.extract 0 nb++a.extract 0 na++out.reverse
 let mut na:=a.size - 1
 let mut nb:=b.size
 let mut out:Array Keyed:=#[<- elem' a na]
 if na==0 then return done out na nb
 if nb==1 then return firstOfB out na nb
 let mut minGallop:=gallopOf (<- get)
 for _ in[0:total] do
  let mut acount:=0
  let mut bcount:=0
  for _ in[0:total] do
   let some aWins <- lt' (<- elem' b (nb - 1)) (<- elem' a (na - 1))|return done out na nb
   if aWins then
    na:=na - 1;out:=out.push (<- elem' a na);acount:=acount+1;bcount:=0
    if na==0 then return done out na nb
    if acount>=minGallop then break
   else
    nb:=nb - 1;out:=out.push (<- elem' b nb);bcount:=bcount+1;acount:=0
    if nb==1 then return firstOfB out na nb
    if bcount>=minGallop then break
  rule "list.sort.gallop"
  minGallop:=minGallop+1
  for _ in[0:total] do
   if minGallop > 1 then minGallop:=minGallop - 1
   modify (λst=>setGal st minGallop)
   let some at_ <- gallop' false (<- elem' b (nb - 1)) a 0 na (na - 1)|return done out na nb
   let k:=na - at_
   acount:=k
   if k > 0 then
    out:=out++(a.extract at_ na).reverse;na:=at_
    if na==0 then return done out na nb
   nb:=nb - 1;out:=out.push (<- elem' b nb)
   if nb==1 then return firstOfB out na nb
   let some at_ <- gallop' true (<- elem' a (na - 1)) b 0 nb (nb - 1)|return done out na nb
   let k:=nb - at_
   bcount:=k
   if k > 0 then
    out:=out++(b.extract at_ nb).reverse;nb:=at_
    if nb==1 then return firstOfB out na nb
    if nb==0 then return done out na nb
   na:=na - 1;out:=out.push (<- elem' a na)
   if na==0 then return done out na nb
   if acount < 7&&bcount < 7 then break
  minGallop:=minGallop+1
  modify (λst=>setGal st minGallop)
 unsupported "internal:list.sort.merge-bound"):=rfl
noncomputable section
abbrev RH7:=Option (Array Keyed)×Nat×Nat×Array Keyed×Nat×Nat×Nat
abbrev RH6:=Option (Array Keyed)×Nat×Nat×Array Keyed×Nat×Nat
abbrev DN(a b out:Array Keyed)(na nb:Nat):Array Keyed:=a.extract 0 na++b.extract 0 nb++out.reverse
abbrev FB(a b out:Array Keyed)(na nb:Nat):Array Keyed:=b.extract 0 nb++a.extract 0 na++out.reverse
def hi3(a b out:Array Keyed)(na nb mg k k1:Nat):StateT SortSt Sem (ForInStep RH7):=do
 let x <- elem' a (na - 1)
 if(na - 1==0)=true then pure (.done (some (DN a b (out.push x) (na - 1) nb),na - 1,nb,out.push x,mg,k,k1))
 else if(decide (k < 7)&&decide (k1 < 7))=true then pure (.done (none,na - 1,nb,out.push x,mg,k,k1))else pure (.yield (none,na - 1,nb,out.push x,mg,k,k1))
def hi2(a b out:Array Keyed)(na nb mg k bc:Nat):StateT SortSt Sem (ForInStep RH7):=do
 let x <- elem' b (nb - 1)
 if(nb - 1==1)=true then pure (.done (some (FB a b (out.push x) na (nb - 1)),na,nb - 1,out.push x,mg,k,bc))
 else do
  let y <- elem' a (na - 1)
  let r <- gallop' true y b 0 (nb - 1) (nb - 1 - 1)
  match r with
  |some t =>
   if nb - 1 - t > 0 then
    if(t==1)=true then pure (.done (some (FB a b (out.push x++(b.extract t (nb - 1)).reverse) na t),na,t,out.push x++(b.extract t (nb - 1)).reverse,mg,k,nb - 1 - t))
    else if(t==0)=true then pure (.done (some (DN a b (out.push x++(b.extract t (nb - 1)).reverse) na t),na,t,out.push x++(b.extract t (nb - 1)).reverse,mg,k,nb - 1 - t))
    else hi3 a b (out.push x++(b.extract t (nb - 1)).reverse) na t mg k (nb - 1 - t)
   else hi3 a b (out.push x) na (nb - 1) mg k (nb - 1 - t)
  |_=>pure (.done (some (DN a b (out.push x) na (nb - 1)),na,nb - 1,out.push x,mg,k,bc))
def hi1(a b out:Array Keyed)(na nb mg ac bc:Nat):StateT SortSt Sem (ForInStep RH7):=do
 modify λst=>setGal st mg
 let x <- elem' b (nb - 1)
 let r <- gallop' false x a 0 na (na - 1)
 match r with
 |some t =>
  if na - t > 0 then
   if(t==0)=true then pure (.done (some (DN a b (out++(a.extract t na).reverse) t nb),t,nb,out++(a.extract t na).reverse,mg,na - t,bc))
   else hi2 a b (out++(a.extract t na).reverse) t nb mg (na - t) bc
  else hi2 a b out na nb mg (na - t) bc
 |_=>pure (.done (some (DN a b out na nb),na,nb,out,mg,ac,bc))
def hi4(a b:Array Keyed)(c:RH7):StateT SortSt Sem (ForInStep RH7) :=
 if c.2.2.2.2.1 > 1 then hi1 a b c.2.2.2.1 c.2.1 c.2.2.1 (c.2.2.2.2.1 - 1) c.2.2.2.2.2.1 c.2.2.2.2.2.2
 else hi1 a b c.2.2.2.1 c.2.1 c.2.2.1 c.2.2.2.2.1 c.2.2.2.2.2.1 c.2.2.2.2.2.2
def hi5(a b:Array Keyed)(mg:Nat)(c:RH6):StateT SortSt Sem (ForInStep RH6):=do
 let y <- elem' b (c.2.2.1 - 1)
 let x <- elem' a (c.2.1 - 1)
 let r <- lt' y x
 match r with
 |some aWins =>
  if aWins=true then do
   let x <- elem' a (c.2.1 - 1)
   if(c.2.1 - 1==0)=true then pure (.done (some (DN a b (c.2.2.2.1.push x) (c.2.1 - 1) c.2.2.1),c.2.1 - 1,c.2.2.1,c.2.2.2.1.push x,c.2.2.2.2.1+1,0))
   else if c.2.2.2.2.1+1>=mg then pure (.done (none,c.2.1 - 1,c.2.2.1,c.2.2.2.1.push x,c.2.2.2.2.1+1,0))
   else pure (.yield (none,c.2.1 - 1,c.2.2.1,c.2.2.2.1.push x,c.2.2.2.2.1+1,0))
  else do
   let y <- elem' b (c.2.2.1 - 1)
   if(c.2.2.1 - 1==1)=true then pure (.done (some (FB a b (c.2.2.2.1.push y) c.2.1 (c.2.2.1 - 1)),c.2.1,c.2.2.1 - 1,c.2.2.2.1.push y,0,c.2.2.2.2.2+1))
   else if c.2.2.2.2.2+1>=mg then pure (.done (none,c.2.1,c.2.2.1 - 1,c.2.2.2.1.push y,0,c.2.2.2.2.2+1))
   else pure (.yield (none,c.2.1,c.2.2.1 - 1,c.2.2.2.1.push y,0,c.2.2.2.2.2+1))
 |_=>pure (.done (some (DN a b c.2.2.2.1 c.2.1 c.2.2.1),c.2.1,c.2.2.1,c.2.2.2.1,c.2.2.2.2.1,c.2.2.2.2.2))
end
section
variable{M:Model}{E:Value->Shared->Prop}{a b:Array Keyed}
noncomputable abbrev MH(ky:Keyed->Int)(a b out:Array Keyed)(na nb:Nat):Prop:=MI (λx => - ky x) (a.toList++b.toList) out.toList (a.toList.take na).reverse (b.toList.take nb).reverse
structure LH(ky:Keyed->Int)(a b out:Array Keyed)(na nb:Nat):Prop where
 ha:0 < na
 hal:na<=a.size
 hb:1 < nb
 hbl:nb<=b.size
 m:MH ky a b out na nb
noncomputable def Rh(ky:Keyed->Int)(a b:Array Keyed)(st0:SortSt)(p:Nat):ForInStep RH7->SortSt->Prop
 |.done c,st=>Same st0 st/\((∃res,c.1=some res/\Done ky (a.toList++b.toList) res.toList)\/(c.1=none/\LH ky a b c.2.2.2.1 c.2.1 c.2.2.1/\c.2.1+c.2.2.1 < p))
 |.yield c,st=>Same st0 st/\c.1=none/\LH ky a b c.2.2.2.1 c.2.1 c.2.2.1/\c.2.1+c.2.2.1 < p
noncomputable def Rh6(ky:Keyed->Int)(a b:Array Keyed)(st0:SortSt)(p:Nat):ForInStep RH6->SortSt->Prop
 |.done c,st=>Same st0 st/\((∃res,c.1=some res/\Done ky (a.toList++b.toList) res.toList)\/(c.1=none/\LH ky a b c.2.2.2.1 c.2.1 c.2.2.1/\c.2.1+c.2.2.1 < p))
 |.yield c,st=>Same st0 st/\c.1=none/\LH ky a b c.2.2.2.1 c.2.1 c.2.2.1/\c.2.1+c.2.2.1 < p
theorem sP{a:Array Keyed}(h0:0 < n)(h:n<=a.size):(a.toList.take n).reverse=[a[n - 1]]++(a.toList.take (n - 1)).reverse:=by
 obtain⟨k,rfl⟩:∃k,n=k+1:=⟨n - 1,by lia⟩
 rw[List.take_succ_eq_append_getElem (by simp;lia),aFA,aEW];rfl
theorem pY{a:Array Keyed}{t:Nat}(ht:t<=n):(a.toList.take n).reverse=(a.extract t n).reverse.toList++(a.toList.take t).reverse:=by
 rw[aER,<- aFA]
 congr 1
 simp only[aCT,aDC]
 obtain⟨k,rfl⟩:∃k,n=t+k:=⟨n - t,by lia⟩
 rw[Nat.add_sub_cancel_left,List.take_add]
theorem pC{a:Array Keyed}:(a.extract 0 n).toList=a.toList.take n:=by simp[aCT]
variable{x:Keyed}
theorem pN{a:Array Keyed}{t:Nat}(hn:n<=a.size)(h:x∈(a.extract t n).reverse.toList):∃j,∃hj:j < a.size,t<=j/\j < n/\x=a[j]:=by
 rw[aER,aFU]at h
 obtain⟨j,hj,e⟩:=aBX.mp h
 simp at hj
 refine⟨t+j,by lia,by lia,by lia,?_⟩
 rw[<- e];simp
theorem cL{a:Array Keyed}(h:x∈(a.toList.take n).reverse):∃j,∃hj:j < a.size,j < n/\x=a[j]:=by
 rw[aFU]at h
 obtain⟨j,hj,e⟩:=aBX.mp h
 simp at hj
 refine⟨j,by lia,by lia,?_⟩
 rw[<- e];simp
variable{out:Array Keyed}{nb:Nat}
theorem lG(h:na=0\/nb=0)(m:MH ky a b out na nb):Done ky (a.toList++b.toList) (DN a b out na nb).toList:=by
 have:=(m.doneb (by rcases h with rfl|rfl <;> simp)).rev
 simp only[aFA,List.reverse_reverse]at this
 simpa only[aBZ,pC,aER,aCM]using this
theorem nS(T:Two ky S a b)(h:nb=1)(m:MH ky a b out na nb):Done ky (a.toList++b.toList) (FB a b out na nb).toList:=by
 have:=(m.done (by
  intro x hx y hy
  obtain⟨j,hj,h1,rfl⟩:=cL hx
  obtain⟨i,hi,h2,rfl⟩:=cL hy
  have e:i=0:=by lia
  subst e
  have:=cA T.sa T.a0 hj (aCL j)
  have:=T.first
  lia)).rev
 simp only[aFA,List.reverse_reverse]at this
 simpa only[aBZ,pC,aER,aCM]using this
theorem MH.a1{nb:Nat}(h0:0 < na)(h:na<=a.size)(m:MH ky a b out na nb)(hle:∀y∈(b.toList.take nb).reverse,ky y<=ky a[na - 1]):MH ky a b (out.push a[na - 1]) (na - 1) nb:=by
 unfold MH at m ⊢
 rw[sP h0 h]at m
 have:=m.a (by intro x hx y hy;rw[aAT.mp hx];have:=hle y hy;first|lia|(dsimp only;lia))
 simpa using this
theorem MH.b1{na:Nat}(h0:0 < nb)(h:nb<=b.size)(m:MH ky a b out na nb)(hle:∀y∈(a.toList.take na).reverse,ky y<=ky b[nb - 1]):MH ky a b (out.push b[nb - 1]) na (nb - 1):=by
 unfold MH at m ⊢
 rw[sP h0 h]at m
 have:=m.b (by intro x hx y hy;rw[aAT.mp hx];have:=hle y hy;first|lia|(dsimp only;lia))
 simpa using this
theorem MH.ak{na nb t:Nat}(ht:t<=na)(m:MH ky a b out na nb)(hle:∀x∈(a.extract t na).reverse.toList,∀y∈(b.toList.take nb).reverse,ky y<=ky x):MH ky a b (out++(a.extract t na).reverse) t nb:=by
 unfold MH at m ⊢
 rw[pY ht]at m
 rw[aBZ]
 exact m.a λx hx y hy=>by have:=hle x hx y hy;first|lia|(dsimp only;lia)
theorem MH.bk{na nb t:Nat}(ht:t<=nb)(m:MH ky a b out na nb)(hle:∀x∈(b.extract t nb).reverse.toList,∀y∈(a.toList.take na).reverse,ky y<=ky x):MH ky a b (out++(b.extract t nb).reverse) na t:=by
 unfold MH at m ⊢
 rw[pY (a:=b) ht]at m
 rw[aBZ]
 exact m.b λx hx y hy=>by have:=hle x hx y hy;first|lia|(dsimp only;lia)
variable{mg p:Nat}
theorem tT{nb k k1:Nat}(hs:Same st0 st)(ha:0 < na)(hal:na<=a.size)(hb:1 < nb)(hbl:nb<=b.size)(m:MH ky a b out na nb)
  (hle:∀y∈(b.toList.take nb).reverse,ky y<=ky a[na - 1])(hp:na+nb<=p):wpS M A E s (hi3 a b out na nb mg k k1) (Rh ky a b st0 p) st:=by
 unfold hi3
 refine aAF (aZ (by lia) ?_)
 have m1:=m.a1 ha hal hle
 split
 ·rename_i h
  exact aAJ ⟨hs,.inl ⟨_,rfl,lG (.inl (by simpa using h)) m1⟩⟩
 ·rename_i h
  have hi:0 < na - 1:=by simp at h;lia
  split
  ·exact aAJ ⟨hs,.inr ⟨rfl,⟨hi,by first|lia|(dsimp only;lia),hb,hbl,m1⟩,by first|lia|(dsimp only;lia)⟩⟩
  ·exact aAJ ⟨hs,rfl,⟨hi,by first|lia|(dsimp only;lia),hb,hbl,m1⟩,by first|lia|(dsimp only;lia)⟩
theorem tW(W:Ask M A E s κ ky S)(T:Two ky S a b){na k bc:Nat}(hk:kindOf st0=κ)(hs:Same st0 st)(ha:0 < na)(hal:na<=a.size)(hb:1 < nb)(hbl:nb<=b.size)(m:MH ky a b out na nb)
  (hle:∀y∈(a.toList.take na).reverse,ky y<=ky b[nb - 1])(hp:na+nb<=p):wpS M A E s (hi2 a b out na nb mg k bc) (Rh ky a b st0 p) st:=by
 unfold hi2
 refine aAF (aZ (by lia) ?_)
 have m1:=m.b1 (by lia) hbl hle
 split
 ·rename_i h
  exact aAJ ⟨hs,.inl ⟨_,rfl,nS T (by simpa using h) m1⟩⟩
 ·rename_i h
  have hi:1 < nb - 1:=by simp at h;lia
  refine aAF (aZ (by lia) ?_)
  refine aAF (dC W (hs.k.trans hk) (T.ina _ (by simp)) (by lia) (by lia) (λi h _ _=>T.inb _ (by simp)) (λi j hi hj _ hij _=>cA T.sb hi hj hij) λt ht g1 g2=>?_)
  have more:∀x∈(b.extract t (nb - 1)).reverse.toList,∀y∈(a.toList.take na).reverse,ky y<=ky x:=by
   intro x hx y hy
   obtain⟨j,hj,h1,h2,rfl⟩:=pN (by lia) hx
   obtain⟨i,hi,h3,rfl⟩:=cL hy
   have:=g2 j hj (by lia) (by lia)
   have:=cA T.sa (i:=i) (j:=na - 1) (by lia) (by lia) (by lia)
   simp[by']at *
   lia
  have less:∀y∈(b.toList.take t).reverse,ky y<=ky a[na - 1]:=by
   intro y hy
   obtain⟨j,hj,h1,rfl⟩:=cL hy
   have:=g1 j hj (by lia) (by lia)
   simp[by']at this
   lia
  have m2:=m1.bk ht more
  dsimp only
  split
  ·split
   ·rename_i h1
    exact aAJ ⟨hs,.inl ⟨_,rfl,nS T (by simpa using h1) m2⟩⟩
   ·split
    ·rename_i h1
     exact aAJ ⟨hs,.inl ⟨_,rfl,lG (.inr (by simpa using h1)) m2⟩⟩
    ·rename_i h1 h2
     exact tT hs ha hal (by simp at h1 h2;lia) (by lia) m2 less (by lia)
  ·have:t=nb - 1:=by lia
   subst this
   exact tT hs ha hal hi (by lia) m1 less (by lia)
theorem tG(W:Ask M A E s κ ky S)(T:Two ky S a b){ac bc:Nat}(hk:kindOf st0=κ)(hs:Same st0 st)(L:LH ky a b out na nb)(hp:na+nb<=p):wpS M A E s (hi1 a b out na nb mg ac bc) (Rh ky a b st0 p) st:=by
 obtain⟨ha,hal,hb,hbl,m⟩:=L
 unfold hi1
 refine aAF (aDU ?_)
 refine aAF (aZ (by lia) ?_)
 have hs:=hs.gal mg
 refine aAF (dC W (hs.k.trans hk) (T.inb _ (by simp)) (by lia) (by lia) (λi h _ _=>T.ina _ (by simp)) (λi j hi hj _ hij _=>cA T.sa hi hj hij) λt ht g1 g2=>?_)
 have more:∀x∈(a.extract t na).reverse.toList,∀y∈(b.toList.take nb).reverse,ky y<=ky x:=by
  intro x hx y hy
  obtain⟨j,hj,h1,h2,rfl⟩:=pN (by lia) hx
  obtain⟨i,hi,h3,rfl⟩:=cL hy
  have:=g2 j hj (by lia) (by lia)
  have:=cA T.sb (i:=i) (j:=nb - 1) (by lia) (by lia) (by lia)
  simp[by']at *
  lia
 have less:∀y∈(a.toList.take t).reverse,ky y<=ky b[nb - 1]:=by
  intro y hy
  obtain⟨j,hj,h1,rfl⟩:=cL hy
  have:=g1 j hj (by lia) (by lia)
  simp[by']at this
  lia
 have m2:=m.ak ht more
 dsimp only
 split
 ·split
  ·rename_i h1
   exact aAJ ⟨hs,.inl ⟨_,rfl,lG (.inl (by simpa using h1)) m2⟩⟩
  ·rename_i h1
   exact tW W T hk hs (by simp at h1;lia) (by lia) hb hbl m2 less (by lia)
 ·have:t=na:=by lia
  subst this
  exact tW W T hk hs ha hal hb hbl m less (by lia)
theorem aAu(W:Ask M A E s κ ky S)(T:Two ky S a b){c:RH7}(hk:kindOf st0=κ)(hs:Same st0 st)(L:LH ky a b c.2.2.2.1 c.2.1 c.2.2.1)(hp:c.2.1+c.2.2.1<=p):wpS M A E s (hi4 a b c) (Rh ky a b st0 p) st:=by
 unfold hi4
 split
 ·exact tG W T hk hs L hp
 ·exact tG W T hk hs L hp
theorem yX(W:Ask M A E s κ ky S)(T:Two ky S a b){c:RH6}(hk:kindOf st0=κ)(hs:Same st0 st)(L:LH ky a b c.2.2.2.1 c.2.1 c.2.2.1)(hp:c.2.1+c.2.2.1<=p):wpS M A E s (hi5 a b mg c) (Rh6 ky a b st0 p) st:=by
 obtain⟨r,na,nb,out,ac,bc⟩:=c
 obtain⟨ha,hal,hb,hbl,m⟩:=L
 unfold hi5
 dsimp only at *
 refine aAF (aZ (by lia) (aAF (aZ (by lia) (aAF (W.lt _ _ _ _ (hs.k.trans hk) (T.inb _ (by simp)) (T.ina _ (by simp)) ?_)))))
 by_cases hl:ky (b[nb - 1]'(by lia)) < ky (a[na - 1]'(by lia))
 ·simp only[hl,aEZ,aCI]
  refine aAF (aZ (by lia) ?_)
  have m1:=m.a1 ha hal λy hy=>by
   obtain⟨j,hj,h1,rfl⟩:=cL hy
   have:=cA T.sb (i:=j) (j:=nb - 1) hj (by lia) (by lia)
   lia
  split
  ·rename_i h
   exact aAJ ⟨hs,.inl ⟨_,rfl,lG (.inl (by simpa using h)) m1⟩⟩
  ·rename_i h
   have hi:0 < na - 1:=by simp at h;lia
   split
   ·exact aAJ ⟨hs,.inr ⟨rfl,⟨hi,by first|lia|(dsimp only;lia),hb,hbl,m1⟩,by first|lia|(dsimp only;lia)⟩⟩
   ·exact aAJ ⟨hs,rfl,⟨hi,by first|lia|(dsimp only;lia),hb,hbl,m1⟩,by first|lia|(dsimp only;lia)⟩
 ·simp only[hl,aEM,aAS,aBU]
  refine aAF (aZ (by lia) ?_)
  have m1:=m.b1 (by lia) hbl λy hy=>by
   obtain⟨j,hj,h1,rfl⟩:=cL hy
   have:=cA T.sa (i:=j) (j:=na - 1) hj (by lia) (by lia)
   lia
  split
  ·rename_i h
   exact aAJ ⟨hs,.inl ⟨_,rfl,nS T (by simpa using h) m1⟩⟩
  ·rename_i h
   have hi:1 < nb - 1:=by simp at h;lia
   split
   ·exact aAJ ⟨hs,.inr ⟨rfl,⟨ha,hal,hi,by first|lia|(dsimp only;lia),m1⟩,by first|lia|(dsimp only;lia)⟩⟩
   ·exact aAJ ⟨hs,rfl,⟨ha,hal,hi,by first|lia|(dsimp only;lia),m1⟩,by first|lia|(dsimp only;lia)⟩
theorem Two.startH(T:Two ky S a b):MH ky a b #[a[a.size - 1]'(Nat.sub_lt T.a0 Nat.one_pos)] (a.size - 1) b.size:=by
 have h0:=T.a0
 have m:MH ky a b #[] a.size b.size:=by
  unfold MH
  rw[aCJ (by simp),aCJ (by simp)]
  refine⟨(List.Perm.append (aHA _) (aHA _)),.nil,?_,?_,by simp,by simp⟩
  ·exact aFZ.mpr (T.sa.imp λz=>by first|lia|(dsimp only;lia))
  ·exact aFZ.mpr (T.sb.imp λz=>by first|lia|(dsimp only;lia))
 have:=m.a1 h0 (aAE _) λy hy=>T.last y (aBF (aFU.mp hy))
 simpa using this
theorem pP(W:Ask M A E s κ ky S)(T:Two ky S a b){Q:Array Keyed->SortSt->Prop}(hk:kindOf st=κ)
  (q:∀res st',Same st st'->Done ky (a.toList++b.toList) res.toList->Q res st'):wpS M A E s (mergeHi' a b) Q st:=by
 have A0:=T.a0
 have B0:=T.b0
 rw[qV]
 refine aAF (aGO (aCO ⟨rfl,?_⟩))
 refine aAF (aZ (by lia) ?_)
 dsimp only
 have m0:=T.startH
 by_cases ha:a.size - 1=0
 ·rw[aAH (by simpa using ha)]
  exact aAJ (q _ _ (.refl _) (lG (.inl ha) m0))
 rw[aAI (by simpa using ha)]
 by_cases hb:b.size=1
 ·rw[aAH (by simpa using hb)]
  exact aAJ (q _ _ (.refl _) (nS T hb m0))
 rw[aAI (by simpa using hb)]
 refine aAF (aFJ ?_)
 have dec:∀{out:Array Keyed} {na nb:Nat},LH ky a b out na nb->2<=na+nb:=λL=>by have:=L.ha;have:=L.hb;lia
 refine aAF (aCS (aBP (I:=λx c st'=>Same st st'/\c.1=none/\LH ky a b c.2.2.2.1 c.2.1 c.2.2.1/\c.2.1+c.2.2.1+x<=a.size+b.size)
  (Q:=λc st'=>Same st st'/\∃res,c.1=some res/\Done ky (a.toList++b.toList) res.toList) ?step ?fin ⟨.refl _,rfl,⟨by first|lia|(dsimp only;lia),by first|lia|(dsimp only;lia),by first|lia|(dsimp only;lia),by first|lia|(dsimp only;lia),m0⟩,by first|lia|(dsimp only;lia)⟩) ?post)
 case fin =>
  rintro c st' ⟨h1,h2,h3,h4⟩
  have:=dec h3
  lia
 case post =>
  rintro c st' ⟨h1,res,h2,h3⟩
  rw[h2]
  exact aAJ (q _ _ h1 h3)
 case step =>
  rintro x c st1 _ hx ⟨h1,h2,h3,h4⟩
  refine aAF (aCS (aBP (I:=λy c st'=>Same st st'/\c.1=none/\LH ky a b c.2.2.2.1 c.2.1 c.2.2.1/\c.2.1+c.2.2.1+(x+y)<=a.size+b.size)
   (Q:=λc st'=>Same st st'/\((∃res,c.1=some res/\Done ky (a.toList++b.toList) res.toList)\/(c.1=none/\LH ky a b c.2.2.2.1 c.2.1 c.2.2.1/\c.2.1+c.2.2.1+x < a.size+b.size))) ?step ?fin ⟨h1,rfl,h3,h4⟩) ?post)
  case fin =>
   rintro c st' ⟨h1,h2,h3,h4⟩
   have:=dec h3
   lia
  case step =>
   rintro y c st' _ hy ⟨h1,h2,h3,h4⟩
   refine aCS (yX (mg:=_) W T hk h1 h3 (aAE _)) ?_
   rintro(c|c) st2 h
   ·rcases h with⟨g1,g2|⟨g2,g3,g4⟩⟩
    ·exact⟨g1,.inl g2⟩
    ·exact⟨g1,.inr ⟨g2,g3,by lia⟩⟩
   ·exact⟨h.1,h.2.1,h.2.2.1,by have:=h.2.2.2;lia⟩
  case post =>
   rintro c st' ⟨g1,⟨res,g2,g3⟩|⟨g2,g3,g4⟩⟩
   ·rw[g2]
    exact aAJ ⟨g1,res,rfl,g3⟩
   rw[g2]
   refine aAF (aGO (aCO ⟨rfl,?_⟩))
   refine aAF (aCS (aBP (I:=λy c st'=>Same st st'/\c.1=none/\LH ky a b c.2.2.2.1 c.2.1 c.2.2.1/\c.2.1+c.2.2.1+(x+1+y)<=a.size+b.size)
    (Q:=λc st'=>Same st st'/\((∃res,c.1=some res/\Done ky (a.toList++b.toList) res.toList)\/(c.1=none/\LH ky a b c.2.2.2.1 c.2.1 c.2.2.1/\c.2.1+c.2.2.1+x < a.size+b.size))) ?step ?fin ⟨g1,rfl,g3,by first|lia|(dsimp only;lia)⟩) ?post)
   case fin =>
    rintro c st' ⟨h1,h2,h3,h4⟩
    have:=dec h3
    lia
   case step =>
    rintro y c st' _ hy ⟨h1,h2,h3,h4⟩
    refine aCS (aAu W T hk h1 h3 (aAE _)) ?_
    rintro(c|c) st2 h
    ·rcases h with⟨g1,g2|⟨g2,g3,g4⟩⟩
     ·exact⟨g1,.inl g2⟩
     ·exact⟨g1,.inr ⟨g2,g3,by lia⟩⟩
    ·exact⟨h.1,h.2.1,h.2.2.1,by have:=h.2.2.2;lia⟩
   case post =>
    rintro c st' ⟨g1,⟨res,g2,g3⟩|⟨g2,g3,g4⟩⟩
    ·rw[g2]
     exact aAJ ⟨g1,res,rfl,g3⟩
    rw[g2]
    refine aAF (aDU (aAJ ⟨g1.gal _,rfl,g3,?_⟩))
    dsimp only
    lia
end
section
variable{M:Model}{E:Value->Shared->Prop}{a b:Array Keyed}
noncomputable def K'(ky:Keyed->Int)(xs:Array Keyed)(i:Nat):Int:=match xs[i]? with|some p=>ky p|none=>0
theorem dY(h:i < xs.size):K' ky xs i=ky xs[i]:=by unfold K';rw[getElem?_pos xs i h]
theorem cY(h:xs[i]?=ys[j]?):K' ky xs i=K' ky ys j:=by unfold K';rw[h]
noncomputable def SG(ky:Keyed->Int)(xs:Array Keyed)(l h:Nat):Prop:=∀i j,l<=i->i<=j->j < h->K' ky xs i<=K' ky xs j
theorem SG.get{xs:Array Keyed}{l h i j:Nat}(g:SG ky xs l h)(hi:i < xs.size)(hj:j < xs.size)(h1:l<=i)(h2:i<=j)(h3:j < h):ky xs[i]<=ky xs[j]:=by
 have:=g i j h1 h2 h3
 rwa[dY hi,dY hj]at this
variable{l h:Nat}
theorem SG.list(g:SG ky xs l h)(hz:h<=xs.size):(xs.extract l h).toList.Pairwise λx y=>ky x<=ky y:=by
 refine aBM.mpr λi j hi hj hij=>?_
 simp at hi hj
 have:=g.get (i:=l+i) (j:=l+j) (by lia) (by lia) (by lia) (by lia) (by lia)
 simpa using this
theorem SG.of_list(hz:h<=xs.size)(g:(xs.extract l h).toList.Pairwise λx y=>ky x<=ky y):SG ky xs l h:=by
 intro i j h1 h2 h3
 rw[dY (by lia),dY (by lia)]
 rcases Nat.lt_or_ge i j with h4|h4
 ·have:=aBM.mp g (i - l) (j - l) (by simp;lia) (by simp;lia) (by lia)
  simpa[show l+(i - l)=i by lia,show l+(j - l)=j by lia]using this
 ·have:i=j:=by lia
  subst this;exact aDD _
theorem SG.congr(g:SG ky xs l h)(e:∀k,l<=k->k < h->ys[k]?=xs[k]?):SG ky ys l h:=λi j h1 h2 h3=>by
 rw[cY (e i h1 (by lia)),cY (e j (by lia) h3)];exact g i j h1 h2 h3
noncomputable def wb(xs:Array Keyed)(t n:Nat)(l:List Keyed):Array Keyed:=(l.zipIdx n).foldl (λa (p,j)=>a.setIfInBounds (t+j) p) xs
variable{t:Nat}{l:List Keyed}
theorem tK{p:Keyed}:wb xs t n (p::l)=wb (xs.setIfInBounds (t+n) p) t (n+1) l:=rfl
theorem sX:∀(l:List Keyed) (xs:Array Keyed) (t n:Nat),(wb xs t n l).size=xs.size
 |[],xs,t,n=>rfl
 |p::l,xs,t,n=>by rw[tK,sX l];simp
theorem sB:∀(l:List Keyed) (xs:Array Keyed) (t n:Nat),t+n+l.length<=xs.size->∀k,(wb xs t n l)[k]?=if t+n<=k/\k < t+n+l.length then l[k - (t+n)]? else xs[k]?
 |[],xs,t,n,h,k=>by
  show xs[k]?=_
  rw[aAI (by simp only[aDO];lia)]
 |p::l,xs,t,n,h,k=>by
  simp only[aCR]at h
  rw[tK,sB l _ t (n+1) (by simp;lia) k]
  by_cases h1:k=t+n
  ·subst h1
   rw[aAI (by lia),aAH (by simp),Array.getElem?_setIfInBounds,aAH rfl,aAH (by lia),Nat.sub_self];rfl
  ·by_cases h2:t+(n+1)<=k/\k < t+(n+1)+l.length
   ·rw[aAH h2,aAH (by simp;lia)]
    obtain⟨j,hj⟩:∃j,k - (t+n)=j+1:=⟨k - (t+n) - 1,by lia⟩
    rw[hj,List.getElem?_cons_succ];congr 1;lia
   ·rw[aAI h2,aAI (by simp;lia)]
    rw[Array.getElem?_setIfInBounds];rw[aAI (by lia)]
theorem zQ(h:t+l.length<=xs.size):(wb xs t 0 l).toList=xs.toList.take t++l++xs.toList.drop (t+l.length):=by
 refine aFO λk=>?_
 rw[aEN,sB l xs t 0 (by lia)]
 by_cases h1:k < t
 ·rw[aAI (by lia),aCM,aAU (by simp;lia),aDW h1,aEN]
 ·by_cases h2:k < t+l.length
  ·rw[aAH (by lia),aCM,aBL (by simp;lia),aAU (by simp;lia)]
   congr 1;simp;lia
  ·rw[aAI (by lia),aBL (by simp;lia),List.getElem?_drop,aEN]
   congr 1;simp;lia
theorem cut3{l:Nat}(h1:l<=h):xs.toList=xs.toList.take l++(xs.extract l h).toList++xs.toList.drop h:=by
 simp only[aCT,aDC]
 obtain⟨k,rfl⟩:∃k,h=l+k:=⟨h - l,by lia⟩
 rw[Nat.add_sub_cancel_left,<- List.take_add,aGC]
theorem rO(i:Nat):mergeAt' i=(do
 let s <- get
 let(some (sa,na,power),some (sb,nb,_)):=((pendingOf s)[i]?,(pendingOf s)[i+1]?)|unsupported "internal:list.sort.pending"
 set (setPending s (((pendingOf s).setIfInBounds i (sa,na+nb,power)).eraseIdxIfInBounds (i+1)))
 let some k <- gallop' false (<- elem' (arrOf s) sb) (arrOf s) sa na 0|return false
 let(sa,na):=(sa+k,na - k)
 if na==0 then return true
 let some nb <- gallop' true (<- elem' (arrOf s) (sa+na - 1)) (arrOf s) sb nb (nb - 1)|return false
 if nb==0 then return true
 let x:=(arrOf s).extract sa sb
 let y:=(arrOf s).extract sb (sb+nb)
 let merged <- if na<=nb then mergeLo' x y else mergeHi' x y
 modify λs=>setArr s (merged.toList.zipIdx.foldl (λa (p,j)=>a.setIfInBounds (sa+j) p) (arrOf s))
 return(failedOf (<- get)).isNone):=rfl
theorem zX{u v:List (Nat×Nat×Nat)}{x y z:Nat×Nat×Nat}(h:i=u.length) :
  (((u++x::y::v).toArray.setIfInBounds i z).eraseIdxIfInBounds (i+1))=(u++z::v).toArray:=by
 subst h
 apply Array.ext'
 rw[Array.eraseIdxIfInBounds,dif_pos (by simp),Array.toList_eraseIdx,Array.toList_setIfInBounds]
 simp[List.eraseIdx_append_of_length_le]
theorem aAy{st':SortSt}{Q:PUnit->SortSt->Prop}(h:Q ⟨⟩ st'):wpS M A E s (set st':StateT SortSt Sem PUnit) Q st:=by
 unfold wpS
 rw[StateT.run_set]
 exact aAC ⟨rfl,h⟩
theorem qH(W:Ask M A E s κ ky S){st:SortSt}{Q:Bool->SortSt->Prop}{u v:List (Nat×Nat×Nat)}{sa pw sb nb pq:Nat}(hi:i=u.length)(hk:kindOf st=κ)(hf:failedOf st=none)(hS:∀x∈(arrOf st).toList,S x)
  (hp:pendingOf st=(u++(sa,na,pw)::(sb,nb,pq)::v).toArray)(h1:sb=sa+na)(h2:0 < na)(h3:0 < nb)(h4:sb+nb<=(arrOf st).size)(g1:SG ky (arrOf st) sa sb)(g2:SG ky (arrOf st) sb (sb+nb))
  (q:∀st',kindOf st'=κ->failedOf st'=none->(arrOf st').Perm (arrOf st)->pendingOf st'=(u++(sa,na+nb,pw)::v).toArray->SG ky (arrOf st') sa (sb+nb)->(∀k,k < sa\/sb+nb<=k->(arrOf st')[k]?=(arrOf st)[k]?)->Q true st') :
  wpS M A E s (mergeAt' i) Q st:=by
 rw[rO]
 refine aAF (aFJ ?_)
 have e1:(pendingOf st)[i]?=some (sa,na,pw):=by rw[hp,hi];simp
 have e2:(pendingOf st)[i+1]?=some (sb,nb,pq):=by rw[hp,hi];simp
 rw[e1,e2]
 dsimp only
 rw[hp,zX hi]
 generalize hst:setPending st (u++(sa,na+nb,pw)::v).toArray=st1
 have hk1:kindOf st1=κ:=by rw[<- hst];exact hk
 have hf1:failedOf st1=none:=by rw[<- hst];exact hf
 have hp1:pendingOf st1=(u++(sa,na+nb,pw)::v).toArray:=by rw[<- hst]
 have ha1:arrOf st1=arrOf st:=by rw[<- hst]
 refine aAF (aAy ?_)
 have inS:∀i (h:i < (arrOf st).size),S (arrOf st)[i]:=λi h=>hS _ (by simp)
 subst h1
 clear hst
 generalize arrOf st=xs at *
 refine aAF (aZ (by lia) ?_)
 refine aAF (dC W hk1 (inS _ _) h2 (by lia) (λi h _ _=>inS i h) (λi j hi hj b1 b2 b3=>g1.get hi hj b1 b2 b3) λk hk f1 f2=>?_)
 dsimp only
 by_cases z1:na - k=0
 ·rw[aAH (by simpa using z1)]
  refine aAJ (q st1 hk1 hf1 (by rw[ha1]) hp1 ?_ λk _=>by rw[ha1])
  rw[ha1]
  intro i j b1 b2 b3
  by_cases c1:j < sa+na
  ·exact g1 i j b1 b2 c1
  ·by_cases c2:i < sa+na
   ·have a1:=g2 (sa+na) j (by lia) (by lia) b3
    have a2:=f1 i (by lia) b1 (by lia)
    rw[dY (show sa+na < xs.size by lia)]at a1
    rw[dY (show i < xs.size by lia)]
    simp[by']at a2
    lia
   ·exact g2 i j (by lia) b2 b3
 rw[aAI (by simpa using z1)]
 have hkl:k < na:=by lia
 have e3:sa+k+(na - k) - 1=sa+na - 1:=by lia
 rw[e3]
 refine aAF (aZ (by lia) ?_)
 refine aAF (dC W hk1 (inS _ _) (by lia) (by lia) (λi h _ _=>inS i h) (λi j hi hj b1 b2 b3=>g2.get hi hj b1 b2 b3) λt ht f3 f4=>?_)
 dsimp only
 by_cases z2:t=0
 ·rw[aAH (by simpa using z2)]
  refine aAJ (q st1 hk1 hf1 (by rw[ha1]) hp1 ?_ λk _=>by rw[ha1])
  rw[ha1]
  intro i j b1 b2 b3
  by_cases c1:j < sa+na
  ·exact g1 i j b1 b2 c1
  ·by_cases c2:i < sa+na
   ·have a1:=g1 i (sa+na - 1) (by lia) (by lia) (by lia)
    have a2:=f4 j (by lia) (by lia) (by lia)
    rw[dY (show sa+na - 1 < xs.size by lia)]at a1
    rw[dY (show j < xs.size by lia)]
    simp[by']at a2
    lia
   ·exact g2 i j (by lia) b2 b3
 rw[aAI (by simpa using z2)]
 have T:Two ky S (xs.extract (sa+k) (sa+na)) (xs.extract (sa+na) (sa+na+t)):=by
  refine⟨by simp;lia,by simp;lia,SG.list (λi j b1 b2 b3=>g1 i j (by lia) b2 b3) (by lia),SG.list (λi j b1 b2 b3=>g2 i j (by lia) b2 (by lia)) (by lia),?_,?_,?_,?_⟩
  ·have:=f2 (sa+k) (by lia) (by lia) (by lia)
   simp[by']at this ⊢
   lia
  ·intro y hy
   obtain⟨j,hj,b1,b2,rfl⟩:=fZ (by lia) hy
   have:=f3 j hj b1 b2
   have e:sa+k+(min (sa+na) xs.size - (sa+k) - 1)=sa+na - 1:=by lia
   simp[by',e]at this ⊢
   lia
  ·intro x hx
   have hx:x∈(xs.extract (sa+k) (sa+k+(na - k))).toList:=by rwa[show sa+k+(na - k)=sa+na by lia]
   obtain⟨j,hj,b1,b2,rfl⟩:=fZ (by lia) hx
   exact inS _ _
  ·intro x hx
   obtain⟨j,hj,b1,b2,rfl⟩:=fZ (by lia) hx
   exact inS _ _
 have fin:∀(res:Array Keyed) (st':SortSt),Same st1 st'->Done ky ((xs.extract (sa+k) (sa+na)).toList++(xs.extract (sa+na) (sa+na+t)).toList) res.toList ->
   wpS M A E s (do
    modify λs=>setArr s (res.toList.zipIdx.foldl (λa (p,j)=>a.setIfInBounds (sa+k+j) p) (arrOf s))
    let s <- get
    pure (failedOf s).isNone) Q st':=by
  intro res st' sm D
  have hlen:res.toList.length=na - k+t:=by have:=D.1.length_eq;simp at this ⊢;lia
  have hxy:(xs.extract (sa+k) (sa+na)).toList++(xs.extract (sa+na) (sa+na+t)).toList=(xs.extract (sa+k) (sa+na+t)).toList:=by
   simp only[aCT,aDC]
   rw[show sa+na+t - (sa+k)=(na - k)+t by lia,List.take_add,List.drop_drop,show sa+na - (sa+k)=na - k by lia,show sa+k+(na - k)=sa+na by lia,show sa+na+t - (sa+na)=t by lia]
  refine aAF (aDU (aAF (aFJ ?_)))
  have ea:arrOf st'=xs:=sm.a.trans ha1
  show wpS M A E s (pure (failedOf st').isNone) Q (setArr st' (wb (arrOf st') (sa+k) 0 res.toList))
  rw[sm.f,hf1,ea]
  have hw:=zQ (l:=res.toList) (xs:=xs) (t:=sa+k) (by lia)
  have gw:=sB res.toList xs (sa+k) 0 (by lia)
  refine aAJ (q _ (sm.k.trans hk1) (sm.f.trans hf1) ?_ (sm.p.trans hp1) ?_ ?_)
  ·refine aCH.mpr ?_
   show(wb xs (sa+k) 0 res.toList).toList.Perm xs.toList
   have P:=List.Perm.append (List.Perm.append (List.Perm.refl (xs.toList.take (sa+k))) D.1) (List.Perm.refl (xs.toList.drop (sa+na+t)))
   rw[hxy,<- cut3 (by lia)]at P
   rw[hw,hlen,show sa+k+(na - k+t)=sa+na+t by lia]
   exact P
  ·show SG ky (wb xs (sa+k) 0 res.toList) sa (sa+na+nb)
   have mid:∀m,sa+k<=m->m < sa+na+t->∃p,(wb xs (sa+k) 0 res.toList)[m]?=some p/\∃j,∃hj:j < xs.size,sa+k<=j/\j < sa+na+t/\p=xs[j]:=by
    intro m b1 b2
    have hm:m - (sa+k) < res.toList.length:=by lia
    refine⟨res.toList[m - (sa+k)],?_,?_⟩
    ·rw[gw,aAH (by lia),show sa+k+0=sa+k from rfl,aCC hm]
    ·have hmem:=D.1.mem_iff.mp (aFX hm)
     rw[hxy]at hmem
     have hmem:res.toList[m - (sa+k)]∈(xs.extract (sa+k) (sa+k+(na - k+t))).toList:=by rwa[show sa+k+(na - k+t)=sa+na+t by lia]
     obtain⟨j,hj,c1,c2,e⟩:=fZ (by lia) hmem
     exact⟨j,hj,c1,by lia,e⟩
   have low:∀i,sa<=i->i < sa+k->∀j,sa+k<=j->j < sa+na+nb->K' ky xs i<=K' ky xs j:=by
    intro i b1 b2 j b3 b4
    by_cases c:j < sa+na
    ·exact g1 i j b1 (by lia) c
    ·have a1:=g2 (sa+na) j (by lia) (by lia) b4
     have a2:=f1 i (by lia) b1 b2
     rw[dY (show sa+na < xs.size by lia)]at a1
     rw[dY (show i < xs.size by lia)]
     simp[by']at a2
     lia
   have high:∀j,sa+na+t<=j->j < sa+na+nb->∀i,sa<=i->i < sa+na+t->K' ky xs i<=K' ky xs j:=by
    intro j b1 b2 i b3 b4
    by_cases c:i < sa+na
    ·have a1:=g1 i (sa+na - 1) (by lia) (by lia) (by lia)
     have a2:=f4 j (by lia) (by lia) (by lia)
     rw[dY (show sa+na - 1 < xs.size by lia)]at a1
     rw[dY (show j < xs.size by lia)]
     simp[by']at a2
     lia
    ·exact g2 i j (by lia) (by lia) b2
   have out:∀m,m < sa+k\/sa+na+t<=m->K' ky (wb xs (sa+k) 0 res.toList) m=K' ky xs m:=λm h=>cY (by rw[gw,aAI (by lia)])
   have midK:∀m,sa+k<=m->m < sa+na+t->∃j,sa+k<=j/\j < sa+na+t/\K' ky (wb xs (sa+k) 0 res.toList) m=K' ky xs j:=by
    intro m b1 b2
    obtain⟨p,e1,j,hj,c1,c2,rfl⟩:=mid m b1 b2
    exact⟨j,c1,c2,cY (by rw[e1,getElem?_pos xs j hj])⟩
   intro i j b1 b2 b3
   by_cases c1:j < sa+k
   ·rw[out i (.inl (by lia)),out j (.inl c1)]
    exact g1 i j b1 b2 (by lia)
   ·by_cases c2:sa+na+t<=j
    ·rw[out j (.inr c2)]
     by_cases c3:sa+na+t<=i
     ·rw[out i (.inr c3)]
      exact g2 i j (by lia) b2 b3
     ·by_cases c4:i < sa+k
      ·rw[out i (.inl c4)]
       exact high j c2 b3 i b1 (by lia)
      ·obtain⟨i',d1,d2,e⟩:=midK i (by lia) (by lia)
       rw[e]
       exact high j c2 b3 i' (by lia) d2
    ·by_cases c4:i < sa+k
     ·rw[out i (.inl c4)]
      obtain⟨j',d1,d2,e⟩:=midK j (by lia) (by lia)
      rw[e]
      exact low i b1 c4 j' d1 (by lia)
     ·refine SG.of_list (l:=sa+k) (h:=sa+na+t) (by rw[sX];lia) ?_ i j (by lia) b2 (by lia)
      have:((wb xs (sa+k) 0 res.toList).extract (sa+k) (sa+na+t)).toList=res.toList:=by
       simp only[aCT,aDC,hw]
       rw[aCM,List.drop_append_of_le_length (by simp;lia),aFQ (by simp;lia),List.nil_append,List.take_append_of_le_length (by lia),aCJ (by lia)]
      rw[this]
      exact D.2
  ·intro m h
   show(wb xs (sa+k) 0 res.toList)[m]?=xs[m]?
   rw[gw,aAI (by lia)]
 by_cases z3:na - k<=t
 ·rw[aAH z3]
  exact aAF (oX W T hk1 λres st' sm D=>fin res st' sm D)
 ·rw[aAI z3]
  exact aAF (pP W T hk1 λres st' sm D=>fin res st' sm D)
end
structure RS(κ:SortKind)(lo hi:Nat)(st0 st:SortSt):Prop where
 k:kindOf st=κ
 f:failedOf st=none
 pm:(arrOf st).Perm (arrOf st0)
 pd:pendingOf st=pendingOf st0
 out:∀k,k < lo\/hi<=k->(arrOf st)[k]?=(arrOf st0)[k]?
variable{M:Model}{E:Value->Shared->Prop}{lo hi nrem:Nat}
theorem RS.sz(R:RS κ lo hi st0 st):(arrOf st).size=(arrOf st0).size:=R.pm.size_eq
theorem RS.refl(hk:kindOf st=κ)(hf:failedOf st=none):RS κ lo hi st st:=⟨hk,hf,Array.Perm.refl _,rfl,λ_ _=>rfl⟩
theorem jB(W:Ask M A E s κ ky S)(hS:∀x∈(arrOf st0).toList,S x)(R:RS κ lo hi st0 st){Q:Option Bool->SortSt->Prop}(h1:i < (arrOf st0).size)(h2:j < (arrOf st0).size)(q:Q (some (decide (K' ky (arrOf st) i < K' ky (arrOf st) j))) st) :
  wpS M A E s (ltAt' i j) Q st:=by
 have l1:i < (arrOf st).size:=by rw[R.sz];exact h1
 have l2:j < (arrOf st).size:=by rw[R.sz];exact h2
 have inS:∀i (h:i < (arrOf st).size),S (arrOf st)[i]:=λi h=>hS _ ((aCH.mp R.pm).mem_iff.mp (by simp))
 rw[ltAt'_eq]
 refine aAF (aFJ (aAF (aZ l1 (aAF (aZ l2 (W.lt _ _ _ _ R.k (inS _ _) (inS _ _) ?_))))))
 rwa[dY l1,dY l2]at q
theorem jK(hj:j<=xs.size)(k:Nat):K' ky (mirror xs i j ((j - i) / 2)) k=if i<=k/\k < j then K' ky xs (i+j - 1 - k)else K' ky xs k:=by
 have e:=getElem?_mirror_all (i:=i) hj k
 by_cases h1:i<=k/\k < j
 ·rw[aAH h1]at e ⊢;exact cY e
 ·rw[aAI h1]at e ⊢;exact cY e
theorem RS.mir(R:RS κ lo hi st0 st)(h1:lo<=i)(h2:j<=hi)(h3:hi<=(arrOf st0).size):RS κ lo hi st0 (setArr st (mirror (arrOf st) i j ((j - i) / 2))) :=
 ⟨R.k,R.f,(mirror_perm _ _ _ _).trans R.pm,R.pd,λk hk=>by
  show(mirror (arrOf st) i j ((j - i) / 2))[k]?=_
  rw[getElem?_mirror_all (by rw[R.sz];lia),aAI (by lia)]
  exact R.out k hk⟩
theorem RS.bub(R:RS κ lo hi st0 st){src d:Nat}(h1:lo<=src - d)(h2:src < hi)(h3:hi<=(arrOf st0).size)(h4:d<=src):RS κ lo hi st0 (setArr st (bubble (arrOf st) src d)) :=
 ⟨R.k,R.f,(bubble_perm _ _ _).trans R.pm,R.pd,λk hk=>by
  show(bubble (arrOf st) src d)[k]?=_
  rw[getElem?_bubble (by rw[R.sz];lia) d h4,aAI (by lia),aAI (by lia)]
  exact R.out k hk⟩
noncomputable section
def NI(ky:Keyed->Int)(xs:Array Keyed)(l h:Nat):Prop:=∀i j,l<=i->i<=j->j < h->K' ky xs j<=K' ky xs i
def ascF(lo a nrem:Nat):StateT SortSt Sem (Option (Option Nat)×Nat) :=
 forIn [a:nrem] ((none,a):Option (Option Nat)×Nat) λ_ c=>do
  let r <- ltAt' (lo+c.2) (lo+c.2 - 1)
  match r with
  |some b=>if b=true then pure (.done (none,c.2))else pure (.yield (none,c.2+1))
  |_=>pure (.done (some none,c.2))
def tailF(lo n nrem:Nat):StateT SortSt Sem (Option Nat):=do
 reverseSlice' lo (lo+n)
 let c <- ascF lo n nrem
 match c.1 with
 |some r=>pure r
 |none=>pure (some c.2)
def dscF(lo n nrem:Nat):StateT SortSt Sem (Option (Option Nat)×Nat×Nat) :=
 forIn [n:nrem] ((none,n,0):Option (Option Nat)×Nat×Nat) λ_ c=>do
  let r <- ltAt' (lo+c.2.1) (lo+c.2.1 - 1)
  match r with
  |some b =>
   if b=true then
    if c.2.2 > 0 then do
     reverseSlice' (lo+c.2.1 - (c.2.2+1)) (lo+c.2.1)
     pure (.yield (none,c.2.1+1,0))
    else pure (.yield (none,c.2.1+1,0))
   else do
    let r <- ltAt' (lo+c.2.1 - 1) (lo+c.2.1)
    match r with
    |some b=>if b=true then pure (.done (none,c.2.1,c.2.2))else pure (.yield (none,c.2.1+1,c.2.2+1))
    |_=>pure (.done (some none,c.2.1,c.2.2))
  |_=>pure (.done (some none,c.2.1,c.2.2))
def partF(lo n nrem:Nat):StateT SortSt Sem (Option Nat):=do
 liftM (rule "list.sort.descending-run")
 let c <- dscF lo (n+1) nrem
 match c.1 with
 |some r=>pure r
 |none =>
  if c.2.2 > 0 then do
   reverseSlice' (lo+c.2.1 - (c.2.2+1)) (lo+c.2.1)
   tailF lo c.2.1 nrem
  else tailF lo c.2.1 nrem
end
theorem kH{Q:Unit->SortSt->Prop}(h:Q () (setArr st (mirror (arrOf st) i j ((j - i) / 2)))):wpS M A E s (reverseSlice' i j) Q st:=by
 rw[reverseSlice'_eq];exact aDU h
theorem oV(W:Ask M A E s κ ky S)(hS:∀x∈(arrOf st0).toList,S x){a:Nat}{Q:Option (Option Nat)×Nat->SortSt->Prop}(R:RS κ lo (lo+nrem) st0 st)(hn:lo+nrem<=(arrOf st0).size)(ha:1<=a)(han:a<=nrem)(g:SG ky (arrOf st) lo (lo+a))
  (q:∀n,a<=n->n<=nrem->SG ky (arrOf st) lo (lo+n)->(n=nrem\/K' ky (arrOf st) (lo+n) < K' ky (arrOf st) (lo+n - 1))->Q (none,n) st):wpS M A E s (ascF lo a nrem) Q st:=by
 unfold ascF
 refine aBP (I:=λx c st'=>st'=st/\c=(none,x)/\SG ky (arrOf st) lo (lo+x)) ?step ?fin ⟨rfl,rfl,g⟩
 case fin =>
  rintro c st' ⟨rfl,rfl,g⟩
  rw[show max a nrem=nrem by lia]at g ⊢
  exact q nrem han (aAE _) g (.inl rfl)
 case step =>
  rintro x c st' hax hxn ⟨rfl,rfl,g⟩
  dsimp only
  refine aAF (jB W hS R (by lia) (by lia) ?_)
  by_cases hl:K' ky (arrOf st') (lo+x) < K' ky (arrOf st') (lo+x - 1)
  ·simp only[hl,aEZ,aCI]
   exact aAJ (q x hax (by lia) g (.inr hl))
  ·simp only[hl,aEM,aAS,aBU]
   refine aAJ ⟨rfl,rfl,λi j h1 h2 h3=>?_⟩
   by_cases c1:j < lo+x
   ·exact g i j h1 h2 c1
   ·by_cases c2:i=j
    ·subst c2;exact aDD _
    ·have e:j=lo+x:=by lia
     subst e
     have:=g i (lo+x - 1) h1 (by lia) (by lia)
     lia
theorem mU(W:Ask M A E s κ ky S)(hS:∀x∈(arrOf st0).toList,S x){Q:Option Nat->SortSt->Prop}(R:RS κ lo (lo+nrem) st0 st)(hn:lo+nrem<=(arrOf st0).size)(h1:1<=n)(hnn:n<=nrem)(g:NI ky (arrOf st) lo (lo+n))
  (q:∀m st',RS κ lo (lo+nrem) st0 st'->1<=m->m<=nrem->SG ky (arrOf st') lo (lo+m)->Q (some m) st'):wpS M A E s (tailF lo n nrem) Q st:=by
 unfold tailF
 refine aAF (kH ?_)
 have R1:=R.mir (i:=lo) (j:=lo+n) (aAE _) (by lia) hn
 refine aAF (oV W hS R1 hn h1 hnn (λi j a1 a2 a3=>?_) λm b1 b2 b3 _=>aAJ (q m _ R1 (by lia) b2 b3))
 show K' ky (mirror (arrOf st) lo (lo+n) _) i<=K' ky (mirror (arrOf st) lo (lo+n) _) j
 rw[jK (by rw[R.sz];lia),jK (by rw[R.sz];lia),aAH (by lia),aAH (by lia)]
 exact g _ _ (by lia) (by lia) (by lia)
theorem fR(hj:j<=xs.size)(he:∀k,i<=k->k < j->K' ky xs k=K' ky xs (j - 1))(k:Nat):K' ky (mirror xs i j ((j - i) / 2)) k=K' ky xs k:=by
 rw[jK hj]
 split
 ·rw[he _ (by lia) (by lia),he k (by lia) (by lia)]
 ·rfl
theorem xI(W:Ask M A E s κ ky S)(hS:∀x∈(arrOf st0).toList,S x){Q:Option (Option Nat)×Nat×Nat->SortSt->Prop}(R:RS κ lo (lo+nrem) st0 st)(hn:lo+nrem<=(arrOf st0).size)(h1:1<=n)(hnn:n<=nrem)(g:NI ky (arrOf st) lo (lo+n))
  (q:∀m e st',RS κ lo (lo+nrem) st0 st'->n<=m->m<=nrem->NI ky (arrOf st') lo (lo+m)->e+1<=m->(∀i,lo+m - (e+1)<=i->i < lo+m->K' ky (arrOf st') i=K' ky (arrOf st') (lo+m - 1))->Q (none,m,e) st') :
  wpS M A E s (dscF lo n nrem) Q st:=by
 unfold dscF
 refine aBP (I:=λx c st'=>∃e,c=(none,x,e)/\RS κ lo (lo+nrem) st0 st'/\NI ky (arrOf st') lo (lo+x)/\e+1<=x/\(∀i,lo+x - (e+1)<=i->i < lo+x->K' ky (arrOf st') i=K' ky (arrOf st') (lo+x - 1)))
  ?step ?fin ⟨0,rfl,R,g,h1,λi a1 a2=>by congr 1;lia⟩
 case fin =>
  rintro c st' ⟨e,rfl,R',g',he,eq⟩
  rw[show max n nrem=nrem by lia]at g' he eq ⊢
  exact q nrem e st' R' hnn (aAE _) g' he eq
 case step =>
  rintro x c st' hax hxn ⟨e,rfl,R',g',he,eq⟩
  dsimp only
  have hz:lo+x<=(arrOf st').size:=by rw[R'.sz];lia
  refine aAF (jB W hS R' (by lia) (by lia) ?_)
  by_cases hl:K' ky (arrOf st') (lo+x) < K' ky (arrOf st') (lo+x - 1)
  ·simp only[hl,aEZ,aCI]
   have on:∀xs:Array Keyed,(∀k,K' ky xs k=K' ky (arrOf st') k)->NI ky xs lo (lo+(x+1)):=by
    intro xs hk i j a1 a2 a3
    rw[hk,hk]
    by_cases c1:j < lo+x
    ·exact g' i j a1 a2 c1
    ·by_cases c2:i=j
     ·subst c2;exact aDD _
     ·have e:j=lo+x:=by lia
      subst e
      have:=g' i (lo+x - 1) a1 (by lia) (by lia)
      lia
   by_cases h0:e > 0
   ·rw[aAH h0]
    exact aAF (kH (aAJ ⟨0,rfl,R'.mir (by lia) (by lia) hn,on _ (fR hz eq),by lia,λi a1 a2=>by congr 1;lia⟩))
   ·rw[aAI h0]
    exact aAJ ⟨0,rfl,R',on _ (λ_=>rfl),by lia,λi a1 a2=>by congr 1;lia⟩
  ·simp only[hl,aEM,aAS,aBU]
   refine aAF (jB W hS R' (by lia) (by lia) ?_)
   by_cases hg:K' ky (arrOf st') (lo+x - 1) < K' ky (arrOf st') (lo+x)
   ·simp only[hg,aEZ,aCI]
    exact aAJ (q x e st' R' hax (by lia) g' he eq)
   ·simp only[hg,aEM,aAS,aBU]
    have ex:K' ky (arrOf st') (lo+x)=K' ky (arrOf st') (lo+x - 1):=by lia
    refine aAJ ⟨e+1,rfl,R',λi j a1 a2 a3=>?_,by lia,λi a1 a2=>?_⟩
    ·by_cases c1:j < lo+x
     ·exact g' i j a1 a2 c1
     ·by_cases c2:i=j
      ·subst c2;exact aDD _
      ·have e:j=lo+x:=by lia
       subst e
       rw[ex];exact g' i (lo+x - 1) a1 (by lia) (by lia)
    ·rw[show lo+(x+1) - 1=lo+x by lia]
     by_cases c:i=lo+x
     ·subst c;rfl
     ·rw[ex];exact eq i (by lia) (by lia)
variable{Q:Option Nat->SortSt->Prop}
theorem mM(W:Ask M A E s κ ky S)(hS:∀x∈(arrOf st0).toList,S x)(R:RS κ lo (lo+nrem) st0 st)(hn:lo+nrem<=(arrOf st0).size)(hnn:n+1<=nrem)(g:NI ky (arrOf st) lo (lo+(n+1)))
  (q:∀m st',RS κ lo (lo+nrem) st0 st'->1<=m->m<=nrem->SG ky (arrOf st') lo (lo+m)->Q (some m) st'):wpS M A E s (partF lo n nrem) Q st:=by
 unfold partF
 refine aAF (aGO (aCO ⟨rfl,?_⟩))
 refine aAF (xI W hS R hn (by lia) hnn g λm e st' R' m1 m2 g' he eq=>?_)
 dsimp only
 by_cases h0:e > 0
 ·rw[aAH h0]
  refine aAF (kH (mU W hS (R'.mir (by lia) (by lia) hn) hn (by lia) m2 ?_ q))
  intro i j a1 a2 a3
  show K' ky (mirror (arrOf st') _ _ _) j<=K' ky (mirror (arrOf st') _ _ _) i
  have hz:lo+m<=(arrOf st').size:=by rw[R'.sz];lia
  rw[fR hz eq,fR hz eq]
  exact g' i j a1 a2 a3
 ·rw[aAI h0]
  exact mU W hS R' hn (by lia) m2 g' q
theorem uQ(lo nrem:Nat):countRun' lo nrem=(do
  let c <- ascF lo 1 nrem
  match c.1 with
  |some r=>pure r
  |none =>
   if(c.2==nrem)=true then pure (some c.2)
   else if c.2 > 1 then do
    let x <- ltAt' lo (lo+c.2 - 1)
    match x with
    |some b=>if b=true then pure (some c.2)else do
      reverseSlice' lo (lo+c.2)
      partF lo c.2 nrem
    |_=>pure none
   else partF lo c.2 nrem):=by
 rw[countRun'_eq]
 refine aCA λc=>?_
 obtain⟨r,n⟩:=c
 cases r with
 |some r=>rfl
 |none =>
  have tl:∀m,tailF lo m nrem=tailF lo m nrem:=λ_=>rfl
  dsimp only
  split
  ·rfl
  ·split
   ·refine aCA λx=>?_
    cases x with
    |none=>rfl
    |some b =>
     dsimp only
     split
     ·rfl
     ·refine aCA λ_=>aCA λ_=>aCA λc=>?_
      obtain⟨r,m,e⟩:=c
      cases r with
      |some r=>rfl
      |none =>
       dsimp only
       split
       ·refine aCA λ_=>aCA λ_=>aCA λc=>?_
        obtain⟨r,m⟩:=c;cases r <;> rfl
       ·refine aCA λ_=>aCA λc=>?_
        obtain⟨r,m⟩:=c;cases r <;> rfl
   ·refine aCA λ_=>aCA λc=>?_
    obtain⟨r,m,e⟩:=c
    cases r with
    |some r=>rfl
    |none =>
     dsimp only
     split
     ·refine aCA λ_=>aCA λ_=>aCA λc=>?_
      obtain⟨r,m⟩:=c;cases r <;> rfl
     ·refine aCA λ_=>aCA λc=>?_
      obtain⟨r,m⟩:=c;cases r <;> rfl
theorem uE(W:Ask M A E s κ ky S)(hS:∀x∈(arrOf st0).toList,S x)(R:RS κ lo (lo+nrem) st0 st)(hn:lo+nrem<=(arrOf st0).size)(h1:1<=nrem)
  (q:∀m st',RS κ lo (lo+nrem) st0 st'->1<=m->m<=nrem->SG ky (arrOf st') lo (lo+m)->Q (some m) st'):wpS M A E s (countRun' lo nrem) Q st:=by
 rw[uQ]
 refine aAF (oV W hS R hn (aAE 1) h1 (λi j a1 a2 a3=>by have:i=j:=by lia
                                                        subst this;exact aDD _) λn n1 n2 gn or'=>?_)
 dsimp only
 by_cases c0:n=nrem
 ·rw[aAH (by simpa using c0)]
  exact aAJ (q n st R n1 n2 gn)
 ·rw[aAI (by simpa using c0)]
  have hl:=or'.resolve_left c0
  by_cases c1:n > 1
  ·rw[aAH c1]
   refine aAF (jB W hS R (by lia) (by lia) ?_)
   by_cases hr:K' ky (arrOf st) lo < K' ky (arrOf st) (lo+n - 1)
   ·simp only[hr,aEZ,aCI]
    exact aAJ (q n st R n1 n2 gn)
   ·simp only[hr,aEM,aAS,aBU]
    have hz:lo+n<=(arrOf st).size:=by rw[R.sz];lia
    have all:∀k,lo<=k->k < lo+n->K' ky (arrOf st) k=K' ky (arrOf st) (lo+n - 1):=by
     intro k a1 a2
     have b1:=gn lo k (aAE _) a1 a2
     have b2:=gn k (lo+n - 1) a1 (by lia) (by lia)
     lia
    refine aAF (kH (mM (n:=n) W hS (R.mir (i:=lo) (j:=lo+n) (aAE _) (by lia) hn) hn (by lia) ?_ q))
    intro i j a1 a2 a3
    show K' ky (mirror (arrOf st) _ _ _) j<=K' ky (mirror (arrOf st) _ _ _) i
    rw[fR hz all,fR hz all]
    by_cases c2:j < lo+n
    ·rw[all i a1 (by lia),all j (by lia) c2];exact aDD _
    ·by_cases c3:i=j
     ·subst c3;exact aDD _
     ·have e:j=lo+n:=by lia
      subst e
      rw[all i a1 (by lia)];lia
  ·rw[aAI c1]
   have e:n=1:=by lia
   subst e
   refine mM (n:=1) W hS R hn (by lia) ?_ q
   intro i j a1 a2 a3
   by_cases c3:i=j
   ·subst c3;exact aDD _
   ·have e1:i=lo:=by lia
    have e2:j=lo+1:=by lia
    subst e1;subst e2
    simpa using Int.le_of_lt hl
variable{Q:Bool->SortSt->Prop}
theorem yE(W:Ask M A E s κ ky S)(hS:∀x∈(arrOf st0).toList,S x){ok:Nat}(R:RS κ lo (lo+n) st0 st)(hn:lo+n<=(arrOf st0).size)(hok:ok<=n)(g:SG ky (arrOf st) lo (lo+ok))
  (q:∀st',RS κ lo (lo+n) st0 st'->SG ky (arrOf st') lo (lo+n)->Q true st'):wpS M A E s (binarySort' lo n ok) Q st:=by
 rw[binarySort'_eq]
 refine aAF (aCS (aBP (I:=λk c st'=>c=(none,())/\RS κ lo (lo+n) st0 st'/\SG ky (arrOf st') lo (lo+min k n))
  (Q:=λc st'=>c=(none,())/\RS κ lo (lo+n) st0 st'/\SG ky (arrOf st') lo (lo+n)) ?step ?fin ?init) ?post)
 case post =>
  rintro c st' ⟨rfl,R',g'⟩
  exact aAJ (q st' R' g')
 case init =>
  refine⟨rfl,R,λi j a1 a2 a3=>?_⟩
  by_cases h1:ok=0
  ·have:i=j:=by lia
   subst this;exact aDD _
  ·exact g i j a1 a2 (by lia)
 case fin =>
  rintro c st' ⟨hc,R',g'⟩
  refine⟨hc,R',?_⟩
  rwa[show min (max (max ok 1) n) n=n by lia]at g'
 case step =>
  rintro k c st' hak hkn ⟨rfl,R',g'⟩
  rw[show min k n=k by lia]at g'
  refine aAF (aCS (aBP (I:=λx c st2=>st2=st'/\∃l r,c=(none,l,r)/\l<=r/\r<=k/\r - l<=k - x /\
    (∀i,i < l->K' ky (arrOf st') (lo+i)<=K' ky (arrOf st') (lo+k))/\(∀i,r<=i->i < k->K' ky (arrOf st') (lo+k) < K' ky (arrOf st') (lo+i)))
   (Q:=λc st2=>st2=st'/\∃l r,c=(none,l,r)/\l<=k /\
    (∀i,i < l->K' ky (arrOf st') (lo+i)<=K' ky (arrOf st') (lo+k))/\(∀i,l<=i->i < k->K' ky (arrOf st') (lo+k) < K' ky (arrOf st') (lo+i))) ?istep ?ifin ?iinit) ?ipost)
  case iinit=>exact⟨rfl,0,k,rfl,by lia,by lia,by lia,λi hi=>by lia,λi h1 h2=>by lia⟩
  case ifin =>
   rintro c st2 ⟨rfl,l,r,rfl,a1,a2,a3,a4,a5⟩
   have:l=r:=by lia
   subst this
   exact⟨rfl,l,l,rfl,a2,a4,a5⟩
  case istep =>
   rintro x c st2 _ hxk ⟨rfl,l,r,rfl,a1,a2,a3,a4,a5⟩
   dsimp only
   by_cases hge:l>=r
   ·rw[aAH hge]
    have:l=r:=by lia
    subst this
    exact aAJ ⟨rfl,l,l,rfl,a2,a4,a5⟩
   ·rw[aAI hge]
    refine aAF (jB W hS R' (by lia) (by lia) ?_)
    by_cases hl:K' ky (arrOf st2) (lo+k) < K' ky (arrOf st2) (lo+(l+r) / 2)
    ·simp only[hl,aEZ,aCI]
     refine aAJ ⟨rfl,l,(l+r) / 2,rfl,by lia,by lia,by lia,a4,λi h1 h2=>?_⟩
     have:=g' (lo+(l+r) / 2) (lo+i) (by lia) (by lia) (by lia)
     lia
    ·simp only[hl,aEM,aAS,aBU]
     refine aAJ ⟨rfl,(l+r) / 2+1,r,rfl,by lia,by lia,by lia,λi h1=>?_,a5⟩
     have:=g' (lo+i) (lo+(l+r) / 2) (by lia) (by lia) (by lia)
     lia
  case ipost =>
   rintro c st2 ⟨rfl,l,r,rfl,a2,a4,a5⟩
   show wpS _ _ _ _ (do moveDown' (lo+k) (lo+l);pure (ForInStep.yield (none,()))) _ _
   rw[moveDown'_eq]
   have hz:lo+k < (arrOf st2).size:=by rw[R'.sz];lia
   refine aAF (aDU (aAJ ⟨rfl,R'.bub (by lia) (by lia) hn (by lia),?_⟩))
   rw[show min (k+1) n=k+1 by lia]
   have kb:∀m,K' ky (bubble (arrOf st2) (lo+k) (lo+k - (lo+l))) m=if m=lo+l then K' ky (arrOf st2) (lo+k)else if lo+l < m/\m<=lo+k then K' ky (arrOf st2) (m - 1)else K' ky (arrOf st2) m:=by
    intro m
    have e:=getElem?_bubble hz (lo+k - (lo+l)) (by lia) m
    rw[show lo+k - (lo+k - (lo+l))=lo+l by lia]at e
    by_cases h1:m=lo+l
    ·rw[aAH h1]at e ⊢;exact cY e
    ·rw[aAI h1]at e ⊢
     by_cases h2:lo+l < m/\m<=lo+k
     ·rw[aAH h2]at e ⊢;exact cY e
     ·rw[aAI h2]at e ⊢;exact cY e
   intro i j b1 b2 b3
   show K' ky (bubble (arrOf st2) (lo+k) (lo+k - (lo+l))) i<=K' ky (bubble (arrOf st2) (lo+k) (lo+k - (lo+l))) j
   have low:∀i,lo<=i->i < lo+l->K' ky (arrOf st2) i<=K' ky (arrOf st2) (lo+k):=λi c1 c2=>by
    have:=a4 (i - lo) (by lia)
    rwa[show lo+(i - lo)=i by lia]at this
   have hih:∀i,lo+l<=i->i < lo+k->K' ky (arrOf st2) (lo+k) < K' ky (arrOf st2) i:=λi c1 c2=>by
    have:=a5 (i - lo) (by lia) (by lia)
    rwa[show lo+(i - lo)=i by lia]at this
   rw[kb,kb]
   repeat' split
   all_goals first
    |(exfalso;lia)
    |exact aDD _
    |exact low _ (by lia) (by lia)
    |exact Int.le_of_lt (hih _ (by lia) (by lia))
    |exact g' _ _ (by lia) (by lia) (by lia)
variable{a₀:Array Keyed}
noncomputable def Segs(ky:Keyed->Int)(xs:Array Keyed):List (Nat×Nat×Nat)->Nat->Nat->Prop
 |[],l,h=>l=h
 |(t,n,_)::r,l,h=>t=l/\0 < n/\SG ky xs l (l+n)/\Segs ky xs r (l+n) h
theorem Segs.app{xs:Array Keyed}:∀{u v:List (Nat×Nat×Nat)} {l h:Nat},Segs ky xs (u++v) l h ↔ ∃m,Segs ky xs u l m/\Segs ky xs v m h
 |[],v,l,h=>⟨λz=>⟨l,rfl,z⟩,λ⟨m,e,z⟩=>by cases e;exact z⟩
 |(t,n,q)::u,v,l,h=>by
  show t=l/\0 < n/\SG ky xs l (l+n)/\Segs ky xs (u++v) (l+n) h ↔ _
  rw[Segs.app (u:=u)]
  exact⟨λ⟨a1,a2,a3,m,a4,a5⟩=>⟨m,⟨a1,a2,a3,a4⟩,a5⟩,λ⟨m,⟨a1,a2,a3,a4⟩,a5⟩=>⟨a1,a2,a3,m,a4,a5⟩⟩
theorem Segs.le{xs:Array Keyed}:∀{u:List (Nat×Nat×Nat)} {l h:Nat},Segs ky xs u l h->l+u.length<=h
 |[],l,h,e=>by cases e;simp
 |(t,n,q)::u,l,h,⟨a1,a2,a3,a4⟩=>by have:=Segs.le a4;simp only[aCR];lia
theorem Segs.congr{xs ys:Array Keyed}:∀{u:List (Nat×Nat×Nat)} {l h:Nat},Segs ky xs u l h->(∀k,l<=k->k < h->ys[k]?=xs[k]?)->Segs ky ys u l h
 |[],l,h,e,_=>e
 |(t,n,q)::u,l,h,⟨a1,a2,a3,a4⟩,e=>by
  have:=Segs.le a4
  exact⟨a1,a2,a3.congr λk b1 b2=>e k b1 (by lia),Segs.congr a4 λk b1 b2=>e k (by lia) b2⟩
structure SI(ky:Keyed->Int)(κ:SortKind)(a₀:Array Keyed)(st:SortSt)(p:List (Nat×Nat×Nat))(h:Nat):Prop where
 k:kindOf st=κ
 f:failedOf st=none
 pm:(arrOf st).Perm a₀
 pd:pendingOf st=p.toArray
 sg:Segs ky (arrOf st) p 0 h
theorem pQ(W:Ask M A E s κ ky S)(hS:∀x∈a₀.toList,S x){p:List (Nat×Nat×Nat)}{h:Nat}(I:SI ky κ a₀ st p h)(hh:h<=a₀.size)(hi:i+1 < p.length)
  (q:∀st' p',SI ky κ a₀ st' p' h->p'.length+1=p.length->(∀k,h<=k->(arrOf st')[k]?=(arrOf st)[k]?)->Q true st'):wpS M A E s (mergeAt' i) Q st:=by
 obtain⟨u,x,y,v,rfl,hu⟩:∃u x y v,p=u++x::y::v/\i=u.length :=
  ⟨p.take i,p[i],p[i+1],p.drop (i+2),by
   rw[<- aBY (by lia),<- aBY (by lia),aGC],by simp;lia⟩
 obtain⟨sa,na,pw⟩:=x
 obtain⟨sb,nb,pq⟩:=y
 obtain⟨m,s1,a1,a2,a3,b1,b2,b3,s2⟩:=Segs.app.mp I.sg
 subst a1;subst b1
 have l2:=Segs.le s2
 have l1:=Segs.le s1
 have sz:(arrOf st).size=a₀.size:=I.pm.size_eq
 refine qH W hu I.k I.f (λx hx=>hS x ((aCH.mp I.pm).mem_iff.mp hx)) I.pd rfl a2 b2 (by lia) a3 b3 λst' c1 c2 c3 c4 c5 c6=>?_
 refine q st' _ ⟨c1,c2,c3.trans I.pm,c4,Segs.app.mpr ⟨sa,Segs.congr s1 λk _ hk=>c6 k (.inl hk),rfl,by lia,by rw[<- Nat.add_assoc];exact c5,?_⟩⟩ (by simp;lia) λk hk=>c6 k (.inr (by lia))
 rw[<- Nat.add_assoc]
 exact Segs.congr s2 λk hk _=>c6 k (.inr hk)
theorem pD{α:Type}(f:α->α):∀(u:List α) (x:α),(u++[x]).modify u.length f=u++[f x]
 |[],x=>rfl
 |y::u,x=>by simpa using pD f u x
theorem yC(W:Ask M A E s κ ky S)(hS:∀x∈a₀.toList,S x){Q:Unit->SortSt->Prop}(hk:kindOf st=κ)(hf:failedOf st=none)(hp:pendingOf st=#[])(hpm:(arrOf st).Perm a₀)(h2:2<=a₀.size)
  (q:∀st',(arrOf st').Perm a₀->failedOf st'=none->SG ky (arrOf st') 0 a₀.size->Q () st'):wpS M A E s sortRuns' Q st:=by
 rw[sortRuns'_eq]
 refine aAF (aFJ ?_)
 dsimp only
 rw[hpm.size_eq]
 generalize minRun' a₀.size a₀.size 0=mr
 refine aAF (aCS (aBP
  (I:=λx c st'=>∃lo p,c=(none,lo)/\lo<=a₀.size/\(x<=lo\/lo=a₀.size)/\SI ky κ a₀ st' p lo)
  (Q:=λc st'=>∃p,c=(none,a₀.size)/\SI ky κ a₀ st' p a₀.size) ?step ?fin ⟨0,[],rfl,aCL _,.inl (aAE _),hk,hf,hpm,hp,rfl⟩) ?post)
 case fin =>
  rintro c st' ⟨lo,p,rfl,h1,h2,I⟩
  have:lo=a₀.size:=by lia
  subst this
  exact⟨p,rfl,I⟩
 case step =>
  rintro x c st1 _ hx ⟨lo,p,rfl,h1,h2,I⟩
  dsimp only
  by_cases hge:lo>=a₀.size
  ·rw[aAH hge]
   have:lo=a₀.size:=by lia
   subst this
   exact aAJ ⟨p,rfl,I⟩
  rw[aAI hge]
  have sz:(arrOf st1).size=a₀.size:=I.pm.size_eq
  have hS1:∀x∈(arrOf st1).toList,S x:=λx hx=>hS x ((aCH.mp I.pm).mem_iff.mp hx)
  have rest:∀(st2:SortSt) (n:Nat),RS κ lo (lo+(a₀.size - lo)) st1 st2->1<=n->lo+n<=a₀.size->SG ky (arrOf st2) lo (lo+n) ->
    SI ky κ a₀ st2 p lo/\SG ky (arrOf st2) lo (lo+n):=λst2 n R n1 n2 g =>
   ⟨⟨R.k,R.f,R.pm.trans I.pm,R.pd.trans I.pd,Segs.congr I.sg λk _ hk=>R.out k (.inl hk)⟩,g⟩
  have push:∀(st3:SortSt) (n:Nat) (p3:List (Nat×Nat×Nat)),1<=n->lo+n<=a₀.size->SI ky κ a₀ st3 p3 lo->SG ky (arrOf st3) lo (lo+n) ->
    ∃lo' p',((none,lo+n):Option Unit×Nat)=(none,lo')/\lo'<=a₀.size/\(x+1<=lo'\/lo'=a₀.size)/\SI ky κ a₀ (setPending st3 ((pendingOf st3).push (lo,n,0))) p' lo':=by
   intro st3 n p3 n1 n2 I3 g
   refine⟨lo+n,p3++[(lo,n,0)],rfl,n2,by lia,I3.k,I3.f,I3.pm,?_,Segs.app.mpr ⟨lo,I3.sg,rfl,n1,g,rfl⟩⟩
   show(pendingOf st3).push _=_
   rw[I3.pd];simp
  refine aAF (uE W hS1 (RS.refl I.k I.f) (by lia) (by lia) λm st2 R2 m1 m2 g2=>?_)
  dsimp only
  by_cases hlt:m < mr
  case' pos =>
   rw[aAH hlt]
   refine aAF (aGO (aCO ⟨rfl,?_⟩))
   obtain⟨I1,g1⟩:=rest st2 m R2 m1 (by lia) g2
   have hS2:∀x∈(arrOf st2).toList,S x:=λx hx=>hS x ((aCH.mp I1.pm).mem_iff.mp hx)
   have sz2:(arrOf st2).size=a₀.size:=I1.pm.size_eq
   refine aAF (yE W hS2 (RS.refl I1.k I1.f) (by lia) (by lia) g1 λst3 R3 g=>?_)
   have I2:SI ky κ a₀ st3 p lo:=⟨R3.k,R3.f,R3.pm.trans I1.pm,R3.pd.trans I1.pd,Segs.congr I1.sg λk _ hk=>R3.out k (.inl hk)⟩
   simp only[aFR,aAS,aBU]
   generalize hn:min (a₀.size - lo) mr=n at *
   have n1:1<=n:=by lia
   have n2:lo+n<=a₀.size:=by lia
   clear R3 hS2 sz2 I1 g1 R2 g2 rest I hlt hn
  case' neg =>
   rw[aAI hlt]
   obtain⟨I2,g⟩:=rest st2 m R2 m1 (by lia) g2
   have n1:1<=m:=m1
   have n2:lo+m<=a₀.size:=by lia
   clear R2 g2 rest I hlt
   generalize m=n at *
   generalize st2=st3 at *
  all_goals
   refine aAF (aFJ ?_)
   cases hb:(pendingOf st3).back? with
   |none =>
    dsimp only
    refine aAF (aDU (aAJ ?_))
    exact push st3 n p n1 n2 I2 g
   |some b =>
    obtain⟨s1,l1,w1⟩:=b
    dsimp only
    refine aAF (aCS (aBP (I:=λx c st'=>∃p,p≠[]/\c=(none,())/\SI ky κ a₀ st' p lo/\SG ky (arrOf st') lo (lo+n))
     (Q:=λc st'=>∃p,p≠[]/\c=(none,())/\SI ky κ a₀ st' p lo/\SG ky (arrOf st') lo (lo+n)) ?step2 ?fin2 ?init2) ?post2)
    case init2=>exact⟨p,by rintro rfl;rw[I2.pd]at hb;simp at hb,rfl,I2,g⟩
    case fin2=>exact λc st' h=>h
    case step2 =>
     rintro y c st' _ hy ⟨p',pn,rfl,I',g'⟩
     refine aAF (aFJ ?_)
     have e:(pendingOf st').size=p'.length:=by rw[I'.pd];simp
     by_cases h1:(pendingOf st').size > 1
     ·rw[aAH h1]
      have h2:(pendingOf st').size - 2 < (pendingOf st').size:=by lia
      rw[getElem?_pos (pendingOf st') _ h2]
      obtain⟨z1,z2,z3⟩:=(pendingOf st')[(pendingOf st').size - 2]
      dsimp only
      split
      ·exact aAJ ⟨p',pn,rfl,I',g'⟩
      ·refine aAF (pQ W hS I' (by lia) (by lia) λst4 p4 I4 h4 o4=>?_)
       simp only[aFR,aAS,aBU]
       exact aAJ ⟨p4,by rintro rfl;simp at h4;lia,rfl,I4,g'.congr λk hk _=>o4 k hk⟩
     ·rw[aAI h1]
      exact aAJ ⟨p',pn,rfl,I',g'⟩
    case post2 =>
     rintro c st' ⟨p',pn,rfl,I',g'⟩
     refine aAF (aDU ?_)
     refine aAF (aDU (aAJ ?_))
     obtain⟨u,⟨t,l,w⟩,rfl⟩:∃u x,p'=u++[x]:=⟨p'.dropLast,p'.getLast pn,(List.dropLast_concat_getLast pn).symm⟩
     refine push _ n (u++[(t,l,power' a₀.size (2*s1+l1) (2*s1+l1+l1+n) a₀.size)]) n1 n2 ⟨I'.k,I'.f,I'.pm,?_,?_⟩ g'
     ·show Array.modify (pendingOf st') ((pendingOf st').size - 1) (λx=>(x.1,x.2.1,power' a₀.size (2*s1+l1) (2*s1+l1+l1+n) a₀.size))=_
      rw[I'.pd]
      apply Array.ext'
      rw[Array.toList_modify]
      simpa using pD _ u _
     ·exact Segs.app.mpr ((Segs.app.mp I'.sg).imp λm h=>⟨h.1,h.2.1,h.2.2.1,h.2.2.2.1,h.2.2.2.2⟩)
 case post =>
  rintro c st1 ⟨p,rfl,I⟩
  dsimp only
  have e0:=Segs.le I.sg
  refine aAF (aCS (aBP (I:=λx c st2=>∃p,c=(none,())/\SI ky κ a₀ st2 p a₀.size/\p.length+x<=a₀.size+1)
   (Q:=λc st2=>∃p,c=(none,())/\SI ky κ a₀ st2 p a₀.size/\p.length<=1) ?step ?fin ⟨p,rfl,I,by lia⟩) ?post)
  case fin =>
   rintro c st2 ⟨p,rfl,I,h⟩
   exact⟨p,rfl,I,by lia⟩
  case post =>
   rintro c st2 ⟨p,rfl,I,h⟩
   refine aAJ (q st2 I.pm I.f ?_)
   match p,h,I.sg with
   |[],_,e=>exact absurd (show 0=a₀.size from e) (by lia)
   |[(t,n,w)],_,⟨a1,a2,a3,a4⟩ =>
    have a4:0+n=a₀.size:=a4
    rwa[a4]at a3
   |_::_::_,h,_=>simp at h
  case step =>
   rintro x c st2 _ hx ⟨p,rfl,I,h⟩
   refine aAF (aFJ ?_)
   have e:(pendingOf st2).size=p.length:=by rw[I.pd];simp
   by_cases hle:(pendingOf st2).size<=1
   ·rw[aAH hle]
    exact aAJ ⟨p,rfl,I,by lia⟩
   ·rw[aAI hle]
    refine aAF (pQ W hS I (aAE _) (by(repeat' split) <;> lia) λst3 p3 I3 h3 _=>?_)
    simp only[aFR,aAS,aBU]
    exact aAJ ⟨p3,rfl,I3,by lia⟩
end TS
section
open PySem PySem.Spec PyProof.Rows
namespace L2
open TS
variable{prog:Program}{E:Value->Shared->Prop}
theorem xM:Ask (model prog w) A E s oneType' (λp=>numOf p.1) λp=>∃n t,p.1=.int n t:=by
 refine⟨λst x y Q hk ⟨n,t,e1⟩ ⟨m,u,e2⟩ q=>?_⟩
 rw[lt'_eq]
 refine aAF (aFJ ?_)
 rw[hk,keyLt'_oneType,e1,e2]
 refine aAF (aGO (aCZ (oneLt_int ⟨rfl,?_⟩)))
 simp only[e1,e2]at q
 exact aAJ q
theorem yJ{a:Addr}{vs:List Value}{P:PySem.Fin->Shared->Prop}(ho:s.heap.get? a=some (seqObj "list" vs.toArray n))(hI:IntsAre vs ns)(few:vs.length<=sizeLine)
  (h:∀(out:Array Value) (ms:List Int),IntsAre out.toList ms->ms.Perm ns->ms.Pairwise (·<=·)->P (.done (.ret .none)) {s with heap:=sortedHeap s.heap a vs out}) :
  wpAny (model prog w) A (Builtin.«list.sort» ⟨[.ref a],[]⟩) P E s:=by
 by_cases h64:vs.length < 64
 ·exact list_sort_tree ho hI h64 h
 have la:a < s.heap.objs.size:=aAG ho
 obtain⟨c,hc1⟩:∃c,(s.heap.update a (Obj.mapSeq λ_=>(#[]:Array Value))).get? a=some (seqObj "list" #[] c):=⟨_,get?_update_seq ho λ_=>#[]⟩
 have hu:(underway s.heap a vs).get? a=some (seqObj "list" #[] c):=aAB _ (aAB _ hc1)
 have fw:vs.toArray.size<=sizeLine:=by rw[aAK];lia
 rw[list_sort_plain]
 refine aAA (listItems_at ho rfl (aAA (listUpdate_at ho rfl (aAA (seqEpoch_at hc1 rfl (aAA (wpAny_newTuple (aAA (wpAny_newList (aBV ?_) (aCL _))) fw)))) fw (aCL _))))
 show wpAny (model prog w) A _ P E {s with heap:=underway s.heap a vs}
 dsimp only
 have big:¬vs.toArray.size < 2:=by rw[aAK];lia
 rw[aAI big,aAI big]
 obtain⟨v₁,v₂,rest,rfl⟩:∃v₁ v₂ rest,vs=v₁::v₂::rest:=by
  match vs,h64 with
  |[],h=>simp at h
  |[_],h=>simp at h
  |v₁::v₂::rest,_=>exact⟨v₁,v₂,rest,rfl⟩
 rw[keyKind_ints hI]
 generalize hv:v₁::v₂::rest=vs at *
 have ez:(vs.toArray.zip vs.toArray).size=vs.length:=by simp
 refine aAA (aAC (aAA (aCN (yC (a₀:=pairsOf vs) (st:=SortSt.mk' oneType' (vs.toArray.zip vs.toArray) #[] 7 none) (Q:=λ_ st'=>(arrOf st').Perm (pairsOf vs)/\failedOf st'=none/\SG (λp=>numOf p.1) (arrOf st') 0 (pairsOf vs).size)
  xM hI.intKeys rfl rfl rfl (Array.Perm.refl _) (by rw[pairsOf_size];lia) λst' a1 a2 a3=>⟨a1,a2,a3⟩) ?_ λ_ _ e=>e)))
 rintro⟨⟨⟩,st'⟩ s' ⟨rfl,hp,hf,hs⟩
 dsimp only
 obtain⟨ms,b1,b2,b3⟩:=sorted_out hI hp λi j hij hj=>hs i j (aCL _) hij hj
 have hz:((arrOf st').map (·.2)).size<=sizeLine:=by rw[Array.size_map,hp.size_eq,pairsOf_size];lia
 refine aAA (seqEpoch_at hu rfl (aAA (listUpdate_at hu rfl ?_ (aCL _) (Nat.le_succ_of_le hz))))
 rw[hf]
 simp only[bne_self_eq_false,aAS,aBU]
 exact aAC (h _ ms b1 b2 b3)
theorem vM{t:Addr}(it:IsTup s.heap t us.toArray)(hI:IntsAre us ns)(few:us.length<=sizeLine)
  (q:∀(out:Array Value) (ms:List Int),IntsAre out.toList ms->ms.Perm ns->ms.Pairwise (·<=·)->Q (.ref (s.heap.objs.size+1)) {s with heap:=sortedAll s.heap us out}) :
  wpAny (model prog w) A (call (.builtin "sorted") [.ref t]) Q E s:=by
 refine Calls.call_function_entry (id:="sorted") kind_sorted plain_sorted entry_sorted (args_sorted1 (.ref t)) ?_
 unfold Builtin.«sorted»
 refine aAA (m:=checkCount "sorted" 1 1 _) (aAC (aAA (qK it few (aAA (wpAny_newList ?_ few)))))
 generalize eg:(s.heap.push (seqObj "list" #[] 0)).update s.heap.objs.size (Obj.mapSeq (·++us.toArray))=G
 have gz:G.objs.size=s.heap.objs.size+1:=by rw[<- eg,Heap.size_update,size_push']
 have go:(G.push (seqObj "list" us.toArray 0)).get? G.objs.size=some (seqObj "list" us.toArray 0):=aAM _ rfl
 show wpAny _ _ _ _ _ {s with heap:=G.push (seqObj "list" us.toArray 0)}
 refine aAA (aBV (aBQ slot_list_sort ⟨_,go,rfl⟩ entry_list_sort (yJ go hI few λout ms a1 a2 a3=>⟨_,rfl,?_⟩) (args_list_sort _)))
 refine aAC ⟨.ref _,rfl,?_⟩
 have z:=q out ms a1 a2 a3
 unfold sortedAll at z
 rw[eg]at z
 rw[gz]
 exact z
end L2
namespace EV
open L2
variable{K:Frag}
theorem oZ:CallR X (.builtin "sorted") (λxs H Q=>∃p ns,xs=[.ref p]/\SqT X.K H p (ns.map V.int)/\ns.length < 1000000/\∀l,H l=none->Q (.ref l) (upd H l (.lst ((srt ns).map V.int)))):=by
 intro pins s σ H xs us Q I r h
 obtain⟨p,ns,rfl,hq,h64,q⟩:=h
 obtain⟨u,rfl,rx⟩:=vals1 r
 cases rx
 obtain⟨its,r',pl,hz⟩:=I.tuple hq
 have hI:=lF r'
 have hlen:its.length=ns.length:=by have:=r'.length;simpa using this.symm
 refine vM (us:=its) pl hI (by rw[aAY];lia) λout ns' a1 a2 a3=>?_
 have e:=kS a2 a3
 subst e
 obtain⟨c,hc⟩:=sortedAll_at s.heap its out
 refine⟨.ref (s.heap.objs.size+1),_,I.laid (t':=s.toks) (λb o e=>sortedAll_old e) (aEI _) (show ObjOk X.prog X.w _ _ _ (.lst ((srt ns).map V.int))from⟨by rw[aAY];simp[eZ];lia,out.toList,c,jX a1,by simpa using hc⟩),rfl,q _ (I.hok.fresh (aEI _))⟩
noncomputable def cSortTB(ws:List W)(M:Mm):Oc W:=match ws with
 |[w]=>match w with
  |.d (.tup xs)=>match intsOf xs with
   |some ns=>if ns.length < 1000000 then okD (.lst ((srt ns).map .int)) M else .bad
   |none=>.bad
  |_=>.bad
 |_=>.bad
theorem callSortTB(hc:X.calm=true):ClG X K Z (.builtin "sorted") cSortTB:=λhk=>by
 refine⟨_,hk▸oZ,?_⟩
 intro μ H M ws vs Q hr rx p
 match ws,rx,p with
 |[],_,p=>exact p.elim
 |[.ref _],_,p=>exact p.elim
 |[.d x],⟨v,r,e1,e2,e3⟩,p =>
  cases e3;subst e1
  cases x with
  |tup xs =>
   simp only[cSortTB]at p
   cases q2:intsOf xs with
   |none=>rw[q2]at p;exact p.elim
   |some ns =>
    rw[q2]at p
    simp only at p
    split at p
    ·rename_i hz
     simp only[Rw,Rp]at e2
     obtain⟨a,us,rfl,h1,r1⟩:=e2
     have e:=jH q2
     subst e
     have e:=lH r1
     subst e
     exact⟨a,ns,rfl,SqT.of h1,hz,dZ hr Rps.ints p⟩
    ·exact p.elim
  |_=>exact p.elim
 |_::_::_,_,p=>exact p.elim
variable{EX:D->Mm->Prop}{Q:W->Mm->Prop}
theorem gD{ds:List D}(e:ds=ns.map D.int)(hz:ns.length < 1000000)(q:Q (.d (.lst ((srt ns).map D.int))) M):Okx EX (cSortTB [.d (.tup ds)] M) Q:=by
 subst e
 unfold cSortTB
 simp only[lE]
 rw[aAH hz]
 exact aK q
end EV
set_option maxHeartbeats 4000000
end
namespace K11
open PySem L2 EV
noncomputable section
def top(i:Nat):Stmt:=PySem.Challenge.pw_lentshelf_k11_programs_looked_at.main.body.getD i (.Pass ⟨0,0,0,0⟩)
abbrev bX:Stmt:=top 12
abbrev eI:Stmt:=top 15
abbrev bY:Stmt:=top 16
abbrev bE:Stmt:=top 17
abbrev dE:Stmt:=top 19
abbrev cG:Stmt:=top 20
abbrev gH:Stmt:=top 21
abbrev cE:Stmt:=top 22
abbrev bP:Stmt:=top 23
abbrev cF:Stmt:=top 24
abbrev bU:Stmt:=top 25
abbrev bZ:Stmt:=top 26
abbrev bD:Stmt:=top 27
abbrev bG:Stmt:=top 28
abbrev dD:Stmt:=top 29
abbrev bL:Stmt:=top 30
abbrev bI:Stmt:=top 31
abbrev dF:Stmt:=top 32
abbrev cH:Stmt:=top 33
abbrev bV:Stmt:=top 34
abbrev gG:Stmt:=top 35
abbrev cD:Stmt:=inClass (top 3) 0
def b_0:FS :=
 (sSeq (sPar 2 3 (aCons (eV 0) (aCons (e2 pMod (eV 1) (eV 0)) aNil)))
  (sSeq (sAs (eA mkT (aCons (eC (.int 0)) (aCons (eC (.int 1)) aNil))) (gT 2 (gsCons (gN 4) (gsCons (gN 5) gsNil))))
  (sSeq (whileD (EV.tB (e2 pGt (eV 3) (eC (.int 0))))
  (sSeq (sAs (e2 pDiv (eV 2) (eV 3)) (gN 6))
  (sSeq (sPar 2 3 (aCons (eV 3) (aCons (e2 pSub (eV 2) (e2 pMulA (eV 6) (eV 3))) aNil)))
  (sPar 4 5 (aCons (eV 5) (aCons (e2 pSub (eV 4) (e2 pMulA (eV 6) (eV 5))) aNil))))) NW)
  (sSeq (sIf (EV.tB (e2 pNe (eV 2) (eC (.int 1))))
  (sRt (eC .non))
  sNil)
  (sRt (e2 pMod (eV 4) (eV 0)))))))
def eQ:Fn:=fnD 2 7 b_0
theorem pT{ws:List W}(h:ws.length≠2):eQ ws M=.bad:=aAI h
def b_3:FS :=
 (sSeq (sIf (EV.tB (e2 pGt (eA cLen (aCons (eV 0) aNil)) (eC (.int 4))))
  (sRt (eC (.bl false)))
  sNil)
  (sSeq (sAs (eC (.int 0)) (gN 2))
  (sSeq (sFor (iE (eV 0)) (gN 3)
  (sSeq (sIf (EV.tOr (EV.tB (e2 pLt (eV 3) (eV 2))) (EV.tB (e2 pGe (eV 3) (eV 1))))
  (sRt (eC (.bl false)))
  sNil)
  (sAs (eV 3) (gN 2))))
  (sRt (eC (.bl true))))))
def bW:Fn:=fnD 2 4 b_3
theorem fJ{ws:List W}(h:ws.length≠2):bW ws M=.bad:=aAI h
def b_2:FS :=
 (sSeq (sPar 4 5 (aCons (e2 pIx (eV 3) (eC (.int 1))) (aCons (e2 pIx (eV 3) (eC (.int 2))) aNil)))
  (sSeq (sIf (EV.tOr (EV.tNot (EV.tB (e3c pLe pLt (eC (.int 0)) (eV 4) (eV 2)))) (EV.tNot (EV.tB (e3c pLe pLt (eC (.int 0)) (eV 5) (eV 0)))))
  (sRt (eC (.bl false)))
  sNil)
  (sSeq (sIf (EV.tB (e2 pEq (e2 pIx (eV 3) (eC (.int 0))) (eC (.str "scale"))))
  (sRt (e2 pIsNot (eA eQ (aCons (eV 0) (aCons (eV 5) aNil))) (eC .non)))
  sNil)
  (sSeq (sPar 6 7 (aCons (e2 pIx (eV 3) (eC (.int 3))) (aCons (e2 pIx (eV 3) (eC (.int 4))) aNil)))
  (sRt (eAnd (eA bW (aCons (eV 6) (aCons (eV 1) aNil))) (eAnd (eA bW (aCons (eV 7) (aCons (eV 2) aNil))) (e2 pNotIn (eV 4) (eV 7)))))))))
def eN:Fn:=fnD 4 8 b_2
theorem pB{ws:List W}(h:ws.length≠4):eN ws M=.bad:=aAI h
def b_1:FS :=
 (sSeq (sAs (eV 0) (gT 4 (gsCons (gN 1) (gsCons (gN 2) (gsCons (gN 3) (gsCons (gN 4) gsNil))))))
  (sSeq (sIf (EV.tB (e2 pLt (eV 1) (eC (.int 2))))
  (sRaise0 "NoRest")
  sNil)
  (sSeq (sFor (iEnum (eV 4)) (gT 2 (gsCons (gN 5) (gsCons (gN 6) gsNil)))
  (sIf (EV.tNot (tV (eA (nx eN) (aCons (eV 1) (aCons (eV 2) (aCons (eV 3) (aCons (eV 6) aNil)))))))
  (sRaise "NoDeed" "at" (eV 5))
  sNil))
  (sRt (eC (.bl true))))))
def lD:Fn:=fnX 1 7 b_1
theorem yA{ws:List W}(h:ws.length≠1):lD ws M=.bad:=nR h
def b_4:FS :=
 (sSeq (sAs (e2 pAdd (e2 pMulA (eC (.int 7919)) (eV 1)) (eC (.int 11))) (gN 2))
  (sSeq (sIf (EV.tB (e2 pLt (eV 1) (eA cLen (aCons (eV 0) aNil))))
  (sAs (e2 pIx (eV 0) (eV 1)) (gN 2))
  (sIf (EV.tB (e2 pGt (eA cLen (aCons (eV 0) aNil)) (eC (.int 0))))
  (sAs (e2 pAdd (eV 2) (e2 pMulA (e2 pMod (e2 pIx (eV 0) (e2 pMod (eV 1) (eA cLen (aCons (eV 0) aNil)))) (eC (.int 2147483629))) (eC (.int 69623)))) (gN 2))
  sNil))
  (sSeq (sAs (e2 pAdd (e2 pMod (e2 pAdd (e2 pMulA (e2 pMod (eV 2) (eC (.int 2147483629))) (eC (.int 48271))) (e2 pMulA (eC (.int 40692)) (eV 1))) (eC (.int 2147483629))) (eC (.int 1))) (gN 3))
  (sRt (eA mkR (aCons (e2 pIx (eA mkL (aCons (eC (.int 0)) (aCons (eV 2) aNil))) (eA cInt (aCons (e2 pGe (eV 2) (e2 pPow (eC (.int 10)) (eC (.int 18)))) aNil))) (aCons (eV 3) (aCons (eC (.int 0)) aNil))))))))
def kG:Fn:=fnR 2 4 b_4
theorem uG{ws:List W}(h:ws.length≠2):kG ws M=.bad:=aAI h
def b_5:FS :=
 (sSeq (sIf (EV.tB (e2 pGt (e2 pIx (eV 0) (eC (.int 0))) (eC (.int 0))))
  (sSeq (sAs (e2 pMod (e2 pIx (eV 0) (eC (.int 0))) (eV 1)) (gN 2))
  (sSeq (sAs (e2 pDiv (e2 pIx (eV 0) (eC (.int 0))) (eV 1)) (gS (eV 0) (eC (.int 0))))
  (sRt (eV 2))))
  sNil)
  (sSeq (sAs (e2 pAdd (e2 pIx (eV 0) (eC (.int 2))) (eC (.int 1))) (gS (eV 0) (eC (.int 2))))
  (sSeq (sAs (e2 pMod (e2 pMulA (e2 pAdd (e2 pIx (eV 0) (eC (.int 1))) (e2 pMulA (eC (.int 104729)) (e2 pIx (eV 0) (eC (.int 2))))) (eC (.int 69623))) (eC (.int 2147483647))) (gN 3))
  (sSeq (sAs (e2 pAdd (e2 pMod (e2 pAdd (e2 pMulA (eV 3) (eC (.int 48271))) (eC (.int 30103))) (eC (.int 2147483629))) (eC (.int 1))) (gS (eV 0) (eC (.int 1))))
  (sRt (e2 pMod (e2 pDiv (e2 pAdd (e2 pMulA (eV 3) (eC (.int 2147483647))) (e2 pIx (eV 0) (eC (.int 1)))) (eC (.int 8191))) (eV 1)))))))
def aJ:Fn:=fnD 2 4 b_5
theorem aG{ws:List W}(h:ws.length≠2):aJ ws M=.bad:=aAI h
def b_6:FS :=
 (sSeq (sAs (eA aJ (aCons (eV 0) (aCons (eC (.int 6)) aNil))) (gN 1))
  (sSeq (sAs (eInts [2,3,4,5,6,7,8,9,12,16,30,36,49,64,91,97,210,1009,65536,999983,999999,1000000]) (gN 2))
  (sSeq (sAs (e2 pIx (eV 2) (eA aJ (aCons (eV 0) (aCons (eC (.int 22)) aNil)))) (gN 3))
  (sSeq (sIf (EV.tB (e2 pEq (eV 1) (eC (.int 0))))
  (sRt (e2 pAdd (eC (.int 2)) (eA aJ (aCons (eV 0) (aCons (eC (.int 999999)) aNil)))))
  sNil)
  (sSeq (sIf (EV.tB (e2 pLt (eV 1) (eC (.int 3))))
  (sRt (e2 pAdd (eC (.int 2)) (eA aJ (aCons (eV 0) (aCons (eC (.int 11)) aNil)))))
  sNil)
  (sRt (eV 3)))))))
def qC:Fn:=fnD 1 4 b_6
theorem aAl{ws:List W}(h:ws.length≠1):qC ws M=.bad:=aAI h
def b_7:FS :=
 (sSeq (sAs (eA aJ (aCons (eV 0) (aCons (eC (.int 4)) aNil))) (gN 2))
  (sSeq (sIf (EV.tB (e2 pEq (eV 2) (eC (.int 0))))
  (sRt (e2 pIx (eA mkL (aCons (eC (.int 0)) (aCons (e2 pMod (eC (.int 1)) (eV 1)) (aCons (e2 pSub (eV 1) (eC (.int 1))) (aCons (e2 pMod (e2 pSub (eV 1) (eC (.int 2))) (eV 1)) aNil))))) (eA aJ (aCons (eV 0) (aCons (eC (.int 4)) aNil)))))
  sNil)
  (sRt (eA aJ (aCons (eV 0) (aCons (eV 1) aNil))))))
def fW:Fn:=fnD 2 3 b_7
theorem qP{ws:List W}(h:ws.length≠2):fW ws M=.bad:=aAI h
def b_8:FS :=
 (sSeq (whileD (EV.tB (e2 pGt (eV 1) (eC (.int 0))))
  (sPar 0 1 (aCons (eV 1) (aCons (e2 pMod (eV 0) (eV 1)) aNil))) NW)
  (sRt (eV 0)))
def dB:Fn:=fnD 2 2 b_8
theorem iZ{ws:List W}(h:ws.length≠2):dB ws M=.bad:=aAI h
def b_9:FS :=
 (sSeq (sAs (eA aJ (aCons (eV 0) (aCons (eV 1) aNil))) (gN 2))
  (sSeq (whileD (EV.tB (e2 pNe (eA dB (aCons (eV 2) (aCons (eV 1) aNil))) (eC (.int 1))))
  (sAs (e2 pMod (e2 pAdd (eV 2) (eC (.int 1))) (eV 1)) (gN 2)) NW)
  (sRt (eV 2))))
def fV:Fn:=fnD 2 3 b_9
theorem qI{ws:List W}(h:ws.length≠2):fV ws M=.bad:=aAI h
def b_a:FS :=
 (sSeq (sAs (eA aJ (aCons (eV 0) (aCons (eV 3) aNil))) (gN 4))
  (sSeq (sAs (eA aJ (aCons (eV 0) (aCons (eC (.int 5)) aNil))) (gN 5))
  (sSeq (sIf (EV.tB (e2 pEq (eV 5) (eC (.int 0))))
  (sRt (eA mkT (aCons (eC (.str "scale")) (aCons (eV 4) (aCons (eA fV (aCons (eV 0) (aCons (eV 1) aNil))) aNil)))))
  sNil)
  (sSeq (sAs (e2 pMulA (eA aJ (aCons (eV 0) (aCons (e2 pIx (eA mkL (aCons (eC (.int 3)) (aCons (eC (.int 3)) (aCons (eC (.int 5)) aNil)))) (eA aJ (aCons (eV 0) (aCons (eC (.int 3)) aNil)))) aNil))) (eA cInt (aCons (e2 pGt (eV 2) (eC (.int 0))) aNil))) (gN 6))
  (sSeq (sAs (eA cSorted (aCons (eComp [none,some 0,some 2] (iR1 (eV 6)) (gN 0) EV.tYes (eA aJ (aCons (eV 1) (aCons (eV 2) aNil)))) aNil)) (gN 7))
  (sSeq (sAs (eComp [none,some 4] (iR1 (eV 3)) (gN 0) (EV.tB (e2 pNe (eV 0) (eV 1))) (eV 0)) (gN 8))
  (sSeq (sAs (eA mkL aNil) (gN 9))
  (sSeq (sIf (EV.tB (e2 pNe (eV 8) (eA mkL aNil)))
  (sAs (eA cSorted (aCons (eComp [none,some 8,some 0] (iR1 (eA aJ (aCons (eV 0) (aCons (e2 pIx (eA mkL (aCons (eC (.int 2)) (aCons (eC (.int 3)) (aCons (eC (.int 5)) aNil)))) (eA aJ (aCons (eV 0) (aCons (eC (.int 3)) aNil)))) aNil)))) (gN 0) EV.tYes (e2 pIx (eV 1) (eA aJ (aCons (eV 2) (aCons (eA cLen (aCons (eV 1) aNil)) aNil))))) aNil)) (gN 9))
  sNil)
  (sRt (eA mkT (aCons (eC (.str "add")) (aCons (eV 4) (aCons (eA fW (aCons (eV 0) (aCons (eV 1) aNil))) (aCons (eA cTup (aCons (eV 7) aNil)) (aCons (eA cTup (aCons (eV 9) aNil)) aNil)))))))))))))))
def fM:Fn:=fnD 4 10 b_a
theorem sA{ws:List W}(h:ws.length≠4):fM ws M=.bad:=aAI h
def b_b:FS :=
 (sSeq (sAs (eA aJ (aCons (eV 0) (aCons (eC (.int 3)) aNil))) (gN 1))
  (sSeq (sAs (eA qC (aCons (eV 0) aNil)) (gN 2))
  (sRt (eA mkT (aCons (eV 2) (aCons (eA aJ (aCons (eV 0) (aCons (e2 pIx (eA mkL (aCons (eC (.int 4)) (aCons (eC (.int 4)) (aCons (eC (.int 9)) aNil)))) (eV 1)) aNil))) (aCons (e2 pAdd (eC (.int 1)) (eA aJ (aCons (eV 0) (aCons (e2 pIx (eA mkL (aCons (eC (.int 4)) (aCons (eC (.int 4)) (aCons (eC (.int 9)) aNil)))) (eV 1)) aNil)))) aNil)))))))
def eJ:Fn:=fnD 1 3 b_b
theorem pO{ws:List W}(h:ws.length≠1):eJ ws M=.bad:=aAI h
def b_c:FS :=
 (sSeq (sAs (eA mkR aNil) (gN 5))
  (sSeq (sFor (iR1 (eA aJ (aCons (eV 0) (aCons (e2 pAdd (eV 4) (eC (.int 1))) aNil)))) (gN 6)
  (sSeq (sAs (eA aJ (aCons (eV 0) (aCons (eC (.int 4)) aNil))) (gN 7))
  (sSeq (sAs (eA fM (aCons (eV 0) (aCons (eV 1) (aCons (eV 2) (aCons (eV 3) aNil))))) (gN 8))
  (sSeq (sIf (EV.tAnd (EV.tB (e2 pEq (eV 7) (eC (.int 0)))) (EV.tB (e2 pNe (eV 5) (eA mkL aNil))))
  (sAs (e2 pIx (eV 5) (eA aJ (aCons (eV 0) (aCons (eA cLen (aCons (eV 5) aNil)) aNil)))) (gN 8))
  sNil)
  (sEx (eM1 pAppend (eV 5) (eV 8)))))))
  (sRt (eA mkT (aCons (eV 1) (aCons (eV 2) (aCons (eV 3) (aCons (eA cTup (aCons (eV 5) aNil)) aNil))))))))
def cC:Fn:=fnD 5 9 b_c
theorem jE{ws:List W}(h:ws.length≠5):cC ws M=.bad:=aAI h
def b_d:FS :=
 (sSeq (sIf (EV.tOr (EV.tNot (EV.tB (e3c pLe pLt (eC (.int 0)) (e2 pIx (eV 3) (eC (.int 1))) (eV 2)))) (EV.tNot (EV.tB (e3c pLe pLt (eC (.int 0)) (e2 pIx (eV 3) (eC (.int 2))) (eV 0)))))
  (sRt (eC (.bl true)))
  sNil)
  (sSeq (sIf (EV.tB (e2 pEq (e2 pIx (eV 3) (eC (.int 0))) (eC (.str "scale"))))
  (sRt (e2 pNe (eA dB (aCons (e2 pIx (eV 3) (eC (.int 2))) (aCons (eV 0) aNil))) (eC (.int 1))))
  sNil)
  (sSeq (sFor (iE (eA mkL (aCons (eA mkT (aCons (e2 pIx (eV 3) (eC (.int 3))) (aCons (eV 1) aNil))) (aCons (eA mkT (aCons (e2 pIx (eV 3) (eC (.int 4))) (aCons (eV 2) aNil))) aNil)))) (gT 2 (gsCons (gN 4) (gsCons (gN 5) gsNil)))
  (sSeq (sIf (EV.tOr (EV.tB (e2 pGt (eA cLen (aCons (eV 4) aNil)) (eC (.int 4)))) (EV.tB (e2 pNe (eA cList (aCons (eV 4) aNil)) (eA cSortTB (aCons (eV 4) aNil)))))
  (sRt (eC (.bl true)))
  sNil)
  (sIf (EV.tB (e2 pGt (eA cLen (aCons (eComp [none,some 5] (iE (eV 4)) (gN 0) (EV.tOr (EV.tB (e2 pLt (eV 0) (eC (.int 0)))) (EV.tB (e2 pGe (eV 0) (eV 1)))) (eV 0)) aNil)) (eC (.int 0))))
  (sRt (eC (.bl true)))
  sNil)))
  (sRt (e2 pIn (e2 pIx (eV 3) (eC (.int 1))) (e2 pIx (eV 3) (eC (.int 4))))))))
def cV:Fn:=fnD 4 6 b_d
theorem lL{ws:List W}(h:ws.length≠4):cV ws M=.bad:=aAI h
def b_e:FS :=
 (sSeq (sAs (eA mkL (aCons (e2 pSub (eC (.int 0)) (eC (.int 1))) (aCons (eV 1) (aCons (e2 pSub (eV 1) (eC (.int 1))) (aCons (eC (.int 0)) (aCons (e2 pAdd (eV 1) (eA aJ (aCons (eV 0) (aCons (e2 pPow (eC (.int 10)) (eC (.int 6))) aNil)))) (aCons (e2 pSub (e2 pSub (eC (.int 0)) (eC (.int 1))) (eA aJ (aCons (eV 0) (aCons (e2 pPow (eC (.int 10)) (eC (.int 6))) aNil)))) aNil))))))) (gN 2))
  (sRt (e2 pIx (eV 2) (eA aJ (aCons (eV 0) (aCons (eC (.int 6)) aNil))))))
def fA:Fn:=fnD 2 3 b_e
theorem jQ{ws:List W}(h:ws.length≠2):fA ws M=.bad:=aAI h
def b_f:FS :=
 (sSeq (sPar 4 5 (aCons (eA aJ (aCons (eV 0) (aCons (eC (.int 6)) aNil))) (aCons (eA aJ (aCons (eV 0) (aCons (e2 pAdd (eA cLen (aCons (eV 1) aNil)) (eC (.int 1))) aNil))) aNil)))
  (sSeq (sIf (EV.tB (e2 pEq (eV 4) (eC (.int 0))))
  (sRt (e2 pAdd (e2 pAdd (eSl (eV 1) oNo (oAt (eV 5))) (eA mkT (aCons (eA fA (aCons (eV 0) (aCons (eV 2) aNil))) aNil))) (eSl (eV 1) (oAt (eV 5)) oNo)))
  sNil)
  (sSeq (sIf (EV.tB (e2 pEq (eV 4) (eC (.int 1))))
  (sRt (e1 cTupRev (eV 1)))
  sNil)
  (sSeq (sIf (EV.tB (e2 pEq (eV 4) (eC (.int 2))))
  (sRt (eSl (eA cTup (aCons (eA cSortTB (aCons (e2 pAdd (e2 pMulA (eV 1) (eC (.int 12))) (e2 pMulA (eA mkT (aCons (eA cMax2 (aCons (eC (.int 0)) (aCons (e2 pSub (eV 2) (eC (.int 1))) aNil))) aNil)) (eC (.int 12)))) aNil)) aNil)) oNo (oAt (e2 pAdd (eC (.int 5)) (eA aJ (aCons (eV 0) (aCons (eC (.int 8)) aNil)))))))
  sNil)
  (sSeq (sIf (EV.tB (e2 pEq (eV 4) (eC (.int 3))))
  (sRt (eA cTup (aCons (eA cSortTB (aCons (e2 pAdd (eV 1) (eA mkT (aCons (eV 3) aNil))) aNil)) aNil)))
  sNil)
  (sSeq (sIf (EV.tB (e2 pEq (eV 4) (eC (.int 4))))
  (sRt (eA cTup (aCons (eA cSortTB (aCons (e2 pAdd (eV 1) (eA mkT (aCons (eA aJ (aCons (eV 0) (aCons (eA cMax2 (aCons (eC (.int 1)) (aCons (eV 2) aNil))) aNil))) aNil))) aNil)) aNil)))
  sNil)
  (sRt (e2 pAdd (eSl (eV 1) oNo (oAt (eV 5))) (eSl (eV 1) (oAt (e2 pAdd (eV 5) (eC (.int 1)))) oNo)))))))))
def cM:Fn:=fnD 4 6 b_f
theorem gF{ws:List W}(h:ws.length≠4):cM ws M=.bad:=aAI h
def b_10:FS :=
 (sSeq (sAs (eA aJ (aCons (eV 0) (aCons (eC (.int 5)) aNil))) (gN 5))
  (sSeq (sIf (EV.tB (e2 pEq (eV 5) (eC (.int 0))))
  (sRt (e2 pAdd (e2 pAdd (eSl (eV 4) oNo (oAt (eC (.int 1)))) (eA mkT (aCons (eA fA (aCons (eV 0) (aCons (eV 3) aNil))) aNil))) (eSl (eV 4) (oAt (eC (.int 2))) oNo)))
  sNil)
  (sSeq (sIf (EV.tB (e2 pEq (eV 5) (eC (.int 1))))
  (sRt (e2 pAdd (e2 pAdd (eSl (eV 4) oNo (oAt (eC (.int 2)))) (eA mkT (aCons (eA fA (aCons (eV 0) (aCons (eV 1) aNil))) aNil))) (eSl (eV 4) (oAt (eC (.int 3))) oNo)))
  sNil)
  (sSeq (sIf (EV.tB (e2 pEq (e2 pIx (eV 4) (eC (.int 0))) (eC (.str "scale"))))
  (sRt (eA mkT (aCons (eC (.str "scale")) (aCons (e2 pIx (eV 4) (eC (.int 1))) (aCons (eA aJ (aCons (eV 0) (aCons (eV 1) aNil))) aNil)))))
  sNil)
  (sSeq (sIf (EV.tB (e2 pEq (eV 5) (eC (.int 2))))
  (sRt (e2 pAdd (e2 pAdd (eSl (eV 4) oNo (oAt (eC (.int 3)))) (eA mkT (aCons (eA cM (aCons (eV 0) (aCons (e2 pIx (eV 4) (eC (.int 3))) (aCons (eV 2) (aCons (eC (.int 0)) aNil))))) aNil))) (eSl (eV 4) (oAt (eC (.int 4))) oNo)))
  sNil)
  (sRt (e2 pAdd (eSl (eV 4) oNo (oAt (eC (.int 4)))) (eA mkT (aCons (eA cM (aCons (eV 0) (aCons (e2 pIx (eV 4) (eC (.int 4))) (aCons (eV 3) (aCons (e2 pIx (eV 4) (eC (.int 1))) aNil))))) aNil)))))))))
def cW:Fn:=fnD 5 6 b_10
theorem kT{ws:List W}(h:ws.length≠5):cW ws M=.bad:=aAI h
def b_11:FS :=
 (sSeq (sAs (eV 0) (gT 4 (gsCons (gN 1) (gsCons (gN 2) (gsCons (gN 3) (gsCons (gN 4) gsNil))))))
  (sSeq (sIf (EV.tB (e2 pLt (eV 1) (eC (.int 2))))
  (sRt (eA mkT (aCons (eC (.str "rest")) (aCons (eC (.int 0)) aNil))))
  sNil)
  (sSeq (sFor (iEnum (eV 4)) (gT 2 (gsCons (gN 5) (gsCons (gN 6) gsNil)))
  (sIf (tV (eA cV (aCons (eV 1) (aCons (eV 2) (aCons (eV 3) (aCons (eV 6) aNil))))))
  (sRt (eA mkT (aCons (eC (.str "deed")) (aCons (eV 5) aNil))))
  sNil))
  (sRt (eA mkT (aCons (eC (.str "let by")) (aCons (eC (.bl true)) aNil)))))))
def hW:Fn:=fnD 1 7 b_11
theorem uR{ws:List W}(h:ws.length≠1):hW ws M=.bad:=aAI h
def b_12:FS :=
 (sSeq (sAs (eC .non) (gN 1))
  (sSeq (sTryAs 2 "LentError" (sAs (eA mkT (aCons (noX (eC (.str "let by"))) (aCons (eA lD (aDef (noX (aCons (eV 0) aNil)) [])) aNil))) (gN 1))
  (sSeq (sAs (eA mkT (aCons (eC (.str "other")) (aCons (eC (.int 0)) aNil))) (gN 1))
  (sSeq (sAs (e1 (pIsX ["BadText","NoInverse","NoMove","NoPaper","NoRoot","NoRow","TooMany"]) (eV 2)) (gN 3))
  (sIf (EV.tAnd (EV.tNot (tV (eV 3))) (EV.tAnd (tV (e1 (pIsX ["ValueError"]) (eV 2))) (EV.tB (e2 pNe (e1 (pIsX ["NoRest"]) (eV 2)) (e1 (pIsX ["NoDeed"]) (eV 2))))))
  (sSeq (sAs (eA mkT (aCons (eC (.str "rest")) (aCons (eC (.int 0)) aNil))) (gN 1))
  (sIf (tV (e1 (pIsX ["NoDeed"]) (eV 2)))
  (sAs (eA mkT (aCons (eC (.str "deed")) (aCons (e1 (pFld "at") (eV 2)) aNil))) (gN 1))
  sNil))
  sNil))))
  (sRt (eV 1))))
def fL:Fn:=fnX 1 4 b_12
theorem qW{ws:List W}(h:ws.length≠1):fL ws M=.bad:=nR h
def b_13:FS :=
 (sSeq (sPar 1 2 (aCons (eA fL (aCons (eV 0) aNil)) (aCons (eA (nx hW) (aCons (eV 0) aNil)) aNil)))
  (sRt (eAnd (e2 pEq (eV 1) (eV 2)) (e2 pEq (e1 (pIsI "bool") (e2 pIx (eV 1) (eC (.int 1)))) (e2 pEq (e2 pIx (eV 2) (eC (.int 0))) (eC (.str "let by")))))))
def dA:Fn:=fnX 1 3 b_13
theorem fQ{ws:List W}(h:ws.length≠1):dA ws M=.bad:=nR h
def b_14:FS :=
 (sSeq (sFor (iR1 (eA cMax2 (aCons (eC (.int 2)) (aCons (eA cMin2 (aCons (eC (.int 8)) (aCons (eA cLen (aCons (eV 0) aNil)) aNil))) aNil)))) (gN 1)
  (sSeq (sAs (eA (nx kG) (aCons (eV 0) (aCons (eV 1) aNil))) (gN 2))
  (sSeq (sAs (eA (nx eJ) (aCons (eV 2) aNil)) (gT 3 (gsCons (gN 3) (gsCons (gN 4) (gsCons (gN 5) gsNil)))))
  (sSeq (sAs (eA (nx cC) (aCons (eV 2) (aCons (eV 3) (aCons (eV 4) (aCons (eV 5) (aCons (eC (.int 12)) aNil)))))) (gN 6))
  (sSeq (sAs (eA cInt (aCons (eAnd (e2 pEq (eV 1) (eC (.int 0))) (e2 pEq (eA (nx aJ) (aCons (eV 2) (aCons (eC (.int 8)) aNil))) (eC (.int 0)))) aNil)) (gN 7))
  (sSeq (sAs (e2 pAdd (eSl (eV 6) oNo (oAt (eC (.int 3)))) (eA mkT (aCons (e2 pMulA (e2 pIx (eV 6) (eC (.int 3))) (e2 pIx (eA mkL (aCons (eC (.int 1)) (aCons (eC (.int 40)) aNil))) (eV 7))) aNil))) (gN 6))
  (sSeq (sAs (eA cListR (aCons (e2 pIx (eV 6) (eC (.int 3))) aNil)) (gN 8))
  (sSeq (sPar 9 10 (aCons (eA (nx aJ) (aCons (eV 2) (aCons (eC (.int 2)) aNil))) (aCons (eC (.int 0)) aNil)))
  (sSeq (sFor (iR1 (e2 pMulA (eA (nx aJ) (aCons (eV 2) (aCons (eC (.int 4)) aNil))) (eA cInt (aCons (e2 pNe (eV 8) (eA mkL aNil)) aNil)))) (gN 11)
  (sSeq (sIf (EV.tOr (EV.tB (e2 pEq (eV 11) (eC (.int 0)))) (EV.tB (e2 pEq (eV 9) (eC (.int 0)))))
  (sAs (eA cMax2 (aCons (eA (nx aJ) (aCons (eV 2) (aCons (eA cLen (aCons (eV 8) aNil)) aNil))) (aCons (e2 pMulA (e2 pSub (eA cLen (aCons (eV 8) aNil)) (eC (.int 1))) (eV 7)) aNil))) (gN 10))
  sNil)
  (sAs (eA (nx cW) (aCons (eV 2) (aCons (eV 3) (aCons (eV 4) (aCons (eV 5) (aCons (e2 pIx (eV 8) (eV 10)) aNil)))))) (gS (eV 8) (eV 10)))))
  (sSeq (sIf (EV.tB (e2 pEq (eA (nx aJ) (aCons (eV 2) (aCons (eC (.int 8)) aNil))) (eC (.int 0))))
  (sAs (e2 pSub (eC (.int 1)) (eA (nx aJ) (aCons (eV 2) (aCons (e2 pIx (eA mkL (aCons (eC (.int 4)) (aCons (e2 pPow (eC (.int 10)) (eC (.int 6))) aNil))) (eA (nx aJ) (aCons (eV 2) (aCons (eC (.int 2)) aNil)))) aNil)))) (gN 3))
  sNil)
  (sSeq (sAs (eA mkT (aCons (eV 3) (aCons (eV 4) (aCons (eV 5) (aCons (eA cTup (aCons (eV 8) aNil)) aNil))))) (gN 12))
  (sIf (EV.tOr (EV.tNot (tV (eA dA (aCons (eV 12) aNil)))) (EV.tOr (EV.tNot (tV (eA dA (aCons (eV 6) aNil)))) (EV.tNot (tV (eA dA (aCons (eV 12) aNil))))))
  (sRt (eC (.bl false)))
  sNil))))))))))))
  (sRt (eC (.bl true))))
def kW:Fn:=fnX 1 13 b_14
end
set_option genInjectivity false in
set_option genSizeOf false in
structure Adr where
 a_0:Addr
 d_0:FuncData
 a_1:Addr
 d_1:FuncData
 a_2:Addr
 d_2:FuncData
 a_3:Addr
 d_3:FuncData
 a_4:Addr
 d_4:FuncData
 a_5:Addr
 d_5:FuncData
 a_6:Addr
 d_6:FuncData
 a_7:Addr
 d_7:FuncData
 a_8:Addr
 d_8:FuncData
 a_9:Addr
 d_9:FuncData
 a_a:Addr
 d_a:FuncData
 a_b:Addr
 d_b:FuncData
 a_c:Addr
 d_c:FuncData
 a_d:Addr
 d_d:FuncData
 a_e:Addr
 d_e:FuncData
 a_f:Addr
 d_f:FuncData
 a_10:Addr
 d_10:FuncData
 a_11:Addr
 d_11:FuncData
 a_12:Addr
 d_12:FuncData
 a_13:Addr
 d_13:FuncData
 a_14:Addr
 d_14:FuncData
 e_LentError:Addr
 e_BadText:Addr
 e_NoDeed:Addr
 j_NoDeed:Addr
 g_NoDeed:FuncData
 e_NoInverse:Addr
 e_NoMove:Addr
 e_NoPaper:Addr
 e_NoRest:Addr
 e_NoRoot:Addr
 e_NoRow:Addr
 e_TooMany:Addr
 t_MOST_FACTORS:Tok
structure Tx(K:Frag)(mg:Str->Option Value)(a:Adr):Prop where
 f_0:Fun K "inverse" "inverse" bX a.a_0 a.d_0
 b_0:Binds K a.d_0 ["n","k"] []
 k_0:keepIn K (.ref a.a_0)=true
 m_0:mg "inverse"=some (.ref a.a_0)
 f_1:Fun K "look" "look" eI a.a_1 a.d_1
 b_1:Binds K a.d_1 ["program"] []
 k_1:keepIn K (.ref a.a_1)=true
 m_1:mg "look"=some (.ref a.a_1)
 f_2:Fun K "is_deed" "is_deed" bY a.a_2 a.d_2
 b_2:Binds K a.d_2 aHD []
 k_2:keepIn K (.ref a.a_2)=true
 m_2:mg "is_deed"=some (.ref a.a_2)
 f_3:Fun K "are_factors" "are_factors" bE a.a_3 a.d_3
 b_3:Binds K a.d_3 aHE []
 k_3:keepIn K (.ref a.a_3)=true
 m_3:mg "are_factors"=some (.ref a.a_3)
 f_4:Fun K "_law_box" "_law_box" dE a.a_4 a.d_4
 b_4:Binds K a.d_4 aHF []
 k_4:keepIn K (.ref a.a_4)=true
 m_4:mg "_law_box"=some (.ref a.a_4)
 f_5:Fun K "_law_take" "_law_take" cG a.a_5 a.d_5
 b_5:Binds K a.d_5 aHG []
 k_5:keepIn K (.ref a.a_5)=true
 m_5:mg "_law_take"=some (.ref a.a_5)
 f_6:Fun K "_law_n" "_law_n" gH a.a_6 a.d_6
 b_6:Binds K a.d_6 aHH []
 k_6:keepIn K (.ref a.a_6)=true
 m_6:mg "_law_n"=some (.ref a.a_6)
 f_7:Fun K "_law_rest" "_law_rest" cE a.a_7 a.d_7
 b_7:Binds K a.d_7 aHI []
 k_7:keepIn K (.ref a.a_7)=true
 m_7:mg "_law_rest"=some (.ref a.a_7)
 f_8:Fun K "_law_shared" "_law_shared" bP a.a_8 a.d_8
 b_8:Binds K a.d_8 aHJ []
 k_8:keepIn K (.ref a.a_8)=true
 m_8:mg "_law_shared"=some (.ref a.a_8)
 f_9:Fun K "_law_unit" "_law_unit" cF a.a_9 a.d_9
 b_9:Binds K a.d_9 aHI []
 k_9:keepIn K (.ref a.a_9)=true
 m_9:mg "_law_unit"=some (.ref a.a_9)
 f_a:Fun K "_law_deed" "_law_deed" bU a.a_a a.d_a
 b_a:Binds K a.d_a aHK []
 k_a:keepIn K (.ref a.a_a)=true
 m_a:mg "_law_deed"=some (.ref a.a_a)
 f_b:Fun K "_law_sizes" "_law_sizes" bZ a.a_b a.d_b
 b_b:Binds K a.d_b aHH []
 k_b:keepIn K (.ref a.a_b)=true
 m_b:mg "_law_sizes"=some (.ref a.a_b)
 f_c:Fun K "_law_program_by" "_law_program_by" bD a.a_c a.d_c
 b_c:Binds K a.d_c aHL []
 k_c:keepIn K (.ref a.a_c)=true
 m_c:mg "_law_program_by"=some (.ref a.a_c)
 f_d:Fun K "_law_bad_deed" "_law_bad_deed" bG a.a_d a.d_d
 b_d:Binds K a.d_d aHM []
 k_d:keepIn K (.ref a.a_d)=true
 m_d:mg "_law_bad_deed"=some (.ref a.a_d)
 f_e:Fun K "_law_odd" "_law_odd" dD a.a_e a.d_e
 b_e:Binds K a.d_e aHG []
 k_e:keepIn K (.ref a.a_e)=true
 m_e:mg "_law_odd"=some (.ref a.a_e)
 f_f:Fun K "_law_odd_row" "_law_odd_row" bL a.a_f a.d_f
 b_f:Binds K a.d_f aHN []
 k_f:keepIn K (.ref a.a_f)=true
 m_f:mg "_law_odd_row"=some (.ref a.a_f)
 f_10:Fun K "_law_odd_deed" "_law_odd_deed" bI a.a_10 a.d_10
 b_10:Binds K a.d_10 aHO []
 k_10:keepIn K (.ref a.a_10)=true
 m_10:mg "_law_odd_deed"=some (.ref a.a_10)
 f_11:Fun K "_law_due" "_law_due" dF a.a_11 a.d_11
 b_11:Binds K a.d_11 aHP []
 k_11:keepIn K (.ref a.a_11)=true
 m_11:mg "_law_due"=some (.ref a.a_11)
 f_12:Fun K "_law_told" "_law_told" cH a.a_12 a.d_12
 b_12:Binds K a.d_12 aHP []
 k_12:keepIn K (.ref a.a_12)=true
 m_12:mg "_law_told"=some (.ref a.a_12)
 f_13:Fun K "_law_right" "_law_right" bV a.a_13 a.d_13
 b_13:Binds K a.d_13 aHP []
 k_13:keepIn K (.ref a.a_13)=true
 m_13:mg "_law_right"=some (.ref a.a_13)
 f_14:Fun K "law" "law" gG a.a_14 a.d_14
 b_14:Binds K a.d_14 aHQ []
 k_14:keepIn K (.ref a.a_14)=true
 m_14:mg "law"=some (.ref a.a_14)
 nm_LentError:nsIn K mainGlobals "LentError"=some (some (.ref a.e_LentError))
 m_LentError:mg "LentError"=some (.ref a.e_LentError)
 le:LeF K a.e_LentError
 xc_BadText:Xc K "BadText" a.e_BadText a.e_LentError
 m_BadText:mg "BadText"=some (.ref a.e_BadText)
 xc_NoDeed:Xc K "NoDeed" a.e_NoDeed a.e_LentError
 m_NoDeed:mg "NoDeed"=some (.ref a.e_NoDeed)
 fi_NoDeed:Fun K "__init__" "NoDeed.__init__" cD a.j_NoDeed a.g_NoDeed
 bi_NoDeed:Binds K a.g_NoDeed aHR []
 ti_NoDeed:PySem.W.typeIn K (.ref a.j_NoDeed)=some (.type "function")
 nf_NoDeed:PySem.W.findIn K (.ref a.e_NoDeed) "at"=some none
 sa_NoDeed:PySem.W.findIn K (.ref a.e_NoDeed) "__setattr__"=some (some (.builtin "object.__setattr__"))
 xb_NoDeed:xcB K a.e_NoDeed (.ref a.e_LentError::vb) (some (.ref a.j_NoDeed))=true
 kc_NoDeed:keepIn K (.ref a.e_NoDeed)=true
 xc_NoInverse:Xc K "NoInverse" a.e_NoInverse a.e_LentError
 m_NoInverse:mg "NoInverse"=some (.ref a.e_NoInverse)
 xc_NoMove:Xc K "NoMove" a.e_NoMove a.e_LentError
 m_NoMove:mg "NoMove"=some (.ref a.e_NoMove)
 xc_NoPaper:Xc K "NoPaper" a.e_NoPaper a.e_LentError
 m_NoPaper:mg "NoPaper"=some (.ref a.e_NoPaper)
 xc_NoRest:Xc K "NoRest" a.e_NoRest a.e_LentError
 m_NoRest:mg "NoRest"=some (.ref a.e_NoRest)
 xb_NoRest:xcB K a.e_NoRest (.ref a.e_LentError::vb) none=true
 kc_NoRest:keepIn K (.ref a.e_NoRest)=true
 xc_NoRoot:Xc K "NoRoot" a.e_NoRoot a.e_LentError
 m_NoRoot:mg "NoRoot"=some (.ref a.e_NoRoot)
 xc_NoRow:Xc K "NoRow" a.e_NoRow a.e_LentError
 m_NoRow:mg "NoRow"=some (.ref a.e_NoRow)
 xc_TooMany:Xc K "TooMany" a.e_TooMany a.e_LentError
 m_TooMany:mg "TooMany"=some (.ref a.e_TooMany)
 v_MOST_FACTORS:mg "MOST_FACTORS"=some (.int 4 a.t_MOST_FACTORS)
 z_ValueError:mg "ValueError"=none
 z_bool:mg "bool"=none
 z_enumerate:mg "enumerate"=none
 z_int:mg "int"=none
 z_isinstance:mg "isinstance"=none
 z_len:mg "len"=none
 z_list:mg "list"=none
 z_max:mg "max"=none
 z_min:mg "min"=none
 z_range:mg "range"=none
 z_reversed:mg "reversed"=none
 z_sorted:mg "sorted"=none
 z_tuple:mg "tuple"=none
theorem rX:FnScope aHR aHR (defScope cD):=by constructor<;>first|rfl|decide +kernel
theorem cJ:FnScope ["n","k","high","low","past","now","times"] ["n","k"] (defScope bX):=by constructor<;>first|rfl|decide +kernel
theorem fH:FnScope ["program","n","givens","shelves","deeds","at","deed"] ["program"] (defScope eI):=by constructor<;>first|rfl|decide +kernel
theorem gR:FnScope ["n","givens","shelves","deed","shelf","number","gs","ts"] aHD (defScope bY):=by constructor<;>first|rfl|decide +kernel
theorem cX:FnScope ["numbers","many","least","number"] aHE (defScope bE):=by constructor<;>first|rfl|decide +kernel
theorem fT:FnScope ["_law_script","_law_k","_law_cell","_law_seed"] aHF (defScope dE):=by constructor<;>first|rfl|decide +kernel
theorem jU:FnScope ["_law_box_here","_law_many","_law_digit","_law_one"] aHG (defScope cG):=by constructor<;>first|rfl|decide +kernel
theorem oH:FnScope ["_law_box_here","_law_mode","_law_some","_law_number"] aHH (defScope gH):=by constructor<;>first|rfl|decide +kernel
theorem mL:FnScope ["_law_box_here","_law_n_here","_law_mode"] aHI (defScope cE):=by constructor<;>first|rfl|decide +kernel
theorem jW:FnScope aHJ aHJ (defScope bP):=by constructor<;>first|rfl|decide +kernel
theorem jP:FnScope ["_law_box_here","_law_n_here","_law_u"] aHI (defScope cF):=by constructor<;>first|rfl|decide +kernel
theorem cN:FnScope aHS aHK (defScope bU):=by constructor<;>first|rfl|decide +kernel
theorem gQ:FnScope ["_law_box_here","_law_wide","_law_n_here"] aHH (defScope bZ):=by constructor<;>first|rfl|decide +kernel
theorem bN:FnScope ["_law_box_here","_law_n_here","_law_givens","_law_shelves","_law_most","_law_deeds","_law_k","_law_mode","_law_deed_here"] aHL (defScope bD):=by constructor<;>first|rfl|decide +kernel
theorem eF:FnScope aHT aHM (defScope bG):=by constructor<;>first|rfl|decide +kernel
theorem qG:FnScope ["_law_box_here","_law_many","_law_some"] aHG (defScope dD):=by constructor<;>first|rfl|decide +kernel
theorem jA:FnScope ["_law_box_here","_law_numbers","_law_many","_law_own","_law_way","_law_at"] aHN (defScope bL):=by constructor<;>first|rfl|decide +kernel
theorem gE:FnScope ["_law_box_here","_law_n_here","_law_givens","_law_shelves","_law_deed_here","_law_way"] aHO (defScope bI):=by constructor<;>first|rfl|decide +kernel
theorem dU:FnScope ["_law_program","_law_n_here","_law_givens","_law_shelves","_law_deeds","_law_at","_law_deed_here"] aHP (defScope dF):=by constructor<;>first|rfl|decide +kernel
theorem cO:FnScope ["_law_program","_law_found","e","_law_others"] aHP (defScope cH):=by constructor<;>first|rfl|decide +kernel
theorem kP:FnScope ["_law_program","_law_found","_law_due_here"] aHP (defScope bV):=by constructor<;>first|rfl|decide +kernel
theorem cK:FnScope ["_law_script","_law_k","_law_box_here","_law_n_here","_law_givens","_law_shelves","_law_good","_law_long","_law_deeds","_law_again","_law_at","_law_turn","_law_odd_here"] aHQ (defScope gG):=by constructor<;>first|rfl|decide +kernel
variable{K:Frag}{a:Adr}
theorem kQ(T:Tx K mg a):FnOk P w K mg base (CX1 P w) 1 a.j_NoDeed a.g_NoDeed aHR (spXI a.e_NoDeed "at"):=by
 obtain⟨cd,hc,_,hm⟩:=T.xc_NoDeed.cd
 exact aAc T.fi_NoDeed rX λcdv A outer s H E=>oU (tS (xZ T.le T.m_LentError T.xb_NoDeed (bQ (pv 0) (bQ xD dH)))) (tX (aAr hc hm (aGv T.xc_NoDeed hc) T.sa_NoDeed T.nf_NoDeed (pv 0) (pv 1)))
theorem qM(T:Tx K mg a):FnOk P w K mg base CX0 1 a.a_0 a.d_0 ["n","k"] (spF K Z0 2 eQ) :=
 dL (k:=0) T.f_0 cJ λcdv A outer s H E hr=>show Ess _ K Z0 (defBody bX) b_0 from
  (aE (fB (i:=2) (j:=3) rfl cJ.nd (aA (aB 0) (aA (aM opMod (aB 1) (aB 0)) aD)))
  (aE (fK (bJ (aA aC (aA aC aD))) (gP rfl (bF (bA (i:=4) cJ.nd) (bF (bA (i:=5) cJ.nd) eY))))
  (aE (lN NW PassesOwn.never (aV opGt (aB 3) aC (nomark _))
  (aE (aT (i:=6) cJ.nd (aM opDiv (aB 2) (aB 3)))
  (aE (fB (i:=2) (j:=3) rfl cJ.nd (aA (aB 3) (aA (aM opSub (aB 2) (aM opMulA (aB 6) (aB 3))) aD)))
  (aF (fB (i:=4) (j:=5) rfl cJ.nd (aA (aB 5) (aA (aM opSub (aB 4) (aM opMulA (aB 6) (aB 5))) aD)))))))
  (aE (bH (aV (opNe (aW hr)) (aB 2) aC (nomark _))
  (aF (aQ qU))
  aR)
  (aF (aQ (aM opMod (aB 4) (aB 0))))))))
theorem fO(T:Tx K mg a):FnOk P w K mg base CX0 1 a.a_3 a.d_3 aHE (spF K Z0 2 bW) :=
 dL (k:=0) T.f_3 cX λcdv A outer s H E hr=>show Ess _ K Z0 (defBody bE) b_3 from
  (aE (bH (aV opGt (aY callLen rfl T.z_len aCB (aA (aB 0) aD)) (aFp T.v_MOST_FACTORS) (nomark _))
  (aF (aQ fP))
  aR)
  (aE (aT (i:=2) cX.nd aC)
  (aE (hV PassesOwn.never rfl (aEh (aB 0)) (bA (i:=3) cX.nd)
  (aE (bH (nM (jY (aV opLt (aB 3) (aB 2) (nomark _)) (gU (aV opGe (aB 3) (aB 1) (nomark _)))))
  (aF (aQ fP))
  aR)
  (aF (aT (i:=2) cX.nd (aB 3)))))
  (aF (aQ fP)))))
theorem rW(T:Tx K mg a):FnOk P w K mg base CX0 2 a.a_2 a.d_2 aHD (spF K Z0 4 eN) :=
 dL (k:=1) T.f_2 gR λcdv A outer s H E hr=>show Ess _ K Z0 (defBody bY) b_2 from
  (aE (fB (i:=4) (j:=5) rfl gR.nd (aA (bB (aB 3) aC) (aA (bB (aB 3) aC) aD)))
  (aE (bH (nM (jY (fE (hZ opLe opLt aC (aB 4) (aB 2))) (gU (fE (hZ opLe opLt aC (aB 5) (aB 0))))))
  (aF (aQ fP))
  aR)
  (aE (bH (aV (opEq (aW hr)) (bB (aB 3) aC) cQ (nomark _))
  (aF (aQ (dI opIsNot (aO ((qM T).mono (by lia)) hr T.m_0 T.k_0 T.b_0 (aA (aB 0) (aA (aB 5) aD)) (hlen:=λ_ _ h=>pT h)) qU (nomark _))))
  aR)
  (aE (fB (i:=6) (j:=7) rfl gR.nd (aA (bB (aB 3) aC) (aA (bB (aB 3) aC) aD)))
  (aF (aQ (nW (aO ((fO T).mono (by lia)) hr T.m_3 T.k_3 T.b_3 (aA (aB 6) (aA (aB 1) aD)) (hlen:=λ_ _ h=>fJ h)) (nW (aO ((fO T).mono (by lia)) hr T.m_3 T.k_3 T.b_3 (aA (aB 7) (aA (aB 2) aD)) (hlen:=λ_ _ h=>fJ h)) (qJ (dI opNotIn (aB 4) (aB 7) (by with_unfolding_all rfl)))))))))))
theorem zO(T:Tx K mg a):FnOk P w K mg base (CX1 P w) 3 a.a_1 a.d_1 ["program"] (spX K 1 lD) :=
 nT (k:=2) T.f_1.g fH λcdv A outer s H E hr hz=>show Ess _ K (ZR K (wishR E)) (defBody eI) b_1 from
  (aE (fK (aB 0) (gP rfl (bF (bA (i:=1) fH.nd) (bF (bA (i:=2) fH.nd) (bF (bA (i:=3) fH.nd) (bF (bA (i:=4) fH.nd) eY))))))
  (aE (bH (aV opLt (aB 1) aC (nomark _))
  (aF (vZ rfl hz T.xc_NoRest T.xb_NoRest T.le T.m_NoRest T.kc_NoRest rfl))
  aR)
  (aE (hV aGZ rfl (sG T.z_enumerate (aB 4)) (gP rfl (bF (bA (i:=5) fH.nd) (bF (bA (i:=6) fH.nd) eY)))
  (aF (bH (fE (fN (bS ((rW T).mono (by lia)) hr T.m_2 T.k_2 T.b_2 (aA (aB 1) (aA (aB 2) (aA (aB 3) (aA (aB 6) aD)))) (hlen:=λ_ _ h=>pB h))))
  (aF (yQ hz T.xc_NoDeed T.xb_NoDeed T.le T.ti_NoDeed (kQ T) T.nf_NoDeed (hr.mono (by lia)) T.bi_NoDeed T.m_NoDeed T.kc_NoDeed rfl (aB 5)))
  aR)))
  (aF (aQ fP)))))
theorem wB(T:Tx K mg a):FnOk P w K mg base CX0 1 a.a_4 a.d_4 aHF (spF K Z0 2 kG) :=
 aCd (k:=0) T.f_4 fT λcdv A outer s H E hr=>show Ess _ K Z0 (defBody dE) b_4 from
  (aE (aT (i:=2) fT.nd (aM opAdd (aM opMulA aC (aB 1)) aC))
  (aE (bH (aV opLt (aB 1) (aY callLen rfl T.z_len aCB (aA (aB 0) aD)) (nomark _))
  (aF (aT (i:=2) fT.nd (bB (aB 0) (aB 1))))
  (aF (bH (aV opGt (aY callLen rfl T.z_len aCB (aA (aB 0) aD)) aC (nomark _))
  (aF (aT (i:=2) fT.nd (aM opAdd (aB 2) (aM opMulA (aM opMod (bB (aB 0) (aM opMod (aB 1) (aY callLen rfl T.z_len aCB (aA (aB 0) aD)))) aC) aC))))
  aR)))
  (aE (aT (i:=3) fT.nd (aM opAdd (aM opMod (aM opAdd (aM opMulA (aM opMod (aB 2) aC) aC) (aM opMulA aC (aB 1))) aC) aC))
  (aF (aQ (sM (aA (bB (cS (aA aC (aA (aB 2) aD))) (bT callInt rfl T.z_int nB (aA (dI opGe (aB 2) (aM opPow aC aC) (nomark _)) aD))) (aA (aB 3) (aA aC aD)))))))))
theorem aI(T:Tx K mg a):FnOk P w K mg base CX0 1 a.a_5 a.d_5 aHG (spF K Z0 2 aJ) :=
 dL (k:=0) T.f_5 jU λcdv A outer s H E hr=>show Ess _ K Z0 (defBody cG) b_5 from
  (aE (bH (aV opGt (bB (aB 0) aC) aC (nomark _))
  (aE (aT (i:=2) jU.nd (aM opMod (bB (aB 0) aC) (aB 1)))
  (aE (fK (aM opDiv (bB (aB 0) aC) (aB 1)) (oJ (aB 0) aC))
  (aF (aQ (aB 2)))))
  aR)
  (aE (fK (aM opAdd (bB (aB 0) aC) aC) (oJ (aB 0) aC))
  (aE (aT (i:=3) jU.nd (aM opMod (aM opMulA (aM opAdd (bB (aB 0) aC) (aM opMulA aC (bB (aB 0) aC))) aC) aC))
  (aE (fK (aM opAdd (aM opMod (aM opAdd (aM opMulA (aB 3) aC) aC) aC) aC) (oJ (aB 0) aC))
  (aF (aQ (aM opMod (aM opDiv (aM opAdd (aM opMulA (aB 3) aC) (bB (aB 0) aC)) aC) (aB 1))))))))
theorem aFj(T:Tx K mg a):FnOk P w K mg base CX0 2 a.a_6 a.d_6 aHH (spF K Z0 1 qC) :=
 dL (k:=1) T.f_6 oH λcdv A outer s H E hr=>show Ess _ K Z0 (defBody gH) b_6 from
  (aE (aT (i:=1) oH.nd (aO ((aI T).mono (by lia)) hr T.m_5 T.k_5 T.b_5 (aA (aB 0) (aA aC aD)) (hlen:=λ_ _ h=>aG h)))
  (aE (aT (i:=2) oH.nd (aBh (ns:=[2,3,4,5,6,7,8,9,12,16,30,36,49,64,91,97,210,1009,65536,999983,999999,1000000]) (by repeat constructor)))
  (aE (aT (i:=3) oH.nd (bB (aB 2) (aO ((aI T).mono (by lia)) hr T.m_5 T.k_5 T.b_5 (aA (aB 0) (aA aC aD)) (hlen:=λ_ _ h=>aG h))))
  (aE (bH (aV (opEq (aW hr)) (aB 1) aC (nomark _))
  (aF (aQ (aM opAdd aC (aO ((aI T).mono (by lia)) hr T.m_5 T.k_5 T.b_5 (aA (aB 0) (aA aC aD)) (hlen:=λ_ _ h=>aG h)))))
  aR)
  (aE (bH (aV opLt (aB 1) aC (nomark _))
  (aF (aQ (aM opAdd aC (aO ((aI T).mono (by lia)) hr T.m_5 T.k_5 T.b_5 (aA (aB 0) (aA aC aD)) (hlen:=λ_ _ h=>aG h)))))
  aR)
  (aF (aQ (aB 3))))))))
theorem vV(T:Tx K mg a):FnOk P w K mg base CX0 2 a.a_7 a.d_7 aHI (spF K Z0 2 fW) :=
 dL (k:=1) T.f_7 mL λcdv A outer s H E hr=>show Ess _ K Z0 (defBody cE) b_7 from
  (aE (aT (i:=2) mL.nd (aO ((aI T).mono (by lia)) hr T.m_5 T.k_5 T.b_5 (aA (aB 0) (aA aC aD)) (hlen:=λ_ _ h=>aG h)))
  (aE (bH (aV (opEq (aW hr)) (aB 2) aC (nomark _))
  (aF (aQ (bB (cS (aA aC (aA (aM opMod aC (aB 1)) (aA (aM opSub (aB 1) aC) (aA (aM opMod (aM opSub (aB 1) aC) (aB 1)) aD))))) (aO ((aI T).mono (by lia)) hr T.m_5 T.k_5 T.b_5 (aA (aB 0) (aA aC aD)) (hlen:=λ_ _ h=>aG h)))))
  aR)
  (aF (aQ (aO ((aI T).mono (by lia)) hr T.m_5 T.k_5 T.b_5 (aA (aB 0) (aA (aB 1) aD)) (hlen:=λ_ _ h=>aG h))))))
theorem kA(T:Tx K mg a):FnOk P w K mg base CX0 1 a.a_8 a.d_8 aHJ (spF K Z0 2 dB) :=
 dL (k:=0) T.f_8 jW λcdv A outer s H E hr=>show Ess _ K Z0 (defBody bP) b_8 from
  (aE (lN NW PassesOwn.never (aV opGt (aB 1) aC (nomark _))
  (aF (fB (i:=0) (j:=1) rfl jW.nd (aA (aB 1) (aA (aM opMod (aB 0) (aB 1)) aD)))))
  (aF (aQ (aB 0))))
theorem vS(T:Tx K mg a):FnOk P w K mg base CX0 2 a.a_9 a.d_9 aHI (spF K Z0 2 fV) :=
 dL (k:=1) T.f_9 jP λcdv A outer s H E hr=>show Ess _ K Z0 (defBody cF) b_9 from
  (aE (aT (i:=2) jP.nd (aO ((aI T).mono (by lia)) hr T.m_5 T.k_5 T.b_5 (aA (aB 0) (aA (aB 1) aD)) (hlen:=λ_ _ h=>aG h)))
  (aE (lN NW PassesOwn.never (aV (opNe (aW hr)) (aO ((kA T).mono (by lia)) hr T.m_8 T.k_8 T.b_8 (aA (aB 2) (aA (aB 1) aD)) (hlen:=λ_ _ h=>iZ h)) aC (nomark _))
  (aF (aT (i:=2) jP.nd (aM opMod (aM opAdd (aB 2) aC) (aB 1)))))
  (aF (aQ (aB 2)))))
theorem vI(T:Tx K mg a):FnOk P w K mg base CX0 3 a.a_a a.d_a aHK (spF K Z0 4 fM) :=
 dL (k:=2) T.f_a cN λcdv A outer s H E hr=>show Ess _ K Z0 (defBody bU) b_a from
  (aE (aT (i:=4) cN.nd (aO ((aI T).mono (by lia)) hr T.m_5 T.k_5 T.b_5 (aA (aB 0) (aA (aB 3) aD)) (hlen:=λ_ _ h=>aG h)))
  (aE (aT (i:=5) cN.nd (aO ((aI T).mono (by lia)) hr T.m_5 T.k_5 T.b_5 (aA (aB 0) (aA aC aD)) (hlen:=λ_ _ h=>aG h)))
  (aE (bH (aV (opEq (aW hr)) (aB 5) aC (nomark _))
  (aF (aQ (bJ (aA cQ (aA (aB 4) (aA (aO ((vS T).mono (by lia)) hr T.m_9 T.k_9 T.b_9 (aA (aB 0) (aA (aB 1) aD)) (hlen:=λ_ _ h=>qI h)) aD))))))
  aR)
  (aE (aT (i:=6) cN.nd (aM opMulA (aO ((aI T).mono (by lia)) hr T.m_5 T.k_5 T.b_5 (aA (aB 0) (aA (bB (cS (aA aC (aA aC (aA aC aD)))) (aO ((aI T).mono (by lia)) hr T.m_5 T.k_5 T.b_5 (aA (aB 0) (aA aC aD)) (hlen:=λ_ _ h=>aG h))) aD)) (hlen:=λ_ _ h=>aG h)) (bT callInt rfl T.z_int nB (aA (dI opGt (aB 2) aC (nomark _)) aD))))
  (aE (aT (i:=7) cN.nd (aY (callSorted rfl) rfl T.z_sorted dO (aA (kK rfl (CompOk.of (N0:=aHS) (sc0:=defScope bU) (Nc:=aHU) (js:=[none,some 0,some 2]) (by decide +kernel)) (dP T.z_range (aB 6)) (λ_ _ _ _ _ _=>(bA (i:=0) (show(aHU:List Str).Nodup by decide +kernel))) (λ_ _ _ _ _ _=>tN) (λ_ _ _ _ _ _=>(aO ((aI T).mono (by lia)) hr T.m_5 T.k_5 T.b_5 (aA (aB 1) (aA (aB 2) aD)) (hlen:=λ_ _ h=>aG h)))) aD)))
  (aE (aT (i:=8) cN.nd (kK rfl (CompOk.of (N0:=aHS) (sc0:=defScope bU) (Nc:=["_law_kt","_law_ks"]) (js:=[none,some 4]) (by decide +kernel)) (dP T.z_range (aB 3)) (λ_ _ _ _ _ _=>(bA (i:=0) (show(["_law_kt","_law_ks"]:List Str).Nodup by decide +kernel))) (λ_ _ _ _ _ _=>(sI (aV (opNe (aW hr)) (aB 0) (aB 1) (nomark _)))) (λ_ _ _ _ _ _=>(aB 0))))
  (aE (aT (i:=9) cN.nd (cS aD))
  (aE (bH (aV (opNe (aW hr)) (aB 8) (cS aD) (nomark _))
  (aF (aT (i:=9) cN.nd (aY (callSorted rfl) rfl T.z_sorted dO (aA (kK rfl (CompOk.of (N0:=aHS) (sc0:=defScope bU) (Nc:=aHV) (js:=[none,some 8,some 0]) (by decide +kernel)) (dP T.z_range (aO ((aI T).mono (by lia)) hr T.m_5 T.k_5 T.b_5 (aA (aB 0) (aA (bB (cS (aA aC (aA aC (aA aC aD)))) (aO ((aI T).mono (by lia)) hr T.m_5 T.k_5 T.b_5 (aA (aB 0) (aA aC aD)) (hlen:=λ_ _ h=>aG h))) aD)) (hlen:=λ_ _ h=>aG h))) (λ_ _ _ _ _ _=>(bA (i:=0) (show(aHV:List Str).Nodup by decide +kernel))) (λ_ _ _ _ _ _=>tN) (λ_ _ _ _ _ _=>(bB (aB 1) (aO ((aI T).mono (by lia)) hr T.m_5 T.k_5 T.b_5 (aA (aB 2) (aA (aY callLen rfl T.z_len aCB (aA (aB 1) aD)) aD)) (hlen:=λ_ _ h=>aG h))))) aD))))
  aR)
  (aF (aQ (bJ (aA cQ (aA (aB 4) (aA (aO ((vV T).mono (by lia)) hr T.m_7 T.k_7 T.b_7 (aA (aB 0) (aA (aB 1) aD)) (hlen:=λ_ _ h=>qP h)) (aA (bT callTup rfl T.z_tuple dQ (aA (aB 7) aD)) (aA (bT callTup rfl T.z_tuple dQ (aA (aB 9) aD)) aD))))))))))))))))
theorem sD(T:Tx K mg a):FnOk P w K mg base CX0 3 a.a_b a.d_b aHH (spF K Z0 1 eJ) :=
 dL (k:=2) T.f_b gQ λcdv A outer s H E hr=>show Ess _ K Z0 (defBody bZ) b_b from
  (aE (aT (i:=1) gQ.nd (aO ((aI T).mono (by lia)) hr T.m_5 T.k_5 T.b_5 (aA (aB 0) (aA aC aD)) (hlen:=λ_ _ h=>aG h)))
  (aE (aT (i:=2) gQ.nd (aO ((aFj T).mono (by lia)) hr T.m_6 T.k_6 T.b_6 (aA (aB 0) aD) (hlen:=λ_ _ h=>aAl h)))
  (aF (aQ (bJ (aA (aB 2) (aA (aO ((aI T).mono (by lia)) hr T.m_5 T.k_5 T.b_5 (aA (aB 0) (aA (bB (cS (aA aC (aA aC (aA aC aD)))) (aB 1)) aD)) (hlen:=λ_ _ h=>aG h)) (aA (aM opAdd aC (aO ((aI T).mono (by lia)) hr T.m_5 T.k_5 T.b_5 (aA (aB 0) (aA (bB (cS (aA aC (aA aC (aA aC aD)))) (aB 1)) aD)) (hlen:=λ_ _ h=>aG h))) aD))))))))
theorem kC(T:Tx K mg a):FnOk P w K mg base CX0 4 a.a_c a.d_c aHL (spF K Z0 5 cC) :=
 dL (k:=3) T.f_c bN λcdv A outer s H E hr=>show Ess _ K Z0 (defBody bD) b_c from
  (aE (aT (i:=5) bN.nd (sM aD))
  (aE (hV PassesOwn.never rfl (dP T.z_range (aO ((aI T).mono (by lia)) hr T.m_5 T.k_5 T.b_5 (aA (aB 0) (aA (aM opAdd (aB 4) aC) aD)) (hlen:=λ_ _ h=>aG h))) (bA (i:=6) bN.nd)
  (aE (aT (i:=7) bN.nd (aO ((aI T).mono (by lia)) hr T.m_5 T.k_5 T.b_5 (aA (aB 0) (aA aC aD)) (hlen:=λ_ _ h=>aG h)))
  (aE (aT (i:=8) bN.nd (aO ((vI T).mono (by lia)) hr T.m_a T.k_a T.b_a (aA (aB 0) (aA (aB 1) (aA (aB 2) (aA (aB 3) aD)))) (hlen:=λ_ _ h=>sA h)))
  (aE (bH (nM (rC (aV (opEq (aW hr)) (aB 7) aC (nomark _)) (tZ (aV (opNe (aW hr)) (aB 5) (cS aD) (nomark _)))))
  (aF (aT (i:=8) bN.nd (bB (aB 5) (aO ((aI T).mono (by lia)) hr T.m_5 T.k_5 T.b_5 (aA (aB 0) (aA (aY callLen rfl T.z_len aCB (aA (aB 5) aD)) aD)) (hlen:=λ_ _ h=>aG h)))))
  aR)
  (aF (aAs (vD (aB 5) (aB 8))))))))
  (aF (aQ (bJ (aA (aB 1) (aA (aB 2) (aA (aB 3) (aA (bT callTup rfl T.z_tuple dQ (aA (aB 5) aD)) aD)))))))))
theorem lO(T:Tx K mg a):FnOk P w K mg base CX0 2 a.a_d a.d_d aHM (spF K Z0 4 cV) :=
 dL (k:=1) T.f_d eF λcdv A outer s H E hr=>show Ess _ K Z0 (defBody bG) b_d from
  (aE (bH (nM (jY (fE (hZ opLe opLt aC (bB (aB 3) aC) (aB 2))) (gU (fE (hZ opLe opLt aC (bB (aB 3) aC) (aB 0))))))
  (aF (aQ fP))
  aR)
  (aE (bH (aV (opEq (aW hr)) (bB (aB 3) aC) cQ (nomark _))
  (aF (aQ (dI (opNe (aW hr)) (aO ((kA T).mono (by lia)) hr T.m_8 T.k_8 T.b_8 (aA (bB (aB 3) aC) (aA (aB 0) aD)) (hlen:=λ_ _ h=>iZ h)) aC (nomark _))))
  aR)
  (aE (hV PassesOwn.never rfl (aEh (cS (aA (bJ (aA (bB (aB 3) aC) (aA (aB 1) aD))) (aA (bJ (aA (bB (aB 3) aC) (aA (aB 2) aD))) aD)))) (gP rfl (bF (bA (i:=4) eF.nd) (bF (bA (i:=5) eF.nd) eY)))
  (aE (bH (nM (jY (aV opGt (aY callLen rfl T.z_len aCB (aA (aB 4) aD)) aC (nomark _)) (gU (aV (opNe (aW hr)) (bT callList rfl T.z_list tQ (aA (aB 4) aD)) (aY (callSortTB rfl) rfl T.z_sorted dO (aA (aB 4) aD)) (nomark _)))))
  (aF (aQ fP))
  aR)
  (aF (bH (aV opGt (aY callLen rfl T.z_len aCB (aA (kK rfl (CompOk.of (N0:=aHT) (sc0:=defScope bG) (Nc:=["_law_one","_law_many"]) (js:=[none,some 5]) (by decide +kernel)) (aEh (aB 4)) (λ_ _ _ _ _ _=>(bA (i:=0) (show(["_law_one","_law_many"]:List Str).Nodup by decide +kernel))) (λ_ _ _ _ _ _=>(sI (nM (jY (aV opLt (aB 0) aC (nomark _)) (gU (aV opGe (aB 0) (aB 1) (nomark _))))))) (λ_ _ _ _ _ _=>(aB 0))) aD)) aC (nomark _))
  (aF (aQ fP))
  aR))))
  (aF (aQ (dI opIn (bB (aB 3) aC) (bB (aB 3) aC) (by with_unfolding_all rfl)))))))
theorem kY(T:Tx K mg a):FnOk P w K mg base CX0 2 a.a_e a.d_e aHG (spF K Z0 2 fA) :=
 dL (k:=1) T.f_e qG λcdv A outer s H E hr=>show Ess _ K Z0 (defBody dD) b_e from
  (aE (aT (i:=2) qG.nd (cS (aA (aM opSub aC aC) (aA (aB 1) (aA (aM opSub (aB 1) aC) (aA aC (aA (aM opAdd (aB 1) (aO ((aI T).mono (by lia)) hr T.m_5 T.k_5 T.b_5 (aA (aB 0) (aA (aM opPow aC aC) aD)) (hlen:=λ_ _ h=>aG h))) (aA (aM opSub (aM opSub aC aC) (aO ((aI T).mono (by lia)) hr T.m_5 T.k_5 T.b_5 (aA (aB 0) (aA (aM opPow aC aC) aD)) (hlen:=λ_ _ h=>aG h))) aD))))))))
  (aF (aQ (bB (aB 2) (aO ((aI T).mono (by lia)) hr T.m_5 T.k_5 T.b_5 (aA (aB 0) (aA aC aD)) (hlen:=λ_ _ h=>aG h))))))
theorem iF(T:Tx K mg a):FnOk P w K mg base CX0 3 a.a_f a.d_f aHN (spF K Z0 4 cM) :=
 dL (k:=2) T.f_f jA λcdv A outer s H E hr=>show Ess _ K Z0 (defBody bL) b_f from
  (aE (fB (i:=4) (j:=5) rfl jA.nd (aA (aO ((aI T).mono (by lia)) hr T.m_5 T.k_5 T.b_5 (aA (aB 0) (aA aC aD)) (hlen:=λ_ _ h=>aG h)) (aA (aO ((aI T).mono (by lia)) hr T.m_5 T.k_5 T.b_5 (aA (aB 0) (aA (aM opAdd (aY callLen rfl T.z_len aCB (aA (aB 1) aD)) aC) aD)) (hlen:=λ_ _ h=>aG h)) aD)))
  (aE (bH (aV (opEq (aW hr)) (aB 4) aC (nomark _))
  (aF (aQ (aM opAdd (aM opAdd (bR (aB 1) eP (eR (aB 5))) (bJ (aA (aO ((kY T).mono (by lia)) hr T.m_e T.k_e T.b_e (aA (aB 0) (aA (aB 2) aD)) (hlen:=λ_ _ h=>jQ h)) aD))) (bR (aB 1) (eR (aB 5)) eP))))
  aR)
  (aE (bH (aV (opEq (aW hr)) (aB 4) aC (nomark _))
  (aF (aQ (vC rfl T.z_tuple T.z_reversed (aB 1))))
  aR)
  (aE (bH (aV (opEq (aW hr)) (aB 4) aC (nomark _))
  (aF (aQ (bR (bT callTup rfl T.z_tuple dQ (aA (aY (callSortTB rfl) rfl T.z_sorted dO (aA (aM opAdd (aM opMulA (aB 1) aC) (aM opMulA (bJ (aA (aY (callMax2 rfl) rfl T.z_max nE (aA aC (aA (aM opSub (aB 2) aC) aD))) aD)) aC)) aD)) aD)) eP (eR (aM opAdd aC (aO ((aI T).mono (by lia)) hr T.m_5 T.k_5 T.b_5 (aA (aB 0) (aA aC aD)) (hlen:=λ_ _ h=>aG h)))))))
  aR)
  (aE (bH (aV (opEq (aW hr)) (aB 4) aC (nomark _))
  (aF (aQ (bT callTup rfl T.z_tuple dQ (aA (aY (callSortTB rfl) rfl T.z_sorted dO (aA (aM opAdd (aB 1) (bJ (aA (aB 3) aD))) aD)) aD))))
  aR)
  (aE (bH (aV (opEq (aW hr)) (aB 4) aC (nomark _))
  (aF (aQ (bT callTup rfl T.z_tuple dQ (aA (aY (callSortTB rfl) rfl T.z_sorted dO (aA (aM opAdd (aB 1) (bJ (aA (aO ((aI T).mono (by lia)) hr T.m_5 T.k_5 T.b_5 (aA (aB 0) (aA (aY (callMax2 rfl) rfl T.z_max nE (aA aC (aA (aB 2) aD))) aD)) (hlen:=λ_ _ h=>aG h)) aD))) aD)) aD))))
  aR)
  (aF (aQ (aM opAdd (bR (aB 1) eP (eR (aB 5))) (bR (aB 1) (eR (aM opAdd (aB 5) aC)) eP))))))))))
theorem lW(T:Tx K mg a):FnOk P w K mg base CX0 4 a.a_10 a.d_10 aHO (spF K Z0 5 cW) :=
 dL (k:=3) T.f_10 gE λcdv A outer s H E hr=>show Ess _ K Z0 (defBody bI) b_10 from
  (aE (aT (i:=5) gE.nd (aO ((aI T).mono (by lia)) hr T.m_5 T.k_5 T.b_5 (aA (aB 0) (aA aC aD)) (hlen:=λ_ _ h=>aG h)))
  (aE (bH (aV (opEq (aW hr)) (aB 5) aC (nomark _))
  (aF (aQ (aM opAdd (aM opAdd (bR (aB 4) eP (eR aC)) (bJ (aA (aO ((kY T).mono (by lia)) hr T.m_e T.k_e T.b_e (aA (aB 0) (aA (aB 3) aD)) (hlen:=λ_ _ h=>jQ h)) aD))) (bR (aB 4) (eR aC) eP))))
  aR)
  (aE (bH (aV (opEq (aW hr)) (aB 5) aC (nomark _))
  (aF (aQ (aM opAdd (aM opAdd (bR (aB 4) eP (eR aC)) (bJ (aA (aO ((kY T).mono (by lia)) hr T.m_e T.k_e T.b_e (aA (aB 0) (aA (aB 1) aD)) (hlen:=λ_ _ h=>jQ h)) aD))) (bR (aB 4) (eR aC) eP))))
  aR)
  (aE (bH (aV (opEq (aW hr)) (bB (aB 4) aC) cQ (nomark _))
  (aF (aQ (bJ (aA cQ (aA (bB (aB 4) aC) (aA (aO ((aI T).mono (by lia)) hr T.m_5 T.k_5 T.b_5 (aA (aB 0) (aA (aB 1) aD)) (hlen:=λ_ _ h=>aG h)) aD))))))
  aR)
  (aE (bH (aV (opEq (aW hr)) (aB 5) aC (nomark _))
  (aF (aQ (aM opAdd (aM opAdd (bR (aB 4) eP (eR aC)) (bJ (aA (aO ((iF T).mono (by lia)) hr T.m_f T.k_f T.b_f (aA (aB 0) (aA (bB (aB 4) aC) (aA (aB 2) (aA aC aD)))) (hlen:=λ_ _ h=>gF h)) aD))) (bR (aB 4) (eR aC) eP))))
  aR)
  (aF (aQ (aM opAdd (bR (aB 4) eP (eR aC)) (bJ (aA (aO ((iF T).mono (by lia)) hr T.m_f T.k_f T.b_f (aA (aB 0) (aA (bB (aB 4) aC) (aA (aB 3) (aA (bB (aB 4) aC) aD)))) (hlen:=λ_ _ h=>gF h)) aD))))))))))
theorem wE(T:Tx K mg a):FnOk P w K mg base CX0 3 a.a_11 a.d_11 aHP (spF K Z0 1 hW) :=
 dL (k:=2) T.f_11 dU λcdv A outer s H E hr=>show Ess _ K Z0 (defBody dF) b_11 from
  (aE (fK (aB 0) (gP rfl (bF (bA (i:=1) dU.nd) (bF (bA (i:=2) dU.nd) (bF (bA (i:=3) dU.nd) (bF (bA (i:=4) dU.nd) eY))))))
  (aE (bH (aV opLt (aB 1) aC (nomark _))
  (aF (aQ (bJ (aA cQ (aA aC aD)))))
  aR)
  (aE (hV PassesOwn.never rfl (sG T.z_enumerate (aB 4)) (gP rfl (bF (bA (i:=5) dU.nd) (bF (bA (i:=6) dU.nd) eY)))
  (aF (bH (fN (aO ((lO T).mono (by lia)) hr T.m_d T.k_d T.b_d (aA (aB 1) (aA (aB 2) (aA (aB 3) (aA (aB 6) aD)))) (hlen:=λ_ _ h=>lL h)))
  (aF (aQ (bJ (aA cQ (aA (aB 5) aD)))))
  aR)))
  (aF (aQ (bJ (aA cQ (aA fP aD))))))))
theorem vX(T:Tx K mg a):FnOk P w K mg base (CX1 P w) 4 a.a_12 a.d_12 aHP (spX K 1 fL) :=
 nT (k:=3) T.f_12.g cO λcdv A outer s H E hr hz=>show Ess _ K (ZR K (wishR E)) (defBody cH) b_12 from
  (aE (aT (i:=1) cO.nd qU)
  (aE (yO (i:=2) (aCe T.nm_LentError) T.m_LentError cO.nd
  (aDu (i:=1) cO.nd (zH cQ (aAp ((zO T).mono (by lia)) hr T.m_1 T.k_1 T.b_1 (aA (aB 0) aD) (hlen:=λ_ _ h=>yA h))))
  (λ_=>(aE (aT (i:=1) cO.nd (bJ (aA cQ (aA aC aD))))
  (aE (aT (i:=3) cO.nd (aBb (dR (eE T.xc_BadText) T.m_BadText (dR (eE T.xc_NoInverse) T.m_NoInverse (dR (eE T.xc_NoMove) T.m_NoMove (dR (eE T.xc_NoPaper) T.m_NoPaper (dR (eE T.xc_NoRoot) T.m_NoRoot (dR (eE T.xc_NoRow) T.m_NoRow (dR (eE T.xc_TooMany) T.m_TooMany zF))))))) T.z_isinstance (aB 2)))
  (aF (bH (nM (rC (fE (fN (aB 3))) (rC (fN (aBe T.z_ValueError T.z_isinstance (aB 2))) (tZ (aV (opNe (aBw hr)) (qX (eE T.xc_NoRest) T.m_NoRest T.z_isinstance (aB 2)) (qX (eE T.xc_NoDeed) T.m_NoDeed T.z_isinstance (aB 2)) (nomark _))))))
  (aE (aT (i:=1) cO.nd (bJ (aA cQ (aA aC aD))))
  (aF (bH (fN (qX (eE T.xc_NoDeed) T.m_NoDeed T.z_isinstance (aB 2)))
  (aF (aT (i:=1) cO.nd (bJ (aA cQ (aA (aCa (aB 2)) aD)))))
  aR)))
  aR))))))
  (aF (aQ (aB 1)))))
theorem gO(T:Tx K mg a):FnOk P w K mg base (CX1 P w) 5 a.a_13 a.d_13 aHP (spX K 1 dA) :=
 nT (k:=4) T.f_13.g kP λcdv A outer s H E hr hz=>show Ess _ K (ZR K (wishR E)) (defBody bV) b_13 from
  (aE (fB (i:=1) (j:=2) rfl kP.nd (aA (iC hz ((vX T).mono (by lia)) hr T.m_12 T.k_12 T.b_12 (aA (aB 0) aD) (hlen:=λ_ _ h=>qW h)) (aA (bS ((wE T).mono (by lia)) hr T.m_11 T.k_11 T.b_11 (aA (aB 0) aD) (hlen:=λ_ _ h=>uR h)) aD)))
  (aF (aQ (nW (dI (opEq (aW hr)) (aB 1) (aB 2) (nomark _)) (qJ (dI (opEq (aW hr)) (aEp zB T.z_isinstance T.z_bool aAd (bB (aB 1) aC)) (dI (opEq (aW hr)) (bB (aB 2) aC) cQ (nomark _)) (nomark _)))))))
theorem aCc(T:Tx K mg a):FnOk P w K mg base (CX1 P w) 6 a.a_14 a.d_14 aHQ (spX K 1 kW) :=
 nT (k:=5) T.f_14.g cK λcdv A outer s H E hr hz=>show Ess _ K (ZR K (wishR E)) (defBody gG) b_14 from
  (aE (hV aGZ rfl (dP T.z_range (aY (callMax2 rfl) rfl T.z_max nE (aA aC (aA (aY (callMin2 rfl) rfl T.z_min aCb (aA aC (aA (aY callLen rfl T.z_len aCB (aA (aB 0) aD)) aD))) aD)))) (bA (i:=1) cK.nd)
  (aE (aT (i:=2) cK.nd (bS ((wB T).mono (by lia)) hr T.m_4 T.k_4 T.b_4 (aA (aB 0) (aA (aB 1) aD)) (hlen:=λ_ _ h=>uG h)))
  (aE (fK (bS ((sD T).mono (by lia)) hr T.m_b T.k_b T.b_b (aA (aB 2) aD) (hlen:=λ_ _ h=>pO h)) (gP rfl (bF (bA (i:=3) cK.nd) (bF (bA (i:=4) cK.nd) (bF (bA (i:=5) cK.nd) eY)))))
  (aE (aT (i:=6) cK.nd (bS ((kC T).mono (by lia)) hr T.m_c T.k_c T.b_c (aA (aB 2) (aA (aB 3) (aA (aB 4) (aA (aB 5) (aA aC aD))))) (hlen:=λ_ _ h=>jE h)))
  (aE (aT (i:=7) cK.nd (bT callInt rfl T.z_int nB (aA (nW (dI (opEq (aW hr)) (aB 1) aC (nomark _)) (qJ (dI (opEq (aW hr)) (bS ((aI T).mono (by lia)) hr T.m_5 T.k_5 T.b_5 (aA (aB 2) (aA aC aD)) (hlen:=λ_ _ h=>aG h)) aC (nomark _)))) aD)))
  (aE (aT (i:=6) cK.nd (aM opAdd (bR (aB 6) eP (eR aC)) (bJ (aA (aM opMulA (bB (aB 6) aC) (bB (cS (aA aC (aA aC aD))) (aB 7))) aD))))
  (aE (aT (i:=8) cK.nd (bT callListR rfl T.z_list tQ (aA (bB (aB 6) aC) aD)))
  (aE (fB (i:=9) (j:=10) rfl cK.nd (aA (bS ((aI T).mono (by lia)) hr T.m_5 T.k_5 T.b_5 (aA (aB 2) (aA aC aD)) (hlen:=λ_ _ h=>aG h)) (aA aC aD)))
  (aE (hV aGZ rfl (dP T.z_range (aM opMulA (bS ((aI T).mono (by lia)) hr T.m_5 T.k_5 T.b_5 (aA (aB 2) (aA aC aD)) (hlen:=λ_ _ h=>aG h)) (bT callInt rfl T.z_int nB (aA (dI (opNe (aW hr)) (aB 8) (cS aD) (nomark _)) aD)))) (bA (i:=11) cK.nd)
  (aE (bH (nM (jY (aV (opEq (aW hr)) (aB 11) aC (nomark _)) (gU (aV (opEq (aW hr)) (aB 9) aC (nomark _)))))
  (aF (aT (i:=10) cK.nd (aY (callMax2 rfl) rfl T.z_max nE (aA (bS ((aI T).mono (by lia)) hr T.m_5 T.k_5 T.b_5 (aA (aB 2) (aA (aY callLen rfl T.z_len aCB (aA (aB 8) aD)) aD)) (hlen:=λ_ _ h=>aG h)) (aA (aM opMulA (aM opSub (aY callLen rfl T.z_len aCB (aA (aB 8) aD)) aC) (aB 7)) aD)))))
  aR)
  (aF (fK (bS ((lW T).mono (by lia)) hr T.m_10 T.k_10 T.b_10 (aA (aB 2) (aA (aB 3) (aA (aB 4) (aA (aB 5) (aA (bB (aB 8) (aB 10)) aD))))) (hlen:=λ_ _ h=>kT h)) (oJ (aB 8) (aB 10))))))
  (aE (bH (aV (opEq (aW hr)) (bS ((aI T).mono (by lia)) hr T.m_5 T.k_5 T.b_5 (aA (aB 2) (aA aC aD)) (hlen:=λ_ _ h=>aG h)) aC (nomark _))
  (aF (aT (i:=3) cK.nd (aM opSub aC (bS ((aI T).mono (by lia)) hr T.m_5 T.k_5 T.b_5 (aA (aB 2) (aA (bB (cS (aA aC (aA (aM opPow aC aC) aD))) (bS ((aI T).mono (by lia)) hr T.m_5 T.k_5 T.b_5 (aA (aB 2) (aA aC aD)) (hlen:=λ_ _ h=>aG h))) aD)) (hlen:=λ_ _ h=>aG h)))))
  aR)
  (aE (aT (i:=12) cK.nd (bJ (aA (aB 3) (aA (aB 4) (aA (aB 5) (aA (bT callTup rfl T.z_tuple dQ (aA (aB 8) aD)) aD))))))
  (aF (bH (nM (jY (fE (fN (iC hz ((gO T).mono (by lia)) hr T.m_13 T.k_13 T.b_13 (aA (aB 12) aD) (hlen:=λ_ _ h=>fQ h)))) (jY (fE (fN (iC hz ((gO T).mono (by lia)) hr T.m_13 T.k_13 T.b_13 (aA (aB 6) aD) (hlen:=λ_ _ h=>fQ h)))) (gU (fE (fN (iC hz ((gO T).mono (by lia)) hr T.m_13 T.k_13 T.b_13 (aA (aB 12) aD) (hlen:=λ_ _ h=>fQ h))))))))
  (aF (aQ fP))
  aR)))))))))))))
  (aF (aQ fP)))
open PySem L2 EV LS
local macro_rules | `(tactic| rfl') => `(tactic| repeat decreasing_trivial_pre_omega)
local macro_rules | `(tactic| decreasing_trivial_pre_omega) => `(tactic| with_reducible first
 | apply jN
 | apply wM
 | apply tD
 | apply aFu
 | refine aHd (by with_unfolding_all exact rfl) ?_
 | apply aFo
 | apply aHe
 | apply aGk
 | apply aHa
 | apply aGo
 | apply nV
 | apply aGm
 | apply aFn
 | apply aGc
 | apply aFz
 | apply aHb
 | apply wD
 | apply zA
 | apply aDm
 | apply aEj
 | apply vQ
 | apply aEr
 | apply aBz
 | apply aFb
 | (refine aFs ?hz ?_; case hz=>(with_unfolding_all first | exact rfl | decide | ((try simp only [aAW,true_and,and_true,aAL,aCR,aDO,aCF,aGB]) <;> lia)))
 | (refine aCi ?hz ?_; case hz=>(with_unfolding_all first | decide | ((try simp only [mulOk,aAW,aAL,aCR,aDO,aCF,aGB]) <;> lia)))
 | apply aEy
 | apply aEl
 | apply aEc
 | apply yI
 | refine aCq (by with_unfolding_all exact rfl) ?_
 | refine cU (by with_unfolding_all exact rfl) ?_
 | refine rB (by with_unfolding_all exact rfl) ?_
 | refine nI (by assumption) (by with_unfolding_all exact rfl) ?_
 | refine nI (aBD (by simpa only [List.length_set])) (by with_unfolding_all exact rfl) ?_
 | apply aBi
 | apply aAf
 | apply aCu
 | apply aFx
 | apply aBg
 | apply aDh
 | refine aDl (by with_unfolding_all exact rfl) (by with_unfolding_all simp) ?_
 | refine aEd (by with_unfolding_all exact rfl) (by with_unfolding_all simp) ?_
 | refine aCf (by with_unfolding_all exact rfl) (by with_unfolding_all simp) ?_
 | apply aAe
 | apply aBq
 | apply aAn
 | apply zV
 | refine zR (by assumption) ?_
 | apply aBa
 | apply aEi
 | apply aCs
 | apply aGj
 | apply aGb
 | apply aEb
 | apply aDp
 | apply aCl
 | apply aFe
 | apply aCt
 | refine aGx (s:=⟨[],none⟩) ?_
 | refine uH (by with_unfolding_all (simp <;> lia)) ?_
 | apply wI
 | apply zD
 | apply aFy
 | apply aDw
 | apply aFg
 | refine aEv (by with_unfolding_all exact rfl) ?_
 | apply yW
 | refine aHc (by with_unfolding_all exact rfl) ?_
 | refine ⟨_,rfl,?_⟩
 | refine ⟨_,_,_,_,rfl,rfl,by assumption,by with_unfolding_all exact rfl,?_⟩
 | refine ⟨_,_,_,_,rfl,rfl,aBD (by simpa only [List.length_set]),by with_unfolding_all exact rfl,?_⟩
 | refine aEf (by with_unfolding_all decide) ?_
 | refine aDf (by with_unfolding_all decide) ?_
 | refine ⟨fun h=>absurd h (by with_unfolding_all decide),fun _=>?_⟩
 | refine ⟨fun _=>?_,fun h=>absurd h (by with_unfolding_all decide)⟩
 | refine ⟨_,_,rfl,?_⟩
 | refine ⟨_,_,_,rfl,?_⟩)
variable{b:Nat}
theorem aH(h:Bx M b)(h0:0 < m)(h1:m < 18446744073709551616):Ok (aJ [.ref b,.d (.int m)] M) λw M'=>∃d:Int,w=.d (.int d)/\0<=d/\d < m/\Nx b M M':=by
 have hb:=h.lt
 obtain⟨x,y,z,e⟩:=h
 refine dM rfl ?_
 unfold b_5
 rfl'
 refine bK (λhx=>?_) (λhx=>?_)
 ·rfl'
  refine⟨aCP _ (by lia),aBN _ h0,x / m,y,z,?_⟩
  rw[aCJ (by simp)];rfl
 ·rfl'
  refine⟨aCP _ (by lia),aBN _ h0,?_⟩
  rw[aCJ (by simp)]
  exact⟨_,_,_,by rw[List.set_set];rfl⟩
variable{k:Int}
theorem xJ(h0:0<=k)(hl:ns.length<=63):Ok (kG [.d (.fz (ns.map D.int)),.d (.int k)] M) λw M'=>∃x y z,w=.ref M.length/\M'=M++[[.int x,.int y,.int z]]:=by
 refine aDg rfl ?_
 have at_:∀i:Int,0<=i->i < (ns.length:Int)->∃n,atI (ns.map D.int) i=some (.int n):=λi a b=>by
  have hi:i.toNat < ns.length:=by lia
  refine⟨ns[i.toNat],?_⟩
  simp only[atI,ixN,aAL]
  rw[aAH a,aAH b]
  simp[hi]
 unfold b_4
 rfl'
 refine bK (λhx=>?_) (λhx=>?_)
 ·rw[aAL]at hx
  obtain⟨n,e⟩:=at_ k h0 hx
  rfl'
  refine rB e ?_
  rfl'
  refine cU (atBox _) ?_
  rfl'
  exact⟨M.length,[.int _,.int _,.int _],rfl,aAE _,aEP,_,_,_,rfl,by rw[List.take_left]⟩
 ·rfl'
  refine bK (λhy=>?_) (λhy=>?_)
  ·rw[aAL]at hy
   obtain⟨n,e⟩:=at_ (k % ns.length) (aCP _ (by lia)) (aBN _ hy)
   rfl'
   rw[aAL]
   refine rB e ?_
   rfl'
   refine cU (atBox _) ?_
   rfl'
   exact⟨M.length,[.int _,.int _,.int _],rfl,aAE _,aEP,_,_,_,rfl,by rw[List.take_left]⟩
  ·rfl'
   refine cU (atBox _) ?_
   rfl'
   exact⟨M.length,[.int _,.int _,.int _],rfl,aAE _,aEP,_,_,_,rfl,by rw[List.take_left]⟩
theorem aFh(hb:Bx M b):Ok (qC [.ref b] M) λw M'=>∃n:Int,w=.d (.int n)/\2<=n/\n<=1000000/\Nx b M M':=by
 have n:=Nx.refl hb
 unfold qC
 refine dM rfl ?_
 unfold b_6
 rfl'
 (refine(aH hb (by lia) (by lia)).mono ?_;rintro _ _ ⟨d1,rfl,l_d1,u_d1,n'⟩;replace n:=n.trans n';replace hb:=n'.bx hb;clear n')
 rfl'
 (refine(aH hb (by lia) (by lia)).mono ?_;rintro _ _ ⟨d2,rfl,l_d2,u_d2,n'⟩;replace n:=n.trans n';replace hb:=n'.bx hb;clear n')
 obtain⟨v,ev,mv⟩:=atInts (ns:=[2,3,4,5,6,7,8,9,12,16,30,36,49,64,91,97,210,1009,65536,999983,999999,1000000]) l_d2 (by simpa using u_d2)
 have hv:∀x∈[2,3,4,5,6,7,8,9,12,16,30,36,49,64,91,97,210,1009,65536,999983,999999,(1000000:Int)],2<=x/\x<=1000000:=by decide
 refine cU ev ?_
 rfl'
 refine bK (λ_=>?_) (λ_=>?_)
 ·rfl'
  (refine(aH hb (by lia) (by lia)).mono ?_;rintro _ _ ⟨d3,rfl,l_d3,u_d3,n'⟩;replace n:=n.trans n';replace hb:=n'.bx hb;clear n')
  rfl'
  rw[n.take]
  exact⟨by lia,by lia,n⟩
 ·rfl'
  refine bK (λ_=>?_) (λ_=>?_)
  ·rfl'
   (refine(aH hb (by lia) (by lia)).mono ?_;rintro _ _ ⟨d3,rfl,l_d3,u_d3,n'⟩;replace n:=n.trans n';replace hb:=n'.bx hb;clear n')
   rfl'
   rw[n.take]
   exact⟨by lia,by lia,n⟩
  ·rfl'
   rw[n.take]
   exact⟨(hv v mv).1,(hv v mv).2,n⟩
theorem vJ(hb:Bx M b)(h2:2<=m)(hn:m<=1000000):Ok (fW [.ref b,.d (.int m)] M) λw M'=>∃r:Int,w=.d (.int r)/\0<=r/\r < m/\Nx b M M':=by
 have n:=Nx.refl hb
 unfold fW
 refine dM rfl ?_
 unfold b_7
 rfl'
 (refine(aH hb (by lia) (by lia)).mono ?_;rintro _ _ ⟨d1,rfl,l_d1,u_d1,n'⟩;replace n:=n.trans n';replace hb:=n'.bx hb;clear n')
 rfl'
 refine bK (λ_=>?_) (λ_=>?_)
 ·rfl'
  (refine(aH hb (by lia) (by lia)).mono ?_;rintro _ _ ⟨d2,rfl,l_d2,u_d2,n'⟩;replace n:=n.trans n';replace hb:=n'.bx hb;clear n')
  have e1:(1:Int) % m=1:=aFN (by lia) (by lia)
  obtain⟨w,ew,hw⟩:=at4 l_d2 u_d2 (.int 0) (.int (1 % m)) (.int (m - 1)) (.int ((m - 2) % m))
  refine cU ew ?_
  rcases hw with rfl|rfl|rfl|rfl
  ·rfl'
   rw[n.take]
   exact⟨by lia,by lia,n⟩
  ·rfl'
   rw[n.take]
   exact⟨by lia,by lia,n⟩
  ·rfl'
   rw[n.take]
   exact⟨by lia,by lia,n⟩
  ·rfl'
   rw[n.take]
   exact⟨aCP _ (by lia),aBN _ (by lia),n⟩
 ·rfl'
  (refine(aH hb (by lia) (by lia)).mono ?_;rintro _ _ ⟨d2,rfl,l_d2,u_d2,n'⟩;replace n:=n.trans n';replace hb:=n'.bx hb;clear n')
  rfl'
  rw[n.take]
  exact⟨l_d2,u_d2,n⟩
theorem jV{a b:Int}(ha:0<=a)(hb:0<=b)(hb2:b<=1000000):Ok (dB [.d (.int a),.d (.int b)] M) λw M'=>M'=M/\∃g:Int,w=.d (.int g)/\0<=g/\g ∣ a/\g ∣ b/\∃x y,a*x+b*y=g:=by
 unfold dB
 refine dM rfl ?_
 unfold b_8
 rfl'
 refine(jI (QS:=λo M'=>M'=M/\∃g t,o=.nx [some (.d (.int g)),t]/\0<=g/\g ∣ a/\g ∣ b/\∃x y,a*x+b*y=g)
  (I:=λm L M'=>M'=M/\∃(h l:Int),L=[some (.d (.int h)),some (.d (.int l))]/\m=l.toNat/\0<=h/\0<=l/\l<=1000000/\(∃x y,a*x+b*y=h)/\(∃x y,a*x+b*y=l)/\∀c:Int,c ∣ h->c ∣ l->c ∣ a/\c ∣ b) ?_ NW b.toNat _ _
  ⟨rfl,a,b,rfl,rfl,ha,hb,hb2,⟨1,0,by lia⟩,⟨0,1,by lia⟩,λc h1 h2=>⟨h1,h2⟩⟩ (by rw[yN];lia)).mono ?_
 ·rintro m L _ ⟨rfl,h,l,rfl,rfl,h0,l0,l1,⟨x1,y1,e1⟩,⟨x2,y2,e2⟩,hd⟩
  rfl'
  refine⟨λhl=>?_,λhl=>?_⟩
  ·have hl:0 < l:=by simpa using hl
   have em1:=aCP h (by lia:l≠0)
   have em2:=aBN h hl
   have e:h - l*(h / l)=h % l:=by rw[Int.emod_def]
   rfl'
   refine⟨(h % l).toNat,by lia,rfl,l,h % l,rfl,rfl,by lia,em1,by lia,⟨x2,y2,e2⟩,⟨x1 - x2*(h / l),y1 - y2*(h / l),?_⟩,?_⟩
   ·rw[<- e,<- e1,<- e2];grind
   ·intro c g1 g2
    refine hd c ?_ g1
    have:=Int.dvd_add g2 (Int.dvd_trans g1 (Int.dvd_mul_right l (h / l)))
    rwa[<- e,show h - l*(h / l)+l*(h / l)=h by lia]at this
  ·have hl:l=0:=by simp at hl;lia
   subst hl
   have:=hd h (Int.dvd_refl h) (Int.dvd_zero h)
   exact⟨rfl,h,_,rfl,h0,this.1,this.2,x1,y1,e1⟩
 ·rintro _ _ ⟨rfl,g,t,rfl,h0,d1,d2,x,y,e⟩
  rfl'
  exact⟨by simp,_,rfl,h0,d1,d2,x,y,e⟩
theorem vB(hb:Bx M b)(h2:2<=m)(hn:m<=1000000):Ok (fV [.ref b,.d (.int m)] M) λw M'=>∃u:Int,w=.d (.int u)/\Un m u/\Nx b M M':=by
 have n:=Nx.refl hb
 unfold fV
 refine dM rfl ?_
 unfold b_9
 rfl'
 (refine(aH hb (by lia) (by lia)).mono ?_;rintro _ _ ⟨d1,rfl,l_d1,u_d1,n'⟩;replace n:=n.trans n';replace hb:=n'.bx hb;clear n')
 rename_i M1
 rfl'
 refine(jI (QS:=λo M'=>M'=M1/\∃u,o=.nx [some (.ref b),some (.d (.int m)),some (.d (.int u))]/\Un m u)
  (I:=λk L M'=>M'=M1/\∃u:Int,L=[some (.ref b),some (.d (.int m)),some (.d (.int u))]/\0<=u/\u < m/\k=(if u<=1 then 1 - u else m+1 - u).toNat) ?_ NW (if d1<=1 then 1 - d1 else m+1 - d1).toNat _ _
  ⟨rfl,d1,rfl,l_d1,u_d1,rfl⟩ (by rw[yN];split <;> lia)).mono ?_
 ·rintro k L _ ⟨rfl,u,rfl,u0,u1,rfl⟩
  rfl'
  refine(jV u0 (by lia) hn).mono ?_
  rintro _ _ ⟨rfl,g,rfl,g0,q1,q2,x,y,e⟩
  rfl'
  refine⟨λhg=>?_,λhg=>?_⟩
  ·have hg:g≠1:=by simpa using hg
   have hu:u≠1:=by
    rintro rfl
    have:=Int.le_of_dvd (by lia) q1
    have:g≠0:=by rintro rfl;have:=Int.zero_dvd.mp q1;lia
    lia
   rfl'
   by_cases hm:u+1=m
   ·rw[hm,Int.emod_self]
    refine⟨_,?_,rfl,0,rfl,by lia,by lia,rfl⟩
    split <;> split <;> lia
   ·rw[aFN (by lia) (by lia)]
    refine⟨_,?_,rfl,u+1,rfl,by lia,by lia,rfl⟩
    split <;> split <;> lia
  ·have hg:g=1:=by simpa using hg
   subst hg
   refine⟨rfl,u,rfl,u0,u1,x % m,aCP _ (by lia),aBN _ (by lia),?_⟩
   refine Cg.emod ((Cg.mul Cg.rfl Cg.mod).trans ⟨-y,?_⟩)
   rw[<- e];grind
 ·rintro _ _ ⟨rfl,u,rfl,hu⟩
  rfl'
  rw[n.take]
  exact⟨hu,n⟩
theorem vT(hb:Bx M b)(hk:0<=k)(hk2:k < 60)(hm:0 < k->0 < m)(hm2:m < 1000){fi:FI}{Q:W->Mm->Prop}(e:outL js L=[none,some (.ref b),some (.d (.int m))])(hi:Ok (fi L M) λs M1=>s=⟨rngD 0 k.toNat,none⟩/\M1=M)
  (q:∀(ns:List Nat) M',(ns.length:Int)=k->(∀x∈ns,(x:Int) < m)->Nx b M M'->Bx M' b->Q (.d (.lst (ns.map λx=>.int (x:Nat)))) M'):Ok (eComp js fi (gN 0) EV.tYes (eA aJ (aCons (eV 1) (aCons (eV 2) aNil))) L M) Q:=by
 refine iB (λi acc L' M'=>∃ns:List Nat,acc=ns.map (λx=>.int (x:Nat))/\ns.length=i/\(∀x∈ns,(x:Int) < m)/\Nx b M M'/\Bx M' b/\∃a,L'=[a,some (.ref b),some (.d (.int m))]) ?_
 refine hi.mono ?_
 rintro _ _ ⟨rfl,rfl⟩
 refine⟨⟨[],rfl,rfl,(λ_ h=>by cases h),Nx.refl hb,hb,none,e⟩,?_,by simp only[rngD,aAL,aCU];lia,?_,?_⟩
 ·rintro i acc L' M' hi ⟨ns,rfl,hl,_,n',_⟩
  exact⟨n'.len,(λt e=>by cases e),by simp[hl]⟩
 ·rintro i d acc _ M1 hx ⟨ns,rfl,hl,hr,n',hb',a,rfl⟩
  obtain⟨hi,rfl⟩:=eK hx
  rfl'
  have q1:=aH (hb'.app (J:=[ns.map λx=>D.int (x:Nat)])) (hm (by lia)) (by lia)
  refine q1.mono ?_
  rintro _ _ ⟨r,rfl,l,u,n2⟩
  obtain⟨M2,rfl,n3⟩:=n2.unapp hb'.lt
  obtain⟨r,rfl⟩:∃k:Nat,r=k:=⟨r.toNat,by lia⟩
  refine⟨_,M2,rfl,rfl,ns++[r],by simp,by simp[hl],?_,n'.trans n3,n3.bx hb',_,rfl⟩
  intro c hc
  rcases aBC.mp hc with hc|hc
  ·exact hr c hc
  ·rw[aAT.mp hc];exact u
 ·rintro acc _ M1 ⟨ns,rfl,hl,hr,n',hb',a,rfl⟩
  simp only[rngD,aAL,aCU]at hl
  exact q ns M1 (by lia) hr n' hb'
variable{S:Nat}
theorem vF(hb:Bx M b)(h2:2<=m)(hn:m<=1000000)(hG:G<=8)(hS:1<=S)(hS2:S<=9):Ok (fM [.ref b,.d (.int m),.d (.int G),.d (.int S)] M) λw M'=>∃d:Dd,w=.d (encD d)/\OkD m G S d/\SrtD d/\Nx b M M':=by
 have n:=Nx.refl hb
 unfold fM
 refine dM rfl ?_
 unfold b_a
 rfl'
 (refine(aH hb (by lia) (by lia)).mono ?_;rintro _ _ ⟨d1,rfl,l_d1,u_d1,n'⟩;replace n:=n.trans n';replace hb:=n'.bx hb;clear n')
 obtain⟨ks,rfl⟩:∃k:Nat,d1=k:=⟨d1.toNat,by lia⟩
 rfl'
 (refine(aH hb (by lia) (by lia)).mono ?_;rintro _ _ ⟨d2,rfl,l_d2,u_d2,n'⟩;replace n:=n.trans n';replace hb:=n'.bx hb;clear n')
 rfl'
 refine bK (λ_=>?_) (λ_=>?_)
 ·rfl'
  refine(vB hb h2 hn).mono ?_
  rintro _ _ ⟨u,rfl,hu,n'⟩
  replace n:=n.trans n'
  rfl'
  rw[n.take]
  exact⟨.scale ks u,rfl,⟨by lia,hu⟩,trivial,n⟩
 rfl'
 (refine(aH hb (by lia) (by lia)).mono ?_;rintro _ _ ⟨d3,rfl,l_d3,u_d3,n'⟩;replace n:=n.trans n';replace hb:=n'.bx hb;clear n')
 obtain⟨w3,e3,h3⟩:=at3 l_d3 u_d3 (.int 3) (.int 3) (.int 5)
 obtain⟨k3,rfl,k30,k31⟩:∃k:Int,w3=.int k/\3<=k/\k<=5:=by
  rcases h3 with rfl|rfl|rfl
  ·exact⟨_,rfl,by lia,by lia⟩
  ·exact⟨_,rfl,by lia,by lia⟩
  ·exact⟨_,rfl,by lia,by lia⟩
 refine cU e3 ?_
 rfl'
 (refine(aH hb (by lia) (by lia)).mono ?_;rintro _ _ ⟨d4,rfl,l_d4,u_d4,n'⟩;replace n:=n.trans n';replace hb:=n'.bx hb;clear n')
 rfl'
 have hmany:∃k:Int,d4*(if decide (0 < (G:Int))=true then 1 else 0)=k/\0<=k/\k<=4/\(0 < k->0 < (G:Int)):=by
  by_cases hg:0 < (G:Int)
  ·exact⟨d4,by rw[aAH (by simpa using hg),Int.mul_one],by lia,by lia,λ_=>hg⟩
  ·exact⟨0,by rw[aAI (by simpa using hg),Int.mul_zero],by lia,by lia,λh=>by lia⟩
 obtain⟨k,ek,hk0,hk1,hkG⟩:=hmany
 rw[ek]
 rfl'
 refine vT hb hk0 (by lia) hkG (by lia) rfl ?_ ?_
 ·rfl'
  refine⟨by simp only[in62,aAW];lia,rfl,rfl⟩
 intro gs M1 gl gr n' hb'
 replace n:=n.trans n'
 clear hb n'
 have hb:=hb'
 clear hb'
 obtain⟨g,eg,pg,og⟩:=oQ gs
 rfl'
 refine mQ (ns:=gs.map λk:Nat=>(k:Int)) rfl (dX gs) (by simp;lia) ?_
 rw[eg]
 rfl'
 refine iB (λi acc L' M'=>acc=((List.range i).filter (·≠ks)).map (λx=>.int (x:Nat))/\M'=M1/\∃a,L'=[a,some (.d (.int ks))]) ?_
 rfl'
 refine⟨by simp only[in62,aAW];lia,⟨rfl,rfl,none,rfl⟩,?_,by simp only[rngD,aAL,aCU];lia,?_,?_⟩
 ·rintro i acc L' M' hi ⟨rfl,rfl,_⟩
  exact⟨rfl,(λt e=>by cases e),by simp only[aAL];exact aAX (aGD _ _) (by simp)⟩
 ·rintro i d acc _ _ hx ⟨rfl,rfl,a,rfl⟩
  obtain⟨hi,rfl⟩:=eK hx
  rfl'
  refine⟨λh=>?_,λh=>?_⟩
  ·rfl'
   have hne:i≠ks:=by simp at h;lia
   refine⟨_,_,rfl,rfl,?_,rfl,_,rfl⟩
   rw[List.range_succ,aEF]
   simp[hne]
  ·have hne:i=ks:=by simp at h;lia
   refine⟨_,rfl,?_,rfl,_,rfl⟩
   rw[List.range_succ,aEF]
   simp[hne]
 rintro acc _ _ ⟨rfl,rfl,a,rfl⟩
 simp only[rngD,aAL,aCU,aCV]
 rw[show(List.range S).filter (·≠ks)=othersL S ks from rfl]
 have hts:∀x∈othersL S ks,x < S/\x≠ks:=λx hx=>rY.mp hx
 have hle:(othersL S ks).length<=9:=aAX (aGD _ _) (by simp;lia)
 generalize othersL S ks=os at hts hle
 rfl'
 refine pE rfl rfl (by simp[dep,deps];have:=jM os;lia) ?_
 rw[pR]
 rfl'
 refine Ok.mono (Q:=λo M2=>∃(ts:List Nat),o=.nx [some (.ref b),some (.d (.int m)),some (.d (.int G)),some (.d (.int S)),some (.d (.int ks)),some (.d (.int d2)),some (.d (.int k)),some (.d (.lst ((g.map λk:Nat=>(k:Int)).map D.int))),some (.d (.lst (os.map λx=>.int (x:Nat)))),some (.d (.lst ((ts.map λk:Nat=>(k:Int)).map D.int)))]/\(∀x∈ts,x < S/\x≠ks)/\ts.length<=4/\ts.Pairwise (·<=·)/\Nx b M M2/\Bx M2 b) ?_ ?_
 ·refine bK (λhos=>?_) (λ_=>?_)
  ·have hos:os≠[]:=by simpa using hos
   have hpos:0 < os.length:=aFB.mpr hos
   rfl'
   refine iB (λi acc L' M'=>∃ns:List Nat,acc=ns.map (λx=>.int (x:Nat))/\ns.length=i/\(∀x∈ns,x∈os)/\Nx b M M'/\Bx M' b/\∃a,L'=[a,some (.d (.lst (os.map λx=>.int (x:Nat)))),some (.ref b)]) ?_
   rfl'
   (refine(aH hb (by lia) (by lia)).mono ?_;rintro _ _ ⟨d5,rfl,l_d5,u_d5,n'⟩;replace n:=n.trans n';replace hb:=n'.bx hb;clear n')
   obtain⟨w5,e5,h5⟩:=at3 l_d5 u_d5 (.int 2) (.int 3) (.int 5)
   obtain⟨k5,rfl,k50,k51⟩:∃k:Int,w5=.int k/\2<=k/\k<=5:=by
    rcases h5 with rfl|rfl|rfl
    ·exact⟨_,rfl,by lia,by lia⟩
    ·exact⟨_,rfl,by lia,by lia⟩
    ·exact⟨_,rfl,by lia,by lia⟩
   refine cU e5 ?_
   rfl'
   (refine(aH hb (by lia) (by lia)).mono ?_;rintro _ _ ⟨d6,rfl,l_d6,u_d6,n'⟩;replace n:=n.trans n';replace hb:=n'.bx hb;clear n')
   rfl'
   refine⟨by simp only[in62,aAW];lia,⟨[],rfl,rfl,(λ_ h=>by cases h),n,hb,none,rfl⟩,?_,by simp only[rngD,aAL,aCU];lia,?_,?_⟩
   ·rintro i acc L' M' hi ⟨ns,rfl,hl,_,n',_⟩
    exact⟨by rw[n'.len,n.len],(λt e=>by cases e),by simp[hl]⟩
   ·rintro i d acc _ M2 hx ⟨ns,rfl,hl,hr,n',hb',a,rfl⟩
    rfl'
    have q1:=aH (hb'.app (J:=[ns.map λx=>D.int (x:Nat)])) (m:=((os.map λx=>D.int (x:Nat)).length:Int)) (by simp;lia) (by simp;lia)
    refine q1.mono ?_
    rintro _ _ ⟨r,rfl,l,u,n2⟩
    obtain⟨M3,rfl,n3⟩:=n2.unapp hb'.lt
    obtain⟨x,hx1,hx2⟩:=aBn l (by simpa using u)
    refine cU hx2 ?_
    refine⟨_,M3,rfl,rfl,ns++[x],by simp,by simp[hl],?_,n'.trans n3,n3.bx hb',_,rfl⟩
    intro c hc
    rcases aBC.mp hc with hc|hc
    ·exact hr c hc
    ·rw[aAT.mp hc];exact hx1
   ·rintro acc _ M2 ⟨ns,rfl,hl,hr,n',hb',a,rfl⟩
    simp only[rngD,aAL,aCU]at hl
    obtain⟨ts,et,pt,ot⟩:=oQ ns
    rfl'
    refine mQ (ns:=ns.map λk:Nat=>(k:Int)) rfl (dX ns) (by simp;lia) ?_
    rw[et]
    rfl'
    exact⟨λx hx=>hts x (hr x (pt.mem_iff.mp hx)),by rw[pt.length_eq];lia,ot,n',hb'⟩
  ·rfl'
   exact⟨[],rfl,by simp,by simp,.nil,n,hb⟩
 clear n hb
 rintro _ M2 ⟨ts,rfl,ht1,ht2,ht3,n,hb⟩
 rfl'
 refine(vJ hb h2 hn).mono ?_
 rintro _ _ ⟨c,rfl,c0,c1,n'⟩
 replace n:=n.trans n'
 rfl'
 refine gX (xs:=(g.map λk:Nat=>(k:Int)).map D.int) rfl ?_
 rfl'
 refine gX (xs:=(ts.map λk:Nat=>(k:Int)).map D.int) rfl ?_
 rfl'
 rw[n.take]
 refine⟨.add ks c g ts,by simp only[encD,natsD];rw[dX,dX],⟨by lia,c0,c1,?_,λx hx=>(ht1 x hx).1,λhk=>(ht1 ks hk).2 rfl,by rw[pg.length_eq];lia,ht2⟩,⟨og,ht3⟩,n⟩
 intro i hi
 have:=gr i (pg.mem_iff.mp hi)
 lia
theorem rF(hb:Bx M b):Ok (eJ [.ref b] M) λw M'=>∃(m:Int) (G S:Nat),w=.d (.tup [.int m,.int G,.int S])/\2<=m/\m<=1000000/\G<=8/\1<=S/\S<=9/\Nx b M M':=by
 have n:=Nx.refl hb
 unfold eJ
 refine dM rfl ?_
 unfold b_b
 rfl'
 (refine(aH hb (by lia) (by lia)).mono ?_;rintro _ _ ⟨d1,rfl,l_d1,u_d1,n'⟩;replace n:=n.trans n';replace hb:=n'.bx hb;clear n')
 rfl'
 refine(aFh hb).mono ?_
 rintro _ _ ⟨m,rfl,m2,m1,n'⟩
 replace n:=n.trans n'
 replace hb:=n'.bx hb
 clear n'
 obtain⟨w3,e3,h3⟩:=at3 l_d1 u_d1 (.int 4) (.int 4) (.int 9)
 obtain⟨k3,rfl,k30,k31⟩:∃k:Int,w3=.int k/\4<=k/\k<=9:=by
  rcases h3 with rfl|rfl|rfl
  ·exact⟨_,rfl,by lia,by lia⟩
  ·exact⟨_,rfl,by lia,by lia⟩
  ·exact⟨_,rfl,by lia,by lia⟩
 rfl'
 refine cU e3 ?_
 rfl'
 (refine(aH hb (by lia) (by lia)).mono ?_;rintro _ _ ⟨d2,rfl,l_d2,u_d2,n'⟩;replace n:=n.trans n';replace hb:=n'.bx hb;clear n')
 rfl'
 refine cU e3 ?_
 rfl'
 (refine(aH hb (by lia) (by lia)).mono ?_;rintro _ _ ⟨d3,rfl,l_d3,u_d3,n'⟩;replace n:=n.trans n';replace hb:=n'.bx hb;clear n')
 rfl'
 rw[n.take]
 obtain⟨G,rfl⟩:∃k:Nat,d2=k:=⟨d2.toNat,by lia⟩
 obtain⟨S,hS⟩:∃k:Nat,1+d3=k:=⟨(1+d3).toNat,by lia⟩
 rw[hS]
 exact⟨m,G,S,rfl,m2,m1,by lia,by lia,by lia,n⟩
theorem pF{k:Nat}{ds:List D}{Q:W->Mm->Prop}(h:M[k]?=some ds)(hd:deps ds<=90)(q:Q (.d (.bl (decide (ds≠[])))) M):Ok (pNe (.ref k) (.d (.lst [])) M) Q:=by
 refine pE (a:=.lst ds) (b:=.lst []) (by simp[wd,h]) rfl (by simp[dep,deps];lia) ?_
 rw[pR];exact q
theorem wY(d:Dd):dep (encD d)<=10:=by
 cases d with
 |add s c g t=>have h1:=jM g;have h2:=jM t;simp[encD,natsD,dep,deps];lia
 |scale s u=>simp[encD,dep,deps]
theorem mH:∀ds:List Dd,deps (ds.map encD)<=10
 |[]=>by simp[deps]
 |d::r=>by have:=wY d;have:=mH r;simp[deps];lia
theorem kD(hb:Bx M b)(h2:2<=m)(hn:m<=1000000)(hG:G<=8)(hS:1<=S)(hS2:S<=9)(k0:0<=k)(k1:k < 1000):Ok (cC [.ref b,.d (.int m),.d (.int G),.d (.int S),.d (.int k)] M) λw M'=>∃ds:List Dd,w=.d (encP m G S ds)/\(∀d∈ds,OkD m G S d)/\(∀d∈ds,SrtD d)/\(ds.length:Int)<=k/\Nx b M M':=by
 unfold cC
 refine dM rfl ?_
 unfold b_c
 have hb1:Bx (M++[[]]) b:=hb.app
 have n:=Nx.refl hb1
 rfl'
 refine(aH hb1 (by lia) (by lia)).mono ?_
 rintro _ _ ⟨d1,rfl,l_d1,u_d1,n'⟩
 replace n:=n.trans n'
 obtain⟨M1,rfl,n1⟩:=n.unapp hb.lt
 have hb':=n1.bx hb
 clear hb1 n n'
 rfl'
 refine⟨by simp only[in62,aAW];lia,?_⟩
 have el:M.length=M1.length:=n1.len.symm
 refine dW (λi L M'=>∃(Mi:Mm) (ds:List Dd) (o1 o2 o3:Option W),M'=Mi++[ds.map encD]/\Nx b M Mi/\Bx Mi b/\ds.length=i/\(∀d∈ds,OkD m G S d)/\(∀d∈ds,SrtD d)/\L=[some (.ref b),some (.d (.int m)),some (.d (.int G)),some (.d (.int S)),some (.d (.int k)),some (.ref M.length),o1,o2,o3])
  ⟨M1,[],_,_,_,rfl,n1,hb',rfl,by simp,by simp,rfl⟩ (λi L M _ _ t e=>by cases e) ?_ ?_
 ·rintro i d _ _ hx ⟨Mi,ds,o1,o2,o3,rfl,n,hb,hl,hd,hs,rfl⟩
  obtain⟨hi,rfl⟩:=eK hx
  have e1:M.length=Mi.length:=n.len.symm
  rfl'
  refine(aH (hb.app (J:=[ds.map encD])) (by lia) (by lia)).mono ?_
  rintro _ _ ⟨d2,rfl,l_d2,u_d2,n'⟩
  obtain⟨M2,rfl,n2⟩:=n'.unapp hb.lt
  replace n:=n.trans n2
  replace hb:=n2.bx hb
  clear n' n2 e1
  rfl'
  refine(vF (hb.app (J:=[ds.map encD])) h2 hn hG hS hS2).mono ?_
  rintro _ _ ⟨d3,rfl,ok3,sr3,n'⟩
  obtain⟨M3,rfl,n2⟩:=n'.unapp hb.lt
  replace n:=n.trans n2
  replace hb:=n2.bx hb
  clear n' n2
  have e1:M.length=M3.length:=n.len.symm
  have g1:(M3++[ds.map encD])[M.length]?=some (ds.map encD):=by rw[e1];simp
  refine tD (jN (nV (Ok.mono (Q:=λc M4=>M4=M3++[ds.map encD]/\(c=true->ds≠[])) ?_ ?_)))
  ·rfl'
   refine⟨λ_=>?_,λ_=>⟨rfl,by simp⟩⟩
   rfl'
   refine pF g1 (aAX (mH ds) (by lia)) ?_
   rfl'
   exact⟨rfl,by simp⟩
  rintro c _ ⟨rfl,hc⟩
  refine Ok.mono (Q:=λo M4=>∃(M5:Mm) (d4:Dd) (o1 o2:Option W),M4=M5++[ds.map encD]/\Nx b M M5/\Bx M5 b/\OkD m G S d4/\SrtD d4/\o=.nx [some (.ref b),some (.d (.int m)),some (.d (.int G)),some (.d (.int S)),some (.d (.int k)),some (.ref M.length),o1,o2,some (.d (encD d4))]) ?_ ?_
  ·refine xA (λh=>?_) (λ_=>?_)
   ·have hne:=hc h
    have hpos:0 < ds.length:=aFB.mpr hne
    rfl'
    refine(aH (hb.app (J:=[ds.map encD])) (m:=((ds.map encD).length:Int)) (by simp;lia) (by simp;lia)).mono ?_
    rintro _ _ ⟨r,rfl,l,u,n'⟩
    obtain⟨M4,rfl,n2⟩:=n'.unapp hb.lt
    have e2:M.length=M4.length:=by rw[n2.len];exact e1
    have hr:r.toNat < ds.length:=by simp at u;lia
    refine nI (xs:=ds.map encD) (d:=encD ds[r.toNat]) (by rw[e2];simp) ?_ ?_
    ·simp only[atI,ixN,aAL]
     rw[aAH l,aAH (by simpa using u)]
     simp[hr]
    rfl'
    exact⟨M4,ds[r.toNat],_,_,rfl,n.trans n2,n2.bx hb,hd _ (aFX hr),hs _ (aFX hr),rfl⟩
   ·rfl'
    exact⟨M3,d3,_,_,rfl,n,hb,ok3,sr3,rfl⟩
  clear n hb e1 g1 ok3 sr3
  rintro _ _ ⟨M5,d4,o1',o2',rfl,n,hb,ok4,sr4,rfl⟩
  have e1:M.length=M5.length:=n.len.symm
  rfl'
  refine vH (xs:=ds.map encD) (by rw[e1];simp) (by simp;lia) ?_
  rfl'
  refine⟨M5,ds++[d4],_,_,_,by rw[e1];simp,n,hb,by simp[hl],?_,?_,rfl⟩
  ·intro x hx
   rcases aBC.mp hx with hx|hx
   ·exact hd x hx
   ·rw[aAT.mp hx];exact ok4
  ·intro x hx
   rcases aBC.mp hx with hx|hx
   ·exact hs x hx
   ·rw[aAT.mp hx];exact sr4
 ·rintro _ _ ⟨Mi,ds,o1,o2,o3,rfl,n,hb,hl,hd,hs,rfl⟩
  have e1:M.length=Mi.length:=n.len.symm
  simp only[rngD,aAL,aCU]at hl
  rfl'
  refine gX (xs:=ds.map encD) (by simp[sv,lr,lv,e1]) ?_
  rfl'
  exact⟨hd,hs,by lia,by rw[e1];simpa using n⟩
variable{n:Int}
theorem mB(hn:2<=n)(hn2:n<=1000000):Ok (eQ [.d (.int n),.d (.int k)] M) λw M'=>M'=M/\((∃v,IsIv n k v/\w=.d (.int v))\/((¬∃v,IsIv n k v)/\(∃h:Int,1 < h/\h ∣ n/\h ∣ k)/\w=.d .non)):=by
 unfold eQ
 refine dM rfl ?_
 unfold b_0
 rfl'
 refine(jI (QS:=λo M'=>M'=M/\∃h p q t,o=.nx [some (.d (.int n)),some (.d (.int k)),some (.d (.int h)),some (.d (.int 0)),some (.d (.int p)),some (.d (.int q)),t]/\0 < h/\h<=n/\Cg n (p*k) h/\h ∣ n/\h ∣ k)
  (I:=λm L M'=>M'=M/\∃(h l p q:Int) (t:Option W),L=[some (.d (.int n)),some (.d (.int k)),some (.d (.int h)),some (.d (.int l)),some (.d (.int p)),some (.d (.int q)),t]/\m=l.toNat/\0 < h/\h<=n/\0<=l/\l<=n/\Cg n (p*k) h/\Cg n (q*k) l/\∀c:Int,c ∣ h->c ∣ l->c ∣ n/\c ∣ k) ?_ NW (k % n).toNat _ _
  ⟨rfl,n,k % n,0,1,none,rfl,rfl,by lia,by lia,aCP _ (by lia),Int.le_of_lt (aBN _ (by lia)),⟨-1,by grind⟩,?_,?_⟩ ?_).mono ?_
 ·rintro m L _ ⟨rfl,h,l,p,q,t,rfl,rfl,h0,h1,l0,l1,c1,c2,hd⟩
  rfl'
  refine⟨λhl=>?_,λhl=>?_⟩
  ·have hl:0 < l:=by simpa using hl
   have e:h - h / l*l=h % l:=by rw[Int.emod_def,Int.mul_comm]
   have ht0:0<=h / l:=Int.ediv_nonneg (by lia) (by lia)
   have ht1:h / l<=h:=Int.ediv_le_self _ (by lia)
   rfl'
   rw[e]
   have em1:=aCP h (by lia:l≠0)
   have em2:=aBN h hl
   refine⟨(h % l).toNat,by lia,rfl,l,h % l,q,p - h / l*q,_,rfl,rfl,hl,by lia,em1,by lia,c2,?_,?_⟩
   ·rw[<- e]
    exact(Cg.of_eq (by grind)).trans (Cg.sub c1 (Cg.mul (Cg.rfl (a:=h / l)) c2))
   ·intro c g1 g2
    refine hd c ?_ g1
    have:=Int.dvd_add g2 (Int.dvd_trans g1 (Int.dvd_mul_left (h / l) l))
    rwa[<- e,show h - h / l*l+h / l*l=h by lia]at this
  ·have hl:l=0:=by simp at hl;lia
   subst hl
   have:=hd h (Int.dvd_refl h) (Int.dvd_zero h)
   exact⟨rfl,h,p,q,t,rfl,h0,h1,c1,this.1,this.2⟩
 ·exact(Cg.of_eq (by grind)).trans (Cg.mod (a:=k)).symm
 ·intro c g1 g2
  refine⟨g1,?_⟩
  have:=Int.dvd_add g2 (Int.dvd_trans g1 (Int.dvd_mul_right n (k / n)))
  rwa[Int.emod_add_mul_ediv]at this
 ·rw[yN];have:=aBN k (by lia:0 < n);lia
 ·rintro _ _ ⟨rfl,h,p,q,t,rfl,h0,h1,c1,d1,d2⟩
  have pn:=aCP p (by lia:n≠0)
  have pl:=aBN p (by lia:0 < n)
  rfl'
  refine kM (λhh=>?_) (λhh=>?_)
  ·subst hh
   rfl'
   refine⟨by simp,.inl ⟨p % n,⟨pn,pl,?_⟩,rfl⟩⟩
   exact Cg.emod ((Cg.mul Cg.rfl Cg.mod).trans ((Cg.of_eq (Int.mul_comm _ _)).trans c1))
  ·rfl'
   refine⟨by simp,.inr ⟨?_,⟨h,by lia,d1,d2⟩,rfl⟩⟩
   rintro⟨v,v0,v1,e⟩
   obtain⟨z,hz⟩:=Cg.of e
   have:h ∣ 1:=by
    have g1:h ∣ k*v:=aEA d2
    rw[hz]at g1
    exact(Int.dvd_add_left (aEA d1)).mp g1
   have:=Int.le_of_dvd (by lia) this
   lia
inductive Od
 |sc (s u:Int)
 |ad (s c:Int) (g t:List Int)
noncomputable section
def eO:Od->D
 |.sc s u=>.tup [.str "scale",.int s,.int u]
 |.ad s c g t=>.tup [.str "add",.int s,.int c,intsD g,intsD t]
def FacO(xs:List Int)(m:Int):Prop:=xs.length<=4/\xs.Pairwise (·<=·)/\∀x∈xs,0<=x/\x < m
def LetO(n G S:Int):Od->Prop
 |.sc s u=>(0<=s/\s < S)/\(0<=u/\u < n)/\∃v,IsIv n u v
 |.ad s c g t=>(0<=s/\s < S)/\(0<=c/\c < n)/\FacO g G/\FacO t S/\s∉t
def SmO:Od->Prop
 |.sc _ _=>True
 |.ad _ _ g t=>g.length<=16/\t.length<=16
end
variable{xs:List Int}{x:Int}
theorem qZ(h:xs[i]?=some x):xs.take (i+1)=xs.take i++[x]:=by rw[aEL,h];rfl
theorem eX :Ok (bW [.d (intsD xs),.d (.int m)] M) λw M'=>∃b,w=.d (.bl b)/\(b=true ↔ FacO xs m)/\M'=M:=by
 unfold bW
 refine dM rfl ?_
 unfold b_3 intsD
 rfl'
 refine bK (λh=>?_) (λh=>?_)
 ·rfl'
  simp only[aAL]at h
  exact⟨⟨λe=>(nomatch e),λe=>absurd e.1 (by lia)⟩,by simp⟩
 simp only[aAL]at h
 rfl'
 refine dW (λi L M'=>M'=M/\∃(l:Int) (o:Option W),L=[some (.d (.tup (xs.map .int))),some (.d (.int m)),some (.d (.int l)),o]/\(xs.take i).Pairwise (·<=·)/\(∀x∈xs.take i,0<=x/\x < m/\x<=l)/\0<=l/\(l=0\/l∈xs.take i)) ⟨rfl,0,none,rfl,by simp,by simp,by lia,.inl rfl⟩ (λi L M' _ _ t e=>by cases e) ?_ ?_
 ·rintro i d _ _ hd ⟨rfl,l,o,rfl,pw,all,l0,lm⟩
  simp only[aBR,aBG]at hd
  obtain⟨x,hx,rfl⟩:=hd
  have et:=qZ hx
  have hsub:xs.take (i+1)++xs.drop (i+1)=xs:=aGC _ _
  rfl'
  refine⟨λh1=>?_,λh1=>?_⟩
  ·rfl'
   simp only[aAW]at h1
   refine⟨⟨λe=>(nomatch e),λe=>absurd h1 ?_⟩,by simp⟩
   obtain⟨e1,e2,e3⟩:=e
   have hxm:=e3 x (aBE hx)
   rw[<- hsub,et]at e2
   have e4:=(aDT.mp (aDT.mp e2).1).2.2
   rcases lm with rfl|lm
   ·lia
   ·have:=e4 l lm x (by simp)
    lia
  ·simp only[decide_eq_false_iff_not]at h1
   rfl'
   refine bK (λh2=>?_) (λh2=>?_)
   ·rfl'
    refine⟨⟨λe=>(nomatch e),λe=>absurd h2 ?_⟩,by simp⟩
    have:=e.2.2 x (aBE hx)
    lia
   ·rfl'
    refine⟨rfl,x,_,rfl,?_,?_,by lia,.inr (by rw[et];simp)⟩
    ·rw[et]
     exact aDT.mpr ⟨pw,by simp,λa ha b hb=>by rw[aAT.mp hb];have:=all a ha;lia⟩
    ·intro y hy
     rw[et]at hy
     rcases aBC.mp hy with hy|hy
     ·have:=all y hy;lia
     ·rw[aAT.mp hy];lia
 ·rintro _ _ ⟨rfl,l,o,rfl,pw,all,l0,lm⟩
  simp only[aAL,aAR]at pw all
  rfl'
  exact⟨⟨λ_=>⟨by lia,pw,λx hx=>by have:=all x hx;lia⟩,λ_=>rfl⟩,by simp⟩
theorem rng3e{Q:W->Mm->Prop}{a y:Int}{g:FE}(hf:Ok (f L M) λw M'=>w=.d (.int x)/\M'=M)(hg:Ok (g L M) λw M'=>w=.d (.int y)/\M'=M)(q:Q (.d (.bl (decide (a<=x/\x < y)))) M):Ok (e3c pLe pLt (eC (.int a)) f g L M) Q:=by
 refine(aDt (aFo (hf.mono ?_)))
 rintro _ _ ⟨rfl,rfl⟩
 rfl'
 refine⟨λh=>?_,λh=>?_⟩
 ·have h:=aFL h
  refine hg.mono ?_
  rintro _ _ ⟨rfl,rfl⟩
  rfl'
  simpa[h]using q
 ·have h:=of_decide_eq_false h
  simpa[h]using q
theorem lI(s:Int):∀xs:List Int,((xs.map D.int).any λy=>eqD y (.int s))=decide (s∈xs)
 |[]=>by simp
 |x::r=>by
  have:=lI s r
  simp only[aDG,aEB,this,eqD,aBK]
  by_cases h:x=s
  ·subst h;simp
  ·have h2:¬s=x:=λz=>h z.symm
   simp[h,h2]
theorem mS(xs:List Int):(xs.map D.int).all flatD=true:=by simp[List.all_map,aHB,flatD,fv]
variable{d:Od}
theorem nG(n2:2<=n)(n1:n<=1000000):Ok (eN [.d (.int n),.d (.int G),.d (.int S),.d (eO d)] M) λw M'=>(∃b:Bool,w=.d (.bl b)/\(b=true ↔ LetO n G S d))/\M'=M:=by
 unfold eN
 refine dM rfl ?_
 unfold b_2
 cases d with
 |sc s u =>
  simp only[eO]
  rfl'
  refine rng3e (x:=s) (y:=(S:Int)) (by(rfl');exact⟨rfl,rfl⟩) (by(rfl');exact⟨rfl,rfl⟩) ?_
  refine⟨_,rfl,?_⟩
  refine⟨λhs=>?_,λhs=>?_⟩
  ·rfl'
   rw[aAR]
   refine⟨⟨false,rfl,⟨λe=>(nomatch e),λe=>?_⟩⟩,rfl⟩
   have:=e.1
   simp[this]at hs
  have hs:0<=s/\s < S:=by simpa using hs
  rfl'
  refine rng3e (x:=u) (y:=n) (by(rfl');exact⟨rfl,rfl⟩) (by(rfl');exact⟨rfl,rfl⟩) ?_
  refine⟨_,rfl,?_⟩
  refine kM (λhu=>?_) (λhu=>?_)
  ·rfl'
   refine(mB n2 n1).mono ?_
   rintro _ M ⟨rfl,⟨v,hv,rfl⟩|⟨hv,_,rfl⟩⟩
   ·rfl'
    rw[aAR]
    exact⟨⟨_,rfl,⟨λ_=>⟨hs,hu,v,hv⟩,λ_=>rfl⟩⟩,rfl⟩
   ·rfl'
    rw[aAR]
    exact⟨⟨_,rfl,⟨λe=>(nomatch e),λe=>absurd e.2.2 hv⟩⟩,rfl⟩
  ·rfl'
   rw[aAR]
   exact⟨⟨false,rfl,⟨λe=>(nomatch e),λe=>absurd e.2.1 hu⟩⟩,rfl⟩
 |ad s c g t =>
  simp only[eO]
  rfl'
  refine rng3e (x:=s) (y:=(S:Int)) (by(rfl');exact⟨rfl,rfl⟩) (by(rfl');exact⟨rfl,rfl⟩) ?_
  refine⟨_,rfl,?_⟩
  refine⟨λhs=>?_,λhs=>?_⟩
  ·rfl'
   rw[aAR]
   refine⟨⟨false,rfl,⟨λe=>(nomatch e),λe=>?_⟩⟩,rfl⟩
   have:=e.1
   simp[this]at hs
  have hs:0<=s/\s < S:=by simpa using hs
  rfl'
  refine rng3e (x:=c) (y:=n) (by(rfl');exact⟨rfl,rfl⟩) (by(rfl');exact⟨rfl,rfl⟩) ?_
  refine⟨_,rfl,?_⟩
  refine kM (λhu=>?_) (λhu=>?_)
  ·rfl'
   refine eX.mono ?_
   rintro _ M ⟨b1,rfl,hb1,rfl⟩
   cases b1 with
   |false =>
    rfl'
    rw[aAR]
    exact⟨⟨false,rfl,⟨λe=>(nomatch e),λe=>absurd (hb1.mpr e.2.2.1) (by simp)⟩⟩,rfl⟩
   |true =>
    rfl'
    refine eX.mono ?_
    rintro _ M ⟨b2,rfl,hb2,rfl⟩
    cases b2 with
    |false =>
     rfl'
     rw[aAR]
     exact⟨⟨false,rfl,⟨λe=>(nomatch e),λe=>absurd (hb2.mpr e.2.2.2.1) (by simp)⟩⟩,rfl⟩
    |true =>
     unfold intsD
     rfl'
     refine aBu (neg:=true) (xs:=t.map D.int) rfl rfl (mS t) ?_
     rw[lI]
     rfl'
     rw[aAR]
     exact⟨⟨_,rfl,⟨λe=>⟨hs,hu,hb1.mp rfl,hb2.mp rfl,by simpa using e⟩,λe=>by simpa using e.2.2.2.2⟩⟩,rfl⟩
  ·rfl'
   rw[aAR]
   exact⟨⟨false,rfl,⟨λe=>(nomatch e),λe=>absurd e.2.1 hu⟩⟩,rfl⟩
theorem aEz{u g y:Int}(hn:2<=n)(g0:0<=g)(h1:g ∣ u)(h2:g ∣ n)(e:u*x+n*y=g):(∃v,IsIv n u v) ↔ g=1:=by
 constructor
 ·rintro⟨v,v0,v1,e'⟩
  obtain⟨z,hz⟩:=Cg.of e'
  have:g ∣ 1:=by
   have g1:g ∣ u*v:=aEA h1
   rw[hz]at g1
   exact(Int.dvd_add_left (aEA h2)).mp g1
  have:=Int.le_of_dvd (by lia) this
  have:g≠0:=by rintro rfl;have:=Int.zero_dvd.mp h2;lia
  lia
 ·rintro rfl
  refine⟨x % n,aCP _ (by lia),aBN _ (by lia),?_⟩
  exact Cg.emod ((Cg.mul Cg.rfl Cg.mod).trans ⟨-y,by rw[<- e];grind⟩)
theorem mK:∀xs ys:List Int,eqDs (xs.map D.int) (ys.map D.int)=decide (xs=ys)
 |[],[]=>rfl
 |[],_::_=>rfl
 |_::_,[]=>rfl
 |x::xs,y::ys=>by
  show(x==y&&eqDs (xs.map D.int) (ys.map D.int))=_
  rw[mK xs ys,show(x==y)=decide (x=y) by by_cases h:x=y <;> simp[h]]
  simp[Bool.decide_and]
theorem kL(xs:List Int):deps (xs.map D.int)<=1:=by
 induction xs with
 |nil=>simp[deps]
 |cons x r ih=>simp only[aDG,deps,dep]at ih ⊢;lia
theorem pV{a b c d:Option W}(hz:xs.length<=16):Ok ((sSeq (sIf (EV.tOr (EV.tB (e2 pGt (eA cLen (aCons (eV 4) aNil)) (eC (.int 4)))) (EV.tB (e2 pNe (eA cList (aCons (eV 4) aNil)) (eA cSortTB (aCons (eV 4) aNil)))))
  (sRt (eC (.bl true)))
  sNil)
  (sIf (EV.tB (e2 pGt (eA cLen (aCons (eComp [none,some 5] (iE (eV 4)) (gN 0) (EV.tOr (EV.tB (e2 pLt (eV 0) (eC (.int 0)))) (EV.tB (e2 pGe (eV 0) (eV 1)))) (eV 0)) aNil)) (eC (.int 0))))
  (sRt (eC (.bl true)))
  sNil)) [a,b,c,d,some (.d (intsD xs)),some (.d (.int m))] M) λo M'=>M'=M/\((FacO xs m/\o=.nx [a,b,c,d,some (.d (intsD xs)),some (.d (.int m))])\/(¬FacO xs m/\o=.rt (.d (.bl true)))):=by
 unfold intsD
 refine jN (nV (Ok.mono (Q:=λq M'=>M'=M/\(q=true ↔ ¬(xs.length<=4/\xs.Pairwise (·<=·)))) ?_ ?_))
 ·rfl'
  refine⟨λh=>⟨rfl,?_⟩,λh=>?_⟩
  ·simp at h;simp;lia
  have h4:xs.length<=4:=by simp at h;lia
  rfl'
  refine aDv rfl ?_
  rfl'
  refine gD (ns:=xs) rfl (by lia) ?_
  refine pE (a:=.lst (xs.map D.int)) (b:=.lst ((srt xs).map D.int)) rfl rfl (by have:=kL xs;have:=kL (srt xs);simp only[dep];lia) ?_
  rw[show eqD (.lst (xs.map D.int)) (.lst ((srt xs).map D.int))=decide (xs=srt xs)from mK _ _]
  refine⟨_,rfl,rfl,?_⟩
  have hs:(xs=srt xs) ↔ xs.Pairwise (·<=·):=⟨λz=>by rw[z];exact gW _,λz=>(lV z).symm⟩
  rw[<- hs]
  simp[h4]
 rintro q M ⟨rfl,hq⟩
 refine xA (λh=>?_) (λh=>?_)
 ·rfl'
  refine⟨rfl,.inr ⟨λz=>?_,rfl⟩⟩
  exact hq.mp h ⟨z.1,z.2.1⟩
 have h1:xs.length<=4/\xs.Pairwise (·<=·):=aDS λz=>by rw[hq.mpr z]at h;cases h
 obtain⟨h4,hs⟩:=h1
 rfl'
 refine iB (λi acc L' M'=>acc=((xs.take i).filter λk=>decide (k < 0\/m<=k)).map D.int/\M'=M/\∃a,L'=[a,some (.d (.int m))]) ?_
 rfl'
 refine⟨⟨rfl,rfl,none,rfl⟩,?_,by simp;lia,?_,?_⟩
 ·rintro i acc L' M' hi ⟨rfl,rfl,_⟩
  refine⟨rfl,(λt e=>by cases e),?_⟩
  have:=aGD (λk=>decide (k < 0\/m<=k)) (xs.take i)
  simp at this ⊢;lia
 ·rintro i d acc _ _ hx ⟨rfl,rfl,a,rfl⟩
  simp only[aBR,aBG]at hx
  obtain⟨k,hk,rfl⟩:=hx
  rfl'
  refine⟨λh=>?_,λh0=>?_⟩
  ·have h:k < 0:=by simpa using h
   refine⟨λ_=>?_,λz=>(nomatch z)⟩
   rfl'
   refine⟨_,_,rfl,rfl,?_,rfl,_,rfl⟩
   rw[aEL,hk]
   simp[aEF,h]
  have h0:¬k < 0:=by simpa using h0
  rfl'
  refine⟨λh=>?_,λh=>?_⟩
  ·have h:m<=k:=by simpa using h
   rfl'
   refine⟨_,_,rfl,rfl,?_,rfl,_,rfl⟩
   rw[aEL,hk]
   simp[aEF,h]
  ·have h:¬m<=k:=by simpa using h
   refine⟨_,rfl,?_,rfl,_,rfl⟩
   rw[aEL,hk]
   simp[aEF,h,h0]
 ·rintro acc _ _ ⟨rfl,rfl,a,rfl⟩
  rw[aAL,aAR]
  rfl'
  refine bK (λh=>?_) (λh=>?_)
  ·rfl'
   refine⟨rfl,.inr ⟨λz=>?_,rfl⟩⟩
   have hp:0 < (xs.filter λk=>decide (k < 0\/m<=k)).length:=by simp only[aAL]at h;lia
   obtain⟨k,hk⟩:=List.exists_mem_of_length_pos hp
   obtain⟨hk1,hk2⟩:=aGK.mp hk
   have:=z.2.2 k hk1
   have:=aFL hk2
   lia
  ·rfl'
   refine⟨rfl,.inl ⟨⟨h4,hs,λk hk=>aDS λz=>h ?_⟩,rfl⟩⟩
   have:k∈xs.filter λk=>decide (k < 0\/m<=k):=aGK.mpr ⟨hk,by simp only[aAW];lia⟩
   have:=List.length_pos_of_mem this
   simp only[aAL];lia
theorem lP(n2:2<=n)(n1:n<=1000000)(sm:SmO d):Ok (cV [.d (.int n),.d (.int G),.d (.int S),.d (eO d)] M) λw M'=>(∃b:Bool,w=.d (.bl b)/\(b=true ↔ ¬LetO n G S d))/\M'=M:=by
 unfold cV
 refine dM rfl ?_
 unfold b_d
 cases d with
 |sc s u =>
  simp only[eO]
  rfl'
  refine rng3e (x:=s) (y:=(S:Int)) (by(rfl');exact⟨rfl,rfl⟩) (by(rfl');exact⟨rfl,rfl⟩) ?_
  refine⟨_,rfl,λhs=>?_,λhs=>?_⟩
  ·rfl'
   rw[aAR]
   refine⟨⟨true,rfl,⟨λ_ e=>?_,λ_=>rfl⟩⟩,rfl⟩
   have:=e.1
   simp[this]at hs
  have hs:0<=s/\s < S:=by simpa using hs
  rfl'
  refine rng3e (x:=u) (y:=n) (by(rfl');exact⟨rfl,rfl⟩) (by(rfl');exact⟨rfl,rfl⟩) ?_
  refine⟨_,rfl,?_⟩
  refine kM (λhu=>?_) (λhu=>?_)
  ·rfl'
   refine(jV hu.1 (by lia) (by lia)).mono ?_
   rintro _ M ⟨rfl,g,rfl,g0,q1,q2,x,y,e⟩
   rfl'
   rw[aAR]
   have iff:=aEz n2 g0 q1 q2 e
   refine⟨⟨_,rfl,?_⟩,rfl⟩
   simp only[LetO,iff]
   simp[hs,hu]
  ·rfl'
   rw[aAR]
   exact⟨⟨true,rfl,⟨λ_ e=>hu e.2.1,λ_=>rfl⟩⟩,rfl⟩
 |ad s c g t =>
  obtain⟨sg,st⟩:=sm
  simp only[eO]
  rfl'
  refine rng3e (x:=s) (y:=(S:Int)) (by(rfl');exact⟨rfl,rfl⟩) (by(rfl');exact⟨rfl,rfl⟩) ?_
  refine⟨_,rfl,λhs=>?_,λhs=>?_⟩
  ·rfl'
   rw[aAR]
   refine⟨⟨true,rfl,⟨λ_ e=>?_,λ_=>rfl⟩⟩,rfl⟩
   have:=e.1
   simp[this]at hs
  have hs:0<=s/\s < S:=by simpa using hs
  rfl'
  refine rng3e (x:=c) (y:=n) (by(rfl');exact⟨rfl,rfl⟩) (by(rfl');exact⟨rfl,rfl⟩) ?_
  refine⟨_,rfl,?_⟩
  refine kM (λhu=>?_) (λhu=>?_)
  ·rfl'
   refine dW (λi L M'=>M'=M/\(1<=i->FacO g G)/\(2<=i->FacO t S)/\∃o4 o5:Option W,L=[some (.d (.int n)),some (.d (.int G)),some (.d (.int S)),some (.d (eO (.ad s c g t))),o4,o5]) ⟨rfl,(λh=>by lia),(λh=>by lia),none,none,rfl⟩ (λi L M _ _ t e=>by cases e) ?_ ?_
   ·rintro i d L M' hd ⟨rfl,f1,f2,o4,o5,rfl⟩
    match i,hd with
    |0,hd =>
     cases hd
     iterate 6 decreasing_trivial_pre_omega
     refine(pV (xs:=g) (m:=G) sg).mono ?_
     rintro _ M ⟨rfl,⟨hf,rfl⟩|⟨hf,rfl⟩⟩
     ·exact⟨rfl,λ_=>hf,(λh=>by lia),_,_,rfl⟩
     ·rfl'
      rw[aAR]
      exact⟨⟨true,rfl,⟨λ_ e=>hf e.2.2.1,λ_=>rfl⟩⟩,rfl⟩
    |1,hd =>
     cases hd
     iterate 6 decreasing_trivial_pre_omega
     refine(pV (xs:=t) (m:=S) st).mono ?_
     rintro _ M ⟨rfl,⟨hf,rfl⟩|⟨hf,rfl⟩⟩
     ·exact⟨rfl,λ_=>f1 (by lia),λ_=>hf,_,_,rfl⟩
     ·rfl'
      rw[aAR]
      exact⟨⟨true,rfl,⟨λ_ e=>hf e.2.2.2.1,λ_=>rfl⟩⟩,rfl⟩
    |i+2,hd=>simp at hd
   ·rintro L M' ⟨rfl,f1,f2,o4,o5,rfl⟩
    have f1:=f1 (by simp)
    have f2:=f2 (by simp)
    simp only[eO]
    unfold intsD
    rfl'
    refine aBu (neg:=false) (xs:=t.map D.int) rfl rfl (mS t) ?_
    rw[lI]
    rfl'
    rw[aAR]
    exact⟨⟨_,rfl,by simp[LetO,hs,hu,f1,f2]⟩,rfl⟩
  ·rfl'
   rw[aAR]
   exact⟨⟨true,rfl,⟨λ_ e=>hu e.2.1,λ_=>rfl⟩⟩,rfl⟩
noncomputable def First(n G S:Int)(ds:List Od):Option Nat->Prop
 |none=>∀d∈ds,LetO n G S d
 |some k=>(∀d∈ds.take k,LetO n G S d)/\∃d,ds[k]?=some d/\¬LetO n G S d
theorem First.uniq{G S:Int}{ds:List Od}:∀{a b:Option Nat},First n G S ds a->First n G S ds b->a=b
 |none,none,_,_=>rfl
 |none,some k,h,⟨_,d,e,z⟩=>absurd (h d (aBE e)) z
 |some k,none,⟨_,d,e,z⟩,h=>absurd (h d (aBE e)) z
 |some k,some l,⟨h1,d,e,z⟩,⟨h2,d',e',z'⟩=>by
  have low:∀{a b:Nat} {d:Od},ds[a]?=some d->¬LetO n G S d->(∀d∈ds.take b,LetO n G S d)->b<=a:=λ{a b d} e z h=>by
   refine aDS λhlt=>z (h d (aBE (i:=a) ?_))
   rw[aDW (by lia)];exact e
  have:=low e z h2
  have:=low e' z' h1
  rw[show k=l by lia]
noncomputable def encQ(n:Int)(G S:Nat)(ds:List Od):D:=.tup [.int n,.int G,.int S,.tup (ds.map eO)]
theorem kN{xs:List Od}{x:Od}(h:xs[i]?=some x):xs.take (i+1)=xs.take i++[x]:=by rw[aEL,h];rfl
variable{ds:List Od}
theorem uN(n1:n<=1000000)(hl:ds.length<=1000) :
  Okx (λx M'=>M'=M/\((n < 2/\x=.exn "NoRest" "" [])\/(2<=n/\∃k:Nat,First n G S ds (some k)/\x=.exn "NoDeed" "at" [.int k]))) (lD [.d (encQ n G S ds)] M) λw M'=>M'=M/\2<=n/\First n G S ds none/\w=.d (.bl true):=by
 unfold lD
 refine nP rfl ?_
 unfold b_1 encQ
 rfl'
 refine bK (λh=>?_) (λh=>?_)
 ·repeat(first|refine rJ ?_ |decreasing_trivial_pre_omega)
  exact⟨by simp,.inl ⟨h,rfl⟩⟩
 have n2:2<=n:=by lia
 rfl'
 refine dW (λi L M'=>M'=M/\(∀d∈ds.take i,LetO n G S d)/\∃o5 o6:Option W,L=[some (.d (.tup [.int n,.int G,.int S,.tup (ds.map eO)])),some (.d (.int n)),some (.d (.int G)),some (.d (.int S)),some (.d (.tup (ds.map eO))),o5,o6]) ⟨rfl,by simp,none,none,rfl⟩ (λi L M' _ _ t e=>by cases e) ?_ ?_
 ·rintro i d L M' hd ⟨rfl,all,o5,o6,rfl⟩
  obtain⟨x,hx,rfl⟩:=jL hd
  simp only[aBR,aBG]at hx
  obtain⟨x,hx,rfl⟩:=hx
  rfl'
  refine(nG n2 n1).mono ?_
  rintro _ M ⟨⟨b,rfl,hb⟩,rfl⟩
  cases b with
  |false =>
   rfl'
   refine⟨by simp,.inr ⟨n2,i,⟨all,x,hx,λz=>absurd (hb.mpr z) (by simp)⟩,?_⟩⟩
   simp
  |true =>
   rfl'
   refine⟨rfl,?_,_,_,rfl⟩
   rw[kN hx]
   intro d hd
   rcases aBC.mp hd with hd|hd
   ·exact all d hd
   ·rw[aAT.mp hd];exact hb.mp rfl
 ·rintro L M' ⟨rfl,all,o5,o6,rfl⟩
  have hz:(enumT 0 (ds.map eO)).length=ds.length:=by simp[enumT]
  simp only[hz,aAR]at all
  rfl'
  exact⟨by simp,n2,all,rfl⟩
theorem xQ{ds:List Od}(n1:n<=1000000)(hl:ds.length<=1000)(sm:∀d∈ds,SmO d) :
  Ok (hW [.d (encQ n G S ds)] M) λw M'=>M'=M/\((n < 2/\w=.d (.tup [.str "rest",.int 0]))\/(2<=n/\∃k:Nat,First n G S ds (some k)/\w=.d (.tup [.str "deed",.int k]))\/(2<=n/\First n G S ds none/\w=.d (.tup [.str "let by",.bl true]))):=by
 unfold hW
 refine dM rfl ?_
 unfold b_11 encQ
 rfl'
 refine bK (λh=>?_) (λh=>?_)
 ·rfl'
  exact⟨by simp,.inl ⟨h,rfl⟩⟩
 have n2:2<=n:=by lia
 rfl'
 refine dW (λi L M'=>M'=M/\(∀d∈ds.take i,LetO n G S d)/\∃o5 o6:Option W,L=[some (.d (.tup [.int n,.int G,.int S,.tup (ds.map eO)])),some (.d (.int n)),some (.d (.int G)),some (.d (.int S)),some (.d (.tup (ds.map eO))),o5,o6]) ⟨rfl,by simp,none,none,rfl⟩ (λi L M' _ _ t e=>by cases e) ?_ ?_
 ·rintro i d L M' hd ⟨rfl,all,o5,o6,rfl⟩
  obtain⟨x,hx,rfl⟩:=jL hd
  simp only[aBR,aBG]at hx
  obtain⟨x,hx,rfl⟩:=hx
  rfl'
  refine(lP n2 n1 (sm x (aBE hx))).mono ?_
  rintro _ M ⟨⟨b,rfl,hb⟩,rfl⟩
  cases b with
  |true =>
   rfl'
   refine⟨by simp,.inr (.inl ⟨n2,i,⟨all,x,hx,hb.mp rfl⟩,?_⟩)⟩
   simp
  |false =>
   rfl'
   refine⟨rfl,?_,_,_,rfl⟩
   rw[kN hx]
   intro d hd
   rcases aBC.mp hd with hd|hd
   ·exact all d hd
   ·rw[aAT.mp hd];exact aDS λz=>absurd (hb.mpr z) (by simp)
 ·rintro L M' ⟨rfl,all,o5,o6,rfl⟩
  have hz:(enumT 0 (ds.map eO)).length=ds.length:=by simp[enumT]
  simp only[hz,aAR]at all
  rfl'
  exact⟨by simp,.inr (.inr ⟨n2,all,rfl⟩)⟩
theorem vL{EX:D->Mm->Prop}(n1:n<=1000000)(hl:ds.length<=1000) :
  Okx EX (fL [.d (encQ n G S ds)] M) λw M'=>M'=M/\((n < 2/\w=.d (.tup [.str "rest",.int 0]))\/(2<=n/\∃k:Nat,First n G S ds (some k)/\w=.d (.tup [.str "deed",.int k]))\/(2<=n/\First n G S ds none/\w=.d (.tup [.str "let by",.bl true]))):=by
 unfold fL
 refine nP rfl ?_
 unfold b_12
 rfl'
 refine vY ?_
 rfl'
 refine(uN n1 hl).monoX ?_ ?_
 ·rintro _ M ⟨rfl,n2,hf,rfl⟩
  rfl'
  exact⟨by simp,.inr (.inr ⟨n2,hf,rfl⟩)⟩
 ·rintro x M ⟨rfl,⟨h,rfl⟩|⟨n2,k,hf,rfl⟩⟩
  ·refine⟨rfl,?_⟩
   rfl'
   dsimp only[unset]
   rfl'
   exact⟨by simp,.inl ⟨h,rfl⟩⟩
  ·refine⟨rfl,?_⟩
   rfl'
   dsimp only[unset]
   rfl'
   exact⟨by simp,.inr (.inl ⟨n2,k,hf,rfl⟩)⟩
theorem gY{EX:D->Mm->Prop}{ds:List Od}(n1:n<=1000000)(hl:ds.length<=1000)(sm:∀d∈ds,SmO d) :
  Okx EX (dA [.d (encQ n G S ds)] M) λw M'=>M'=M/\w=.d (.bl true):=by
 unfold dA
 refine nP rfl ?_
 unfold b_13
 rfl'
 refine(vL n1 hl).mono ?_
 rintro w M ⟨rfl,hw⟩
 rfl'
 refine(xQ n1 hl sm).mono ?_
 rintro v M ⟨rfl,hv⟩
 have e:w=v:=by
  rcases hw with⟨h1,rfl⟩|⟨h1,k,h2,rfl⟩|⟨h1,h2,rfl⟩ <;> rcases hv with⟨g1,rfl⟩|⟨g1,l,g2,rfl⟩|⟨g1,g2,rfl⟩
  all_goals first
   |rfl
   |(exfalso;lia)
   |(have:=First.uniq h2 g2;cases this;rfl)
   |(have:=First.uniq h2 g2;cases this)
 subst e
 rcases hw with⟨h1,rfl⟩|⟨h1,k,h2,rfl⟩|⟨h1,h2,rfl⟩
 all_goals
  rfl'
  refine aCo (a:=.tup _) (b:=.tup _) rfl rfl rfl (by simp[dep,deps]) ?_
  rfl'
  exact⟨by simp,congrArg (λb=>W.d (D.bl b)) (by first|decide|decide +kernel)⟩
theorem p6:(10:Int) ^ Int.toNat 6=1000000:=by decide
theorem fX(hb:Bx M b):Ok (fA [.ref b,.d (.int m)] M) λw M'=>(∃r:Int,w=.d (.int r))/\Nx b M M':=by
 have n:=Nx.refl hb
 unfold fA
 refine dM rfl ?_
 unfold b_e
 rfl'
 rw[p6]
 (refine(aH hb (by lia) (by lia)).mono ?_;rintro _ _ ⟨d1,rfl,l_d1,u_d1,n'⟩;replace n:=n.trans n';replace hb:=n'.bx hb;clear n')
 rfl'
 rw[p6]
 (refine(aH hb (by lia) (by lia)).mono ?_;rintro _ _ ⟨d2,rfl,l_d2,u_d2,n'⟩;replace n:=n.trans n';replace hb:=n'.bx hb;clear n')
 rfl'
 (refine(aH hb (by lia) (by lia)).mono ?_;rintro _ _ ⟨d3,rfl,l_d3,u_d3,n'⟩;replace n:=n.trans n';replace hb:=n'.bx hb;clear n')
 obtain⟨w,ew,hw⟩:∃w,atI [D.int (0 - 1),D.int m,D.int (m - 1),D.int 0,D.int (m+d1),D.int (0 - 1 - d2)] d3=some w/\∃r:Int,w=.int r:=by
  obtain rfl|rfl|rfl|rfl|rfl|rfl:d3=0\/d3=1\/d3=2\/d3=3\/d3=4\/d3=5:=by lia
  all_goals exact⟨_,rfl,_,rfl⟩
 obtain⟨r,rfl⟩:=hw
 refine cU ew ?_
 rfl'
 rw[n.take]
 exact⟨⟨r,rfl⟩,n⟩
theorem xU{ds:List D}(h:∀d∈ds,∃k:Int,d=.int k):∃ys:List Int,ds=ys.map D.int:=by
 induction ds with
 |nil=>exact⟨[],rfl⟩
 |cons d r ih =>
  obtain⟨ys,e⟩:=ih λd hd=>h d (by simp[hd])
  obtain⟨k,rfl⟩:=h d (by simp)
  exact⟨k::ys,by rw[e];rfl⟩
theorem dG{d:D}(h:d∈xs.map D.int):∃k:Int,d=.int k:=by
 obtain⟨k,_,rfl⟩:=List.mem_map.mp h
 exact⟨k,rfl⟩
theorem jJ{ds:List D}{z:Nat}(h:∀d∈ds,∃k:Int,d=.int k)(hz:ds.length<=z)(n:Nx b M M'):(∃ys:List Int,W.d (.tup ds)=.d (intsD ys)/\ys.length<=z)/\Nx b M M':=by
 obtain⟨ys,rfl⟩:=xU h
 exact⟨⟨ys,rfl,by simpa using hz⟩,n⟩
theorem iO{o:Int}(hb:Bx M b)(hl:xs.length<=15)(m0:0<=m)(m1:m<=9):Ok (cM [.ref b,.d (intsD xs),.d (.int m),.d (.int o)] M) λw M'=>(∃ys:List Int,w=.d (intsD ys)/\ys.length<=max 12 (xs.length+1))/\Nx b M M':=by
 have n:=Nx.refl hb
 unfold cM
 refine dM rfl ?_
 unfold b_f intsD
 rfl'
 (refine(aH hb (by lia) (by lia)).mono ?_;rintro _ _ ⟨d1,rfl,l_d1,u_d1,n'⟩;replace n:=n.trans n';replace hb:=n'.bx hb;clear n')
 rfl'
 simp only[aAL]
 (refine(aH hb (by lia) (by lia)).mono ?_;rintro _ _ ⟨d2,rfl,l_d2,u_d2,n'⟩;replace n:=n.trans n';replace hb:=n'.bx hb;clear n')
 obtain⟨a,rfl⟩:∃a:Nat,d2=a:=⟨d2.toNat,by lia⟩
 have ha:a<=(xs.map D.int).length:=by simp;lia
 rfl'
 refine bK (λh0=>?_) (λh0=>?_)
 ·rfl'
  refine(fX hb).mono ?_
  rintro _ _ ⟨⟨r,rfl⟩,n'⟩
  replace n:=n.trans n'
  rfl'
  rw[wL ha]
  refine bM (by simp;lia) ?_
  rfl'
  rw[aCv ha]
  refine bM (by simp;lia) ?_
  rfl'
  rw[n.take]
  refine jJ (λd hd=>?_) (by simp;lia) n
  simp only[aBC]at hd
  rcases hd with(hd|hd)|hd
  ·exact dG (aBF hd)
  ·exact⟨r,by simpa using hd⟩
  ·exact dG (aGE hd)
 rfl'
 refine bK (λh1=>?_) (λh1=>?_)
 ·rfl'
  rw[n.take]
  exact jJ (λd hd=>dG (aFU.mp hd)) (by simp;lia) n
 rfl'
 refine bK (λh2=>?_) (λh2=>?_)
 ·rfl'
  refine mZ (by simp;lia) ?_
  rfl'
  refine mZ (by refine⟨?_,?_,?_⟩ <;> simp) ?_
  have el:(List.replicate (Int.toNat 12) (xs.map D.int)).flatten=(List.replicate 12 xs).flatten.map D.int:=by
   rw[List.map_flatten,aGS];rfl
  generalize hx:(if m - 1 > 0 then m - 1 else 0)=x at *
  have er:(List.replicate (Int.toNat 12) [D.int x]).flatten=(List.replicate 12 x).map D.int:=by
   simp
  refine bM (by rw[el,er];simp;lia) ?_
  rw[el,er,<- List.map_append]
  rfl'
  refine gD rfl (by simp;lia) ?_
  rfl'
  refine gX rfl ?_
  rfl'
  (refine(aH hb (by lia) (by lia)).mono ?_;rintro _ _ ⟨d3,rfl,l_d3,u_d3,n'⟩;replace n:=n.trans n';replace hb:=n'.bx hb;clear n')
  rfl'
  rw[n.take]
  obtain⟨e,he⟩:∃e:Nat,5+d3=e:=⟨(5+d3).toNat,by lia⟩
  rw[he]
  refine jJ (λd hd=>dG (sH hd)) ?_ n
  have:=kF (xs:=(srt ((List.replicate 12 xs).flatten++List.replicate 12 x)).map D.int) (lo:=none) (hi:=some (e:Int))
  unfold cut
  rw[HT.sIx_nat]
  simp only[aDI,HT.sIx_none]
  lia
 rfl'
 refine bK (λh3=>?_) (λh3=>?_)
 ·rfl'
  refine bM (by simp;lia) ?_
  rfl'
  refine gD (ns:=xs++[o]) (by simp) (by simp;lia) ?_
  rfl'
  refine gX rfl ?_
  rfl'
  rw[n.take]
  exact jJ (λd hd=>dG hd) (by simp[eZ];lia) n
 rfl'
 refine bK (λh4=>?_) (λh4=>?_)
 ·rfl'
  have q1:0 < (if m > 1 then m else 1)/\(if m > 1 then m else 1)<=9:=by split <;> lia
  generalize(if m > 1 then m else 1)=q at q1
  (refine(aH hb (by lia) (by lia)).mono ?_;rintro _ _ ⟨d3,rfl,l_d3,u_d3,n'⟩;replace n:=n.trans n';replace hb:=n'.bx hb;clear n')
  rfl'
  refine bM (by simp;lia) ?_
  rfl'
  refine gD (ns:=xs++[d3]) (by simp) (by simp;lia) ?_
  rfl'
  refine gX rfl ?_
  rfl'
  rw[n.take]
  exact jJ (λd hd=>dG hd) (by simp[eZ];lia) n
 rfl'
 have hq:=λd (hd:d∈cut (xs.map D.int) (some ((a:Int)+1)) none)=>dG (sH hd)
 have lq:(cut (xs.map D.int) (some ((a:Int)+1)) none).length<=xs.length - a:=by
  unfold cut
  rw[show((a:Int)+1)=((a+1:Nat):Int) by lia,HT.sIx_nat,HT.sIx_none]
  simp only[aDI,aFW,aAL]
  lia
 generalize cut (xs.map D.int) (some ((a:Int)+1)) none=q at hq lq ⊢
 rw[wL ha]
 refine bM (by simp;lia) ?_
 rfl'
 rw[n.take]
 refine jJ (λd hd=>?_) (by simp;lia) n
 rcases aBC.mp hd with hd|hd
 ·exact dG (aBF hd)
 ·exact hq d hd
theorem small1{xs:List D}{x:D}(h:xs.length<=100):(cut xs lo hi).length+[x].length<=16777216:=by
 have:=kF (xs:=xs) (lo:=lo) (hi:=hi)
 simp only[aCR,aDO];lia
theorem small2{xs:List D}{lo' hi':Option Int}{x:D}(h:xs.length<=100):(cut xs lo hi++[x]).length+(cut xs lo' hi').length<=16777216:=by
 have:=kF (xs:=xs) (lo:=lo) (hi:=hi)
 have:=kF (xs:=xs) (lo:=lo') (hi:=hi')
 simp only[aCF,aCR,aDO];lia
noncomputable def SmK(k:Nat):Od->Prop
 |.sc _ _=>True
 |.ad _ _ g t=>g.length<=k/\t.length<=k
variable{k:Nat}
theorem lT(hb:Bx M b)(n2:2<=m)(n1:m<=1000000)(hG:G<=9)(hS:S<=9)(sm:SmK k d)(k0:12<=k)(k1:k<=15) :
  Ok (cW [.ref b,.d (.int m),.d (.int G),.d (.int S),.d (eO d)] M) λw M'=>(∃d':Od,w=.d (eO d')/\SmK (k+1) d')/\Nx b M M':=by
 have n:=Nx.refl hb
 unfold cW
 refine dM rfl ?_
 unfold b_10
 cases d with
 |sc s u =>
  simp only[eO]
  rfl'
  (refine(aH hb (by lia) (by lia)).mono ?_;rintro _ _ ⟨d1,rfl,l_d1,u_d1,n'⟩;replace n:=n.trans n';replace hb:=n'.bx hb;clear n')
  rfl'
  refine bK (λh0=>?_) (λh0=>?_)
  ·rfl'
   refine(fX hb).mono ?_
   rintro _ _ ⟨⟨r,rfl⟩,n'⟩
   replace n:=n.trans n'
   rfl'
   refine bM (by first|exact small1 (by simp)|exact small2 (by simp)) ?_
   rfl'
   refine bM (by first|exact small1 (by simp)|exact small2 (by simp)) ?_
   rfl'
   rw[n.take]
   exact⟨⟨.sc r u,rfl,trivial⟩,n⟩
  rfl'
  refine bK (λh1=>?_) (λh1=>?_)
  ·rfl'
   refine(fX hb).mono ?_
   rintro _ _ ⟨⟨r,rfl⟩,n'⟩
   replace n:=n.trans n'
   rfl'
   refine bM (by first|exact small1 (by simp)|exact small2 (by simp)) ?_
   rfl'
   refine bM (by first|exact small1 (by simp)|exact small2 (by simp)) ?_
   rfl'
   rw[n.take]
   exact⟨⟨.sc s r,rfl,trivial⟩,n⟩
  rfl'
  (refine(aH hb (by lia) (by lia)).mono ?_;rintro _ _ ⟨d2,rfl,l_d2,u_d2,n'⟩;replace n:=n.trans n';replace hb:=n'.bx hb;clear n')
  rfl'
  rw[n.take]
  exact⟨⟨.sc s d2,rfl,trivial⟩,n⟩
 |ad s c g t =>
  obtain⟨sg,st⟩:=sm
  simp only[eO]
  rfl'
  (refine(aH hb (by lia) (by lia)).mono ?_;rintro _ _ ⟨d1,rfl,l_d1,u_d1,n'⟩;replace n:=n.trans n';replace hb:=n'.bx hb;clear n')
  rfl'
  refine bK (λh0=>?_) (λh0=>?_)
  ·rfl'
   refine(fX hb).mono ?_
   rintro _ _ ⟨⟨r,rfl⟩,n'⟩
   replace n:=n.trans n'
   rfl'
   refine bM (by first|exact small1 (by simp)|exact small2 (by simp)) ?_
   rfl'
   refine bM (by first|exact small1 (by simp)|exact small2 (by simp)) ?_
   rfl'
   rw[n.take]
   exact⟨⟨.ad r c g t,rfl,by lia,by lia⟩,n⟩
  rfl'
  refine bK (λh1=>?_) (λh1=>?_)
  ·rfl'
   refine(fX hb).mono ?_
   rintro _ _ ⟨⟨r,rfl⟩,n'⟩
   replace n:=n.trans n'
   rfl'
   refine bM (by first|exact small1 (by simp)|exact small2 (by simp)) ?_
   rfl'
   refine bM (by first|exact small1 (by simp)|exact small2 (by simp)) ?_
   rfl'
   rw[n.take]
   exact⟨⟨.ad s r g t,rfl,by lia,by lia⟩,n⟩
  rfl'
  refine bK (λh2=>?_) (λh2=>?_)
  ·rfl'
   refine(iO hb (by lia) (by lia) (by lia)).mono ?_
   rintro _ _ ⟨⟨ys,rfl,hy⟩,n'⟩
   replace n:=n.trans n'
   rfl'
   refine bM (by first|exact small1 (by simp)|exact small2 (by simp)) ?_
   rfl'
   refine bM (by first|exact small1 (by simp)|exact small2 (by simp)) ?_
   rfl'
   rw[n.take]
   exact⟨⟨.ad s c ys t,rfl,by lia,by lia⟩,n⟩
  rfl'
  refine(iO hb (by lia) (by lia) (by lia)).mono ?_
  rintro _ _ ⟨⟨ys,rfl,hy⟩,n'⟩
  replace n:=n.trans n'
  rfl'
  refine bM (by first|exact small1 (by simp)|exact small2 (by simp)) ?_
  rfl'
  rw[n.take]
  exact⟨⟨.ad s c g ys,rfl,by lia,by lia⟩,n⟩
noncomputable def toO:Dd->Od
 |.add s c g t=>.ad s c (g.map λk:Nat=>(k:Int)) (t.map λk:Nat=>(k:Int))
 |.scale s u=>.sc s u
theorem aEe(d:Dd):encD d=eO (toO d):=by
 cases d with
 |add s c g t=>simp[encD,eO,toO,natsD,intsD,aHB]
 |scale s u=>rfl
theorem SmK.sm(h:SmK k d)(hk:k<=16):SmO d:=by
 cases d with
 |sc s u=>trivial
 |ad s c g t=>exact⟨aAX h.1 hk,aAX h.2 hk⟩
theorem SmK.up{l:Nat}(h:SmK k d)(hk:k<=l):SmK l d:=by
 cases d with
 |sc s u=>trivial
 |ad s c g t=>exact⟨aAX h.1 hk,aAX h.2 hk⟩
theorem aDz(o:Od):dep (eO o)<=10:=by
 cases o with
 |sc s u=>simp[eO,dep,deps]
 |ad s c g t=>have h1:=oR g;have h2:=oR t;simp only[eO,dep,deps];lia
theorem tU:∀os:List Od,deps (os.map eO)<=10
 |[]=>by simp[deps]
 |o::r=>by have:=aDz o;have:=tU r;simp only[aDG,deps];lia
theorem atN{xs:List D}{a:Nat}{d:D}(h:xs[a]?=some d):atI xs (a:Int)=some d:=by
 have:=(aAD.mp h).1
 simp only[atI,ixN]
 rw[aAH (by lia),aAH (by lia)]
 simpa using h
theorem zS(k:Nat)(xs:List α):(List.replicate k xs).flatten.length=k*xs.length:=by
 rw[List.length_flatten,aGS,List.sum_replicate_nat]
theorem qN{ds:List Dd}(ok:∀d∈ds,OkD n G S d)(k:Nat):∃es:List Od,(List.replicate k (ds.map encD)).flatten=es.map eO/\es.length=k*ds.length/\∀e∈es,SmK 12 e:=by
 refine⟨(List.replicate k (ds.map toO)).flatten,?_,by rw[zS,aAL],?_⟩
 ·rw[List.map_flatten,aGS,List.map_map]
  congr 2
  exact List.map_congr_left λd _=>aEe d
 ·intro e he
  obtain⟨l,hl,hel⟩:=List.mem_flatten.mp he
  rw[List.eq_of_mem_replicate hl]at hel
  obtain⟨d,hd,rfl⟩:=List.mem_map.mp hel
  have:=ok d hd
  cases d with
  |scale s u=>trivial
  |add s c g t=>obtain⟨_,_,_,_,_,_,h7,h8⟩:=this;exact⟨by rw[aAL];lia,by rw[aAL];lia⟩
theorem aCr(ns:List Int)(hn:ns.length<=63):Ok (kW [.d (.fz (ns.map D.int))] []) λw _=>w=.d (.bl true):=by
 unfold kW
 refine nP rfl ?_
 unfold b_14
 rfl'
 refine⟨by simp only[in62,aAW];repeat split <;> lia,?_⟩
 refine dW (λi L M=>∃(o1 o2 o3 o4 o5 o6 o7 o8 o9 o10 o11 o12:Option W),L=[some (.d (.fz (ns.map D.int))),o1,o2,o3,o4,o5,o6,o7,o8,o9,o10,o11,o12]) ⟨_,_,_,_,_,_,_,_,_,_,_,_,rfl⟩ (λi L M _ _ t e=>by cases e) ?_ ?_
 ·rintro i d _ M hd ⟨o1,o2,o3,o4,o5,o6,o7,o8,o9,o10,o11,o12,rfl⟩
  obtain⟨hi,rfl⟩:=eK hd
  rfl'
  refine(xJ (by lia) hn).mono ?_
  rintro _ _ ⟨x,y,z,rfl,rfl⟩
  have hb:Bx (M++[[.int x,.int y,.int z]]) M.length:=⟨x,y,z,by simp⟩
  rfl'
  refine(rF hb).mono ?_
  rintro _ _ ⟨m,G,S,rfl,m2,m1,hG,hS,hS2,n'⟩
  replace hb:=n'.bx hb
  clear n'
  rfl'
  refine(kD hb m2 m1 hG hS hS2 (by lia) (by lia)).mono ?_
  rintro _ M1 ⟨ds,rfl,ok,_,hl,n'⟩
  replace hb:=n'.bx hb
  clear n'
  refine tD (jN (wM (Ok.mono (Q:=λw M2=>Bx M2 M.length/\∃c:Bool,w=.d (.int (if c=true then 1 else 0))) ?_ ?_)))
  ·rfl'
   refine⟨λh=>?_,λh=>?_⟩
   ·rfl'
    refine(aH hb (by lia) (by lia)).mono ?_
    rintro _ _ ⟨d1,rfl,l1,u1,n'⟩
    replace hb:=n'.bx hb
    rfl'
    exact⟨hb,_,rfl⟩
   ·rfl'
    exact⟨hb,false,rfl⟩
  rintro _ M2 ⟨hb,c,rfl⟩
  unfold encP
  rfl'
  refine cU (at2I _ _ _) ?_
  have hl:ds.length<=12:=by lia
  obtain⟨k,hk,k40⟩:∃k:Nat,(if c=true then 40 else 1:Int)=k/\k<=40:=by cases c <;> exact⟨_,rfl,by decide⟩
  rw[hk]
  refine mZ (by rw[aAL,aCV];refine⟨aAX (Nat.mul_le_mul hl k40) (by decide),by lia,by lia⟩) ?_
  rw[aCV]
  obtain⟨es,he,hel,hsm⟩:=qN ok k
  have hel:es.length<=480:=by rw[hel];exact aAX (Nat.mul_le_mul k40 hl) (by decide)
  rw[he]
  rfl'
  refine bM (by first|exact small1 (by simp)) ?_
  rfl'
  refine zM rfl ?_
  rfl'
  have hM:(M2++[es.map eO])[M2.length]?=some (es.map eO):=by simp
  have hne:M.length≠M2.length:=by have:=hb.lt;lia
  replace hb:Bx (M2++[es.map eO]) M.length:=hb.app
  generalize M2++[es.map eO]=M3 at hM hb ⊢
  generalize M2.length=l at hM hne ⊢
  refine(aH hb (by lia) (by lia)).mono ?_
  rintro _ M4 ⟨d1,rfl,l1,u1,n'⟩
  replace hb:=n'.bx hb
  replace hM:=(n'.get hne).trans hM
  clear n'
  rfl'
  refine(aH hb (by lia) (by lia)).mono ?_
  rintro _ M5 ⟨d2,rfl,l2,u2,n'⟩
  replace hb:=n'.bx hb
  replace hM:=(n'.get hne).trans hM
  clear n'
  rfl'
  refine pF hM (by have:=tU es;lia) ?_
  rfl'
  have hr0:0<=(d2*if decide (es.map eO≠[])=true then 1 else 0)/\(d2*if decide (es.map eO≠[])=true then 1 else 0) < 4/\(es=[]->(d2*if decide (es.map eO≠[])=true then 1 else 0)=0):=by
   by_cases h:es=[]
   ·subst h;simp
   ·have:es.map eO≠[]:=by simpa using h
    simp only[decide_eq_true this,aCI,Int.mul_one]
    exact⟨l2,u2,λz=>absurd z h⟩
  generalize(d2*if decide (es.map eO≠[])=true then 1 else 0)=r at hr0
  obtain⟨r0,r1,re⟩:=hr0
  refine⟨by simp only[in62,aAW];lia,?_⟩
  refine dW (λj L M'=>Bx M' M.length/\∃(os:List Od) (a:Nat) (o11:Option W),M'[l]?=some (os.map eO)/\os.length=es.length/\(∀e∈os,SmK (12+j) e)/\(es≠[]->a < es.length)/\L=[some (.d (.fz (ns.map D.int))),some (.d (.int (0+i))),some (.ref M.length),some (.d (.int m)),some (.d (.int G)),some (.d (.int S)),some (.d (.tup [.int m,.int G,.int S,.tup (es.map eO)])),some (.d (.int (if c=true then 1 else 0))),some (.ref l),some (.d (.int d1)),some (.d (.int a)),o11,o12]) ⟨hb,es,0,o11,hM,rfl,(λe he=>(hsm e he).up (by lia)),(λh=>aFB.mpr h),rfl⟩ (λi L M _ _ t e=>by cases e) ?_ ?_
  ·rintro j dj _ M6 hdj ⟨hb,os,a,o11,hM,hlen,hsO,ha,rfl⟩
   obtain⟨hj,rfl⟩:=eK hdj
   have hne0:es≠[]:=λz=>by rw[re z]at hj;simp at hj
   have hpos:0 < es.length:=aFB.mpr hne0
   have ha:=ha hne0
   refine tD (jN (Ok.mono (Q:=λo M7=>∃a':Nat,a' < es.length/\Bx M7 M.length/\M7[l]?=some (os.map eO)/\o=.nx [some (.d (.fz (ns.map D.int))),some (.d (.int (0+i))),some (.ref M.length),some (.d (.int m)),some (.d (.int G)),some (.d (.int S)),some (.d (.tup [.int m,.int G,.int S,.tup (es.map eO)])),some (.d (.int (if c=true then 1 else 0))),some (.ref l),some (.d (.int d1)),some (.d (.int a')),some (.d (.int (0+j))),o12]) ?_ ?_))
   ·refine nV (Ok.mono (Q:=λq M7=>M7=M6) ?_ ?_)
    ·rfl'
     refine⟨λ_=>rfl,λ_=>?_⟩
     rfl'
     rfl
    rintro q _ rfl
    refine xA (λ_=>?_) (λ_=>?_)
    ·rfl'
     rw[aAL,hlen]
     refine(aH hb (by lia) (by lia)).mono ?_
     rintro _ M7 ⟨d3,rfl,l3,u3,n'⟩
     replace hb:=n'.bx hb
     replace hM:=(n'.get hne).trans hM
     clear n'
     rfl'
     rw[aAL,hlen]
     obtain⟨q,hq,q1⟩:∃q:Int,((es.length:Int) - 1)*(if c=true then 1 else 0)=q/\q < es.length:=⟨_,rfl,by cases c <;> simp <;> lia⟩
     rw[hq]
     obtain⟨t,ht⟩:∃t:Nat,(if q > d3 then q else d3)=t:=⟨(if q > d3 then q else d3).toNat,by split <;> lia⟩
     rw[ht]
     refine⟨t,?_,hb,hM,rfl⟩
     revert ht
     split <;> lia
    ·rfl'
     exact⟨a,ha,hb,hM,rfl⟩
   rintro _ M7 ⟨a',ha',hb,hM,rfl⟩
   obtain⟨o,ho⟩:∃o,os[a']?=some o:=⟨os[a'],by simp[hlen,ha']⟩
   rfl'
   refine nI hM (d:=eO o) ?_ ?_
   ·exact atN (by rw[aBR,ho];rfl)
   rfl'
   refine(lT (k:=12+j) hb m2 m1 (by lia) (by lia) (hsO o (aBE ho)) (by lia) (by lia)).mono ?_
   rintro _ M8 ⟨⟨o',rfl,so'⟩,n'⟩
   replace hb:=n'.bx hb
   replace hM:=(n'.get hne).trans hM
   clear n'
   rfl'
   refine⟨l,a',_,a',rfl,rfl,hM,by simp only[ixN,aAL,hlen];rw[aAH (by lia),aAH (by lia)];simp,?_⟩
   have hlt:=(aAD.mp hM).1
   refine⟨?_,os.set a' o',a',_,by rw[aBD hlt,List.map_set],by simp[hlen],?_,λ_=>ha',rfl⟩
   ·obtain⟨x,y,z,e⟩:=hb
    exact⟨x,y,z,by rw[aBH (Ne.symm hne)];exact e⟩
   ·intro e he
    rcases List.mem_or_eq_of_mem_set he with h|rfl
    ·exact(hsO e h).up (by lia)
    ·exact so'
  ·rintro _ M6 ⟨hb,os,a,o11,hM,hlen,hsO,ha,rfl⟩
   have hz:(rngD 0 r.toNat).length=r.toNat:=by simp[rngD]
   simp only[hz]at hsO
   refine jN (Ok.mono (Q:=λo M7=>∃m':Int,m'<=1000000/\Bx M7 M.length/\M7[l]?=some (os.map eO)/\o=.nx [some (.d (.fz (ns.map D.int))),some (.d (.int (0+i))),some (.ref M.length),some (.d (.int m')),some (.d (.int G)),some (.d (.int S)),some (.d (.tup [.int m,.int G,.int S,.tup (es.map eO)])),some (.d (.int (if c=true then 1 else 0))),some (.ref l),some (.d (.int d1)),some (.d (.int a)),o11,o12]) ?_ ?_)
   ·rfl'
    refine(aH hb (by lia) (by lia)).mono ?_
    rintro _ M7 ⟨d3,rfl,l3,u3,n'⟩
    replace hb:=n'.bx hb
    replace hM:=(n'.get hne).trans hM
    clear n'
    rfl'
    refine bK (λ_=>?_) (λ_=>?_)
    ·rfl'
     rw[p6]
     refine(aH hb (by lia) (by lia)).mono ?_
     rintro _ M8 ⟨d4,rfl,l4,u4,n'⟩
     replace hb:=n'.bx hb
     replace hM:=(n'.get hne).trans hM
     clear n'
     obtain⟨w,ew,hw⟩:=at2 l4 u4 (.int 4) (.int 1000000)
     obtain⟨v,rfl,v0,v1⟩:∃v:Int,w=.int v/\0 < v/\v<=1000000:=by
      rcases hw with rfl|rfl
      ·exact⟨_,rfl,by lia,by lia⟩
      ·exact⟨_,rfl,by lia,by lia⟩
     refine cU ew ?_
     rfl'
     refine(aH hb (by lia) (by lia)).mono ?_
     rintro _ M9 ⟨d5,rfl,l5,u5,n'⟩
     replace hb:=n'.bx hb
     replace hM:=(n'.get hne).trans hM
     clear n'
     rfl'
     exact⟨_,by lia,hb,hM,rfl⟩
    ·rfl'
     exact⟨_,m1,hb,hM,rfl⟩
   rintro _ M7 ⟨m',hm',hb,hM,rfl⟩
   have sO:∀d∈os,SmO d:=λd hd=>(hsO d hd).sm (by lia)
   have sE:∀d∈es,SmO d:=λd hd=>(hsm d hd).sm (by lia)
   rfl'
   refine gX (xs:=os.map eO) hM ?_
   rfl'
   refine(gY (n:=m') (G:=G) (S:=S) (ds:=os) hm' (by lia) sO).mono ?_
   rintro _ M8 ⟨rfl,rfl⟩
   rfl'
   refine(gY (n:=m) (G:=G) (S:=S) (ds:=es) m1 (by lia) sE).mono ?_
   rintro _ M8 ⟨rfl,rfl⟩
   rfl'
   refine(gY (n:=m') (G:=G) (S:=S) (ds:=os) hm' (by lia) sO).mono ?_
   rintro _ M8 ⟨rfl,rfl⟩
   rfl'
   exact⟨_,_,_,_,_,_,_,_,_,_,_,_,rfl⟩
 ·rintro _ _ ⟨o1,o2,o3,o4,o5,o6,o7,o8,o9,o10,o11,o12,rfl⟩
  rfl'
  exact rfl
theorem xP(ns:List Int)(hn:ns.length<=63):∃M',kW [.d (.fz (ns.map D.int))] []=.ok (.d (.bl true)) M':=by
 obtain⟨_,M,e,rfl⟩:=gZ.mp (aCr ns hn)
 exact⟨M,e⟩
theorem aCp{l:PySem.W.OpenLaw}{fa:Addr}{f1 f2 f3 f4 f5 f6 f7 f8 f9 f10 f11 f12 f13 f14 f15 f16 f17 f18 f19 f20 f21 eL eBadText jBadText eNoDeed jNoDeed eNoInverse jNoInverse eNoMove jNoMove eNoPaper jNoPaper eNoRest eNoRoot jNoRoot eNoRow eTooMany jTooMany:Addr}{od1 an1 od2 an2 od3 an3 od4 an4 od5 an5 od6 an6 od7 an7 od8 an8 od9 an9 od10 an10 od11 an11 od12 an12 od13 an13 od14 an14 od15 an15 od16 an16 od17 an17 od18 an18 od19 an19 od20 an20 od21 an21 odNoDeed anNoDeed:Option Addr}{sl1 sl2 sl3 sl4 sl5 sl6 sl7 sl8 sl9 sl10 sl11 sl12 sl13 sl14 sl15 sl16 sl17 sl18 sl19 sl20 sl21 slNoDeed:Array (Option Value)}{oc1 kV1 dc1 pm1 cd1 ct1 oc2 kV2 dc2 pm2 cd2 ct2 oc3 kV3 dc3 pm3 cd3 ct3 oc4 kV4 dc4 pm4 cd4 ct4 oc5 kV5 dc5 pm5 cd5 ct5 oc6 kV6 dc6 pm6 cd6 ct6 oc7 kV7 dc7 pm7 cd7 ct7 oc8 kV8 dc8 pm8 cd8 ct8 oc9 kV9 dc9 pm9 cd9 ct9 oc10 kV10 dc10 pm10 cd10 ct10 oc11 kV11 dc11 pm11 cd11 ct11 oc12 kV12 dc12 pm12 cd12 ct12 oc13 kV13 dc13 pm13 cd13 ct13 oc14 kV14 dc14 pm14 cd14 ct14 oc15 kV15 dc15 pm15 cd15 ct15 oc16 kV16 dc16 pm16 cd16 ct16 oc17 kV17 dc17 pm17 cd17 ct17 oc18 kV18 dc18 pm18 cd18 ct18 oc19 kV19 dc19 pm19 cd19 ct19 oc20 kV20 dc20 pm20 cd20 ct20 oc21 kV21 dc21 pm21 cd21 ct21 ocNoDeed kVNoDeed dcNoDeed pmNoDeed cdNoDeed ctNoDeed:Value}{tMOST_FACTORS:Tok}(X:K.In h)(G:h.Ns mainGlobals mg)(hfa:mg "law"=some (.ref fa))
  (a1:nsIn K mainGlobals "inverse"=some (some (.ref f1)))
  (l1:K.lookup f1=some ⟨oc1,od1,.func (fnOf "inverse" "inverse" (defArgs bX) (defBody bX) (defScope bX) .none kV1 dc1 pm1 an1 cd1 ct1),sl1⟩)
  (c1:codeIn K cd1 "inverse"=true)
  (k1:keepIn K (.ref f1)=true)
  (a2:nsIn K mainGlobals "look"=some (some (.ref f2)))
  (l2:K.lookup f2=some ⟨oc2,od2,.func (fnOf "look" "look" (defArgs eI) (defBody eI) (defScope eI) .none kV2 dc2 pm2 an2 cd2 ct2),sl2⟩)
  (c2:codeIn K cd2 "look"=true)
  (k2:keepIn K (.ref f2)=true)
  (a3:nsIn K mainGlobals "is_deed"=some (some (.ref f3)))
  (l3:K.lookup f3=some ⟨oc3,od3,.func (fnOf "is_deed" "is_deed" (defArgs bY) (defBody bY) (defScope bY) .none kV3 dc3 pm3 an3 cd3 ct3),sl3⟩)
  (c3:codeIn K cd3 "is_deed"=true)
  (k3:keepIn K (.ref f3)=true)
  (a4:nsIn K mainGlobals "are_factors"=some (some (.ref f4)))
  (l4:K.lookup f4=some ⟨oc4,od4,.func (fnOf "are_factors" "are_factors" (defArgs bE) (defBody bE) (defScope bE) .none kV4 dc4 pm4 an4 cd4 ct4),sl4⟩)
  (c4:codeIn K cd4 "are_factors"=true)
  (k4:keepIn K (.ref f4)=true)
  (a5:nsIn K mainGlobals "_law_box"=some (some (.ref f5)))
  (l5:K.lookup f5=some ⟨oc5,od5,.func (fnOf "_law_box" "_law_box" (defArgs dE) (defBody dE) (defScope dE) .none kV5 dc5 pm5 an5 cd5 ct5),sl5⟩)
  (c5:codeIn K cd5 "_law_box"=true)
  (k5:keepIn K (.ref f5)=true)
  (a6:nsIn K mainGlobals "_law_take"=some (some (.ref f6)))
  (l6:K.lookup f6=some ⟨oc6,od6,.func (fnOf "_law_take" "_law_take" (defArgs cG) (defBody cG) (defScope cG) .none kV6 dc6 pm6 an6 cd6 ct6),sl6⟩)
  (c6:codeIn K cd6 "_law_take"=true)
  (k6:keepIn K (.ref f6)=true)
  (a7:nsIn K mainGlobals "_law_n"=some (some (.ref f7)))
  (l7:K.lookup f7=some ⟨oc7,od7,.func (fnOf "_law_n" "_law_n" (defArgs gH) (defBody gH) (defScope gH) .none kV7 dc7 pm7 an7 cd7 ct7),sl7⟩)
  (c7:codeIn K cd7 "_law_n"=true)
  (k7:keepIn K (.ref f7)=true)
  (a8:nsIn K mainGlobals "_law_rest"=some (some (.ref f8)))
  (l8:K.lookup f8=some ⟨oc8,od8,.func (fnOf "_law_rest" "_law_rest" (defArgs cE) (defBody cE) (defScope cE) .none kV8 dc8 pm8 an8 cd8 ct8),sl8⟩)
  (c8:codeIn K cd8 "_law_rest"=true)
  (k8:keepIn K (.ref f8)=true)
  (a9:nsIn K mainGlobals "_law_shared"=some (some (.ref f9)))
  (l9:K.lookup f9=some ⟨oc9,od9,.func (fnOf "_law_shared" "_law_shared" (defArgs bP) (defBody bP) (defScope bP) .none kV9 dc9 pm9 an9 cd9 ct9),sl9⟩)
  (c9:codeIn K cd9 "_law_shared"=true)
  (k9:keepIn K (.ref f9)=true)
  (a10:nsIn K mainGlobals "_law_unit"=some (some (.ref f10)))
  (l10:K.lookup f10=some ⟨oc10,od10,.func (fnOf "_law_unit" "_law_unit" (defArgs cF) (defBody cF) (defScope cF) .none kV10 dc10 pm10 an10 cd10 ct10),sl10⟩)
  (c10:codeIn K cd10 "_law_unit"=true)
  (k10:keepIn K (.ref f10)=true)
  (a11:nsIn K mainGlobals "_law_deed"=some (some (.ref f11)))
  (l11:K.lookup f11=some ⟨oc11,od11,.func (fnOf "_law_deed" "_law_deed" (defArgs bU) (defBody bU) (defScope bU) .none kV11 dc11 pm11 an11 cd11 ct11),sl11⟩)
  (c11:codeIn K cd11 "_law_deed"=true)
  (k11:keepIn K (.ref f11)=true)
  (a12:nsIn K mainGlobals "_law_sizes"=some (some (.ref f12)))
  (l12:K.lookup f12=some ⟨oc12,od12,.func (fnOf "_law_sizes" "_law_sizes" (defArgs bZ) (defBody bZ) (defScope bZ) .none kV12 dc12 pm12 an12 cd12 ct12),sl12⟩)
  (c12:codeIn K cd12 "_law_sizes"=true)
  (k12:keepIn K (.ref f12)=true)
  (a13:nsIn K mainGlobals "_law_program_by"=some (some (.ref f13)))
  (l13:K.lookup f13=some ⟨oc13,od13,.func (fnOf "_law_program_by" "_law_program_by" (defArgs bD) (defBody bD) (defScope bD) .none kV13 dc13 pm13 an13 cd13 ct13),sl13⟩)
  (c13:codeIn K cd13 "_law_program_by"=true)
  (k13:keepIn K (.ref f13)=true)
  (a14:nsIn K mainGlobals "_law_bad_deed"=some (some (.ref f14)))
  (l14:K.lookup f14=some ⟨oc14,od14,.func (fnOf "_law_bad_deed" "_law_bad_deed" (defArgs bG) (defBody bG) (defScope bG) .none kV14 dc14 pm14 an14 cd14 ct14),sl14⟩)
  (c14:codeIn K cd14 "_law_bad_deed"=true)
  (k14:keepIn K (.ref f14)=true)
  (a15:nsIn K mainGlobals "_law_odd"=some (some (.ref f15)))
  (l15:K.lookup f15=some ⟨oc15,od15,.func (fnOf "_law_odd" "_law_odd" (defArgs dD) (defBody dD) (defScope dD) .none kV15 dc15 pm15 an15 cd15 ct15),sl15⟩)
  (c15:codeIn K cd15 "_law_odd"=true)
  (k15:keepIn K (.ref f15)=true)
  (a16:nsIn K mainGlobals "_law_odd_row"=some (some (.ref f16)))
  (l16:K.lookup f16=some ⟨oc16,od16,.func (fnOf "_law_odd_row" "_law_odd_row" (defArgs bL) (defBody bL) (defScope bL) .none kV16 dc16 pm16 an16 cd16 ct16),sl16⟩)
  (c16:codeIn K cd16 "_law_odd_row"=true)
  (k16:keepIn K (.ref f16)=true)
  (a17:nsIn K mainGlobals "_law_odd_deed"=some (some (.ref f17)))
  (l17:K.lookup f17=some ⟨oc17,od17,.func (fnOf "_law_odd_deed" "_law_odd_deed" (defArgs bI) (defBody bI) (defScope bI) .none kV17 dc17 pm17 an17 cd17 ct17),sl17⟩)
  (c17:codeIn K cd17 "_law_odd_deed"=true)
  (k17:keepIn K (.ref f17)=true)
  (a18:nsIn K mainGlobals "_law_due"=some (some (.ref f18)))
  (l18:K.lookup f18=some ⟨oc18,od18,.func (fnOf "_law_due" "_law_due" (defArgs dF) (defBody dF) (defScope dF) .none kV18 dc18 pm18 an18 cd18 ct18),sl18⟩)
  (c18:codeIn K cd18 "_law_due"=true)
  (k18:keepIn K (.ref f18)=true)
  (a19:nsIn K mainGlobals "_law_told"=some (some (.ref f19)))
  (l19:K.lookup f19=some ⟨oc19,od19,.func (fnOf "_law_told" "_law_told" (defArgs cH) (defBody cH) (defScope cH) .none kV19 dc19 pm19 an19 cd19 ct19),sl19⟩)
  (c19:codeIn K cd19 "_law_told"=true)
  (k19:keepIn K (.ref f19)=true)
  (a20:nsIn K mainGlobals "_law_right"=some (some (.ref f20)))
  (l20:K.lookup f20=some ⟨oc20,od20,.func (fnOf "_law_right" "_law_right" (defArgs bV) (defBody bV) (defScope bV) .none kV20 dc20 pm20 an20 cd20 ct20),sl20⟩)
  (c20:codeIn K cd20 "_law_right"=true)
  (k20:keepIn K (.ref f20)=true)
  (a21:nsIn K mainGlobals "law"=some (some (.ref f21)))
  (l21:K.lookup f21=some ⟨oc21,od21,.func (fnOf "law" "law" (defArgs gG) (defBody gG) (defScope gG) .none kV21 dc21 pm21 an21 cd21 ct21),sl21⟩)
  (c21:codeIn K cd21 "law"=true)
  (k21:keepIn K (.ref f21)=true)
  (aL:nsIn K mainGlobals "LentError"=some (some (.ref eL)))
  (oL:xcB K eL vb none=true)
  (rL:PySem.W.readsIn K eL (.type "type")=true)
  (gL:PySem.W.specialIn K (.ref eL) "__getattribute__"=some (some (.builtin "type.__getattribute__")))
  (iL:PySem.W.findCls K (.ref eL) (.type "type") "__init__"=some (.val (.builtin "ValueError.__init__")))
  (tL:PySem.W.tailIn K vb (.ref eL::vb)=true)
  (aBadText:nsIn K mainGlobals "BadText"=some (some (.ref eBadText)))
  (xBadText:xkB K "BadText" eBadText eL=true)
  (jBadText_:PySem.W.findIn K (.ref eBadText) "__init__"=some (some (.ref jBadText)))
  (bBadText:xcB K eBadText (.ref eL::vb) (some (.ref jBadText))=true)
  (aNoDeed:nsIn K mainGlobals "NoDeed"=some (some (.ref eNoDeed)))
  (xNoDeed:xkB K "NoDeed" eNoDeed eL=true)
  (jNoDeed_:PySem.W.findIn K (.ref eNoDeed) "__init__"=some (some (.ref jNoDeed)))
  (bNoDeed:xcB K eNoDeed (.ref eL::vb) (some (.ref jNoDeed))=true)
  (lNoDeed:K.lookup jNoDeed=some ⟨ocNoDeed,odNoDeed,.func (fnOf "__init__" "NoDeed.__init__" (defArgs cD) (defBody cD) (defScope cD) .none kVNoDeed dcNoDeed pmNoDeed anNoDeed cdNoDeed ctNoDeed),slNoDeed⟩)
  (cNoDeed:codeIn K cdNoDeed "NoDeed.__init__"=true)
  (kNoDeed:keepIn K (.ref jNoDeed)=true)
  (tNoDeed:PySem.W.typeIn K (.ref jNoDeed)=some (.type "function"))
  (nNoDeed:PySem.W.findIn K (.ref eNoDeed) "at"=some none)
  (sNoDeed:PySem.W.findIn K (.ref eNoDeed) "__setattr__"=some (some (.builtin "object.__setattr__")))
  (qNoDeed:keepIn K (.ref eNoDeed)=true)
  (aNoInverse:nsIn K mainGlobals "NoInverse"=some (some (.ref eNoInverse)))
  (xNoInverse:xkB K "NoInverse" eNoInverse eL=true)
  (jNoInverse_:PySem.W.findIn K (.ref eNoInverse) "__init__"=some (some (.ref jNoInverse)))
  (bNoInverse:xcB K eNoInverse (.ref eL::vb) (some (.ref jNoInverse))=true)
  (aNoMove:nsIn K mainGlobals "NoMove"=some (some (.ref eNoMove)))
  (xNoMove:xkB K "NoMove" eNoMove eL=true)
  (jNoMove_:PySem.W.findIn K (.ref eNoMove) "__init__"=some (some (.ref jNoMove)))
  (bNoMove:xcB K eNoMove (.ref eL::vb) (some (.ref jNoMove))=true)
  (aNoPaper:nsIn K mainGlobals "NoPaper"=some (some (.ref eNoPaper)))
  (xNoPaper:xkB K "NoPaper" eNoPaper eL=true)
  (jNoPaper_:PySem.W.findIn K (.ref eNoPaper) "__init__"=some (some (.ref jNoPaper)))
  (bNoPaper:xcB K eNoPaper (.ref eL::vb) (some (.ref jNoPaper))=true)
  (aNoRest:nsIn K mainGlobals "NoRest"=some (some (.ref eNoRest)))
  (xNoRest:xkB K "NoRest" eNoRest eL=true)
  (bNoRest:xcB K eNoRest (.ref eL::vb) none=true)
  (qNoRest:keepIn K (.ref eNoRest)=true)
  (aNoRoot:nsIn K mainGlobals "NoRoot"=some (some (.ref eNoRoot)))
  (xNoRoot:xkB K "NoRoot" eNoRoot eL=true)
  (jNoRoot_:PySem.W.findIn K (.ref eNoRoot) "__init__"=some (some (.ref jNoRoot)))
  (bNoRoot:xcB K eNoRoot (.ref eL::vb) (some (.ref jNoRoot))=true)
  (aNoRow:nsIn K mainGlobals "NoRow"=some (some (.ref eNoRow)))
  (xNoRow:xkB K "NoRow" eNoRow eL=true)
  (bNoRow:xcB K eNoRow (.ref eL::vb) none=true)
  (aTooMany:nsIn K mainGlobals "TooMany"=some (some (.ref eTooMany)))
  (xTooMany:xkB K "TooMany" eTooMany eL=true)
  (jTooMany_:PySem.W.findIn K (.ref eTooMany) "__init__"=some (some (.ref jTooMany)))
  (bTooMany:xcB K eTooMany (.ref eL::vb) (some (.ref jTooMany))=true)
  (vMOST_FACTORS:nsIn K mainGlobals "MOST_FACTORS"=some (some (.int 4 tMOST_FACTORS)))
  (z_ValueError:nsIn K mainGlobals "ValueError"=some none)
  (z_bool:nsIn K mainGlobals "bool"=some none)
  (z_enumerate:nsIn K mainGlobals "enumerate"=some none)
  (z_int:nsIn K mainGlobals "int"=some none)
  (z_isinstance:nsIn K mainGlobals "isinstance"=some none)
  (z_len:nsIn K mainGlobals "len"=some none)
  (z_list:nsIn K mainGlobals "list"=some none)
  (z_max:nsIn K mainGlobals "max"=some none)
  (z_min:nsIn K mainGlobals "min"=some none)
  (z_range:nsIn K mainGlobals "range"=some none)
  (z_reversed:nsIn K mainGlobals "reversed"=some none)
  (z_sorted:nsIn K mainGlobals "sorted"=some none)
  (z_tuple:nsIn K mainGlobals "tuple"=some none)
  : ∃fd:FuncData,(∀(s:Shared) (v:Value),BindsTo s fd ⟨[v],[]⟩ [("_law_script",v)])/\∀base:Heap,K.In base->base.Ns mainGlobals mg->FnOk l.prog w K mg base (CX1 l.prog w) 6 fa fd aHQ (spX K 1 kW):=by
 have e:=hfa.symm.trans (aAN X G a21)
 cases e
 have T:Tx K mg ⟨f1,(fnOf "inverse" "inverse" (defArgs bX) (defBody bX) (defScope bX) .none kV1 dc1 pm1 an1 cd1 ct1),f2,(fnOf "look" "look" (defArgs eI) (defBody eI) (defScope eI) .none kV2 dc2 pm2 an2 cd2 ct2),f3,(fnOf "is_deed" "is_deed" (defArgs bY) (defBody bY) (defScope bY) .none kV3 dc3 pm3 an3 cd3 ct3),f4,(fnOf "are_factors" "are_factors" (defArgs bE) (defBody bE) (defScope bE) .none kV4 dc4 pm4 an4 cd4 ct4),f5,(fnOf "_law_box" "_law_box" (defArgs dE) (defBody dE) (defScope dE) .none kV5 dc5 pm5 an5 cd5 ct5),f6,(fnOf "_law_take" "_law_take" (defArgs cG) (defBody cG) (defScope cG) .none kV6 dc6 pm6 an6 cd6 ct6),f7,(fnOf "_law_n" "_law_n" (defArgs gH) (defBody gH) (defScope gH) .none kV7 dc7 pm7 an7 cd7 ct7),f8,(fnOf "_law_rest" "_law_rest" (defArgs cE) (defBody cE) (defScope cE) .none kV8 dc8 pm8 an8 cd8 ct8),f9,(fnOf "_law_shared" "_law_shared" (defArgs bP) (defBody bP) (defScope bP) .none kV9 dc9 pm9 an9 cd9 ct9),f10,(fnOf "_law_unit" "_law_unit" (defArgs cF) (defBody cF) (defScope cF) .none kV10 dc10 pm10 an10 cd10 ct10),f11,(fnOf "_law_deed" "_law_deed" (defArgs bU) (defBody bU) (defScope bU) .none kV11 dc11 pm11 an11 cd11 ct11),f12,(fnOf "_law_sizes" "_law_sizes" (defArgs bZ) (defBody bZ) (defScope bZ) .none kV12 dc12 pm12 an12 cd12 ct12),f13,(fnOf "_law_program_by" "_law_program_by" (defArgs bD) (defBody bD) (defScope bD) .none kV13 dc13 pm13 an13 cd13 ct13),f14,(fnOf "_law_bad_deed" "_law_bad_deed" (defArgs bG) (defBody bG) (defScope bG) .none kV14 dc14 pm14 an14 cd14 ct14),f15,(fnOf "_law_odd" "_law_odd" (defArgs dD) (defBody dD) (defScope dD) .none kV15 dc15 pm15 an15 cd15 ct15),f16,(fnOf "_law_odd_row" "_law_odd_row" (defArgs bL) (defBody bL) (defScope bL) .none kV16 dc16 pm16 an16 cd16 ct16),f17,(fnOf "_law_odd_deed" "_law_odd_deed" (defArgs bI) (defBody bI) (defScope bI) .none kV17 dc17 pm17 an17 cd17 ct17),f18,(fnOf "_law_due" "_law_due" (defArgs dF) (defBody dF) (defScope dF) .none kV18 dc18 pm18 an18 cd18 ct18),f19,(fnOf "_law_told" "_law_told" (defArgs cH) (defBody cH) (defScope cH) .none kV19 dc19 pm19 an19 cd19 ct19),f20,(fnOf "_law_right" "_law_right" (defArgs bV) (defBody bV) (defScope bV) .none kV20 dc20 pm20 an20 cd20 ct20),fa,(fnOf "law" "law" (defArgs gG) (defBody gG) (defScope gG) .none kV21 dc21 pm21 an21 cd21 ct21),eL,eBadText,eNoDeed,jNoDeed,(fnOf "__init__" "NoDeed.__init__" (defArgs cD) (defBody cD) (defScope cD) .none kVNoDeed dcNoDeed pmNoDeed anNoDeed cdNoDeed ctNoDeed),eNoInverse,eNoMove,eNoPaper,eNoRest,eNoRoot,eNoRow,eTooMany,tMOST_FACTORS⟩ :=
  ⟨aS l1 c1 k1,
   (aS (st:=bX) l1 c1 k1).binds (ps:=["n","k"]) (λ_ _ _ _ _ _=>ex2 λ_ _=>rfl),
   k1,
   aAN X G a1,
   aS l2 c2 k2,
   (aS (st:=eI) l2 c2 k2).binds (ps:=["program"]) (λ_ _ _ _ _ _=>ex1 λ_=>rfl),
   k2,
   aAN X G a2,
   aS l3 c3 k3,
   (aS (st:=bY) l3 c3 k3).binds (ps:=aHD) (λ_ _ _ _ _ _=>ex4 λ_ _ _ _=>rfl),
   k3,
   aAN X G a3,
   aS l4 c4 k4,
   (aS (st:=bE) l4 c4 k4).binds (ps:=aHE) (λ_ _ _ _ _ _=>ex2 λ_ _=>rfl),
   k4,
   aAN X G a4,
   aS l5 c5 k5,
   (aS (st:=dE) l5 c5 k5).binds (ps:=aHF) (λ_ _ _ _ _ _=>ex2 λ_ _=>rfl),
   k5,
   aAN X G a5,
   aS l6 c6 k6,
   (aS (st:=cG) l6 c6 k6).binds (ps:=aHG) (λ_ _ _ _ _ _=>ex2 λ_ _=>rfl),
   k6,
   aAN X G a6,
   aS l7 c7 k7,
   (aS (st:=gH) l7 c7 k7).binds (ps:=aHH) (λ_ _ _ _ _ _=>ex1 λ_=>rfl),
   k7,
   aAN X G a7,
   aS l8 c8 k8,
   (aS (st:=cE) l8 c8 k8).binds (ps:=aHI) (λ_ _ _ _ _ _=>ex2 λ_ _=>rfl),
   k8,
   aAN X G a8,
   aS l9 c9 k9,
   (aS (st:=bP) l9 c9 k9).binds (ps:=aHJ) (λ_ _ _ _ _ _=>ex2 λ_ _=>rfl),
   k9,
   aAN X G a9,
   aS l10 c10 k10,
   (aS (st:=cF) l10 c10 k10).binds (ps:=aHI) (λ_ _ _ _ _ _=>ex2 λ_ _=>rfl),
   k10,
   aAN X G a10,
   aS l11 c11 k11,
   (aS (st:=bU) l11 c11 k11).binds (ps:=aHK) (λ_ _ _ _ _ _=>ex4 λ_ _ _ _=>rfl),
   k11,
   aAN X G a11,
   aS l12 c12 k12,
   (aS (st:=bZ) l12 c12 k12).binds (ps:=aHH) (λ_ _ _ _ _ _=>ex1 λ_=>rfl),
   k12,
   aAN X G a12,
   aS l13 c13 k13,
   (aS (st:=bD) l13 c13 k13).binds (ps:=aHL) (λ_ _ _ _ _ _=>ex5 λ_ _ _ _ _=>rfl),
   k13,
   aAN X G a13,
   aS l14 c14 k14,
   (aS (st:=bG) l14 c14 k14).binds (ps:=aHM) (λ_ _ _ _ _ _=>ex4 λ_ _ _ _=>rfl),
   k14,
   aAN X G a14,
   aS l15 c15 k15,
   (aS (st:=dD) l15 c15 k15).binds (ps:=aHG) (λ_ _ _ _ _ _=>ex2 λ_ _=>rfl),
   k15,
   aAN X G a15,
   aS l16 c16 k16,
   (aS (st:=bL) l16 c16 k16).binds (ps:=aHN) (λ_ _ _ _ _ _=>ex4 λ_ _ _ _=>rfl),
   k16,
   aAN X G a16,
   aS l17 c17 k17,
   (aS (st:=bI) l17 c17 k17).binds (ps:=aHO) (λ_ _ _ _ _ _=>ex5 λ_ _ _ _ _=>rfl),
   k17,
   aAN X G a17,
   aS l18 c18 k18,
   (aS (st:=dF) l18 c18 k18).binds (ps:=aHP) (λ_ _ _ _ _ _=>ex1 λ_=>rfl),
   k18,
   aAN X G a18,
   aS l19 c19 k19,
   (aS (st:=cH) l19 c19 k19).binds (ps:=aHP) (λ_ _ _ _ _ _=>ex1 λ_=>rfl),
   k19,
   aAN X G a19,
   aS l20 c20 k20,
   (aS (st:=bV) l20 c20 k20).binds (ps:=aHP) (λ_ _ _ _ _ _=>ex1 λ_=>rfl),
   k20,
   aAN X G a20,
   aS l21 c21 k21,
   (aS (st:=gG) l21 c21 k21).binds (ps:=aHQ) (λ_ _ _ _ _ _=>ex1 λ_=>rfl),
   k21,
   aAN X G a21,
   aL,
   aAN X G aL,
   ⟨rL,gL,iL,tL⟩,
   iW aBadText aL xBadText bBadText oL (by decide),
   aAN X G aBadText,
   iW aNoDeed aL xNoDeed bNoDeed oL (by decide),
   aAN X G aNoDeed,
   aS lNoDeed cNoDeed kNoDeed,
   (aS (st:=cD) lNoDeed cNoDeed kNoDeed).binds (ps:=aHR) (λ_ _ _ _ _ _=>ex2 λ_ _=>rfl),
   tNoDeed,
   nNoDeed,
   sNoDeed,
   bNoDeed,
   qNoDeed,
   iW aNoInverse aL xNoInverse bNoInverse oL (by decide),
   aAN X G aNoInverse,
   iW aNoMove aL xNoMove bNoMove oL (by decide),
   aAN X G aNoMove,
   iW aNoPaper aL xNoPaper bNoPaper oL (by decide),
   aAN X G aNoPaper,
   iW aNoRest aL xNoRest bNoRest oL (by decide),
   aAN X G aNoRest,
   bNoRest,
   qNoRest,
   iW aNoRoot aL xNoRoot bNoRoot oL (by decide),
   aAN X G aNoRoot,
   iW aNoRow aL xNoRow bNoRow oL (by decide),
   aAN X G aNoRow,
   iW aTooMany aL xTooMany bTooMany oL (by decide),
   aAN X G aTooMany,
   aAN X G vMOST_FACTORS,
   aBA X G z_ValueError,
   aBA X G z_bool,
   aBA X G z_enumerate,
   aBA X G z_int,
   aBA X G z_isinstance,
   aBA X G z_len,
   aBA X G z_list,
   aBA X G z_max,
   aBA X G z_min,
   aBA X G z_range,
   aBA X G z_reversed,
   aBA X G z_sorted,
   aBA X G z_tuple⟩
 exact⟨_,λs v=>.of_eq rfl,λbase _ _=>(aCc T).mono (by lia)⟩
theorem xK{l:PySem.W.OpenLaw}{q:Program}{d:DefRec}{K:Params->Frag}(hn:l.most=some 63)(hdf:d.params.defaults=[])
  (hY:∀(w:World) (h:Heap),YP w h->(K w.params).In h)
  (F:∀(w:World) (mg:Str->Option Value) (fa:Addr) (h:Heap),(K w.params).In h->h.Ns mainGlobals mg->mg d.name=some (.ref fa) ->
   ∃fd:FuncData,(∀(s:Shared) (u:Value),BindsTo s fd ⟨[u],[]⟩ [("_law_script",u)])/\∀base:Heap,(K w.params).In base->base.Ns mainGlobals mg->FnOk l.prog w (K w.params) mg base (CX1 l.prog w) 6 fa fd aHQ (spX (K w.params) 1 kW)) :
  PySem.W.WalkO q loose XP YP l.row.toRowW d [] (λf vs=>PySem.call f vs) :=
 L2.sW (n:=63) (k:=6) (x:="_law_script") (CX:=λw=>(CX1 l.prog w)) (sp:=λw=>(spX (K w.params) 1 kW)) hn (by decide) hdf ⟨rfl,by decide,by decide⟩ hY F (λ_ _ a ns hl hO hS=>aAz hO hS (xP ns hl)) λ_ _ _ _ _ ⟨_,_,_,_,_,_,_,_,_,_,_,z⟩=>z
end K11
open PySem PySem.W PyProof.Rows
end
namespace PySem.W.Fast
noncomputable def tw3011114018893760379:List Stmt:=[]
theorem te3011114018893760379:tw3011114018893760379=tw3011114018893760379:=rfl
noncomputable def tw16771310373451370367:List Stmt:=[]
theorem te16771310373451370367:tw16771310373451370367=tw16771310373451370367:=rfl
noncomputable def tw14568206920441516819:List Stmt:=[]
theorem te14568206920441516819:tw14568206920441516819=tw14568206920441516819:=rfl
noncomputable def tw13151502748557292138:Params->Obj:=fun _=>default
theorem te13151502748557292138:tw13151502748557292138=tw13151502748557292138:=rfl
noncomputable def tw17445573414810607332:Params->Obj:=fun _=>default
theorem te17445573414810607332:tw17445573414810607332=tw17445573414810607332:=rfl
noncomputable def tw789213589191354428:Params->Obj:=fun _=>default
theorem te789213589191354428:tw789213589191354428=tw789213589191354428:=rfl
noncomputable def tw5947613942616078237:Params->Obj:=fun _=>default
theorem te5947613942616078237:tw5947613942616078237=tw5947613942616078237:=rfl
noncomputable def tw14831218694699419670:Params->Obj:=fun _=>default
theorem te14831218694699419670:tw14831218694699419670=tw14831218694699419670:=rfl
noncomputable def tw4826312739963166953:Params->Obj:=fun _=>default
theorem te4826312739963166953:tw4826312739963166953=tw4826312739963166953:=rfl
noncomputable def tw18159956959286168328:Params->Obj:=fun _=>default
theorem te18159956959286168328:tw18159956959286168328=tw18159956959286168328:=rfl
noncomputable def tw15698472603854669127:Params->Obj:=fun _=>default
theorem te15698472603854669127:tw15698472603854669127=tw15698472603854669127:=rfl
noncomputable def tw14063355735743912787:Params->BT:=fun _=>BT.nil
theorem te14063355735743912787:tw14063355735743912787=tw14063355735743912787:=rfl
noncomputable def tw9991281787860636210:Params->Obj:=fun _=>default
theorem te9991281787860636210:tw9991281787860636210=tw9991281787860636210:=rfl
noncomputable def tw7364546323603573774:Params->Obj:=fun _=>default
theorem te7364546323603573774:tw7364546323603573774=tw7364546323603573774:=rfl
noncomputable def tw1924762343577967312:Params->Obj:=fun _=>default
theorem te1924762343577967312:tw1924762343577967312=tw1924762343577967312:=rfl
noncomputable def tw5478533536005471967:Params->Obj:=fun _=>default
theorem te5478533536005471967:tw5478533536005471967=tw5478533536005471967:=rfl
noncomputable def tw11770250180609360386:Params->Heap:=fun _=>⟨#[],default⟩
theorem te11770250180609360386:tw11770250180609360386=tw11770250180609360386:=rfl
noncomputable def tw18122720662404767786:Params->Heap:=fun _=>⟨#[],default⟩
theorem te18122720662404767786:tw18122720662404767786=tw18122720662404767786:=rfl
noncomputable def tw15214535785672397605:Params->BT:=fun _=>BT.nil
theorem te15214535785672397605:tw15214535785672397605=tw15214535785672397605:=rfl
noncomputable def tw9293266099602853641:Params->BT:=fun _=>BT.nil
theorem te9293266099602853641:tw9293266099602853641=tw9293266099602853641:=rfl
noncomputable def tw3303122944344809135:Program:=Challenge.pw_lentshelf_k11_programs_looked_at
theorem te3303122944344809135:tw3303122944344809135=tw3303122944344809135:=rfl
noncomputable def tw10744533323871960359:Program:=Challenge.pw_lentshelf_k11_programs_looked_at
theorem te10744533323871960359:Challenge.pw_lentshelf_k11_programs_looked_at=tw10744533323871960359:=rfl
noncomputable def tw17254838241376144885:Params->BT:=fun _=>BT.nil
theorem te17254838241376144885:tw17254838241376144885=tw17254838241376144885:=rfl
noncomputable def tw7138638016443950504:Params->BT:=fun _=>BT.nil
theorem te7138638016443950504:tw7138638016443950504=tw7138638016443950504:=rfl
noncomputable def tw13364140705702657806:Params->BT:=fun _=>BT.nil
theorem te13364140705702657806:tw13364140705702657806=tw13364140705702657806:=rfl
noncomputable def tw5726924206797987152:Params->BT:=fun _=>BT.nil
theorem te5726924206797987152:tw5726924206797987152=tw5726924206797987152:=rfl
noncomputable def tw14399485047650426970:List Stmt:=[]
theorem te14399485047650426970:tw14399485047650426970=tw14399485047650426970:=rfl
noncomputable def tw6658410642457230066:Params->BT:=fun _=>BT.nil
theorem te6658410642457230066:tw6658410642457230066=tw6658410642457230066:=rfl
noncomputable def tw10672851840323055874:List Stmt:=[]
theorem te10672851840323055874:tw10672851840323055874=tw10672851840323055874:=rfl
noncomputable def tw5404780738992338113:Params->BT:=fun _=>BT.nil
theorem te5404780738992338113:tw5404780738992338113=tw5404780738992338113:=rfl
noncomputable def tw18362548272851379655:Params->BT:=fun _=>BT.nil
theorem te18362548272851379655:tw18362548272851379655=tw18362548272851379655:=rfl
noncomputable def tw5068217148897188230:List Stmt:=[]
theorem te5068217148897188230:tw5068217148897188230=tw5068217148897188230:=rfl
noncomputable def tw7563675584795970783:Params->Obj:=fun _=>default
theorem te7563675584795970783:tw7563675584795970783=tw7563675584795970783:=rfl
noncomputable def tw12619692538058336478:Params->Obj:=fun _=>default
theorem te12619692538058336478:tw12619692538058336478=tw12619692538058336478:=rfl
noncomputable def tw15156921881903067099:Params->Obj:=fun _=>default
theorem te15156921881903067099:tw15156921881903067099=tw15156921881903067099:=rfl
noncomputable def tw10685795438956661433:Params->Obj:=fun _=>default
theorem te10685795438956661433:tw10685795438956661433=tw10685795438956661433:=rfl
noncomputable def tw5721572542259965305:Params->Obj:=fun _=>default
theorem te5721572542259965305:tw5721572542259965305=tw5721572542259965305:=rfl
noncomputable def tw13741964968299797021:Params->Obj:=fun _=>default
theorem te13741964968299797021:tw13741964968299797021=tw13741964968299797021:=rfl
noncomputable def tw13929436411979966864:Params->BT:=fun _=>BT.nil
theorem te13929436411979966864:tw13929436411979966864=tw13929436411979966864:=rfl
noncomputable def tw16181444389919866411:Params->Obj:=fun _=>default
theorem te16181444389919866411:tw16181444389919866411=tw16181444389919866411:=rfl
noncomputable def tw3571951681845648496:Params->Obj:=fun _=>default
theorem te3571951681845648496:tw3571951681845648496=tw3571951681845648496:=rfl
noncomputable def tw4461171869149618022:Params->Obj:=fun _=>default
theorem te4461171869149618022:tw4461171869149618022=tw4461171869149618022:=rfl
noncomputable def tw7944774895691495783:Params->Obj:=fun _=>default
theorem te7944774895691495783:tw7944774895691495783=tw7944774895691495783:=rfl
end PySem.W.Fast
set_option maxRecDepth 100000 in
set_option maxHeartbeats 0 in
theorem PySem.Challenge.cw_lentshelf_k11_programs_looked_at_holds : PySem.Challenge.rw_lentshelf_k11_programs_looked_at.Holds := by
 w_on; o_law; k_head; (case hw=>w_witness2)
 k_fill
 refine K11.xK (l:=PySem.Challenge.rw_lentshelf_k11_programs_looked_at) rfl rfl (fun w h Y=>PySem.W.kIn_of Y) ?F
 case F =>
  intro w mg fa h KX G hmg
  refine' K11.aCp KX G hmg ?a1 ?l1 ?c1 ?k1 ?a2 ?l2 ?c2 ?k2 ?a3 ?l3 ?c3 ?k3 ?a4 ?l4 ?c4 ?k4 ?a5 ?l5 ?c5 ?k5 ?a6 ?l6 ?c6 ?k6 ?a7 ?l7 ?c7 ?k7 ?a8 ?l8 ?c8 ?k8 ?a9 ?l9 ?c9 ?k9 ?a10 ?l10 ?c10 ?k10 ?a11 ?l11 ?c11 ?k11 ?a12 ?l12 ?c12 ?k12 ?a13 ?l13 ?c13 ?k13 ?a14 ?l14 ?c14 ?k14 ?a15 ?l15 ?c15 ?k15 ?a16 ?l16 ?c16 ?k16 ?a17 ?l17 ?c17 ?k17 ?a18 ?l18 ?c18 ?k18 ?a19 ?l19 ?c19 ?k19 ?a20 ?l20 ?c20 ?k20 ?a21 ?l21 ?c21 ?k21 ?aL ?oL ?rL ?gL ?iL ?tL ?aBadText ?xBadText ?jBadText_ ?bBadText ?aNoDeed ?xNoDeed ?jNoDeed_ ?bNoDeed ?lNoDeed ?cNoDeed ?kNoDeed ?tNoDeed ?nNoDeed ?sNoDeed ?qNoDeed ?aNoInverse ?xNoInverse ?jNoInverse_ ?bNoInverse ?aNoMove ?xNoMove ?jNoMove_ ?bNoMove ?aNoPaper ?xNoPaper ?jNoPaper_ ?bNoPaper ?aNoRest ?xNoRest ?bNoRest ?qNoRest ?aNoRoot ?xNoRoot ?jNoRoot_ ?bNoRoot ?aNoRow ?xNoRow ?bNoRow ?aTooMany ?xTooMany ?jTooMany_ ?bTooMany ?vMOST_FACTORS ?z_ValueError ?z_bool ?z_enumerate ?z_int ?z_isinstance ?z_len ?z_list ?z_max ?z_min ?z_range ?z_reversed ?z_sorted ?z_tuple
  (case a1=>k_is)
  (case l1=>k_is)
  (case c1=>k_is)
  (case k1=>k_is)
  (case a2=>k_is)
  (case l2=>k_is)
  (case c2=>k_is)
  (case k2=>k_is)
  (case a3=>k_is)
  (case l3=>k_is)
  (case c3=>k_is)
  (case k3=>k_is)
  (case a4=>k_is)
  (case l4=>k_is)
  (case c4=>k_is)
  (case k4=>k_is)
  (case a5=>k_is)
  (case l5=>k_is)
  (case c5=>k_is)
  (case k5=>k_is)
  (case a6=>k_is)
  (case l6=>k_is)
  (case c6=>k_is)
  (case k6=>k_is)
  (case a7=>k_is)
  (case l7=>k_is)
  (case c7=>k_is)
  (case k7=>k_is)
  (case a8=>k_is)
  (case l8=>k_is)
  (case c8=>k_is)
  (case k8=>k_is)
  (case a9=>k_is)
  (case l9=>k_is)
  (case c9=>k_is)
  (case k9=>k_is)
  (case a10=>k_is)
  (case l10=>k_is)
  (case c10=>k_is)
  (case k10=>k_is)
  (case a11=>k_is)
  (case l11=>k_is)
  (case c11=>k_is)
  (case k11=>k_is)
  (case a12=>k_is)
  (case l12=>k_is)
  (case c12=>k_is)
  (case k12=>k_is)
  (case a13=>k_is)
  (case l13=>k_is)
  (case c13=>k_is)
  (case k13=>k_is)
  (case a14=>k_is)
  (case l14=>k_is)
  (case c14=>k_is)
  (case k14=>k_is)
  (case a15=>k_is)
  (case l15=>k_is)
  (case c15=>k_is)
  (case k15=>k_is)
  (case a16=>k_is)
  (case l16=>k_is)
  (case c16=>k_is)
  (case k16=>k_is)
  (case a17=>k_is)
  (case l17=>k_is)
  (case c17=>k_is)
  (case k17=>k_is)
  (case a18=>k_is)
  (case l18=>k_is)
  (case c18=>k_is)
  (case k18=>k_is)
  (case a19=>k_is)
  (case l19=>k_is)
  (case c19=>k_is)
  (case k19=>k_is)
  (case a20=>k_is)
  (case l20=>k_is)
  (case c20=>k_is)
  (case k20=>k_is)
  (case a21=>k_is)
  (case l21=>k_is)
  (case c21=>k_is)
  (case k21=>k_is)
  (case aL=>k_is)
  (case oL=>kernel_rfl)
  (case rL=>k_is)
  (case gL=>k_is)
  (case iL=>k_is)
  (case tL=>kernel_rfl)
  (case aBadText=>k_is)
  (case xBadText=>kernel_rfl)
  (case jBadText_=>k_is)
  (case bBadText=>kernel_rfl)
  (case aNoDeed=>k_is)
  (case xNoDeed=>kernel_rfl)
  (case jNoDeed_=>k_is)
  (case bNoDeed=>kernel_rfl)
  (case lNoDeed=>k_is)
  (case cNoDeed=>k_is)
  (case kNoDeed=>k_is)
  (case tNoDeed=>k_is)
  (case nNoDeed=>k_is)
  (case sNoDeed=>k_is)
  (case qNoDeed=>k_is)
  (case aNoInverse=>k_is)
  (case xNoInverse=>kernel_rfl)
  (case jNoInverse_=>k_is)
  (case bNoInverse=>kernel_rfl)
  (case aNoMove=>k_is)
  (case xNoMove=>kernel_rfl)
  (case jNoMove_=>k_is)
  (case bNoMove=>kernel_rfl)
  (case aNoPaper=>k_is)
  (case xNoPaper=>kernel_rfl)
  (case jNoPaper_=>k_is)
  (case bNoPaper=>kernel_rfl)
  (case aNoRest=>k_is)
  (case xNoRest=>kernel_rfl)
  (case bNoRest=>kernel_rfl)
  (case qNoRest=>k_is)
  (case aNoRoot=>k_is)
  (case xNoRoot=>kernel_rfl)
  (case jNoRoot_=>k_is)
  (case bNoRoot=>kernel_rfl)
  (case aNoRow=>k_is)
  (case xNoRow=>kernel_rfl)
  (case bNoRow=>kernel_rfl)
  (case aTooMany=>k_is)
  (case xTooMany=>kernel_rfl)
  (case jTooMany_=>k_is)
  (case bTooMany=>kernel_rfl)
  (case vMOST_FACTORS=>k_is)
  (case z_ValueError=>k_is)
  (case z_bool=>k_is)
  (case z_enumerate=>k_is)
  (case z_int=>k_is)
  (case z_isinstance=>k_is)
  (case z_len=>k_is)
  (case z_list=>k_is)
  (case z_max=>k_is)
  (case z_min=>k_is)
  (case z_range=>k_is)
  (case z_reversed=>k_is)
  (case z_sorted=>k_is)
  (case z_tuple=>k_is)
